/- The reference's classes. -/
import Derived.Test.YtcgleficedipkaaGreatDoorYRefKRefP
namespace Go.Proofs.YtcgleficedipkaaGreatDoor
open _root_.Go.Proofs.Tryz
variable {s:ByteArray}{w w':World}(b:Nat)
section
open Go.RowKit
set_option maxHeartbeats 3200000
set_option maxRecDepth 100000
theorem ZF (n:Int)(h1:0<=n)(h2:n<=100000):IntKind.i64.wrap n=n:=by
 rw [IntKind.wrap_i64];omega
namespace Ref
theorem zhf {st:St}(h:¬rangeB s st=true):(st.e == 0)=false\/((st.e == 0)=true/\(zd s st.i == 45)=false)\/((st.e == 0)=true/\(zd s st.i == 45)=true/\¬st.i+1<s.size)\/((st.e == 0)=true/\(zd s st.i == 45)=true/\st.i+1<s.size/\zd s (st.i+1)=93):=by
 simp only [rangeB,kt,decide_eq_true_eq,beq_eq_false_iff_ne,beq_iff_eq] at *;by_cases h1:st.e=0
 ·by_cases h2:zd s st.i=45
  ·by_cases h3:st.i+1<s.size
   ·by_cases h4:zd s (st.i+1)=93
    ·exact .inr (.inr (.inr ⟨h1,h2,h3,h4⟩))
    ·exact absurd ⟨⟨⟨h1,h2⟩,h3⟩,h4⟩ h
   ·exact .inr (.inr (.inl ⟨h1,h2,h3⟩))
  ·exact .inr (.inl ⟨h1,h2⟩)
 ·exact .inl h1
theorem zgy {st:St}(hg:Good s st.i)(_he:st.e=0):Fine s (classSt s st):=by
 unfold classSt;split
 ·rename_i h;simp only [notB,decide_eq_true_eq] at h;have:=hg.ascii (by omega) (by omega);exact ⟨this.le,fun _=>this⟩
 ·exact ⟨hg.le,fun _=>hg⟩
end Ref
theorem Kw (s:ByteArray)(k:Nat)(hk:k<s.size)(i:Int)(hi:i=(k:Int))(w:World):(Instr.index 9 (.string s) (.int .i64 i)).run prog w = .ok (.int .u8 ((s[k]'hk).toNat:Int)) w:=by
 subst hi;rw [run_index_string w 9 s .i64 (k:Int) underlying9];simp [hk]
theorem Tryz.infoPart:(prog.info? 336).map (fun i=>(i.zero,i.size,i.bytes))=some (some (.agg #[.bool false,.slice none 0 0]),2,32):=by kernel_rfl
theorem zeN {b:Nat}{s:ByteArray}{st st2:St}{w W W':World}{ps:List Pt}{pa:Option Addr}{pn pc:Nat}(hlt:b<w.heap.size)(HH:Ref.classR s st=(ps,st2))(hP:PartsAt W (w.heap.size+2) (.slice pa pn pc) ps)(hL:Lex W b s st2)(hO:ze (zt b) w W)(h6:ze (zt w.heap.size) W W') :
  ∃ pv,Ending.returned (.agg #[.int .i64 1,.bool (Ref.notB s st),.slice pa pn pc,.int .i64 0,.int .i64 0,.int .i64 0]) = .returned (.agg #[.int .i64 1,.bool (Ref.notB s st),pv,.int .i64 0,.int .i64 0,.int .i64 0])/\PartsAt W' w.heap.size pv (Ref.classR s st).1/\Lex W' b s (Ref.classR s st).2/\ze (zt b) w W':=by
 rw [HH];exact ⟨_,rfl,(hP.keep h6 (by intro g hg _ hh;unfold zt at hh;omega)).base (by omega),hL.keep h6 (by unfold zt;omega),hO.young h6 (z8 _)⟩
theorem zhM (s:ByteArray)(st:St)(w:World)(h:Lex w b s st)(hs:s.size<=400)(hf:Ref.Good s st.i)(he:st.e=0) :
  Calls prog 179 #[.pointer (some ⟨b,0,none⟩)] w fun x w'=>
   ∃ pv,x = .returned (.agg #[.int .i64 1,.bool (Ref.notB s st),pv,.int .i64 0,.int .i64 0,.int .i64 0])/\PartsAt w' w.heap.size pv (Ref.classR s st).1/\Lex w' b s (Ref.classR s st).2/\ze (zt b) w w':=by
 have hL1:=zc h;have hlt:=h.lt;have hfi:=hf.le;have HE:=zc he;have HG:=zc hf;clear he hf;have hL2:=zc (((zb hL1).alloc (.cells #[.int .i64 0,.bool false,.slice none 0 0,.int .i64 0,.int .i64 0,.int .i64 0] 308)).alloc (.cells #[.int .i64 1,.bool false,.slice none 0 0,.int .i64 0,.int .i64 0,.int .i64 0] 308));have hR2:=zc ((Six.new (n:=w.heap.size) (a0:=.int .i64 0) (a1:=.bool false) (a2:=.slice none 0 0) (a3:=.int .i64 0) (a4:=.int .i64 0) (a5:=.int .i64 0) w 308 rfl).keep ((ze.refl (fun _=>False) _).alloc (.cells #[.int .i64 1,.bool false,.slice none 0 0,.int .i64 0,.int .i64 0,.int .i64 0] 308)) (fun f=>f));have hT2:=zc (Six.new (n:=w.heap.size+1) (a0:=.int .i64 1) (a1:=.bool false) (a2:=.slice none 0 0) (a3:=.int .i64 0) (a4:=.int .i64 0) (a5:=.int .i64 0) (w.alloc (.cells #[.int .i64 0,.bool false,.slice none 0 0,.int .i64 0,.int .i64 0,.int .i64 0] 308)) 308 (by simp));have hO2:=zc (((ze.refl (zt b) w).alloc (.cells #[.int .i64 0,.bool false,.slice none 0 0,.int .i64 0,.int .i64 0,.int .i64 0] 308)).alloc (.cells #[.int .i64 1,.bool false,.slice none 0 0,.int .i64 0,.int .i64 0,.int .i64 0] 308));clear h;go_enter func179,ntmps179;go_wp2_with fail;refine (now_abs b s st _ (zb hL2) hs).mono ?_;rintro e w1 ⟨rfl,hON⟩;have hLN:=(zb hL2).keep hON (fun f=>f);have hTN:=(zb hT2).keep hON (fun f=>f);have hRN:=(zb hR2).keep hON (fun f=>f);have hOO:=zc ((zb hO2).trans (hON.mono (fun _ _ f=>f.elim)));have hLL:=zc hLN;have hTT:=zc hTN;have hRR:=zc hRN;clear hON hL2 hT2 hR2 hO2;obtain ⟨l0,l1,l2,l3,k1,k2,k3⟩:=hLN;obtain ⟨t0,t1,t2,t3,t4,t5,v0,v1,v2,v3,v4,v5⟩:=hTN;obtain ⟨r0,r1,r2,r3,r4,r5,u0,u1,u2,u3,u4,u5⟩:=hRN;go_upto_if 12 with fail;go_cut [] (fun wx=>Lex wx b s (Ref.classSt s st)/\Six wx (w.heap.size+1) (.int .i64 1) (.bool (Ref.notB s st)) (.slice none 0 0) (.int .i64 0) (.int .i64 0) (.int .i64 0)/\Six wx w.heap.size (.int .i64 0) (.bool false) (.slice none 0 0) (.int .i64 0) (.int .i64 0) (.int .i64 0)/\ze (zt b) w wx)
 case first=>
  by_cases hb:zd s st.i=94
  ·have hn:Ref.notB s st=true:=(by simp [Ref.notB,hb]);have hc:Ref.classSt s st=st.go 1:=(by unfold Ref.classSt;rw [if_pos hn]);have hbb:(zd s st.i == 94)=true:=(by simp [hb]);have Hn:=zc hn;have Hc:=zc hc;clear hn hc hb;go_wp2_with fail;go_meet
   case rel=>
    rw [zb Hn,zb Hc];exact ⟨((zb hLL).keep ((ze.refl (zt (w.heap.size+1)) w1).mine 1 (.bool true)) (by unfold zt;omega)).setI _ 1 (by omega),((zb hTT).set1 _).other ⟨b,1,none⟩ (by simp;omega) _,
     ((zb hRR).other ⟨w.heap.size+1,1,none⟩ (by simp) _).other ⟨b,1,none⟩ (by simp;omega) _,((zb hOO).young ((ze.refl (zt (w.heap.size+1)) w1).mine 1 (.bool true)) (by omega)).mine 1 _⟩
  ·have hn:Ref.notB s st=false:=(by simp [Ref.notB,hb]);have hc:Ref.classSt s st=st:=(by unfold Ref.classSt;rw [if_neg (by simp [hn])]);have hbb:(zd s st.i == 94)=false:=(by simp [hb]);have Hn:=zc hn;have Hc:=zc hc;clear hn hc hb;go_wp2_with fail;go_meet
   case rel=>
    rw [zb Hn,zb Hc];exact ⟨zb hLL,zb hTT,zb hRR,zb hOO⟩
 case rest=>
  obtain ⟨hLc,hTc,hRc,hOc⟩:=hcut;clear l0 l1 l2 l3 k1 k2 k3 t0 t1 t2 t3 t4 t5 v0 v1 v2 v3 v4 v5 r0 r1 r2 r3 r4 r5 u0 u1 u2 u3 u4 u5 hLL hTT hRR hOO hL1;have hF0:=Ref.zgy (zb HG) (zb HE);have hfi0:=hF0.1;have Hc0:=zc (And.intro hLc (And.intro hTc (And.intro hRc (And.intro hOc hF0))));clear hLc hTc hRc hOc hF0;go_wp2_with fail;go_loopw [6] (fun d wr=>∃ (ps:List Pt) (pa:Option Addr) (pn pc:Nat) (st':St) (f:Nat),Lex wr b s st'/\Six wr (w.heap.size+1) (.int .i64 1) (.bool (Ref.notB s st)) (.slice pa pn pc) (.int .i64 0) (.int .i64 0) (.int .i64 0)/\Six wr w.heap.size (.int .i64 0) (.bool false) (.slice none 0 0) (.int .i64 0) (.int .i64 0) (.int .i64 0)/\
    PartsAt wr (w.heap.size+2) (.slice pa pn pc) ps/\ze (zt b) w wr/\Ref.Fine s st'/\w.heap.size+2<=wr.heap.size/\ps.length<=st'.i/\Hid (s.size<st'.i+f)/\Hid (Ref.classR s st=Ref.classF s f ps st'))
   (fun _ wr=>s.size-lexI wr b)
  case atStart=>
   obtain ⟨h1,h2,h3,h4,h5⟩:=zb Hc0;exact ⟨[],none,0,0,Ref.classSt s st,s.size+1-(Ref.classSt s st).i,h1,h2,h3,PartsAt.nil _ _,h4,h5,h2.lt,by simp,(by show _<_;omega),rfl⟩
  case round=>
   obtain ⟨ps,pa,pn,pc,st',f,hL,hT,hR,hP,hO,hFi,hsz,hpl,hf,HF⟩:=hrel;obtain ⟨f,rfl⟩:∃ f',f=f'+1:=⟨f-1,by have:=zb hf;have:=hFi.1;omega⟩
   have hLL:=zc hL;have hTT:=zc hT;have hRR:=zc hR;have hPP:=zc hP;have hOO:=zc hO;have hFF:=zc hFi;have hii:st'.i<=s.size:=hFi.1;have hLW:=zc hL;have hPW:=zc hP;clear Hc0 hP hO hFi hfi0;obtain ⟨l0,l1,l2,l3,k1,k2,k3⟩:=hL;obtain ⟨t0,t1,t2,t3,t4,t5,v0,v1,v2,v3,v4,v5⟩:=hT;obtain ⟨r0,r1,r2,r3,r4,r5,u0,u1,u2,u3,u4,u5⟩:=hR;by_cases e1:st'.e=0
   ·have eb:(st'.e == 0)=true:=(by simp [e1]);by_cases b1:zd s st'.i=93
    ·have bb:(zd s st'.i != 93)=false:=(by simp [b1]);have HH:Hid (Ref.classR s st=(ps,st'.go 1)):=(by rw [zb HF];exact Ref.zez (by intro hh;exact hh.2 b1));clear e1 b1;go_wp2_with fail;refine (now_lex b s st' _ (zb hLL) hs).mono ?_;rintro e w2 ⟨rfl,nq,rfl⟩;go_wp2_with fail;refine bodyPost_ret (v:=.agg #[.int .i64 1,.bool (Ref.notB s st),.slice pa pn pc,.int .i64 0,.int .i64 0,.int .i64 0]) (by simp [results,results179,go_sem,r0,r1,r2,r3,r4,r5]) rfl ?_;exact zeN hlt (zb HH) ((zb hPP).keep (((ze.refl (zt b) wr).drewN nq).mine 1 _) (by intro g hg _ hh;unfold zt at hh;omega)) (((zb hLL).drewN nq).setI _ 1 (by omega)) (((zb hOO).drewN nq).mine 1 _) (ze.six w.heap.size _ _ _ _ _ _ _)
    ·have bb:(zd s st'.i != 93)=true:=(by simp [b1]);by_cases b2:zd s st'.i<0
     ·have HH:Hid (Ref.classR s st=(ps,st'.fail 3 st'.i)):=(by rw [zb HF];exact Ref.zeZ ⟨e1,b1⟩ b2);clear e1 b1;go_wp2_with fail;refine (now_lex b s st' _ (zb hLL) hs).mono ?_;rintro e w2 ⟨rfl,nq,rfl⟩;go_wp2_with fail;refine (now_lex b s st' _ ((zb hLL).drewN _) hs).mono ?_;rintro e w2 ⟨rfl,nq1,rfl⟩;go_wp2_with fail;refine (fail_lex b s st' 3 _ _ ((zb hLL).drewN _)).mono ?_;rintro e w5 ⟨rfl,hL9,hO9⟩;have hT9:=((zb hTT).drewN _).keep hO9 (by unfold zt;omega);have hR9:=((zb hRR).drewN _).keep hO9 (by unfold zt;omega);have HL9:=zc hL9;have HO9:=zc (((zb hOO).drewN _).trans hO9);have HP9:=zc ((zb hPP).keep (((ze.refl (zt b) wr).drewN _).trans hO9) (by intro g hg _ hh;unfold zt at hh;omega));clear hL9 hO9 l0 l1 l2 l3 k1 k2 k3 t0 t1 t2 t3 t4 t5 v0 v1 v2 v3 v4 v5 r0 r1 r2 r3 r4 r5 u0 u1 u2 u3 u4 u5;obtain ⟨t0,t1,t2,t3,t4,t5,v0,v1,v2,v3,v4,v5⟩:=hT9;obtain ⟨r0,r1,r2,r3,r4,r5,u0,u1,u2,u3,u4,u5⟩:=hR9;go_wp2_with fail;refine bodyPost_ret (v:=.agg #[.int .i64 1,.bool (Ref.notB s st),.slice pa pn pc,.int .i64 0,.int .i64 0,.int .i64 0]) (by simp [results,results179,go_sem,r0,r1,r2,r3,r4,r5]) rfl ?_;exact zeN hlt (zb HH) (zb HP9) (zb HL9) (zb HO9) (ze.six w.heap.size _ _ _ _ _ _ _)
     ·have hiz:st'.i<s.size:=(by rw [<-yL];omega);have hgz:Ref.Good s st'.i:=(zb hFF).2 e1;have hmf:=Ref.zeD hgz hiz;have hmo:=Ref.zfF hgz hiz;have C1:=zc (And.intro e1 b1);clear e1 b1;go_wp2_with fail;refine (now_lex b s st' _ (zb hLL) hs).mono ?_;rintro e w2 ⟨rfl,nq,rfl⟩;go_wp2_with fail;refine (now_lex b s st' _ ((zb hLL).drewN _) hs).mono ?_;rintro e w2 ⟨rfl,nq1,rfl⟩;go_wp2_with fail;refine (zfV b s st' _ ((zb hLL).drewN _) hs hiz hgz).mono ?_;rintro e w2 ⟨sv,rfl,hsp,hL5,hO5⟩;have hT5:=((zb hTT).drewN _).keep hO5 (by unfold zt;omega);have hR5:=((zb hRR).drewN _).keep hO5 (by unfold zt;omega);have hP5:=(zb hPP).keep (((ze.refl (zt b) wr).drewN _).trans hO5) (by intro g hg _ hh;unfold zt at hh;omega);have HO5:=zc (((zb hOO).drewN _).trans hO5);have hsz5:wr.heap.size<=w2.heap.size:=hO5.size;have HOW:=zc ((((ze.refl (zt b) wr).drewN _).trans hO5).alloc (.cells #[.bool (Ref.za s st').1.neg,sv] 336));have hgW:=zc (fun g (hg:sv.ownBlock=some g)=>(And.intro (show wr.heap.size<=g from (zh hsp g hg).1) (zh hsp g hg).2));obtain ⟨sa,sn,sc,rfl⟩:=zy hsp;have Hsp:=zc (hsp.base (base':=w.heap.size+2) (by show _<=wr.heap.size;omega));generalize hm:Ref.za s st'=m at *;obtain ⟨p1,one,st1⟩:=m;simp only [] at *;have Hm:=zc hm;have Hmf:=zc hmf;have Hmo:=zc hmo;have hi1:st1.i<=s.size:=hmf.1.1;have hi2:st'.i<st1.i:=hmf.2;clear hO5 hsp hm hmf hmo hgz l0 l1 l2 l3 k1 k2 k3 t0 t1 t2 t3 t4 t5 v0 v1 v2 v3 v4 v5 r0 r1 r2 r3 r4 r5 u0 u1 u2 u3 u4 u5;have hL6:=hL5.alloc (.cells #[.bool p1.neg,.slice sa sn sc] 336);have hT6:=hT5.keep ((ze.refl (fun _=>False) w2).alloc (.cells #[.bool p1.neg,.slice sa sn sc] 336)) (fun f=>f);have hR6:=hR5.keep ((ze.refl (fun _=>False) w2).alloc (.cells #[.bool p1.neg,.slice sa sn sc] 336)) (fun f=>f);have hP6:=hP5.keep ((ze.refl (fun _=>False) w2).alloc (.cells #[.bool p1.neg,.slice sa sn sc] 336)) (fun _ _ _ f=>f);have hS6:=(zb Hsp).keep ((ze.refl (fun _=>False) w2).alloc (.cells #[.bool p1.neg,.slice sa sn sc] 336)) (fun _ _ _ f=>f);have hO6:=(zb HO5).alloc (.cells #[.bool p1.neg,.slice sa sn sc] 336);have hB6:=res2 (P:=fun _=>False) (n:=w2.heap.size) (ze.refl _ (w2.alloc (.cells #[.bool p1.neg,.slice sa sn sc] 336))) rfl (fun f=>f);have hlt2:b<w2.heap.size:=hL5.lt;have hbd:decide (zd s st'.i<0)=false:=(by simp;omega);have H6:=zc (And.intro hL6 (And.intro hT6 (And.intro hR6 (And.intro hP6 (And.intro hS6 (And.intro hO6 hB6))))));obtain ⟨l0,l1,l2,l3,k1,k2,k3⟩:=hL5;clear hL6 hT6 hR6 hP6 hS6 hO6 hB6 hT5 hR5 hP5 Hsp HO5;go_wp2_with fail;generalize hw3:w2.alloc (.cells #[.bool p1.neg,.slice sa sn sc] 336)=w3 at *;clear l0 l1 l2 l3 k1 k2 k3;obtain ⟨hL6,hT6,hR6,hP6,hS6,hO6,q0,q1,q2,q3,hq⟩:=zb H6;have hw2:w2.heap.size<w3.heap.size:=hq;clear hw3 H6 hq;have hLL:=zc hL6;have hTT:=zc hT6;have hRR:=zc hR6;have hPP:=zc hP6;have hSS:=zc hS6;have hOO:=zc hO6;clear hP6 hS6 hO6;obtain ⟨l0,l1,l2,l3,k1,k2,k3⟩:=hL6;obtain ⟨t0,t1,t2,t3,t4,t5,v0,v1,v2,v3,v4,v5⟩:=hT6;obtain ⟨r0,r1,r2,r3,r4,r5,u0,u1,u2,u3,u4,u5⟩:=hR6;have hwr:IntKind.i64.wrap ((st1.i:Int)+1)=(st1.i:Int)+1:=ZF _ (by omega) (by omega);by_cases hrg:Ref.rangeB s st1=true
      ·have hrc:(st1.e == 0)=true/\(zd s st1.i == 45)=true/\st1.i+1<s.size/\zd s (st1.i+1)≠93:=(by simpa [Ref.rangeB,and_assoc] using hrg);obtain ⟨y1,y2,y3,y4⟩:=hrc;have y4':(((s[st1.i+1]'y3).toNat:Int) != 93)=true:=(by rw [<-xZ s (st1.i+1) y3];simp [y4]);have y3':decide ((st1.i:Int)+1<(s.size:Int))=true:=(by simp;omega);have y3'':(st1.i:Int)+1<(s.size:Int):=(by omega);have hix:∀ wx,(Instr.index 9 (.string s) (.int .i64 ((st1.i:Int)+1))).run prog wx = .ok (.int .u8 ((s[st1.i+1]'y3).toNat:Int)) wx:=fun wx=>Kw s (st1.i+1) y3 _ (by omega) wx;have hg1:Ref.Good s st1.i:=(zb Hmf).1.2 (by simpa using y1);have hg2:Ref.Good s (st1.go 1).i:=hg1.ascii (by have:zd s st1.i=45:=(by simpa using y2);omega) (by have:zd s st1.i=45:=(by simpa using y2);omega);have hi3:(st1.go 1).i<s.size:=y3;have Hg2:=zc hg2;have Hrg:=zc hrg;clear y4 hg1 hg2 hrg;go_quiet ((go_at_call 144;exact (now_lex b s st1 _ (by first |exact zb hLL |exact (zb hLL).drewN _) hs).mono (by rintro e w'' ⟨rfl,n,rfl⟩;exact ⟨rfl,_,by first |rfl |(rw [Xf])⟩)));rename_i nq;go_wp2_with fail;have hXO:=((ze.refl (zt b) w3).drewN nq).mine 1 (.int .i64 ((st1.i:Int)+1));have hXL:=((zb hLL).drewN nq).setI ((st1.i:Int)+1) 1 (by omega);refine (zfV b s (st1.go 1) _ hXL hs hi3 (zb Hg2)).mono ?_;rintro e w5 ⟨sv2,rfl,hsp2,hL7,hO7⟩;have hA7:=hXO.trans hO7;have hT7:=(zb hTT).keep hA7 (by unfold zt;omega);have hR7:=(zb hRR).keep hA7 (by unfold zt;omega);have hP7:=(zb hPP).keep hA7 (by intro g hg _ hh;unfold zt at hh;omega);have hS7:=(zb hSS).keep hA7 (by intro g hg _ hh;unfold zt at hh;omega);have hB7:=And.intro (zg hA7 ⟨w2.heap.size,0,none⟩ _ q0 (by unfold zt;simp;omega)) (And.intro (zg hA7 ⟨w2.heap.size,1,none⟩ _ q1 (by unfold zt;simp;omega)) (And.intro (zP hA7 ⟨w2.heap.size,0,none⟩ hw2 q2 (by unfold zt;simp;omega)) (zP hA7 ⟨w2.heap.size,1,none⟩ hw2 q3 (by unfold zt;simp;omega))));have hO8:=(zb hOO).trans hA7;have hW8:=((zb HOW).trans hA7)
       have hsz7:w3.heap.size<=w5.heap.size:=hA7.size;obtain ⟨sa2,sn2,sc2,rfl⟩:=zy hsp2;have hS2:=hsp2.base (base':=w.heap.size+2) (by show _<=_;simp;omega);have hmf2:=Ref.zeD (st:=st1.go 1) (zb Hg2) hi3;have hmo2:=Ref.zfF (st:=st1.go 1) (zb Hg2) hi3;generalize hm2:Ref.za s (st1.go 1)=m2 at *;obtain ⟨p2,two,st2⟩:=m2;simp only [] at *;have hk:=(ze.refl (fun _=>False) w5).alloc (.cells #[.bool p2.neg,.slice sa2 sn2 sc2] 336);have hlt5:b<w5.heap.size:=hL7.lt;have hB8:=res2 (P:=fun _=>False) (n:=w5.heap.size) (ze.refl _ (w5.alloc (.cells #[.bool p2.neg,.slice sa2 sn2 sc2] 336))) rfl (fun f=>f);have HW8:=zc (hW8.alloc (.cells #[.bool p2.neg,.slice sa2 sn2 sc2] 336));have H8:=zc (And.intro (hL7.keep hk (fun f=>f)) (And.intro (hT7.keep hk (fun f=>f)) (And.intro (hR7.keep hk (fun f=>f)) (And.intro (hP7.keep hk (fun _ _ _ f=>f)) (And.intro (hS7.keep hk (fun _ _ _ f=>f)) (And.intro (hS2.keep hk (fun _ _ _ f=>f)) (And.intro (hO8.alloc (.cells #[.bool p2.neg,.slice sa2 sn2 sc2] 336)) (And.intro (And.intro (zg hk _ _ hB7.1 (fun f=>f)) (And.intro (zg hk _ _ hB7.2.1 (fun f=>f)) (And.intro (zP hk ⟨w2.heap.size,0,none⟩ (by show w2.heap.size<_;omega) hB7.2.2.1 (fun f=>f)) (zP hk ⟨w2.heap.size,1,none⟩ (by show w2.heap.size<_;omega) hB7.2.2.2 (fun f=>f))))) hB8))))))));have Hm2:=zc hm2;have Hmf2:=zc hmf2;have Hmo2:=zc hmo2;have hi4:st2.i<=s.size:=hmf2.1.1;have hi5:st1.i<st2.i:=(by have:=hmf2.2;simp only [St.go] at this;omega);clear hm2 hmf2 hmo2 hXO hXL hO7 hA7 hT7 hR7 hP7 hS7 hB7 hO8 hW8 hS2 hsp2 hk hB8 hix y4' hwr q0 q1 q2 q3 l0 l1 l2 l3 k1 k2 k3 t0 t1 t2 t3 t4 t5 v0 v1 v2 v3 v4 v5 r0 r1 r2 r3 r4 r5 u0 u1 u2 u3 u4 u5 hLL hTT hRR hPP hSS hOO;obtain ⟨l0,l1,l2,l3,k1,k2,k3⟩:=hL7;go_upto_region 14 with fail;generalize hw6:w5.alloc (.cells #[.bool p2.neg,.slice sa2 sn2 sc2] 336)=w6 at *;clear l0 l1 l2 l3 k1 k2 k3;obtain ⟨hL8,hT8,hR8,hP8,hS8,hS9,hO9,⟨q0,q1,q2,q3⟩,⟨j0,j1,j2,j3,hj⟩⟩:=zb H8;have hw5:w5.heap.size<w6.heap.size:=hj;clear hw6 H8 hj;have hLL:=zc hL8;have hTT:=zc hT8;have hRR:=zc hR8;have hPP:=zc hP8;have hSS:=zc hS8;have hS2:=zc hS9;have hOO:=zc hO9;clear hP8 hS8 hS9 hO9;obtain ⟨l0,l1,l2,l3,k1,k2,k3⟩:=hL8;obtain ⟨t0,t1,t2,t3,t4,t5,v0,v1,v2,v3,v4,v5⟩:=hT8;obtain ⟨r0,r1,r2,r3,r4,r5,u0,u1,u2,u3,u4,u5⟩:=hR8;by_cases e2:st2.e=0
       ·have e2b:(st2.e != 0)=false:=(by simp [e2]);go_wp2_with fail;have e1':st1.e=0:=(by simpa using y1);by_cases hbd2:Ref.badB p1 p2 one two=true
        ·have HH:Hid (Ref.classR s st=(ps,st2.fail 4 st1.i)):=by
          rw [zb HF];have:=Ref.zff (f:=f) (ps:=ps) (zb C1) (show ¬zd s st'.i<0 by omega) (by rw [zb Hm];exact zb Hrg) (by rw [zb Hm,zb Hm2];exact e2) (by rw [zb Hm,zb Hm2];exact hbd2);rw [zb Hm,zb Hm2] at this;exact this
         have E2:=zc e2;have E1:=zc e1';clear e2 e1';cases one
         case' true=>cases two
         case' true.true=>
          obtain ⟨c,hc⟩:=zb Hmo rfl (zb E1);obtain ⟨d,hd⟩:=zb Hmo2 rfl (zb E2);have hdc:d<c:=(by simpa [Ref.badB,Ref.loOf,hc,hd] using hbd2);have s1:=zb hSS;have s2:=zb hS2;rw [hc] at s1;rw [hd] at s2;obtain ⟨g1,cap1,hv1,hb1,hb1',hc1⟩:=own_form s1 (by simp);obtain ⟨g2,cap2,hv2,hb2,hb2',hc2⟩:=own_form s2 (by simp);simp only [Value.slice.injEq] at hv1 hv2;obtain ⟨rfl,rfl,rfl⟩:=hv1;obtain ⟨rfl,rfl,rfl⟩:=hv2;have m0:w6.cell? ⟨g1,0,none⟩=some (.int .i64 c):=s1.cells rfl 0 _ rfl;have m1:w6.cell? ⟨g2,0,none⟩=some (.int .i64 d):=s2.cells rfl 0 _ rfl;clear s1 s2 hc hd
         all_goals
          clear hbd2;go_quiet (fail);go_wp2_with fail;refine (fail_lex b s st2 4 _ _ (by first |exact (zb hLL).drewN _)).mono ?_;rintro e w7 ⟨rfl,hL9,hO9⟩;have hA9:=(((ze.refl (zt b) w6).drewN _).trans hO9)
          have hT9:=(zb hTT).keep hA9 (by unfold zt;omega);have hR9:=(zb hRR).keep hA9 (by unfold zt;omega);have HP9:=zc ((zb hPP).keep hA9 (by intro g hg _ hh;unfold zt at hh;omega));have HL9:=zc hL9;have HO9:=zc ((zb hOO).trans hA9);clear hL9 hO9 hA9 l0 l1 l2 l3 k1 k2 k3 t0 t1 t2 t3 t4 t5 v0 v1 v2 v3 v4 v5 r0 r1 r2 r3 r4 r5 u0 u1 u2 u3 u4 u5;obtain ⟨t0,t1,t2,t3,t4,t5,v0,v1,v2,v3,v4,v5⟩:=hT9;obtain ⟨r0,r1,r2,r3,r4,r5,u0,u1,u2,u3,u4,u5⟩:=hR9;go_wp2_with fail;refine bodyPost_ret (v:=.agg #[.int .i64 1,.bool (Ref.notB s st),.slice pa pn pc,.int .i64 0,.int .i64 0,.int .i64 0]) (by simp [results,results179,go_sem,r0,r1,r2,r3,r4,r5]) rfl ?_;exact zeN hlt (zb HH) (zb HP9) (zb HL9) (zb HO9) (ze.six w.heap.size _ _ _ _ _ _ _)
        ·have hgd:one=true/\two=true/\¬Ref.loOf p2<Ref.loOf p1:=(by simpa [Ref.badB,and_assoc] using hbd2);obtain ⟨rfl,rfl,hcd⟩:=hgd;obtain ⟨c,hc⟩:=zb Hmo rfl e1';obtain ⟨d,hd⟩:=zb Hmo2 rfl e2;have hdc:c<=d:=(by simp [Ref.loOf,hc,hd] at hcd;omega);have HF2:Hid (Ref.classR s st=Ref.classF s f (ps++[⟨p1.neg,[(c,d)]⟩]) st2):=by
          show _=_;rw [zb HF];have:=Ref.zeE (f:=f) (ps:=ps) (zb C1) (show ¬zd s st'.i<0 by omega) (by rw [zb Hm];exact zb Hrg) (by rw [zb Hm,zb Hm2];exact e2) (by rw [zb Hm,zb Hm2];exact hbd2);rw [zb Hm,zb Hm2] at this;rw [this];simp [Ref.loOf,hc,hd]
         have s1:=zb hSS;have s2:=zb hS2;rw [hc] at s1;rw [hd] at s2;obtain ⟨g1,cap1,hv1,hb1,hb1',hc1⟩:=own_form s1 (by simp);obtain ⟨g2,cap2,hv2,hb2,hb2',hc2⟩:=own_form s2 (by simp);simp only [Value.slice.injEq] at hv1 hv2;obtain ⟨rfl,rfl,rfl⟩:=hv1;obtain ⟨rfl,rfl,rfl⟩:=hv2;have m0:w6.cell? ⟨g1,0,none⟩=some (.int .i64 c):=s1.cells rfl 0 _ rfl;have m1:w6.cell? ⟨g2,0,none⟩=some (.int .i64 d):=s2.cells rfl 0 _ rfl;have m2:w6.cell? ⟨g1,1,none⟩=some (.int .i64 c):=s1.cells rfl 1 _ rfl;have m3:w6.frozen? ⟨g1,1,none⟩=false:=s1.frozenAt 1;have S1:=zc s1;clear s1 s2 hbd2 hc hd hcd e2 e1';go_quiet (fail);go_wp2_with fail;go_region;go_upto_region 20 with fail;have hgg:=zb hgW g1 rfl;have hk7:=(((ze.refl (zt g1) w6).drewN (nq+1)).mine 1 (.int .i64 d))
         have hL9:=(zb hLL).keep hk7 (by unfold zt;omega);have hT9:=(zb hTT).keep hk7 (by unfold zt;omega);have hR9:=(zb hRR).keep hk7 (by unfold zt;omega);have hP9:=(zb hPW).keep (((zb HW8).drewN (nq+1)).fresh ⟨g1,1,none⟩ hgg.1 (.int .i64 d)) (by intro g hg _ hh;unfold zt at hh;omega);have hS9:SpansAt ((w6.drewN (nq+1)).setCell ⟨g1,1,none⟩ (.int .i64 d)) (w.heap.size+2) (.slice (some ⟨g1,0,none⟩) 1 sc) [(c,d)]:=(World.ownsRow.stored (w:=w6.drewN (nq+1)) (zb S1) 1 (.int .i64 d)).1;have hO9:=((zb hOO).drewN (nq+1)).fresh ⟨g1,1,none⟩ (show w.heap.size<=g1 by omega) (.int .i64 d);have z0:=zg hk7 ⟨w2.heap.size,0,none⟩ _ q0 (by unfold zt;simp;omega);have z1:=zg hk7 ⟨w2.heap.size,1,none⟩ _ q1 (by unfold zt;simp;omega);have hsz9:=hk7.size;have H9:=zc (And.intro hL9 (And.intro hT9 (And.intro hR9 (And.intro hP9 (And.intro hS9 (And.intro hO9 (And.intro z0 (And.intro z1 hsz9))))))));clear hk7 hL9 hT9 hR9 hP9 hS9 hO9 z0 z1 hsz9 q0 q1 q2 q3 j0 j1 j2 j3 m0 m1 m2 m3 l0 l1 l2 l3 k1 k2 k3 t0 t1 t2 t3 t4 t5 v0 v1 v2 v3 v4 v5 r0 r1 r2 r3 r4 r5 u0 u1 u2 u3 u4 u5 hLL hTT hRR hPP hSS hS2 hOO;generalize hw7:(w6.drewN (nq+1)).setCell ⟨g1,1,none⟩ (.int .i64 d)=w7 at *;obtain ⟨hL9,hT9,hR9,hP9,hS9,hO9,q0,q1,hsz9⟩:=zb H9;clear hw7 H9;have hLL:=zc hL9;have hTT:=zc hT9;have hRR:=zc hR9;have hSS:=zc hS9;have hOO:=zc hO9;obtain ⟨cs,hown,hpok⟩:=hP9;clear hO9 hS9 hL9;obtain ⟨t0,t1,t2,t3,t4,t5,v0,v1,v2,v3,v4,v5⟩:=hT9;clear hR9;obtain ⟨i0,hi,hz0,hz1,hz2⟩:=info_parts Tryz.infoPart;have hls:ps.length<=400:=(by omega);have hwz:w.heap.size+2<=w7.heap.size:=(by omega);go_wp2_with (at_builtin;refine wpList_append_own _ rfl _ _ 306 rfl (w.heap.size+2) 336 i0 (.agg #[.bool false,.slice none 0 0]) 2 32 underlying306 hi hz0 hz1 hz2 rfl (by decide) _ _ _ rfl (xR hown _) _ 1 1 [.bool p1.neg,.slice (some ⟨g1,0,none⟩) 1 sc] rfl rfl (cell_two_new _ _ _ _) (fun x hx=>by simp at hx;rcases hx with rfl |rfl<;>rfl) (by unfold maxLen;omega) (by omega) (by simp;omega) ?_;intro v' w8 hown' hgrow hnil;obtain ⟨pa',pn',pc',rfl⟩:=zy hown';have kx:=(((ze.refl (fun k=>(Value.slice pa pn pc).ownBlock=some k) w7).alloc _).trans (ze.ofGrown hgrow));have hT7:=(zb hTT).keep kx (by intro hh;have:=(zh hown _ hh).1;omega);have X:=zc (And.intro hT7 (And.intro hown' (And.intro hgrow kx)));clear hown' hgrow hnil kx t0 t1 t2 t3 t4 t5 v0 v1 v2 v3 v4 v5;obtain ⟨t0,t1,t2,t3,t4,t5,v0,v1,v2,v3,v4,v5⟩:=hT7);obtain ⟨hT7,hown',hgrow,kx⟩:=zb X;have hbb:¬(Value.slice pa pn pc).ownBlock=some b:=(by intro hh;have:=(zh hown _ hh).1;omega);have hbr:¬(Value.slice pa pn pc).ownBlock=some w.heap.size:=(by intro hh;have:=(zh hown _ hh).1;omega);have hLn:=((zb hLL).keep kx hbb).keep ((ze.refl (zt (w.heap.size+1)) w8).mine 2 (.slice pa' pn' pc')) (by unfold zt;omega);have hRn:=((zb hRR).keep kx hbr).other ⟨w.heap.size+1,2,none⟩ (by simp) (.slice pa' pn' pc');have hTn:=hT7.set2 (.slice pa' pn' pc');have hPn:=(PartsAt.appended (p:=⟨p1.neg,[(c,d)]⟩) (xR hown _) (PartsOK.keep (w:=w7) ((ze.refl (fun _=>False) w7).alloc _) (fun _ _ _ f=>f) ps cs hpok) ((zb hSS).keep ((ze.refl (fun _=>False) w7).alloc _) (fun _ _ _ f=>f)) hown' hgrow).keep ((ze.refl (zt (w.heap.size+1)) w8).mine 2 (.slice pa' pn' pc')) (by intro g hg _ hh;unfold zt at hh;omega);have hOn:=((((zb hOO).alloc _).grown hgrow (fun j hj=>Or.inr (by have:=(zh hown j hj).1;omega)))).young ((ze.refl (zt (w.heap.size+1)) w8).mine 2 (.slice pa' pn' pc')) (by omega);go_roundw
         case rel=>exact ⟨ps++[⟨p1.neg,[(c,d)]⟩],pa',pn',pc',st2,f,hLn,hTn,hRn,hPn,hOn,(zb Hmf2).1,by have:=kx.size;simp [World.setCell];omega,by simp;omega,(by have:=zb hf;show _<_;omega),HF2⟩
         case measure=>rw [lexI_of hLn];have:=lexI_of (zb hLW);rw [this];omega
       ·have e2b:(st2.e != 0)=true:=(by simp [e2]);have HH:Hid (Ref.classR s st=(ps,st2)):=by
         rw [zb HF];have:=Ref.ze0 (f:=f) (ps:=ps) (zb C1) (show ¬zd s st'.i<0 by omega) (by rw [zb Hm];exact zb Hrg) (by rw [zb Hm,zb Hm2];exact e2);rw [zb Hm,zb Hm2] at this;exact this
        clear e2;go_wp2_with fail;refine bodyPost_ret (v:=.agg #[.int .i64 1,.bool (Ref.notB s st),.slice pa pn pc,.int .i64 0,.int .i64 0,.int .i64 0]) (by simp [results,results179,go_sem,r0,r1,r2,r3,r4,r5]) rfl ?_;exact zeN hlt (zb HH) (zb hPP) (zb hLL) (zb hOO) (ze.six w.heap.size _ _ _ _ _ _ _)
      ·have HF2:Hid (Ref.classR s st=Ref.classF s f (ps++[p1]) st1):=by
        rw [zb HF];have:=Ref.zeJ (f:=f) (ps:=ps) (zb C1) (show ¬zd s st'.i<0 by omega) (by rw [zb Hm];exact hrg);rw [zb Hm] at this;exact this
       have hcs:=Ref.zhf hrg;clear hrg;obtain ⟨i0,hi,hz0,hz1,hz2⟩:=info_parts Tryz.infoPart;obtain ⟨cs,hown,hpok⟩:=zb hPP;have hls:ps.length<=400:=(by omega);have HI:=zc (And.intro hi (And.intro hz0 (And.intro hz1 (And.intro hz2 (And.intro hown hpok)))));clear hi hz0 hz1 hz2 hown hpok;have hwz:w.heap.size+2<=w3.heap.size:=(by omega);rcases hcs with y1 |⟨y1,y2⟩ |⟨y1,y2,y3⟩ |⟨y1,y2,y3,y4⟩
       case' inr.inr.inl=>have y3':decide ((st1.i:Int)+1<(s.size:Int))=false:=by simp;omega
       case' inr.inr.inr=>have y4':(((s[st1.i+1]'y3).toNat:Int) != 93)=false:=by rw [<-xZ s (st1.i+1) y3];simp [y4]
       case' inr.inr.inr=>have y3':decide ((st1.i:Int)+1<(s.size:Int))=true:=by simp;omega
       case' inr.inr.inr=>have y3'':(st1.i:Int)+1<(s.size:Int):=by omega
       case' inr.inr.inr=>have hix:∀ wx,(Instr.index 9 (.string s) (.int .i64 ((st1.i:Int)+1))).run prog wx = .ok (.int .u8 ((s[st1.i+1]'y3).toNat:Int)) wx:=fun wx=>Kw s (st1.i+1) y3 _ (by omega) wx
       case' inr.inr.inr=>clear y4
       all_goals
        go_quiet ((go_at_call 144;exact (now_lex b s st1 _ (by first |exact zb hLL |exact (zb hLL).drewN _) hs).mono (by rintro e w'' ⟨rfl,n,rfl⟩;exact ⟨rfl,_,by first |rfl |(rw [Xf])⟩)));obtain ⟨hi,hz0,hz1,hz2,hown,hpok⟩:=zb HI;go_wp2_with (at_builtin;refine wpList_append_own _ rfl _ _ 306 rfl (w.heap.size+2) 336 i0 (.agg #[.bool false,.slice none 0 0]) 2 32 underlying306 hi hz0 hz1 hz2 rfl (by decide) _ _ _ rfl (xR (w:=w3.drewN _) hown _) _ 1 1 [.bool p1.neg,.slice sa sn sc] rfl rfl (cell_two_new _ _ _ _) (fun x hx=>by simp at hx;rcases hx with rfl |rfl<;>rfl) (by unfold maxLen;omega) (by omega) (by simp;omega) ?_;intro v' w5 hown' hgrow hnil;obtain ⟨pa',pn',pc',rfl⟩:=zy hown';have kx:=((((ze.refl (fun k=>(Value.slice pa pn pc).ownBlock=some k) w3).drewN _).alloc _).trans (ze.ofGrown hgrow));have hT7:=(zb hTT).keep kx (by intro hh;have:=(zh hown _ hh).1;omega);have X:=zc (And.intro hT7 (And.intro hown' (And.intro hgrow kx)));clear hown' hgrow hnil kx t0 t1 t2 t3 t4 t5 v0 v1 v2 v3 v4 v5;obtain ⟨t0,t1,t2,t3,t4,t5,v0,v1,v2,v3,v4,v5⟩:=hT7);obtain ⟨hT7,hown',hgrow,kx⟩:=zb X;have hbb:¬(Value.slice pa pn pc).ownBlock=some b:=(by intro hh;have:=(zh hown _ hh).1;omega);have hbr:¬(Value.slice pa pn pc).ownBlock=some w.heap.size:=(by intro hh;have:=(zh hown _ hh).1;omega);have hLn:=((zb hLL).keep kx hbb).keep ((ze.refl (zt (w.heap.size+1)) w5).mine 2 (.slice pa' pn' pc')) (by unfold zt;omega);have hRn:=((zb hRR).keep kx hbr).other ⟨w.heap.size+1,2,none⟩ (by simp) (.slice pa' pn' pc');have hTn:=hT7.set2 (.slice pa' pn' pc');have hPn:=(PartsAt.appended (p:=p1) (xR (w:=w3.drewN _) hown _) (PartsOK.keep (w:=w3) (((ze.refl (fun _=>False) w3).drewN _).alloc _) (fun _ _ _ f=>f) ps cs hpok) ((zb hSS).keep (((ze.refl (fun _=>False) w3).drewN _).alloc _) (fun _ _ _ f=>f)) hown' hgrow).keep ((ze.refl (zt (w.heap.size+1)) w5).mine 2 (.slice pa' pn' pc')) (by intro g hg _ hh;unfold zt at hh;omega);have hOn:=(((((zb hOO).drewN _).alloc _).grown hgrow (fun j hj=>Or.inr (by have:=(zh hown j hj).1;omega)))).young ((ze.refl (zt (w.heap.size+1)) w5).mine 2 (.slice pa' pn' pc')) (by omega);go_roundw
        case rel=>exact ⟨ps++[p1],pa',pn',pc',st1,f,hLn,hTn,hRn,hPn,hOn,(zb Hmf).1,by have:=kx.size;simp [World.setCell];omega,by simp;omega,(by have:=zb hf;show _<_;omega),HF2⟩
        case measure=>rw [lexI_of hLn];have:=lexI_of (zb hLW);rw [this];omega
   ·have eb:(st'.e == 0)=false:=(by simp [e1]);have HH:Hid (Ref.classR s st=(ps,st'.go 1)):=(by rw [zb HF];exact Ref.zez (by intro hh;exact e1 hh.1));clear e1;go_wp2_with fail;refine bodyPost_ret (v:=.agg #[.int .i64 1,.bool (Ref.notB s st),.slice pa pn pc,.int .i64 0,.int .i64 0,.int .i64 0]) (by simp [results,results179,go_sem,r0,r1,r2,r3,r4,r5]) rfl ?_;exact zeN hlt (zb HH) ((zb hPP).keep ((ze.refl (zt b) wr).mine 1 _) (by intro g hg _ hh;unfold zt at hh;omega)) ((zb hLL).setI _ 1 (by omega)) ((zb hOO).mine 1 _) (ze.six w.heap.size _ _ _ _ _ _ _)
structure Tok where
 kind:Int
 neg:Bool
 parts:List Pt
 c:Int
 mn:Int
 mx:Int
namespace Ref
def wrongB (b:Int):Bool:=(b == 42) ||(b == 43) ||(b == 63) ||(b == 123) ||(b == 125) ||(b == 93)
def zv (s:ByteArray)(st:St):Tok×St:=
 if zd s st.i=94\/zd s st.i=36 then (⟨2,false,[],zd s st.i,0,0⟩,st.go 1)
 else if zd s st.i=92/\(zd s (st.i+1)=98\/zd s (st.i+1)=66) then (⟨2,false,[],zd s (st.i+1),0,0⟩,st.go 2)
 else if zd s st.i=124 then (⟨5,false,[],0,0,0⟩,st.go 1)
 else if zd s st.i=46 then (⟨1,true,[⟨false,[(10,10),(13,13),(8232,8233)]⟩],0,0,0⟩,st.go 1)
 else if zd s st.i=91 then (⟨1,notB s (st.go 1),(classR s (st.go 1)).1,0,0,0⟩,(classR s (st.go 1)).2)
 else if zd s st.i=92 then (⟨1,false,[(jv s false st).1],0,0,0⟩,(jv s false st).2.2)
 else if zd s st.i=40 then (⟨3,false,[],0,0,0⟩,openF s st)
 else if zd s st.i=41 then (⟨4,false,[],0,0,0⟩,st.go 1)
 else if wrongB (zd s st.i)=true then (⟨0,false,[],0,0,0⟩,st.fail 3 st.i)
 else match oneF s st.i with
  |some (n,c)=>(⟨1,false,[⟨false,[(c,c)]⟩],0,0,0⟩,st.go n)
  |none=>(⟨0,false,[],0,0,0⟩,st)
end Ref
theorem zfA (W:World)(n base:Nat)(hn:W.heap.size=n)(hb:base<=n)(c:Array Value)(p:Pt)(sv:Value)(hc:c.toList=[.bool p.neg,sv])(hs:SpansAt W base sv p.spans) :
  PartsAt (W.alloc (.cells c 336)) base (.slice (some ⟨n,0,none⟩) 1 1) [p]:=by
 subst hn;refine ⟨[.bool p.neg,sv],⟨rfl,.inr ⟨W.heap.size,1,c,rfl,hb,heap_alloc_new W _,z8 _,by simp [maxLen],?_,?_⟩⟩,rfl,hs.keep ((ze.refl (fun _=>False) W).alloc _) (fun _ _ _ f=>f),trivial⟩
 ·rw [<-Array.length_toList,hc];rfl
 ·rw [hc];rfl
theorem zhN (s:ByteArray)(st:St)(w:World)(h:Lex w b s st)(hs:s.size<=400)(hi:st.i<s.size)(hg:Ref.Good s st.i)(he:st.e=0) :
  Calls prog 146 #[.pointer (some ⟨b,0,none⟩)] w fun x w'=>
   ∃ pv,x = .returned (.agg #[.int .i64 (Ref.zv s st).1.kind,.bool (Ref.zv s st).1.neg,pv,.int .i64 (Ref.zv s st).1.c,.int .i64 (Ref.zv s st).1.mn,.int .i64 (Ref.zv s st).1.mx])/\
    PartsAt w' w.heap.size pv (Ref.zv s st).1.parts/\Lex w' b s (Ref.zv s st).2/\ze (zt b) w w':=by
 have hlt:=h.lt;have HE:=zc he;have HG:=zc hg;obtain ⟨on,oc,ho,hgn⟩:=hg.next hi;have Ho:=zc ho;have Hgn:=zc hgn;clear he hg ho hgn;have hL2:=zc (h.alloc (.cells #[.int .i64 0,.bool false,.slice none 0 0,.int .i64 0,.int .i64 0,.int .i64 0] 308));have hR2:=zc (Six.new (n:=w.heap.size) (a0:=.int .i64 0) (a1:=.bool false) (a2:=.slice none 0 0) (a3:=.int .i64 0) (a4:=.int .i64 0) (a5:=.int .i64 0) w 308 rfl);have hO2:=zc ((ze.refl (zt b) w).alloc (.cells #[.int .i64 0,.bool false,.slice none 0 0,.int .i64 0,.int .i64 0,.int .i64 0] 308));clear h;have hwr:IntKind.i64.wrap ((st.i:Int)+1)=(st.i:Int)+1:=ZF _ (by omega) (by omega);go_enter func146,ntmps146;go_wp2_with fail;refine (now_abs b s st _ (zb hL2) hs).mono ?_;rintro e w1 ⟨rfl,hON⟩;have hLN:=(zb hL2).keep hON (fun f=>f);have hRN:=(zb hR2).keep hON (fun f=>f);have hOO:=zc ((zb hO2).trans (hON.mono (fun _ _ f=>f.elim)));have hLL:=zc hLN;have hRR:=zc hRN;clear hON hL2 hR2 hO2;obtain ⟨l0,l1,l2,l3,k1,k2,k3⟩:=hLN;go_wp2_with fail;go_quiet (fail);go_upto_if 20 with fail;go_cut [4] (fun s4 wx=>s4 = .int .i64 (zd s (st.i+1))/\Q8 w1 wx)
 case first=>
  by_cases hn:st.i+1<s.size
  ·have hix:∀ wx,(Instr.index 9 (.string s) (.int .i64 ((st.i:Int)+1))).run prog wx = .ok (.int .u8 ((s[st.i+1]'hn).toNat:Int)) wx:=fun wx=>Kw s (st.i+1) hn _ (by omega) wx;have hnd:(st.i:Int)+1<(s.size:Int):=(by omega);have hin:=zc (xZ s (st.i+1) hn);go_wp2_with fail;go_quiet (fail);go_wp2_with fail;go_meet
   case rel=>exact ⟨by rw [zb hin];first |rfl |(rw [zeM]) |(congr 1;rw [IntKind.wrap_i64];have:=(s[st.i+1]'hn).toNat_lt;omega),by first |exact ((ze.refl _ _).drewN _).drewN _ |exact (ze.refl _ _).drewN _⟩
  ·have hnd:¬(st.i:Int)+1<(s.size:Int):=(by omega);have hout:=zc (Zq s (st.i+1) (by omega));go_wp2_with fail;go_meet
   case rel=>exact ⟨by rw [zb hout],((ze.refl _ _).drewN _)⟩
 case rest=>
  obtain ⟨rfl,hcO⟩:=hcut;have hLc:=(zb hLL).keep hcO (fun f=>f);have hRc:=(zb hRR).keep hcO (fun f=>f);have hO3:=zc ((zb hOO).trans (hcO.mono (fun _ _ f=>f.elim)));clear l0 l1 l2 l3 k1 k2 k3 hLL hRR hOO hwr hcO;have hLL:=zc hLc;have hRR:=zc hRc;have hOO:=zc (zb hO3);clear hO3;obtain ⟨l0,l1,l2,l3,k1,k2,k3⟩:=hLc;obtain ⟨r0,r1,r2,r3,r4,r5,u0,u1,u2,u3,u4,u5⟩:=hRc;by_cases x:zd s st.i=94
  ·skip
   have hq:=Ref.bq x;have HH:Hid (Ref.zv s st=(⟨2,false,[],zd s st.i,0,0⟩,st.go 1)):=(by show _=_;unfold Ref.zv;rw [if_pos (Or.inl x)]);clear x;go_wp2_with fail;refine bodyPost_ret (v:=.agg #[.int .i64 2,.bool false,.slice none 0 0,.int .i64 (zd s st.i),.int .i64 0,.int .i64 0]) (by simp [results,results146,go_sem,r0,r1,r2,r3,r4,r5]) rfl ?_;rw [zb HH];exact ⟨_,rfl,PartsAt.nil _ _,((zb hLL).setI _ 1 (by omega)).keep (ze.six w.heap.size _ _ _ _ _ _ _) (by unfold zt;omega),((zb hOO).mine 1 _).young (ze.six w.heap.size _ _ _ _ _ _ _) (z8 _)⟩
  have n94:=zc x;clear x;by_cases x:zd s st.i=36
  ·skip
   have hq:=Ref.bq x;have HH:Hid (Ref.zv s st=(⟨2,false,[],zd s st.i,0,0⟩,st.go 1)):=(by show _=_;unfold Ref.zv;rw [if_pos (Or.inr x)]);clear x;go_wp2_with fail;refine bodyPost_ret (v:=.agg #[.int .i64 2,.bool false,.slice none 0 0,.int .i64 (zd s st.i),.int .i64 0,.int .i64 0]) (by simp [results,results146,go_sem,r0,r1,r2,r3,r4,r5]) rfl ?_;rw [zb HH];exact ⟨_,rfl,PartsAt.nil _ _,((zb hLL).setI _ 1 (by omega)).keep (ze.six w.heap.size _ _ _ _ _ _ _) (by unfold zt;omega),((zb hOO).mine 1 _).young (ze.six w.heap.size _ _ _ _ _ _ _) (z8 _)⟩
  have n36:=zc x;clear x;by_cases x:zd s st.i=92
  ·skip
   have hq:=Ref.bq x;by_cases y:zd s (st.i+1)=98
   ·have y1:(zd s (st.i+1) == 98)=true:=(by simp [y]);have HH:Hid (Ref.zv s st=(⟨2,false,[],zd s (st.i+1),0,0⟩,st.go 2)):=(by show _=_;unfold Ref.zv;rw [if_neg (by omega),if_pos ⟨x,by omega⟩]);clear x y;go_wp2_with fail;refine bodyPost_ret (v:=.agg #[.int .i64 2,.bool false,.slice none 0 0,.int .i64 (zd s (st.i+1)),.int .i64 0,.int .i64 0]) (by simp [results,results146,go_sem,r0,r1,r2,r3,r4,r5]) rfl ?_;rw [zb HH];exact ⟨_,rfl,PartsAt.nil _ _,((zb hLL).setI _ 2 (by omega)).keep (ze.six w.heap.size _ _ _ _ _ _ _) (by unfold zt;omega),((zb hOO).mine 1 _).young (ze.six w.heap.size _ _ _ _ _ _ _) (z8 _)⟩
   have z98:(zd s (st.i+1) == 98)=false:=(by simp [y]);have Z98:=zc y;clear y;by_cases y:zd s (st.i+1)=66
   ·have y1:(zd s (st.i+1) == 66)=true:=(by simp [y]);have y2:(zd s (st.i+1) == 98)=false:=(by simp [y]);have HH:Hid (Ref.zv s st=(⟨2,false,[],zd s (st.i+1),0,0⟩,st.go 2)):=(by show _=_;unfold Ref.zv;rw [if_neg (by omega),if_pos ⟨x,by omega⟩]);clear x y;go_wp2_with fail;refine bodyPost_ret (v:=.agg #[.int .i64 2,.bool false,.slice none 0 0,.int .i64 (zd s (st.i+1)),.int .i64 0,.int .i64 0]) (by simp [results,results146,go_sem,r0,r1,r2,r3,r4,r5]) rfl ?_;rw [zb HH];exact ⟨_,rfl,PartsAt.nil _ _,((zb hLL).setI _ 2 (by omega)).keep (ze.six w.heap.size _ _ _ _ _ _ _) (by unfold zt;omega),((zb hOO).mine 1 _).young (ze.six w.heap.size _ _ _ _ _ _ _) (z8 _)⟩
   have z66:(zd s (st.i+1) == 66)=false:=(by simp [y]);have Z66:=zc y;clear y;have HH:Hid (Ref.zv s st=(⟨1,false,[(Ref.jv s false st).1],0,0,0⟩,(Ref.jv s false st).2.2)):=by
    show _=_;unfold Ref.zv;have q1:=zb Z98;have q2:=zb Z66;rw [if_neg (by omega),if_neg (by omega),if_neg (by omega),if_neg (by omega),if_neg (by omega),if_pos x]
   clear x;go_wp2_with fail;refine (zfS b s false st _ (zb hLL) hs hi).mono ?_;rintro e w5 ⟨sv,rfl,hsp,hL5,hO5⟩;have hR5:=(zb hRR).keep hO5 (by unfold zt;omega);obtain ⟨sa,sn,sc,rfl⟩:=zy hsp;have HS:=zc (hsp.base (base':=w.heap.size+1) (by have:=Six.lt (zb hRR);omega));have HL5:=zc hL5;have HO5:=zc ((zb hOO).trans hO5);have hsz5:w.heap.size<w5.heap.size:=hR5.lt;clear hsp hL5 hO5 l0 l1 l2 l3 k1 k2 k3 r0 r1 r2 r3 r4 r5 u0 u1 u2 u3 u4 u5;obtain ⟨r0,r1,r2,r3,r4,r5,u0,u1,u2,u3,u4,u5⟩:=hR5;go_wp2_with fail;refine bodyPost_ret (v:=.agg #[.int .i64 1,.bool false,.slice (some ⟨w5.heap.size+1,0,none⟩) 1 1,.int .i64 0,.int .i64 0,.int .i64 0]) (by simp [results,results146,go_sem,r0,r1,r2,r3,r4,r5,hsz5]) rfl ?_;rw [zb HH];refine ⟨_,rfl,?_,?_,?_⟩
   ·exact zfA _ _ _ (by simp) (by omega) _ (Ref.jv s false st).1 (.slice sa sn sc) rfl (((zb HS).keep ((ze.six w.heap.size w5 _ _ _ _ _ _).alloc _) (by intro g hg _ hh;unfold zt at hh;omega)).base (by omega))
   ·exact (((zb HL5).keep (ze.six w.heap.size _ _ _ _ _ _ _) (by unfold zt;omega)).alloc _).alloc _
   ·exact (((zb HO5).young (ze.six w.heap.size _ _ _ _ _ _ _) (z8 _)).alloc _).alloc _
  have n92:=zc x;clear x;by_cases x:zd s st.i=124
  ·skip
   have hq:=Ref.bq x;have HH:Hid (Ref.zv s st=(⟨5,false,[],0,0,0⟩,st.go 1)):=(by show _=_;unfold Ref.zv;rw [if_neg (by omega),if_neg (by omega),if_pos x]);clear x;go_wp2_with fail;refine bodyPost_ret (v:=.agg #[.int .i64 5,.bool false,.slice none 0 0,.int .i64 (0),.int .i64 0,.int .i64 0]) (by simp [results,results146,go_sem,r0,r1,r2,r3,r4,r5]) rfl ?_;rw [zb HH];exact ⟨_,rfl,PartsAt.nil _ _,((zb hLL).setI _ 1 (by omega)).keep (ze.six w.heap.size _ _ _ _ _ _ _) (by unfold zt;omega),((zb hOO).mine 1 _).young (ze.six w.heap.size _ _ _ _ _ _ _) (z8 _)⟩
  have n124:=zc x;clear x;by_cases x:zd s st.i=41
  ·skip
   have hq:=Ref.bq x;have HH:Hid (Ref.zv s st=(⟨4,false,[],0,0,0⟩,st.go 1)):=(by show _=_;unfold Ref.zv;rw [if_neg (by omega),if_neg (by omega),if_neg (by omega),if_neg (by omega),if_neg (by omega),if_neg (by omega),if_neg (by omega),if_pos x]);clear x;go_wp2_with fail;refine bodyPost_ret (v:=.agg #[.int .i64 4,.bool false,.slice none 0 0,.int .i64 (0),.int .i64 0,.int .i64 0]) (by simp [results,results146,go_sem,r0,r1,r2,r3,r4,r5]) rfl ?_;rw [zb HH];exact ⟨_,rfl,PartsAt.nil _ _,((zb hLL).setI _ 1 (by omega)).keep (ze.six w.heap.size _ _ _ _ _ _ _) (by unfold zt;omega),((zb hOO).mine 1 _).young (ze.six w.heap.size _ _ _ _ _ _ _) (z8 _)⟩
  have n41:=zc x;clear x;by_cases x:zd s st.i=46
  ·skip
   have hq:=Ref.bq x;have HH:Hid (Ref.zv s st=(⟨1,true,[⟨false,[(10,10),(13,13),(8232,8233)]⟩],0,0,0⟩,st.go 1)):=(by show _=_;unfold Ref.zv;rw [if_neg (by omega),if_neg (by omega),if_neg (by omega),if_pos x]);have hszc:w.heap.size<wc.heap.size:=(zb hRR).lt;clear x;go_wp2_with fail;refine bodyPost_ret (v:=.agg #[.int .i64 1,.bool true,.slice (some ⟨wc.heap.size+1,0,none⟩) 1 1,.int .i64 0,.int .i64 0,.int .i64 0]) (by simp [results,results146,go_sem,r0,r1,r2,r3,r4,r5,hszc]) rfl ?_;rw [zb HH];refine ⟨_,rfl,?_,?_,?_⟩
   ·exact zfA _ _ _ (by simp) (by omega) _ ⟨false,[(10,10),(13,13),(8232,8233)]⟩ (.slice (some ⟨wc.heap.size,0,none⟩) 3 3) rfl (zeS _ _ _ (by simp) (by omega) _ [(10,10),(13,13),(8232,8233)] rfl (by simp [maxLen]) 3 rfl)
   ·exact ((((zb hLL).setI _ 1 (by omega)).keep (ze.six w.heap.size _ _ _ _ _ _ _) (by unfold zt;omega)).alloc _).alloc _
   ·exact ((((zb hOO).mine 1 _).young (ze.six w.heap.size _ _ _ _ _ _ _) (z8 _)).alloc _).alloc _
  have n46:=zc x;clear x;by_cases x:zd s st.i=91
  ·skip
   have hq:=Ref.bq x;have HH:Hid (Ref.zv s st=(⟨1,Ref.notB s (st.go 1),(Ref.classR s (st.go 1)).1,0,0,0⟩,(Ref.classR s (st.go 1)).2)):=(by show _=_;unfold Ref.zv;rw [if_neg (by omega),if_neg (by omega),if_neg (by omega),if_neg (by omega),if_pos x]);have hg1:Ref.Good s (st.go 1).i:=(zb HG).ascii (by omega) (by omega);clear x;go_wp2_with fail;have hA:=(ze.refl (zt b) wc).mine 1 (.int .i64 ((st.i:Int)+1));refine (zhM b s (st.go 1) _ ((zb hLL).setI ((st.i:Int)+1) 1 (by omega)) hs hg1 (zb HE)).mono ?_;rintro e w5 ⟨pv,rfl,hpt,hL5,hO5⟩;have hB:=hA.trans hO5;have hR5:=(zb hRR).keep hB (by unfold zt;omega);obtain ⟨cs,hpo,hpk⟩:=hpt;obtain ⟨sa,sn,sc,rfl⟩:=zy hpo;have HP:=zc (PartsAt.base (base':=w.heap.size+1) (show PartsAt w5 _ _ _ from ⟨cs,hpo,hpk⟩) (by have:=Six.lt (zb hRR);simp;omega));have HL5:=zc hL5;have HO5:=zc ((zb hOO).trans hB);clear hpo hpk hL5 hO5 hA hB l0 l1 l2 l3 k1 k2 k3 r0 r1 r2 r3 r4 r5 u0 u1 u2 u3 u4 u5;obtain ⟨r0,r1,r2,r3,r4,r5,u0,u1,u2,u3,u4,u5⟩:=hR5;go_wp2_with fail;refine bodyPost_ret (v:=.agg #[.int .i64 1,.bool (Ref.notB s (st.go 1)),.slice sa sn sc,.int .i64 0,.int .i64 0,.int .i64 0]) (by simp [results,results146,go_sem,r0,r1,r2,r3,r4,r5]) rfl ?_;rw [zb HH];exact ⟨_,rfl,((zb HP).keep (ze.six w.heap.size _ _ _ _ _ _ _) (by intro g hg _ hh;unfold zt at hh;omega)).base (by omega),(zb HL5).keep (ze.six w.heap.size _ _ _ _ _ _ _) (by unfold zt;omega),(zb HO5).young (ze.six w.heap.size _ _ _ _ _ _ _) (z8 _)⟩
  have n91:=zc x;clear x;by_cases x:zd s st.i=40
  ·skip
   have hq:=Ref.bq x;have HH:Hid (Ref.zv s st=(⟨3,false,[],0,0,0⟩,Ref.openF s st)):=(by show _=_;unfold Ref.zv;rw [if_neg (by omega),if_neg (by omega),if_neg (by omega),if_neg (by omega),if_neg (by omega),if_neg (by omega),if_pos x]);clear x;go_wp2_with fail;refine (open_any b s st _ (zb hLL) hs hi).mono ?_;rintro e w5 ⟨rfl,hL5,hO5⟩;have hR5:=(zb hRR).keep hO5 (by unfold zt;omega);have HL5:=zc hL5;have HO5:=zc ((zb hOO).trans hO5);clear hL5 hO5 l0 l1 l2 l3 k1 k2 k3 r0 r1 r2 r3 r4 r5 u0 u1 u2 u3 u4 u5;obtain ⟨r0,r1,r2,r3,r4,r5,u0,u1,u2,u3,u4,u5⟩:=hR5;go_wp2_with fail;refine bodyPost_ret (v:=.agg #[.int .i64 3,.bool false,.slice none 0 0,.int .i64 (0),.int .i64 0,.int .i64 0]) (by simp [results,results146,go_sem,r0,r1,r2,r3,r4,r5]) rfl ?_;rw [zb HH];exact ⟨_,rfl,PartsAt.nil _ _,(zb HL5).keep (ze.six w.heap.size _ _ _ _ _ _ _) (by unfold zt;omega),(zb HO5).young (ze.six w.heap.size _ _ _ _ _ _ _) (z8 _)⟩
  have n40:=zc x;clear x;by_cases y:Ref.wrongB (zd s st.i)=true
  ·have y':zd s st.i=42\/zd s st.i=43\/zd s st.i=63\/zd s st.i=123\/zd s st.i=125\/zd s st.i=93:=(by simpa [Ref.wrongB,or_assoc] using y);have HH:Hid (Ref.zv s st=(⟨0,false,[],0,0,0⟩,st.fail 3 st.i)):=(by show _=_;unfold Ref.zv;rw [if_neg (by omega),if_neg (by omega),if_neg (by omega),if_neg (by omega),if_neg (by omega),if_neg (by omega),if_neg (by omega),if_neg (by omega),if_pos y]);clear y;rcases y' with x |x |x |x |x |x
   all_goals
    have hq:=Ref.bq x;clear x;go_wp2_with fail;refine (fail_lex b s st 3 _ _ (zb hLL)).mono ?_;rintro e w5 ⟨rfl,hL5,hO5⟩;have hR5:=(zb hRR).keep hO5 (by unfold zt;omega);have HL5:=zc hL5;have HO5:=zc ((zb hOO).trans hO5);clear hL5 hO5 l0 l1 l2 l3 k1 k2 k3 r0 r1 r2 r3 r4 r5 u0 u1 u2 u3 u4 u5;obtain ⟨r0,r1,r2,r3,r4,r5,u0,u1,u2,u3,u4,u5⟩:=hR5;go_wp2_with fail;refine bodyPost_ret (v:=.agg #[.int .i64 0,.bool false,.slice none 0 0,.int .i64 (0),.int .i64 0,.int .i64 0]) (by simp [results,results146,go_sem,r0,r1,r2,r3,r4,r5]) rfl ?_;rw [zb HH];exact ⟨_,rfl,PartsAt.nil _ _,(zb HL5).keep (ze.six w.heap.size _ _ _ _ _ _ _) (by unfold zt;omega),(zb HO5).young (ze.six w.heap.size _ _ _ _ _ _ _) (z8 _)⟩
  have hw:Ref.wrongB (zd s st.i)=false:=by simpa using y
  simp only [Ref.wrongB,Bool.or_eq_false_iff] at hw;obtain ⟨⟨⟨⟨⟨h42,h43⟩,h63⟩,h123⟩,h125⟩,h93⟩:=hw;clear y;have h94:(zd s st.i == 94)=false:=by have:=zb n94;simp [this]
  have h36:(zd s st.i == 36)=false:=by have:=zb n36;simp [this]
  have h92:(zd s st.i == 92)=false:=by have:=zb n92;simp [this]
  have h124:(zd s st.i == 124)=false:=by have:=zb n124;simp [this]
  have h46:(zd s st.i == 46)=false:=by have:=zb n46;simp [this]
  have h91:(zd s st.i == 91)=false:=by have:=zb n91;simp [this]
  have h40:(zd s st.i == 40)=false:=by have:=zb n40;simp [this]
  have h41:(zd s st.i == 41)=false:=by have:=zb n41;simp [this]
  have HH:Hid (Ref.zv s st=(⟨1,false,[⟨false,[(oc,oc)]⟩],0,0,0⟩,st.go on)):=by
   show _=_;unfold Ref.zv;simp only [beq_eq_false_iff_ne] at *;rw [if_neg (by omega),if_neg (by omega),if_neg (by omega),if_neg (by omega),if_neg (by omega),if_neg (by omega),if_neg (by omega),if_neg (by omega),if_neg (by simp [Ref.wrongB];omega),zb Ho]
  clear n94 n36 n92 n124 n46 n91 n40 n41;go_wp2_with fail;refine (char_any b s st on oc _ (zb hLL) hs hi (zb Ho) (zb Hgn)).mono ?_;rintro e w5 ⟨sv,rfl,hsp,hL5,hO5⟩;have hR5:=(zb hRR).keep hO5 (by unfold zt;omega);obtain ⟨sa,sn,sc,rfl⟩:=zy hsp;have HS:=zc (hsp.base (base':=w.heap.size+1) (by have:=Six.lt (zb hRR);omega));have HL5:=zc hL5;have HO5:=zc ((zb hOO).trans hO5);have hsz5:w.heap.size<w5.heap.size:=hR5.lt;clear hsp hL5 hO5 l0 l1 l2 l3 k1 k2 k3 r0 r1 r2 r3 r4 r5 u0 u1 u2 u3 u4 u5;obtain ⟨r0,r1,r2,r3,r4,r5,u0,u1,u2,u3,u4,u5⟩:=hR5;go_wp2_with fail;refine bodyPost_ret (v:=.agg #[.int .i64 1,.bool false,.slice (some ⟨w5.heap.size+1,0,none⟩) 1 1,.int .i64 0,.int .i64 0,.int .i64 0]) (by simp [results,results146,go_sem,r0,r1,r2,r3,r4,r5,hsz5]) rfl ?_;rw [zb HH];refine ⟨_,rfl,?_,?_,?_⟩
  ·exact zfA _ _ _ (by simp) (by omega) _ ⟨false,[(oc,oc)]⟩ (.slice sa sn sc) rfl (((zb HS).keep ((ze.six w.heap.size w5 _ _ _ _ _ _).alloc _) (by intro g hg _ hh;unfold zt at hh;omega)).base (by omega))
  ·exact (((zb HL5).keep (ze.six w.heap.size _ _ _ _ _ _ _) (by unfold zt;omega)).alloc _).alloc _
  ·exact (((zb HO5).young (ze.six w.heap.size _ _ _ _ _ _ _) (z8 _)).alloc _).alloc _
def ToksOK (w:World)(base:Nat):List Tok->List Value->Prop
 | [],[]=>True
 |t :: ts,a0 :: a1 :: a2 :: a3 :: a4 :: a5 :: vs=>(a0 = .int .i64 t.kind/\a1 = .bool t.neg/\a3 = .int .i64 t.c/\a4 = .int .i64 t.mn/\a5 = .int .i64 t.mx)/\PartsAt w base a2 t.parts/\ToksOK w base ts vs
 |_,_=>False
def ToksAt (w:World)(base:Nat)(v:Value)(l:List Tok):Prop:=∃ cs,w.ownsRow base 308 6 v l.length cs/\ToksOK w base l cs
theorem ToksOK.keep {P:Nat->Prop}{w w':World}{base:Nat}(k:ze P w w')(hn:∀ g,base<=g->g<w.heap.size->¬P g):∀ (l:List Tok) (cs:List Value),ToksOK w base l cs->ToksOK w' base l cs
 | [],[],_=>trivial
 |_t :: ts,_a0 :: _a1 :: _a2 :: _a3 :: _a4 :: _a5 :: vs,h=>⟨h.1,h.2.1.keep k hn,ToksOK.keep k hn ts vs h.2.2⟩
 | [],_ :: _,h=>h
 |_ :: _,[],h=>h
 |_ :: _,[_],h=>h
 |_ :: _,[_,_],h=>h
 |_ :: _,[_,_,_],h=>h
 |_ :: _,[_,_,_,_],h=>h
 |_ :: _,[_,_,_,_,_],h=>h
theorem ToksAt.keep {P:Nat->Prop}{w w':World}{base:Nat}{v:Value}{l:List Tok}(h:ToksAt w base v l)(k:ze P w w')(hn:∀ g,base<=g->g<w.heap.size->¬P g):ToksAt w' base v l:=by
 obtain ⟨cs,h1,h2⟩:=h;exact ⟨cs,zn h1 k (fun g hg=>hn g (zh h1 g hg).1 (zh h1 g hg).2),ToksOK.keep k hn l cs h2⟩
theorem ToksAt.nil (w:World)(base:Nat):ToksAt w base (.slice none 0 0) []:=⟨[],qD _ _ _ _,trivial⟩
theorem SpansAt.grownT {base base':Nat}{sv v:Value}{n:Nat}{xs:List Value}{l:List (Int×Int)}(h:SpansAt w base sv l)(hr:w.ownsRow base' 308 6 v n xs)(hg:w.grownBy w' v.ownBlock):SpansAt w' base sv l:=
 zn h (ze.ofGrown hg) (fun g h1 h2=>own_ne h hr (by decide) g h1 h2)
theorem PartsOK.grownT {w w':World}{base base':Nat}{v:Value}{n:Nat}{xs:List Value}(hr:w.ownsRow base' 308 6 v n xs)(hg:w.grownBy w' v.ownBlock):∀ (l:List Pt) (cs:List Value),PartsOK w base l cs->PartsOK w' base l cs
 | [],[],_=>trivial
 |_p :: ps,_b :: _v :: vs,h=>⟨h.1,h.2.1.grownT hr hg,PartsOK.grownT hr hg ps vs h.2.2⟩
 | [],_ :: _,h=>h
 |_ :: _,[],h=>h
 |_ :: _,[_],h=>h
theorem PartsAt.grownT {w w':World}{base base':Nat}{pv v:Value}{n:Nat}{xs:List Value}{l:List Pt}(h:PartsAt w base pv l)(hr:w.ownsRow base' 308 6 v n xs)(hg:w.grownBy w' v.ownBlock):PartsAt w' base pv l:=by
 obtain ⟨cs,h1,h2⟩:=h;exact ⟨cs,zn h1 (ze.ofGrown hg) (fun g a b=>own_ne h1 hr (by decide) g a b),PartsOK.grownT hr hg l cs h2⟩
theorem ToksOK.grown {w w':World}{base base':Nat}{v:Value}{n:Nat}{xs:List Value}(hr:w.ownsRow base' 308 6 v n xs)(hg:w.grownBy w' v.ownBlock):∀ (l:List Tok) (cs:List Value),ToksOK w base l cs->ToksOK w' base l cs
 | [],[],_=>trivial
 |_t :: ts,_a0 :: _a1 :: _a2 :: _a3 :: _a4 :: _a5 :: vs,h=>⟨h.1,h.2.1.grownT hr hg,ToksOK.grown hr hg ts vs h.2.2⟩
 | [],_ :: _,h=>h
 |_ :: _,[],h=>h
 |_ :: _,[_],h=>h
 |_ :: _,[_,_],h=>h
 |_ :: _,[_,_,_],h=>h
 |_ :: _,[_,_,_,_],h=>h
 |_ :: _,[_,_,_,_,_],h=>h
theorem ToksOK.append {w:World}{base:Nat}{t:Tok}{pv:Value}(hs:PartsAt w base pv t.parts):∀ (l:List Tok) (cs:List Value),ToksOK w base l cs->ToksOK w base (l++[t]) (cs++[.int .i64 t.kind,.bool t.neg,pv,.int .i64 t.c,.int .i64 t.mn,.int .i64 t.mx])
 | [],[],_=>⟨⟨rfl,rfl,rfl,rfl,rfl⟩,hs,trivial⟩
 |_q :: ps,_a0 :: _a1 :: _a2 :: _a3 :: _a4 :: _a5 :: vs,h=>⟨h.1,h.2.1,ToksOK.append hs ps vs h.2.2⟩
 | [],_ :: _,h=>h.elim
 |_ :: _,[],h=>h.elim
 |_ :: _,[_],h=>h.elim
 |_ :: _,[_,_],h=>h.elim
 |_ :: _,[_,_,_],h=>h.elim
 |_ :: _,[_,_,_,_],h=>h.elim
 |_ :: _,[_,_,_,_,_],h=>h.elim
theorem ToksAt.appended {base:Nat}{v v':Value}{l:List Tok}{cs:List Value}{t:Tok}{pv:Value}(h1:w.ownsRow base 308 6 v l.length cs)(h2:ToksOK w base l cs)(hs:PartsAt w base pv t.parts)
  (hown:w'.ownsRow base 308 6 v' (l.length+1) (cs++[.int .i64 t.kind,.bool t.neg,pv,.int .i64 t.c,.int .i64 t.mn,.int .i64 t.mx])) (hg:w.grownBy w' v.ownBlock):ToksAt w' base v' (l++[t]):=
 ⟨cs++[.int .i64 t.kind,.bool t.neg,pv,.int .i64 t.c,.int .i64 t.mn,.int .i64 t.mx],by rw [yS];exact hown,ToksOK.append (hs.grownT h1 hg) l cs (ToksOK.grown h1 hg l cs h2)⟩
namespace Ref
def quantB (b:Int):Bool:=(b == 42) ||(b == 43) ||(b == 63) ||(b == 123)
def zen (k op:Int):Int:=if k=3 then op+1 else if k=4 then op-1 else op
def vp (s:ByteArray):Nat->List Tok->Int->Bool->St->List Tok×Int×Int
 |0,l,_,_,st=>(l,st.e,st.a)
 |f+1,l,op,atom,st=>
  if st.i<s.size/\st.e=0 then
   (if atom=true/\quantB (zd s st.i)=true then vp s f (l++[⟨6,false,[],0,(kp s st).1,(kp s st).2.1⟩]) op false (kp s st).2.2
    else if zd s st.i=40/\op=10 then ([],7,(st.i:Int))
    else vp s f (l++[(zv s st).1]) (zen (zv s st).1.kind op) (((zv s st).1.kind == 1) ||((zv s st).1.kind == 4))
     (if zen (zv s st).1.kind op<0 then (zv s st).2.fail 3 st.i else (zv s st).2))
  else (l,(if 0<op then st.fail 3 s.size else st).e,(if 0<op then st.fail 3 s.size else st).a)
def tokensR (s:ByteArray):List Tok×Int×Int:=vp s (s.size+1) [] 0 false ⟨0,0,0⟩
theorem zhg {st:St}(hg:Good s st.i)(hb:zd s st.i=40):Fine s (openF s st)/\st.i<(openF s st).i:=by
 have g1:=hg.ascii (by omega) (by omega);unfold openF;split
 ·have g2:=g1.ascii (by omega) (by omega);split
  ·have g3:=g2.ascii (by show 0<=zd s (st.i+2);omega) (by show zd s (st.i+2)<128;omega);exact ⟨⟨g3.le,fun _=>g3⟩,by simp only [St.go];omega⟩
  ·split
   ·exact ⟨Fine.fail g2.le (by decide),by rw [fail_i];simp only [St.go];omega⟩
   ·exact ⟨Fine.fail g2.le (by decide),by rw [fail_i];simp only [St.go];omega⟩
 ·exact ⟨⟨g1.le,fun _=>g1⟩,by simp only [St.go];omega⟩
theorem ze1 (s:ByteArray):∀ (f:Nat) (ps:List Pt) (st:St),Fine s st->s.size<st.i+f->(st.i<=(classF s f ps st).2.i/\(classF s f ps st).2.i<=s.size+1/\((classF s f ps st).2.e=0->Good s (classF s f ps st).2.i))
 |0,ps,st,h,hf=>by have:=h.1;omega
 |f+1,ps,st,h,hf=>by
  by_cases c1:st.e=0/\zd s st.i≠93
  ·have hg:=h.2 c1.1;by_cases c2:zd s st.i<0
   ·rw [zeZ c1 c2];exact ⟨by rw [fail_i];exact z8 _,by rw [fail_i];have:=h.1;omega,fun h0=>absurd h0 (fail_ne _ _ _ (by decide))⟩
   ·have hi:st.i<s.size:=(by rw [<-yL];omega);have m1:=zeD hg hi;by_cases c3:rangeB s (za s st).2.2=true
    ·have hr:(za s st).2.2.e=0/\zd s (za s st).2.2.i=45/\(za s st).2.2.i+1<s.size:=(by simp [rangeB] at c3;exact ⟨c3.1.1.1,c3.1.1.2,c3.1.2⟩);have g2:=(m1.1.2 hr.1).ascii (by omega) (by omega);have m2:=zeD (st:=(za s st).2.2.go 1) g2 hr.2.2;have m2':(za s st).2.2.i+1<(za s ((za s st).2.2.go 1)).2.2.i:=m2.2;by_cases c4:(za s ((za s st).2.2.go 1)).2.2.e=0
     ·by_cases c5:badB (za s st).1 (za s ((za s st).2.2.go 1)).1 (za s st).2.1 (za s ((za s st).2.2.go 1)).2.1=true
      ·rw [zff c1 c2 c3 c4 c5];exact ⟨by rw [fail_i];omega,by rw [fail_i];have:=m2.1.1;omega,fun h0=>absurd h0 (fail_ne _ _ _ (by decide))⟩
      ·rw [zeE c1 c2 c3 c4 c5];have:=ze1 s f (ps++[⟨(za s st).1.neg,[(loOf (za s st).1,loOf (za s ((za s st).2.2.go 1)).1)]⟩]) _ m2.1 (by omega);exact ⟨by omega,this.2⟩
     ·rw [ze0 c1 c2 c3 c4];dsimp only;exact ⟨by omega,by have:=m2.1.1;omega,fun h0=>absurd h0 c4⟩
    ·rw [zeJ c1 c2 c3];have:=ze1 s f (ps++[(za s st).1]) _ m1.1 (by omega);exact ⟨by omega,this.2⟩
  ·rw [zez c1];refine ⟨by simp only [St.go];omega,by have:=h.1;simp only [St.go];omega,fun h0=>?_⟩;have h0':st.e=0:=h0;have hb:zd s st.i=93:=Classical.byContradiction fun hn=>c1 ⟨h0',hn⟩;exact (h.2 h0').ascii (by omega) (by omega)
theorem zfG (s:ByteArray):∀ (f:Nat) (n:Int) (st:St),Good s st.i->Good s (countL s f n st).2.i/\(countL s f n st).2.e=st.e
 |0,n,st,h=>⟨h,rfl⟩
 |f+1,n,st,h=>by
  cases hd:digitB (zd s st.i)
  ·rw [countL_stop hd];exact ⟨h,rfl⟩
  ·rw [countL_go hd];have hb:=zeY hd;exact zfG s f _ (st.go 1) (h.ascii (by omega) (by omega))
theorem zfH {st:St}(h:Good s st.i):Good s (Kc s st).2.i:=by rw [countF_i];exact (zfG s _ 0 st h).1
end Ref
namespace Ref
theorem zhh {mn:Int}{st:St}(h:Good s st.i):Good s (restF s mn st).2.i:=by
 unfold restF;split
 ·rename_i hh;have g1:=h.ascii (by omega) (by omega);split
  ·exact g1
  ·exact zfH (st:=st.go 1) g1
 ·exact h
theorem restF_ge (s:ByteArray)(mn:Int)(st:St):st.i<=(restF s mn st).2.i:=by
 unfold restF;split
 ·split
  ·simp only [St.go];omega
  ·have:=(zeH s (st.go 1)).2.2.1;simp only [St.go] at this ⊢;omega
 ·exact z8 _
theorem braceF_i (s:ByteArray)(st:St):(braceF s st).i=st.i:=by unfold braceF;split;exact fail_i _ _ _;rfl
theorem zgz {st:St}(h:Good s st.i)(hb:zd s st.i=123):st.i<(countsF s st).2.2.i/\((countsF s st).2.2.e=0->Good s (countsF s st).2.2.i):=by
 have g1:=h.ascii (by omega) (by omega);have g2:=zhh (mn:=(Kc s (st.go 1)).1) (zfH (st:=st.go 1) g1);have l1:=(zeH s (st.go 1)).2.2.1;have l2:=restF_ge s (Kc s (st.go 1)).1 (Kc s (st.go 1)).2;have l0:(st.go 1).i=st.i+1:=rfl;unfold countsF;dsimp only;generalize restF s (Kc s (st.go 1)).1 (Kc s (st.go 1)).2=r at *;have hbi:=braceF_i s r.2;have hgi:((braceF s r.2).go 1).i=r.2.i+1:=by show (braceF s r.2).i+1=_;rw [hbi]
 split
 ·exact ⟨by rw [fail_i,hgi];omega,fun h0=>absurd h0 (fail_ne _ _ _ (by decide))⟩
 ·refine ⟨by rw [hgi];omega,fun h0=>?_⟩;rw [hgi];have h0':(braceF s r.2).e=0:=h0;by_cases hc:r.2.e=0/\zd s r.2.i≠125
  ·unfold braceF at h0';rw [if_pos hc] at h0';exact absurd h0' (fail_ne _ _ _ (by decide))
  ·unfold braceF at h0';rw [if_neg hc] at h0';have:zd s r.2.i=125:=Classical.byContradiction fun hn=>hc ⟨h0',hn⟩;exact g2.ascii (by omega) (by omega)
theorem zfY {st:St}(h:st.e=0->Good s st.i)(hi:st.i<=s.size+2):st.i<=(lazyF s st).i/\(lazyF s st).i<=s.size+2/\((lazyF s st).e=0->Good s (lazyF s st).i):=by
 unfold lazyF;split
 ·rename_i hh;have g:=(h hh.1).ascii (by omega) (by omega);have:=g.le;exact ⟨by simp only [St.go];omega,by simp only [St.go];omega,fun _=>g⟩
 ·exact ⟨z8 _,hi,h⟩
theorem zeF {b:Int}(h:quantB b=true):b=42\/b=43\/b=63\/b=123:=by simp [quantB] at h;omega
theorem zfI {st:St}(h:Good s st.i)(hb:quantB (zd s st.i)=true):st.i<(kp s st).2.2.i/\(kp s st).2.2.i<=s.size+2/\((kp s st).2.2.e=0->Good s (kp s st).2.2.i):=by
 have hq:=zeF hb;have g1:=h.ascii (by omega) (by omega);have l1:=g1.le;have one:st.i<(lazyF s (st.go 1)).i/\(lazyF s (st.go 1)).i<=s.size+2/\((lazyF s (st.go 1)).e=0->Good s (lazyF s (st.go 1)).i):=by
  have:=zfY (st:=st.go 1) (fun _=>g1) (by show st.i+1<=_;omega);exact ⟨by have:=this.1;simp only [St.go] at this ⊢;omega,this.2⟩
 unfold kp;split
 ·exact one
 split
 ·exact one
 split
 ·exact one
 ·have hb':zd s st.i=123:=by omega
  have hi:st.i<s.size:=by rw [<-yL];omega
  have c:=zgz h hb';have ci:=zgk s st hi;have:=zfY (st:=(countsF s st).2.2) c.2 ci;exact ⟨by have:=this.1;dsimp only;omega,this.2⟩
theorem zgM {st:St}(h:Good s st.i)(hi:st.i<s.size):(zv s st).2.i<=s.size+2/\((zv s st).2.e=0->st.i<(zv s st).2.i/\Good s (zv s st).2.i)/\st.i<=(zv s st).2.i:=by
 have one:0<=zd s st.i->zd s st.i<128->(st.go 1).i<=s.size+2/\((st.go 1).e=0->st.i<(st.go 1).i/\Good s (st.go 1).i)/\st.i<=(st.go 1).i:=fun a b=>by
  have g:=h.ascii a b;have:=g.le;exact ⟨by simp only [St.go];omega,fun _=>⟨by simp only [St.go];omega,g⟩,by simp only [St.go];omega⟩
 unfold zv;split
 ·exact one (by omega) (by omega)
 split
 ·rename_i hh;have g:=(h.ascii (by omega) (by omega)).ascii (by omega) (by omega);have:=g.le;exact ⟨by simp only [St.go];omega,fun _=>⟨by simp only [St.go];omega,g⟩,by simp only [St.go];omega⟩
 split
 ·exact one (by omega) (by omega)
 split
 ·exact one (by omega) (by omega)
 split
 ·have g1:=h.ascii (by omega) (by omega);have hF:Fine s (classSt s (st.go 1)):=by
   unfold classSt;split
   ·rename_i hn;simp only [notB,decide_eq_true_eq] at hn;have:=Good.ascii (s:=s) (p:=(st.go 1).i) g1 (by omega) (by omega);exact ⟨this.le,fun _=>this⟩
   ·exact ⟨g1.le,fun _=>g1⟩
  have hge:st.i+1<=(classSt s (st.go 1)).i:=by unfold classSt;split<;>simp only [St.go]<;>omega
  have hc:=ze1 s (s.size+1-(classSt s (st.go 1)).i) [] (classSt s (st.go 1)) hF (by have:=hF.1;omega);unfold classR;exact ⟨by dsimp only;omega,fun h0=>⟨by dsimp only;omega,hc.2.2 h0⟩,by dsimp only;omega⟩
 split
 ·rename_i hb;have hf:=zfn (cls:=false) h hb;exact ⟨by have:=hf.1.1;dsimp only;omega,fun h0=>⟨hf.2,hf.1.2 h0⟩,by have:=hf.2;dsimp only;omega⟩
 split
 ·rename_i hb;have hf:=zhg h hb;exact ⟨by have:=hf.1.1;dsimp only;omega,fun h0=>⟨hf.2,hf.1.2 h0⟩,by have:=hf.2;dsimp only;omega⟩
 split
 ·exact one (by omega) (by omega)
 split
 ·refine ⟨by rw [fail_i];omega,fun h0=>absurd h0 (fail_ne _ _ _ (by decide)),by rw [fail_i];omega⟩
 ·obtain ⟨n,c,ho,hg⟩:=h.next hi;rw [ho];have hb:=qC ho;exact ⟨by simp only [St.go];omega,fun _=>⟨by simp only [St.go];omega,hg⟩,by simp only [St.go];omega⟩
section
variable {s:ByteArray} {f:Nat} {l:List Tok} {op:Int} {atom:Bool} {st:St}
theorem zfa (h:st.i<s.size/\st.e=0)(h1:atom=true/\quantB (zd s st.i)=true):vp s (f+1) l op atom st=vp s f (l++[⟨6,false,[],0,(kp s st).1,(kp s st).2.1⟩]) op false (kp s st).2.2:=by
 simp only [vp];rw [if_pos h,if_pos h1]
theorem zfo (h:st.i<s.size/\st.e=0)(h1:¬(atom=true/\quantB (zd s st.i)=true))(h2:zd s st.i=40/\op=10):vp s (f+1) l op atom st=([],7,(st.i:Int)):=by
 simp only [vp];rw [if_pos h,if_neg h1,if_pos h2]
theorem zes (h:st.i<s.size/\st.e=0)(h1:¬(atom=true/\quantB (zd s st.i)=true))(h2:¬(zd s st.i=40/\op=10)):vp s (f+1) l op atom st=vp s f (l++[(zv s st).1]) (zen (zv s st).1.kind op) (((zv s st).1.kind == 1) ||((zv s st).1.kind == 4))
     (if zen (zv s st).1.kind op<0 then (zv s st).2.fail 3 st.i else (zv s st).2):=by
 simp only [vp];rw [if_pos h,if_neg h1,if_neg h2]
theorem zeK (h:¬(st.i<s.size/\st.e=0)):vp s (f+1) l op atom st=(l,(if 0<op then st.fail 3 s.size else st).e,(if 0<op then st.fail 3 s.size else st).a):=by
 simp only [vp];rw [if_neg h]
end
end Ref
end
end Go.Proofs.YtcgleficedipkaaGreatDoor
