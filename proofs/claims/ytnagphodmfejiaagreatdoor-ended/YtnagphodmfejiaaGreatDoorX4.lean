/- The reference's classes. -/
import Derived.Test.YtnagphodmfejiaaGreatDoorX3
import Derived.Deep.DeepCutAuto
namespace Go.Proofs.YtnagphodmfejiaaGreatDoor
section
open Go.RowKit
set_option maxHeartbeats 3200000
set_option maxRecDepth 100000
theorem vt (n:Int)(h1:0≤n)(h2:n≤100000):IntKind.i64.wrap n=n:=by
 rw [IntKind.wrap_i64];omega
namespace Ref
theorem za6 {s:ByteArray}{st:St}(h:¬jm s st=true):(st.e == 0)=false∨((st.e == 0)=true∧(zd s st.i == 45)=false)∨((st.e == 0)=true∧(zd s st.i == 45)=true∧¬st.i+1<s.size)∨((st.e == 0)=true∧(zd s st.i == 45)=true∧st.i+1<s.size∧zd s (st.i+1)=93):=by
 simp only [jm,Bool.and_eq_true,decide_eq_true_eq,beq_eq_false_iff_ne,beq_iff_eq] at *
 by_cases h1:st.e=0
 ·by_cases h2:zd s st.i=45
  ·by_cases h3:st.i+1<s.size
   ·by_cases h4:zd s (st.i+1)=93
    ·exact .inr (.inr (.inr ⟨h1,h2,h3,h4⟩))
    ·exact absurd ⟨⟨⟨h1,h2⟩,h3⟩,h4⟩ h
   ·exact .inr (.inr (.inl ⟨h1,h2,h3⟩))
  ·exact .inr (.inl ⟨h1,h2⟩)
 ·exact .inl h1
theorem Vf {s:ByteArray}{st:St}(hg:Good s st.i)(_he:st.e=0):vu s (yP s st):=by
 unfold yP
 split
 ·rename_i h
  simp only [notB,decide_eq_true_eq] at h
  have:=hg.ascii (by omega) (by omega)
  exact ⟨this.le,fun _=>this⟩
 ·exact ⟨hg.le,fun _=>hg⟩
end Ref
theorem wX (s:ByteArray)(k:Nat)(hk:k<s.size)(i:Int)(hi:i=(k:Int))(w:World):(Instr.index 9 (.string s) (.int .i64 i)).run Tryz.prog w = .ok (.int .u8 ((s[k]'hk).toNat:Int)) w:=by
 subst hi
 rw [run_index_string w 9 s .i64 (k:Int) Tryz.underlying9]
 simp [hk]
theorem Tryz.infoPart:(Tryz.prog.info? 274).map (fun i=>(i.zero,i.size,i.bytes))=some (some (.agg #[.bool false,.slice none 0 0]),2,32):=by kernel_rfl
theorem zc0 (b:Nat)(s:ByteArray)(st:St)(w:World)(h:Lex w b s st)(hs:s.size≤400)(hf:Ref.Good s st.i)(he:st.e=0) :
  Calls Tryz.prog 123 #[.pointer (some ⟨b,0,none⟩)] w fun x w'=>
   ∃ pv,x = .returned (.agg #[.int .i64 1,.bool (Ref.notB s st),pv,.int .i64 0,.int .i64 0,.int .i64 0])∧PartsAt w' w.heap.size pv (Ref.xm s st).1∧Lex w' b s (Ref.xm s st).2∧zf (zm b) w w':=by
 have hL1:=ze h
 have hlt:=h.lt
 have hfi:=hf.le
 have HE:=ze he
 have HG:=ze hf
 clear he hf
 have hL2:=ze (((zb hL1).alloc (.cells #[.int .i64 0,.bool false,.slice none 0 0,.int .i64 0,.int .i64 0,.int .i64 0] 178)).alloc (.cells #[.int .i64 1,.bool false,.slice none 0 0,.int .i64 0,.int .i64 0,.int .i64 0] 178))
 have hR2:=ze ((Six.new (n:=w.heap.size) (a0:=.int .i64 0) (a1:=.bool false) (a2:=.slice none 0 0) (a3:=.int .i64 0) (a4:=.int .i64 0) (a5:=.int .i64 0) w 178 rfl).keep ((zf.refl (fun _=>False) _).alloc (.cells #[.int .i64 1,.bool false,.slice none 0 0,.int .i64 0,.int .i64 0,.int .i64 0] 178)) (fun f=>f))
 have hT2:=ze (Six.new (n:=w.heap.size+1) (a0:=.int .i64 1) (a1:=.bool false) (a2:=.slice none 0 0) (a3:=.int .i64 0) (a4:=.int .i64 0) (a5:=.int .i64 0) (w.alloc (.cells #[.int .i64 0,.bool false,.slice none 0 0,.int .i64 0,.int .i64 0,.int .i64 0] 178)) 178 (by simp))
 have hO2:=ze (((zf.refl (zm b) w).alloc (.cells #[.int .i64 0,.bool false,.slice none 0 0,.int .i64 0,.int .i64 0,.int .i64 0] 178)).alloc (.cells #[.int .i64 1,.bool false,.slice none 0 0,.int .i64 0,.int .i64 0,.int .i64 0] 178))
 clear h
 go_enter Tryz.func123,Tryz.ntmps123
 go_wp2_with fail
 refine (wR b s st _ (zb hL2) hs).mono ?_
 rintro e w1 ⟨rfl,hON⟩
 have hLN:=(zb hL2).keep hON (fun f=>f)
 have hTN:=(zb hT2).keep hON (fun f=>f)
 have hRN:=(zb hR2).keep hON (fun f=>f)
 have hOO:=ze ((zb hO2).trans (hON.mono (fun _ _ f=>f.elim)))
 have hLL:=ze hLN
 have hTT:=ze hTN
 have hRR:=ze hRN
 clear hON hL2 hT2 hR2 hO2
 obtain ⟨l0,l1,l2,l3,k1,k2,k3⟩:=hLN
 obtain ⟨t0,t1,t2,t3,t4,t5,v0,v1,v2,v3,v4,v5⟩:=hTN
 obtain ⟨r0,r1,r2,r3,r4,r5,u0,u1,u2,u3,u4,u5⟩:=hRN
 go_upto_if 12 with fail
 go_cut [] (fun wx=>Lex wx b s (Ref.yP s st)∧Six wx (w.heap.size+1) (.int .i64 1) (.bool (Ref.notB s st)) (.slice none 0 0) (.int .i64 0) (.int .i64 0) (.int .i64 0)∧Six wx w.heap.size (.int .i64 0) (.bool false) (.slice none 0 0) (.int .i64 0) (.int .i64 0) (.int .i64 0)∧zf (zm b) w wx)
 case first=>
  by_cases hb:zd s st.i=94
  ·have hn:Ref.notB s st=true:=by simp [Ref.notB,hb]
   have hc:Ref.yP s st=st.go 1:=by unfold Ref.yP;rw [if_pos hn]
   have hbb:(zd s st.i == 94)=true:=by simp [hb]
   have Hn:=ze hn
   have Hc:=ze hc
   clear hn hc hb
   go_wp2_with fail
   go_meet
   case rel=>
    rw [zb Hn,zb Hc]
    exact ⟨((zb hLL).keep ((zf.refl (zm (w.heap.size+1)) w1).mine 1 (.bool true)) (by unfold zm;omega)).setI _ 1 (by omega),((zb hTT).set1 _).other ⟨b,1,none⟩ (by simp;omega) _,
     ((zb hRR).other ⟨w.heap.size+1,1,none⟩ (by simp) _).other ⟨b,1,none⟩ (by simp;omega) _,((zb hOO).young ((zf.refl (zm (w.heap.size+1)) w1).mine 1 (.bool true)) (by omega)).mine 1 _⟩
  ·have hn:Ref.notB s st=false:=by simp [Ref.notB,hb]
   have hc:Ref.yP s st=st:=by unfold Ref.yP;rw [if_neg (by simp [hn])]
   have hbb:(zd s st.i == 94)=false:=by simp [hb]
   have Hn:=ze hn
   have Hc:=ze hc
   clear hn hc hb
   go_wp2_with fail
   go_meet
   case rel=>
    rw [zb Hn,zb Hc]
    exact ⟨zb hLL,zb hTT,zb hRR,zb hOO⟩
 case rest=>
  obtain ⟨hLc,hTc,hRc,hOc⟩:=hcut
  clear l0 l1 l2 l3 k1 k2 k3 t0 t1 t2 t3 t4 t5 v0 v1 v2 v3 v4 v5 r0 r1 r2 r3 r4 r5 u0 u1 u2 u3 u4 u5 hLL hTT hRR hOO hL1
  have hF0:=Ref.Vf (zb HG) (zb HE)
  have hfi0:=hF0.1
  have Hc0:=ze (And.intro hLc (And.intro hTc (And.intro hRc (And.intro hOc hF0))))
  clear hLc hTc hRc hOc hF0
  go_wp2_with fail
  go_loopw [6] (fun d wr=>∃ (ps:List Pt) (pa:Option Addr) (pn pc:Nat) (st':St) (f:Nat),Lex wr b s st'∧Six wr (w.heap.size+1) (.int .i64 1) (.bool (Ref.notB s st)) (.slice pa pn pc) (.int .i64 0) (.int .i64 0) (.int .i64 0)∧Six wr w.heap.size (.int .i64 0) (.bool false) (.slice none 0 0) (.int .i64 0) (.int .i64 0) (.int .i64 0)∧
    PartsAt wr (w.heap.size+2) (.slice pa pn pc) ps∧zf (zm b) w wr∧Ref.vu s st'∧w.heap.size+2≤wr.heap.size∧ps.length≤st'.i∧Hid (s.size<st'.i+f)∧Hid (Ref.xm s st=Ref.yK s f ps st'))
   (fun _ wr=>s.size-lexI wr b)
  case atStart=>
   obtain ⟨h1,h2,h3,h4,h5⟩:=zb Hc0
   exact ⟨[],none,0,0,Ref.yP s st,s.size+1-(Ref.yP s st).i,h1,h2,h3,PartsAt.nil _ _,h4,h5,h2.lt,by simp,(by show _<_;omega),rfl⟩
  case round=>
   obtain ⟨ps,pa,pn,pc,st',f,hL,hT,hR,hP,hO,hFi,hsz,hpl,hf,HF⟩:=hrel
   obtain ⟨f,rfl⟩:∃ f',f=f'+1:=⟨f-1,by have:=zb hf;have:=hFi.1;omega⟩
   have hLL:=ze hL
   have hTT:=ze hT
   have hRR:=ze hR
   have hPP:=ze hP
   have hOO:=ze hO
   have hFF:=ze hFi
   have hii:st'.i≤s.size:=hFi.1
   have hLW:=ze hL
   have hPW:=ze hP
   clear Hc0 hP hO hFi hfi0
   obtain ⟨l0,l1,l2,l3,k1,k2,k3⟩:=hL
   obtain ⟨t0,t1,t2,t3,t4,t5,v0,v1,v2,v3,v4,v5⟩:=hT
   obtain ⟨r0,r1,r2,r3,r4,r5,u0,u1,u2,u3,u4,u5⟩:=hR
   by_cases e1:st'.e=0
   ·have eb:(st'.e == 0)=true:=by simp [e1]
    by_cases b1:zd s st'.i=93
    ·have bb:(zd s st'.i != 93)=false:=by simp [b1]
     have HH:Hid (Ref.xm s st=(ps,st'.go 1)):=by rw [zb HF];exact Ref.km (by intro hh;exact hh.2 b1)
     clear e1 b1
     go_wp2_with fail
     refine (zP b s st' _ (zb hLL) hs).mono ?_
     rintro e w2 ⟨rfl,nq,rfl⟩
     go_wp2_with fail
     refine bodyPost_ret (v:=.agg #[.int .i64 1,.bool (Ref.notB s st),.slice pa pn pc,.int .i64 0,.int .i64 0,.int .i64 0]) (by simp [results,Tryz.results123,go_sem,r0,r1,r2,r3,r4,r5]) rfl ?_
     rw [zb HH]
     exact ⟨_,rfl,(((zb hPP).keep (((zf.refl (zm b) wr).drewN nq).mine 1 _) (by intro g hg _ hh;unfold zm at hh;omega)).keep (zf.six w.heap.size _ _ _ _ _ _ _) (by intro g hg _ hh;unfold zm at hh;omega)).base (by omega),(((zb hLL).drewN nq).setI _ 1 (by omega)).keep (zf.six w.heap.size _ _ _ _ _ _ _) (by unfold zm;omega),(((zb hOO).drewN nq).mine 1 _).young (zf.six w.heap.size _ _ _ _ _ _ _) (Nat.le_refl _)⟩
    ·have bb:(zd s st'.i != 93)=true:=by simp [b1]
     by_cases b2:zd s st'.i<0
     ·have HH:Hid (Ref.xm s st=(ps,st'.fail 3 st'.i)):=by rw [zb HF];exact Ref.ZB ⟨e1,b1⟩ b2
      clear e1 b1
      go_wp2_with fail
      refine (zP b s st' _ (zb hLL) hs).mono ?_
      rintro e w2 ⟨rfl,nq,rfl⟩
      go_wp2_with fail
      refine (zP b s st' _ ((zb hLL).drewN _) hs).mono ?_
      rintro e w2 ⟨rfl,nq1,rfl⟩
      go_wp2_with fail
      refine (yi b s st' 3 _ _ ((zb hLL).drewN _)).mono ?_
      rintro e w5 ⟨rfl,hL9,hO9⟩
      have hT9:=((zb hTT).drewN _).keep hO9 (by unfold zm;omega)
      have hR9:=((zb hRR).drewN _).keep hO9 (by unfold zm;omega)
      have HL9:=ze hL9
      have HO9:=ze (((zb hOO).drewN _).trans hO9)
      have HP9:=ze ((zb hPP).keep (((zf.refl (zm b) wr).drewN _).trans hO9) (by intro g hg _ hh;unfold zm at hh;omega))
      clear hL9 hO9 l0 l1 l2 l3 k1 k2 k3 t0 t1 t2 t3 t4 t5 v0 v1 v2 v3 v4 v5 r0 r1 r2 r3 r4 r5 u0 u1 u2 u3 u4 u5
      obtain ⟨t0,t1,t2,t3,t4,t5,v0,v1,v2,v3,v4,v5⟩:=hT9
      obtain ⟨r0,r1,r2,r3,r4,r5,u0,u1,u2,u3,u4,u5⟩:=hR9
      go_wp2_with fail
      refine bodyPost_ret (v:=.agg #[.int .i64 1,.bool (Ref.notB s st),.slice pa pn pc,.int .i64 0,.int .i64 0,.int .i64 0]) (by simp [results,Tryz.results123,go_sem,r0,r1,r2,r3,r4,r5]) rfl ?_
      rw [zb HH]
      exact ⟨_,rfl,((zb HP9).keep (zf.six w.heap.size _ _ _ _ _ _ _) (by intro g hg _ hh;unfold zm at hh;omega)).base (by omega),(zb HL9).keep (zf.six w.heap.size _ _ _ _ _ _ _) (by unfold zm;omega),(zb HO9).young (zf.six w.heap.size _ _ _ _ _ _ _) (Nat.le_refl _)⟩
     ·have hiz:st'.i<s.size:=by rw [←zx];omega
      have hgz:Ref.Good s st'.i:=(zb hFF).2 e1
      have hmf:=Ref.kQ hgz hiz
      have hmo:=Ref.Qa hgz hiz
      have C1:=ze (And.intro e1 b1)
      clear e1 b1
      go_wp2_with fail
      refine (zP b s st' _ (zb hLL) hs).mono ?_
      rintro e w2 ⟨rfl,nq,rfl⟩
      go_wp2_with fail
      refine (zP b s st' _ ((zb hLL).drewN _) hs).mono ?_
      rintro e w2 ⟨rfl,nq1,rfl⟩
      go_wp2_with fail
      refine (Q5 b s st' _ ((zb hLL).drewN _) hs hiz hgz).mono ?_
      rintro e w2 ⟨sv,rfl,hsp,hL5,hO5⟩
      have hT5:=((zb hTT).drewN _).keep hO5 (by unfold zm;omega)
      have hR5:=((zb hRR).drewN _).keep hO5 (by unfold zm;omega)
      have hP5:=(zb hPP).keep (((zf.refl (zm b) wr).drewN _).trans hO5) (by intro g hg _ hh;unfold zm at hh;omega)
      have HO5:=ze (((zb hOO).drewN _).trans hO5)
      have hsz5:wr.heap.size≤w2.heap.size:=hO5.size
      have HOW:=ze ((((zf.refl (zm b) wr).drewN _).trans hO5).alloc (.cells #[.bool (Ref.zl s st').1.neg,sv] 274))
      have hgW:=ze (fun g (hg:sv.ownBlock=some g)=>(And.intro (show wr.heap.size≤g from (zh hsp g hg).1) (zh hsp g hg).2))
      obtain ⟨sa,sn,sc,rfl⟩:=zr hsp
      have Hsp:=ze (hsp.base (base':=w.heap.size+2) (by show _≤wr.heap.size;omega))
      generalize hm:Ref.zl s st'=m at *
      obtain ⟨p1,one,st1⟩:=m
      simp only [] at *
      have Hm:=ze hm
      have Hmf:=ze hmf
      have Hmo:=ze hmo
      have hi1:st1.i≤s.size:=hmf.1.1
      have hi2:st'.i<st1.i:=hmf.2
      clear hO5 hsp hm hmf hmo hgz l0 l1 l2 l3 k1 k2 k3 t0 t1 t2 t3 t4 t5 v0 v1 v2 v3 v4 v5 r0 r1 r2 r3 r4 r5 u0 u1 u2 u3 u4 u5
      have hL6:=hL5.alloc (.cells #[.bool p1.neg,.slice sa sn sc] 274)
      have hT6:=hT5.keep ((zf.refl (fun _=>False) w2).alloc (.cells #[.bool p1.neg,.slice sa sn sc] 274)) (fun f=>f)
      have hR6:=hR5.keep ((zf.refl (fun _=>False) w2).alloc (.cells #[.bool p1.neg,.slice sa sn sc] 274)) (fun f=>f)
      have hP6:=hP5.keep ((zf.refl (fun _=>False) w2).alloc (.cells #[.bool p1.neg,.slice sa sn sc] 274)) (fun _ _ _ f=>f)
      have hS6:=(zb Hsp).keep ((zf.refl (fun _=>False) w2).alloc (.cells #[.bool p1.neg,.slice sa sn sc] 274)) (fun _ _ _ f=>f)
      have hO6:=(zb HO5).alloc (.cells #[.bool p1.neg,.slice sa sn sc] 274)
      have hB6:=res2 (P:=fun _=>False) (n:=w2.heap.size) (zf.refl _ (w2.alloc (.cells #[.bool p1.neg,.slice sa sn sc] 274))) rfl (fun f=>f)
      have hlt2:b<w2.heap.size:=hL5.lt
      have hbd:decide (zd s st'.i<0)=false:=by simp;omega
      have H6:=ze (And.intro hL6 (And.intro hT6 (And.intro hR6 (And.intro hP6 (And.intro hS6 (And.intro hO6 hB6))))))
      obtain ⟨l0,l1,l2,l3,k1,k2,k3⟩:=hL5
      clear hL6 hT6 hR6 hP6 hS6 hO6 hB6 hT5 hR5 hP5 Hsp HO5
      go_wp2_with fail
      generalize hw3:w2.alloc (.cells #[.bool p1.neg,.slice sa sn sc] 274)=w3 at *
      clear l0 l1 l2 l3 k1 k2 k3
      obtain ⟨hL6,hT6,hR6,hP6,hS6,hO6,q0,q1,q2,q3,hq⟩:=zb H6
      have hw2:w2.heap.size<w3.heap.size:=hq
      clear hw3 H6 hq
      have hLL:=ze hL6
      have hTT:=ze hT6
      have hRR:=ze hR6
      have hPP:=ze hP6
      have hSS:=ze hS6
      have hOO:=ze hO6
      clear hP6 hS6 hO6
      obtain ⟨l0,l1,l2,l3,k1,k2,k3⟩:=hL6
      obtain ⟨t0,t1,t2,t3,t4,t5,v0,v1,v2,v3,v4,v5⟩:=hT6
      obtain ⟨r0,r1,r2,r3,r4,r5,u0,u1,u2,u3,u4,u5⟩:=hR6
      have hwr:IntKind.i64.wrap ((st1.i:Int)+1)=(st1.i:Int)+1:=vt _ (by omega) (by omega)
      by_cases hrg:Ref.jm s st1=true
      ·have hrc:(st1.e == 0)=true∧(zd s st1.i == 45)=true∧st1.i+1<s.size∧zd s (st1.i+1)≠93:=by simpa [Ref.jm,and_assoc] using hrg
       obtain ⟨y1,y2,y3,y4⟩:=hrc
       have y4':(((s[st1.i+1]'y3).toNat:Int) != 93)=true:=by rw [←yT s (st1.i+1) y3];simp [y4]
       have y3':decide ((st1.i:Int)+1<(s.size:Int))=true:=by simp;omega
       have y3'':(st1.i:Int)+1<(s.size:Int):=by omega
       have hix:∀ wx,(Instr.index 9 (.string s) (.int .i64 ((st1.i:Int)+1))).run Tryz.prog wx = .ok (.int .u8 ((s[st1.i+1]'y3).toNat:Int)) wx:=fun wx=>wX s (st1.i+1) y3 _ (by omega) wx
       have hg1:Ref.Good s st1.i:=(zb Hmf).1.2 (by simpa using y1)
       have hg2:Ref.Good s (st1.go 1).i:=hg1.ascii (by have:zd s st1.i=45:=(by simpa using y2);omega) (by have:zd s st1.i=45:=(by simpa using y2);omega)
       have hi3:(st1.go 1).i<s.size:=y3
       have Hg2:=ze hg2
       have Hrg:=ze hrg
       clear y4 hg1 hg2 hrg
       go_quiet ((go_at_call 69;exact (zP b s st1 _ (by first |exact zb hLL |exact (zb hLL).drewN _) hs).mono (by rintro e w'' ⟨rfl,n,rfl⟩;exact ⟨rfl,_,by first |rfl |(rw [World.drewN_drewN])⟩)))
       rename_i nq
       go_wp2_with fail
       have hXO:=((zf.refl (zm b) w3).drewN nq).mine 1 (.int .i64 ((st1.i:Int)+1))
       have hXL:=((zb hLL).drewN nq).setI ((st1.i:Int)+1) 1 (by omega)
       refine (Q5 b s (st1.go 1) _ hXL hs hi3 (zb Hg2)).mono ?_
       rintro e w5 ⟨sv2,rfl,hsp2,hL7,hO7⟩
       have hA7:=hXO.trans hO7
       have hT7:=(zb hTT).keep hA7 (by unfold zm;omega)
       have hR7:=(zb hRR).keep hA7 (by unfold zm;omega)
       have hP7:=(zb hPP).keep hA7 (by intro g hg _ hh;unfold zm at hh;omega)
       have hS7:=(zb hSS).keep hA7 (by intro g hg _ hh;unfold zm at hh;omega)
       have hB7:=And.intro (zg hA7 ⟨w2.heap.size,0,none⟩ _ q0 (by unfold zm;simp;omega)) (And.intro (zg hA7 ⟨w2.heap.size,1,none⟩ _ q1 (by unfold zm;simp;omega)) (And.intro (zw hA7 ⟨w2.heap.size,0,none⟩ hw2 q2 (by unfold zm;simp;omega)) (zw hA7 ⟨w2.heap.size,1,none⟩ hw2 q3 (by unfold zm;simp;omega))))
       have hO8:=(zb hOO).trans hA7
       have hW8:=((zb HOW).trans hA7)
       have hsz7:w3.heap.size≤w5.heap.size:=hA7.size
       obtain ⟨sa2,sn2,sc2,rfl⟩:=zr hsp2
       have hS2:=hsp2.base (base':=w.heap.size+2) (by show _≤_;simp;omega)
       have hmf2:=Ref.kQ (st:=st1.go 1) (zb Hg2) hi3
       have hmo2:=Ref.Qa (st:=st1.go 1) (zb Hg2) hi3
       generalize hm2:Ref.zl s (st1.go 1)=m2 at *
       obtain ⟨p2,two,st2⟩:=m2
       simp only [] at *
       have hk:=(zf.refl (fun _=>False) w5).alloc (.cells #[.bool p2.neg,.slice sa2 sn2 sc2] 274)
       have hlt5:b<w5.heap.size:=hL7.lt
       have hB8:=res2 (P:=fun _=>False) (n:=w5.heap.size) (zf.refl _ (w5.alloc (.cells #[.bool p2.neg,.slice sa2 sn2 sc2] 274))) rfl (fun f=>f)
       have HW8:=ze (hW8.alloc (.cells #[.bool p2.neg,.slice sa2 sn2 sc2] 274))
       have H8:=ze (And.intro (hL7.keep hk (fun f=>f)) (And.intro (hT7.keep hk (fun f=>f)) (And.intro (hR7.keep hk (fun f=>f)) (And.intro (hP7.keep hk (fun _ _ _ f=>f)) (And.intro (hS7.keep hk (fun _ _ _ f=>f)) (And.intro (hS2.keep hk (fun _ _ _ f=>f)) (And.intro (hO8.alloc (.cells #[.bool p2.neg,.slice sa2 sn2 sc2] 274)) (And.intro (And.intro (zg hk _ _ hB7.1 (fun f=>f)) (And.intro (zg hk _ _ hB7.2.1 (fun f=>f)) (And.intro (zw hk ⟨w2.heap.size,0,none⟩ (by show w2.heap.size<_;omega) hB7.2.2.1 (fun f=>f)) (zw hk ⟨w2.heap.size,1,none⟩ (by show w2.heap.size<_;omega) hB7.2.2.2 (fun f=>f))))) hB8))))))))
       have Hm2:=ze hm2
       have Hmf2:=ze hmf2
       have Hmo2:=ze hmo2
       have hi4:st2.i≤s.size:=hmf2.1.1
       have hi5:st1.i<st2.i:=by have:=hmf2.2;simp only [St.go] at this;omega
       clear hm2 hmf2 hmo2 hXO hXL hO7 hA7 hT7 hR7 hP7 hS7 hB7 hO8 hW8 hS2 hsp2 hk hB8 hix y4' hwr q0 q1 q2 q3 l0 l1 l2 l3 k1 k2 k3 t0 t1 t2 t3 t4 t5 v0 v1 v2 v3 v4 v5 r0 r1 r2 r3 r4 r5 u0 u1 u2 u3 u4 u5 hLL hTT hRR hPP hSS hOO
       obtain ⟨l0,l1,l2,l3,k1,k2,k3⟩:=hL7
       go_upto_region 14 with fail
       generalize hw6:w5.alloc (.cells #[.bool p2.neg,.slice sa2 sn2 sc2] 274)=w6 at *
       clear l0 l1 l2 l3 k1 k2 k3
       obtain ⟨hL8,hT8,hR8,hP8,hS8,hS9,hO9,⟨q0,q1,q2,q3⟩,⟨j0,j1,j2,j3,hj⟩⟩:=zb H8
       have hw5:w5.heap.size<w6.heap.size:=hj
       clear hw6 H8 hj
       have hLL:=ze hL8
       have hTT:=ze hT8
       have hRR:=ze hR8
       have hPP:=ze hP8
       have hSS:=ze hS8
       have hS2:=ze hS9
       have hOO:=ze hO9
       clear hP8 hS8 hS9 hO9
       obtain ⟨l0,l1,l2,l3,k1,k2,k3⟩:=hL8
       obtain ⟨t0,t1,t2,t3,t4,t5,v0,v1,v2,v3,v4,v5⟩:=hT8
       obtain ⟨r0,r1,r2,r3,r4,r5,u0,u1,u2,u3,u4,u5⟩:=hR8
       by_cases e2:st2.e=0
       ·have e2b:(st2.e != 0)=false:=by simp [e2]
        go_wp2_with fail
        have e1':st1.e=0:=by simpa using y1
        by_cases hbd2:Ref.badB p1 p2 one two=true
        ·have HH:Hid (Ref.xm s st=(ps,st2.fail 4 st1.i)):=by
          rw [zb HF]
          have:=Ref.YE (f:=f) (ps:=ps) (zb C1) (show ¬zd s st'.i<0 by omega) (by rw [zb Hm];exact zb Hrg) (by rw [zb Hm,zb Hm2];exact e2) (by rw [zb Hm,zb Hm2];exact hbd2)
          rw [zb Hm,zb Hm2] at this;exact this
         have E2:=ze e2
         have E1:=ze e1'
         clear e2 e1'
         cases one
         ·clear hbd2
          go_quiet (fail)
          go_wp2_with fail
          refine (yi b s st2 4 _ _ (by first |exact (zb hLL).drewN _)).mono ?_
          rintro e w7 ⟨rfl,hL9,hO9⟩
          have hA9:=(((zf.refl (zm b) w6).drewN _).trans hO9)
          have hT9:=(zb hTT).keep hA9 (by unfold zm;omega)
          have hR9:=(zb hRR).keep hA9 (by unfold zm;omega)
          have HP9:=ze ((zb hPP).keep hA9 (by intro g hg _ hh;unfold zm at hh;omega))
          have HL9:=ze hL9
          have HO9:=ze ((zb hOO).trans hA9)
          clear hL9 hO9 hA9 l0 l1 l2 l3 k1 k2 k3 t0 t1 t2 t3 t4 t5 v0 v1 v2 v3 v4 v5 r0 r1 r2 r3 r4 r5 u0 u1 u2 u3 u4 u5
          obtain ⟨t0,t1,t2,t3,t4,t5,v0,v1,v2,v3,v4,v5⟩:=hT9
          obtain ⟨r0,r1,r2,r3,r4,r5,u0,u1,u2,u3,u4,u5⟩:=hR9
          go_wp2_with fail
          refine bodyPost_ret (v:=.agg #[.int .i64 1,.bool (Ref.notB s st),.slice pa pn pc,.int .i64 0,.int .i64 0,.int .i64 0]) (by simp [results,Tryz.results123,go_sem,r0,r1,r2,r3,r4,r5]) rfl ?_
          rw [zb HH]
          exact ⟨_,rfl,((zb HP9).keep (zf.six w.heap.size _ _ _ _ _ _ _) (by intro g hg _ hh;unfold zm at hh;omega)).base (by omega),(zb HL9).keep (zf.six w.heap.size _ _ _ _ _ _ _) (by unfold zm;omega),(zb HO9).young (zf.six w.heap.size _ _ _ _ _ _ _) (Nat.le_refl _)⟩
         ·cases two
          ·clear hbd2
           go_quiet (fail)
           go_wp2_with fail
           refine (yi b s st2 4 _ _ (by first |exact (zb hLL).drewN _)).mono ?_
           rintro e w7 ⟨rfl,hL9,hO9⟩
           have hA9:=(((zf.refl (zm b) w6).drewN _).trans hO9)
           have hT9:=(zb hTT).keep hA9 (by unfold zm;omega)
           have hR9:=(zb hRR).keep hA9 (by unfold zm;omega)
           have HP9:=ze ((zb hPP).keep hA9 (by intro g hg _ hh;unfold zm at hh;omega))
           have HL9:=ze hL9
           have HO9:=ze ((zb hOO).trans hA9)
           clear hL9 hO9 hA9 l0 l1 l2 l3 k1 k2 k3 t0 t1 t2 t3 t4 t5 v0 v1 v2 v3 v4 v5 r0 r1 r2 r3 r4 r5 u0 u1 u2 u3 u4 u5
           obtain ⟨t0,t1,t2,t3,t4,t5,v0,v1,v2,v3,v4,v5⟩:=hT9
           obtain ⟨r0,r1,r2,r3,r4,r5,u0,u1,u2,u3,u4,u5⟩:=hR9
           go_wp2_with fail
           refine bodyPost_ret (v:=.agg #[.int .i64 1,.bool (Ref.notB s st),.slice pa pn pc,.int .i64 0,.int .i64 0,.int .i64 0]) (by simp [results,Tryz.results123,go_sem,r0,r1,r2,r3,r4,r5]) rfl ?_
           rw [zb HH]
           exact ⟨_,rfl,((zb HP9).keep (zf.six w.heap.size _ _ _ _ _ _ _) (by intro g hg _ hh;unfold zm at hh;omega)).base (by omega),(zb HL9).keep (zf.six w.heap.size _ _ _ _ _ _ _) (by unfold zm;omega),(zb HO9).young (zf.six w.heap.size _ _ _ _ _ _ _) (Nat.le_refl _)⟩
          ·obtain ⟨c,hc⟩:=zb Hmo rfl (zb E1)
           obtain ⟨d,hd⟩:=zb Hmo2 rfl (zb E2)
           have hdc:d<c:=by simpa [Ref.badB,Ref.loOf,hc,hd] using hbd2
           have s1:=zb hSS
           have s2:=zb hS2
           rw [hc] at s1
           rw [hd] at s2
           obtain ⟨g1,cap1,hv1,hb1,hb1',hc1⟩:=vV s1 (by simp)
           obtain ⟨g2,cap2,hv2,hb2,hb2',hc2⟩:=vV s2 (by simp)
           simp only [Value.slice.injEq] at hv1 hv2
           obtain ⟨rfl,rfl,rfl⟩:=hv1
           obtain ⟨rfl,rfl,rfl⟩:=hv2
           have m0:w6.cell? ⟨g1,0,none⟩=some (.int .i64 c):=s1.cells rfl 0 _ rfl
           have m1:w6.cell? ⟨g2,0,none⟩=some (.int .i64 d):=s2.cells rfl 0 _ rfl
           clear s1 s2 hbd2 hc hd
           go_quiet (fail)
           go_wp2_with fail
           refine (yi b s st2 4 _ _ (by first |exact (zb hLL).drewN _)).mono ?_
           rintro e w7 ⟨rfl,hL9,hO9⟩
           have hA9:=(((zf.refl (zm b) w6).drewN _).trans hO9)
           have hT9:=(zb hTT).keep hA9 (by unfold zm;omega)
           have hR9:=(zb hRR).keep hA9 (by unfold zm;omega)
           have HP9:=ze ((zb hPP).keep hA9 (by intro g hg _ hh;unfold zm at hh;omega))
           have HL9:=ze hL9
           have HO9:=ze ((zb hOO).trans hA9)
           clear hL9 hO9 hA9 l0 l1 l2 l3 k1 k2 k3 t0 t1 t2 t3 t4 t5 v0 v1 v2 v3 v4 v5 r0 r1 r2 r3 r4 r5 u0 u1 u2 u3 u4 u5
           obtain ⟨t0,t1,t2,t3,t4,t5,v0,v1,v2,v3,v4,v5⟩:=hT9
           obtain ⟨r0,r1,r2,r3,r4,r5,u0,u1,u2,u3,u4,u5⟩:=hR9
           go_wp2_with fail
           refine bodyPost_ret (v:=.agg #[.int .i64 1,.bool (Ref.notB s st),.slice pa pn pc,.int .i64 0,.int .i64 0,.int .i64 0]) (by simp [results,Tryz.results123,go_sem,r0,r1,r2,r3,r4,r5]) rfl ?_
           rw [zb HH]
           exact ⟨_,rfl,((zb HP9).keep (zf.six w.heap.size _ _ _ _ _ _ _) (by intro g hg _ hh;unfold zm at hh;omega)).base (by omega),(zb HL9).keep (zf.six w.heap.size _ _ _ _ _ _ _) (by unfold zm;omega),(zb HO9).young (zf.six w.heap.size _ _ _ _ _ _ _) (Nat.le_refl _)⟩
        ·have hgd:one=true∧two=true∧¬Ref.loOf p2<Ref.loOf p1:=by simpa [Ref.badB,and_assoc] using hbd2
         obtain ⟨rfl,rfl,hcd⟩:=hgd
         obtain ⟨c,hc⟩:=zb Hmo rfl e1'
         obtain ⟨d,hd⟩:=zb Hmo2 rfl e2
         have hdc:c≤d:=by simp [Ref.loOf,hc,hd] at hcd;omega
         have HF2:Hid (Ref.xm s st=Ref.yK s f (ps++[⟨p1.neg,[(c,d)]⟩]) st2):=by
          show _=_
          rw [zb HF]
          have:=Ref.kR (f:=f) (ps:=ps) (zb C1) (show ¬zd s st'.i<0 by omega) (by rw [zb Hm];exact zb Hrg) (by rw [zb Hm,zb Hm2];exact e2) (by rw [zb Hm,zb Hm2];exact hbd2)
          rw [zb Hm,zb Hm2] at this
          rw [this];simp [Ref.loOf,hc,hd]
         have s1:=zb hSS
         have s2:=zb hS2
         rw [hc] at s1
         rw [hd] at s2
         obtain ⟨g1,cap1,hv1,hb1,hb1',hc1⟩:=vV s1 (by simp)
         obtain ⟨g2,cap2,hv2,hb2,hb2',hc2⟩:=vV s2 (by simp)
         simp only [Value.slice.injEq] at hv1 hv2
         obtain ⟨rfl,rfl,rfl⟩:=hv1
         obtain ⟨rfl,rfl,rfl⟩:=hv2
         have m0:w6.cell? ⟨g1,0,none⟩=some (.int .i64 c):=s1.cells rfl 0 _ rfl
         have m1:w6.cell? ⟨g2,0,none⟩=some (.int .i64 d):=s2.cells rfl 0 _ rfl
         have m2:w6.cell? ⟨g1,1,none⟩=some (.int .i64 c):=s1.cells rfl 1 _ rfl
         have m3:w6.frozen? ⟨g1,1,none⟩=false:=s1.frozenAt 1
         have S1:=ze s1
         clear s1 s2 hbd2 hc hd hcd e2 e1'
         go_quiet (fail)
         go_wp2_with fail
         go_region
         go_upto_region 20 with fail
         have hgg:=zb hgW g1 rfl
         have hk7:=(((zf.refl (zm g1) w6).drewN (nq+1)).mine 1 (.int .i64 d))
         have hL9:=(zb hLL).keep hk7 (by unfold zm;omega)
         have hT9:=(zb hTT).keep hk7 (by unfold zm;omega)
         have hR9:=(zb hRR).keep hk7 (by unfold zm;omega)
         have hP9:=(zb hPW).keep (((zb HW8).drewN (nq+1)).fresh ⟨g1,1,none⟩ hgg.1 (.int .i64 d)) (by intro g hg _ hh;unfold zm at hh;omega)
         have hS9:yB ((w6.drewN (nq+1)).setCell ⟨g1,1,none⟩ (.int .i64 d)) (w.heap.size+2) (.slice (some ⟨g1,0,none⟩) 1 sc) [(c,d)]:=(World.ownsRow.stored (w:=w6.drewN (nq+1)) (zb S1) 1 (.int .i64 d)).1
         have hO9:=((zb hOO).drewN (nq+1)).fresh ⟨g1,1,none⟩ (show w.heap.size≤g1 by omega) (.int .i64 d)
         have z0:=zg hk7 ⟨w2.heap.size,0,none⟩ _ q0 (by unfold zm;simp;omega)
         have z1:=zg hk7 ⟨w2.heap.size,1,none⟩ _ q1 (by unfold zm;simp;omega)
         have hsz9:=hk7.size
         have H9:=ze (And.intro hL9 (And.intro hT9 (And.intro hR9 (And.intro hP9 (And.intro hS9 (And.intro hO9 (And.intro z0 (And.intro z1 hsz9))))))))
         clear hk7 hL9 hT9 hR9 hP9 hS9 hO9 z0 z1 hsz9 q0 q1 q2 q3 j0 j1 j2 j3 m0 m1 m2 m3 l0 l1 l2 l3 k1 k2 k3 t0 t1 t2 t3 t4 t5 v0 v1 v2 v3 v4 v5 r0 r1 r2 r3 r4 r5 u0 u1 u2 u3 u4 u5 hLL hTT hRR hPP hSS hS2 hOO
         generalize hw7:(w6.drewN (nq+1)).setCell ⟨g1,1,none⟩ (.int .i64 d)=w7 at *
         obtain ⟨hL9,hT9,hR9,hP9,hS9,hO9,q0,q1,hsz9⟩:=zb H9
         clear hw7 H9
         have hLL:=ze hL9
         have hTT:=ze hT9
         have hRR:=ze hR9
         have hSS:=ze hS9
         have hOO:=ze hO9
         obtain ⟨cs,hown,hpok⟩:=hP9
         clear hO9 hS9 hL9
         obtain ⟨t0,t1,t2,t3,t4,t5,v0,v1,v2,v3,v4,v5⟩:=hT9
         clear hR9
         obtain ⟨i0,hi,hz0,hz1,hz2⟩:=info_parts Tryz.infoPart
         have hls:ps.length≤400:=by omega
         have hwz:w.heap.size+2≤w7.heap.size:=by omega
         go_wp2_with (at_builtin;refine wpList_append_own _ rfl _ _ 176 rfl (w.heap.size+2) 274 i0 (.agg #[.bool false,.slice none 0 0]) 2 32 Tryz.underlying176 hi hz0 hz1 hz2 rfl (by decide) _ _ _ rfl (World.ownsRow.alloc hown _) _ 1 1 [.bool p1.neg,.slice (some ⟨g1,0,none⟩) 1 sc] rfl rfl (cell_two_new _ _ _ _) (fun x hx=>by simp at hx;rcases hx with rfl |rfl<;>rfl) (by unfold maxLen;omega) (by omega) (by simp;omega) ?_;intro v' w8 hown' hgrow hnil;obtain ⟨pa',pn',pc',rfl⟩:=zr hown';have kx:=(((zf.refl (fun k=>(Value.slice pa pn pc).ownBlock=some k) w7).alloc _).trans (zf.ofGrown hgrow));have hT7:=(zb hTT).keep kx (by intro hh;have:=(zh hown _ hh).1;omega);have X:=ze (And.intro hT7 (And.intro hown' (And.intro hgrow kx)));clear hown' hgrow hnil kx t0 t1 t2 t3 t4 t5 v0 v1 v2 v3 v4 v5;obtain ⟨t0,t1,t2,t3,t4,t5,v0,v1,v2,v3,v4,v5⟩:=hT7)
         obtain ⟨hT7,hown',hgrow,kx⟩:=zb X
         have hbb:¬(Value.slice pa pn pc).ownBlock=some b:=by intro hh;have:=(zh hown _ hh).1;omega
         have hbr:¬(Value.slice pa pn pc).ownBlock=some w.heap.size:=by intro hh;have:=(zh hown _ hh).1;omega
         have hLn:=((zb hLL).keep kx hbb).keep ((zf.refl (zm (w.heap.size+1)) w8).mine 2 (.slice pa' pn' pc')) (by unfold zm;omega)
         have hRn:=((zb hRR).keep kx hbr).other ⟨w.heap.size+1,2,none⟩ (by simp) (.slice pa' pn' pc')
         have hTn:=hT7.set2 (.slice pa' pn' pc')
         have hPn:=(PartsAt.appended (p:=⟨p1.neg,[(c,d)]⟩) (World.ownsRow.alloc hown _) (yz.keep (w:=w7) ((zf.refl (fun _=>False) w7).alloc _) (fun _ _ _ f=>f) ps cs hpok) ((zb hSS).keep ((zf.refl (fun _=>False) w7).alloc _) (fun _ _ _ f=>f)) hown' hgrow).keep ((zf.refl (zm (w.heap.size+1)) w8).mine 2 (.slice pa' pn' pc')) (by intro g hg _ hh;unfold zm at hh;omega)
         have hOn:=((((zb hOO).alloc _).grown hgrow (fun j hj=>Or.inr (by have:=(zh hown j hj).1;omega)))).young ((zf.refl (zm (w.heap.size+1)) w8).mine 2 (.slice pa' pn' pc')) (by omega)
         go_roundw
         case rel=>exact ⟨ps++[⟨p1.neg,[(c,d)]⟩],pa',pn',pc',st2,f,hLn,hTn,hRn,hPn,hOn,(zb Hmf2).1,by have:=kx.size;simp [World.setCell];omega,by simp;omega,(by have:=zb hf;show _<_;omega),HF2⟩
         case measure=>rw [qP hLn];have:=qP (zb hLW);rw [this];omega
       ·have e2b:(st2.e != 0)=true:=by simp [e2]
        have HH:Hid (Ref.xm s st=(ps,st2)):=by
         rw [zb HF]
         have:=Ref.ZC (f:=f) (ps:=ps) (zb C1) (show ¬zd s st'.i<0 by omega) (by rw [zb Hm];exact zb Hrg) (by rw [zb Hm,zb Hm2];exact e2)
         rw [zb Hm,zb Hm2] at this;exact this
        clear e2
        go_wp2_with fail
        refine bodyPost_ret (v:=.agg #[.int .i64 1,.bool (Ref.notB s st),.slice pa pn pc,.int .i64 0,.int .i64 0,.int .i64 0]) (by simp [results,Tryz.results123,go_sem,r0,r1,r2,r3,r4,r5]) rfl ?_
        rw [zb HH]
        exact ⟨_,rfl,((zb hPP).keep (zf.six w.heap.size _ _ _ _ _ _ _) (by intro g hg _ hh;unfold zm at hh;omega)).base (by omega),(zb hLL).keep (zf.six w.heap.size _ _ _ _ _ _ _) (by unfold zm;omega),(zb hOO).young (zf.six w.heap.size _ _ _ _ _ _ _) (Nat.le_refl _)⟩
      ·have HF2:Hid (Ref.xm s st=Ref.yK s f (ps++[p1]) st1):=by
        rw [zb HF];have:=Ref.vq (f:=f) (ps:=ps) (zb C1) (show ¬zd s st'.i<0 by omega) (by rw [zb Hm];exact hrg);rw [zb Hm] at this;exact this
       have hcs:=Ref.za6 hrg
       clear hrg
       obtain ⟨i0,hi,hz0,hz1,hz2⟩:=info_parts Tryz.infoPart
       obtain ⟨cs,hown,hpok⟩:=zb hPP
       have hls:ps.length≤400:=by omega
       have HI:=ze (And.intro hi (And.intro hz0 (And.intro hz1 (And.intro hz2 (And.intro hown hpok)))))
       clear hi hz0 hz1 hz2 hown hpok
       have hwz:w.heap.size+2≤w3.heap.size:=by omega
       rcases hcs with y1 |⟨y1,y2⟩ |⟨y1,y2,y3⟩ |⟨y1,y2,y3,y4⟩
       case' inr.inr.inl=>have y3':decide ((st1.i:Int)+1<(s.size:Int))=false:=by simp;omega
       case' inr.inr.inr=>have y4':(((s[st1.i+1]'y3).toNat:Int) != 93)=false:=by rw [←yT s (st1.i+1) y3];simp [y4]
       case' inr.inr.inr=>have y3':decide ((st1.i:Int)+1<(s.size:Int))=true:=by simp;omega
       case' inr.inr.inr=>have y3'':(st1.i:Int)+1<(s.size:Int):=by omega
       case' inr.inr.inr=>have hix:∀ wx,(Instr.index 9 (.string s) (.int .i64 ((st1.i:Int)+1))).run Tryz.prog wx = .ok (.int .u8 ((s[st1.i+1]'y3).toNat:Int)) wx:=fun wx=>wX s (st1.i+1) y3 _ (by omega) wx
       case' inr.inr.inr=>clear y4
       all_goals
        go_quiet ((go_at_call 69;exact (zP b s st1 _ (by first |exact zb hLL |exact (zb hLL).drewN _) hs).mono (by rintro e w'' ⟨rfl,n,rfl⟩;exact ⟨rfl,_,by first |rfl |(rw [World.drewN_drewN])⟩)))
        obtain ⟨hi,hz0,hz1,hz2,hown,hpok⟩:=zb HI
        go_wp2_with (at_builtin;refine wpList_append_own _ rfl _ _ 176 rfl (w.heap.size+2) 274 i0 (.agg #[.bool false,.slice none 0 0]) 2 32 Tryz.underlying176 hi hz0 hz1 hz2 rfl (by decide) _ _ _ rfl (World.ownsRow.alloc (w:=w3.drewN _) hown _) _ 1 1 [.bool p1.neg,.slice sa sn sc] rfl rfl (cell_two_new _ _ _ _) (fun x hx=>by simp at hx;rcases hx with rfl |rfl<;>rfl) (by unfold maxLen;omega) (by omega) (by simp;omega) ?_;intro v' w5 hown' hgrow hnil;obtain ⟨pa',pn',pc',rfl⟩:=zr hown';have kx:=((((zf.refl (fun k=>(Value.slice pa pn pc).ownBlock=some k) w3).drewN _).alloc _).trans (zf.ofGrown hgrow));have hT7:=(zb hTT).keep kx (by intro hh;have:=(zh hown _ hh).1;omega);have X:=ze (And.intro hT7 (And.intro hown' (And.intro hgrow kx)));clear hown' hgrow hnil kx t0 t1 t2 t3 t4 t5 v0 v1 v2 v3 v4 v5;obtain ⟨t0,t1,t2,t3,t4,t5,v0,v1,v2,v3,v4,v5⟩:=hT7)
        obtain ⟨hT7,hown',hgrow,kx⟩:=zb X
        have hbb:¬(Value.slice pa pn pc).ownBlock=some b:=by intro hh;have:=(zh hown _ hh).1;omega
        have hbr:¬(Value.slice pa pn pc).ownBlock=some w.heap.size:=by intro hh;have:=(zh hown _ hh).1;omega
        have hLn:=((zb hLL).keep kx hbb).keep ((zf.refl (zm (w.heap.size+1)) w5).mine 2 (.slice pa' pn' pc')) (by unfold zm;omega)
        have hRn:=((zb hRR).keep kx hbr).other ⟨w.heap.size+1,2,none⟩ (by simp) (.slice pa' pn' pc')
        have hTn:=hT7.set2 (.slice pa' pn' pc')
        have hPn:=(PartsAt.appended (p:=p1) (World.ownsRow.alloc (w:=w3.drewN _) hown _) (yz.keep (w:=w3) (((zf.refl (fun _=>False) w3).drewN _).alloc _) (fun _ _ _ f=>f) ps cs hpok) ((zb hSS).keep (((zf.refl (fun _=>False) w3).drewN _).alloc _) (fun _ _ _ f=>f)) hown' hgrow).keep ((zf.refl (zm (w.heap.size+1)) w5).mine 2 (.slice pa' pn' pc')) (by intro g hg _ hh;unfold zm at hh;omega)
        have hOn:=(((((zb hOO).drewN _).alloc _).grown hgrow (fun j hj=>Or.inr (by have:=(zh hown j hj).1;omega)))).young ((zf.refl (zm (w.heap.size+1)) w5).mine 2 (.slice pa' pn' pc')) (by omega)
        go_roundw
        case rel=>exact ⟨ps++[p1],pa',pn',pc',st1,f,hLn,hTn,hRn,hPn,hOn,(zb Hmf).1,by have:=kx.size;simp [World.setCell];omega,by simp;omega,(by have:=zb hf;show _<_;omega),HF2⟩
        case measure=>rw [qP hLn];have:=qP (zb hLW);rw [this];omega
   ·have eb:(st'.e == 0)=false:=by simp [e1]
    have HH:Hid (Ref.xm s st=(ps,st'.go 1)):=by rw [zb HF];exact Ref.km (by intro hh;exact e1 hh.1)
    clear e1
    go_wp2_with fail
    refine bodyPost_ret (v:=.agg #[.int .i64 1,.bool (Ref.notB s st),.slice pa pn pc,.int .i64 0,.int .i64 0,.int .i64 0]) (by simp [results,Tryz.results123,go_sem,r0,r1,r2,r3,r4,r5]) rfl ?_
    rw [zb HH]
    exact ⟨_,rfl,(((zb hPP).keep ((zf.refl (zm b) wr).mine 1 _) (by intro g hg _ hh;unfold zm at hh;omega)).keep (zf.six w.heap.size _ _ _ _ _ _ _) (by intro g hg _ hh;unfold zm at hh;omega)).base (by omega),((zb hLL).setI _ 1 (by omega)).keep (zf.six w.heap.size _ _ _ _ _ _ _) (by unfold zm;omega),((zb hOO).mine 1 _).young (zf.six w.heap.size _ _ _ _ _ _ _) (Nat.le_refl _)⟩
end
end Go.Proofs.YtnagphodmfejiaaGreatDoor
