/- The reference's members, openings and counts. -/
import Derived.Test.YtcgleficedipkaaGreatDoorYRefARefJ
import Derived.Deep.DeepCutAuto
namespace Go.Proofs.YtcgleficedipkaaGreatDoor
open _root_.Go.Proofs.Tryz
variable (n b:Nat){s:ByteArray}{cls:Bool}{w w':World}{f:Nat}
section
open Go.RowKit
set_option maxHeartbeats 800000
namespace Ref
def za (s:ByteArray)(st:St):Pt×Bool×St:=
 if zd s st.i=92 then jv s true st
 else match oneF s st.i with
  |some (n,c)=>(⟨false,[(c,c)]⟩,true,st.go n)
  |none=>(⟨false,[]⟩,true,st)
def openF (s:ByteArray)(st:St):St:=
 if zd s (st.i+1)=63 then
  (if zd s (st.i+2)=58 then st.go 3
   else if zd s (st.i+2)=61\/zd s (st.i+2)=33\/zd s (st.i+2)=60 then (st.go 2).fail 6 st.i
   else (st.go 2).fail 3 ((st.i+2:Nat):Int))
 else st.go 1
def digitB (b:Int):Bool:=decide (48<=b) && decide (b<=57)
def countL (s:ByteArray):Nat->Int->St->Int×St
 |0,n,st=>(n,st)
 |f+1,n,st=>if digitB (zd s st.i)=true then countL s f (if n<=100 then 10*n+zd s st.i-48 else n) (st.go 1) else (n,st)
def countN (s:ByteArray)(st:St):Int×St:=countL s (s.size+1-st.i) 0 st
def Kc (s:ByteArray)(st:St):Int×St:=
 let r:=countN s st
 let st1:=if r.2.i=st.i then r.2.fail 3 st.i else r.2
 (r.1,if 100<r.1 then st1.fail 5 st.i else st1)
theorem countL_stop {n:Int}{st:St}(h:digitB (zd s st.i)=false):countL s (f+1) n st=(n,st):=by simp [countL,h]
theorem countL_go {n:Int}{st:St}(h:digitB (zd s st.i)=true):countL s (f+1) n st=countL s f (if n<=100 then 10*n+zd s st.i-48 else n) (st.go 1):=by simp [countL,h]
end Ref
theorem ze.undrewN {P:Nat->Prop}{a w:World}{n:Nat}(h:ze P (a.drewN n) w):ze P a w:=⟨h.os,h.tape,h.output,h.size,h.block⟩
theorem res2 {P:Nat->Prop}{W w:World}{n:Nat}{a0 a1:Value}{T:TypeId}(h:ze P (W.alloc (.cells #[a0,a1] T)) w)(hn:W.heap.size=n)(hp:¬P n) :
  w.cell? ⟨n,0,none⟩=some a0/\w.cell? ⟨n,1,none⟩=some a1/\w.frozen? ⟨n,0,none⟩=false/\w.frozen? ⟨n,1,none⟩=false/\n<w.heap.size:=
 have r0:=zg h ⟨n,0,none⟩ _ (zm _ _ hn _ _ 0 _ rfl) hp
 ⟨r0,zg h ⟨n,1,none⟩ _ (zm _ _ hn _ _ 1 _ rfl) hp,zP h ⟨n,0,none⟩ (by simp;omega) (zG _ _ hn _ _ 0) hp,zP h ⟨n,1,none⟩ (by simp;omega) (zG _ _ hn _ _ 1) hp,
  zE w ⟨n,0,none⟩ r0⟩
theorem res6 {P:Nat->Prop}{W w:World}{n:Nat}{a0 a1 a2 a3 a4 a5:Value}{T:TypeId}(h:ze P (W.alloc (.cells #[a0,a1,a2,a3,a4,a5] T)) w)(hn:W.heap.size=n)(hp:¬P n) :
  (w.cell? ⟨n,0,none⟩=some a0/\w.cell? ⟨n,1,none⟩=some a1/\w.cell? ⟨n,2,none⟩=some a2/\w.cell? ⟨n,3,none⟩=some a3/\w.cell? ⟨n,4,none⟩=some a4/\w.cell? ⟨n,5,none⟩=some a5)/\
  (w.frozen? ⟨n,0,none⟩=false/\w.frozen? ⟨n,1,none⟩=false/\w.frozen? ⟨n,2,none⟩=false/\w.frozen? ⟨n,3,none⟩=false/\w.frozen? ⟨n,4,none⟩=false/\w.frozen? ⟨n,5,none⟩=false)/\n<w.heap.size:=
 have r0:=zg h ⟨n,0,none⟩ _ (zm _ _ hn _ _ 0 _ rfl) hp
 ⟨⟨r0,zg h ⟨n,1,none⟩ _ (zm _ _ hn _ _ 1 _ rfl) hp,zg h ⟨n,2,none⟩ _ (zm _ _ hn _ _ 2 _ rfl) hp,zg h ⟨n,3,none⟩ _ (zm _ _ hn _ _ 3 _ rfl) hp,zg h ⟨n,4,none⟩ _ (zm _ _ hn _ _ 4 _ rfl) hp,zg h ⟨n,5,none⟩ _ (zm _ _ hn _ _ 5 _ rfl) hp⟩,
  ⟨zP h ⟨n,0,none⟩ (by simp;omega) (zG _ _ hn _ _ 0) hp,zP h ⟨n,1,none⟩ (by simp;omega) (zG _ _ hn _ _ 1) hp,zP h ⟨n,2,none⟩ (by simp;omega) (zG _ _ hn _ _ 2) hp,
  zP h ⟨n,3,none⟩ (by simp;omega) (zG _ _ hn _ _ 3) hp,zP h ⟨n,4,none⟩ (by simp;omega) (zG _ _ hn _ _ 4) hp,zP h ⟨n,5,none⟩ (by simp;omega) (zG _ _ hn _ _ 5) hp⟩,
  zE w ⟨n,0,none⟩ r0⟩
theorem zy {base:Nat}{T:TypeId}{size:Nat}{v:Value}{n:Nat}{xs:List Value}(h:w.ownsRow base T size v n xs):∃ a k c,v = .slice a k c:=by
 obtain ⟨h1,h2⟩:=h;rcases h2 with ⟨rfl,_⟩ |⟨g,cap,cur,rfl,_⟩
 ·exact ⟨_,_,_,rfl⟩
 ·exact ⟨_,_,_,rfl⟩
theorem ze.two (w:World)(u0 u1:Value):ze (zt n) w ((w.setCell ⟨n,0,none⟩ u0).setCell ⟨n,1,none⟩ u1):=((ze.refl _ _).mine _ _).mine _ _
theorem ze.six (w:World)(u0 u1 u2 u3 u4 u5:Value):ze (zt n) w ((((((w.setCell ⟨n,0,none⟩ u0).setCell ⟨n,1,none⟩ u1).setCell ⟨n,2,none⟩ u2).setCell ⟨n,3,none⟩ u3).setCell ⟨n,4,none⟩ u4).setCell ⟨n,5,none⟩ u5):=
 ((((((ze.refl _ _).mine _ _).mine _ _).mine _ _).mine _ _).mine _ _).mine _ _
theorem ze.young {P:Nat->Prop}{a w w':World}{n:Nat}(h:ze P a w)(k:ze (zt n) w w')(hn:a.heap.size<=n):ze P a w':=
 ⟨k.os.trans h.os,k.tape.trans h.tape,k.output.trans h.output,yZ h.size k.size,fun i hi hp=>(k.block i (yh hi h.size) (by unfold zt;omega)).trans (h.block i hi hp)⟩
theorem zfV (s:ByteArray)(st:St)(w:World)(h:Lex w b s st)(hs:s.size<=400)(hi:st.i<s.size)(hg:Ref.Good s st.i) :
  Calls prog 214 #[.pointer (some ⟨b,0,none⟩)] w fun x w'=>
   ∃ sv,x = .returned (.tuple #[.agg #[.bool (Ref.za s st).1.neg,sv],.bool (Ref.za s st).2.1])/\SpansAt w' w.heap.size sv (Ref.za s st).1.spans/\
    Lex w' b s (Ref.za s st).2.2/\ze (zt b) w w':=by
 have hlt:=h.lt;obtain ⟨n,c,ho,hgn⟩:=hg.next hi;have hL1:=zc (h.alloc (.cells #[.bool false,.slice none 0 0] 336));by_cases hb:zd s st.i=92
 ·have hbb:(zd s st.i == 92)=true:=by simp [hb]
  have HF:Hid (Ref.za s st=Ref.jv s true st):=by show _=_;unfold Ref.za;rw [if_pos hb]
  clear ho hg hgn hb;go_enter func214,ntmps214;go_wp2_with fail;refine (now_lex b s st _ (zb hL1) hs).mono ?_;rintro e w1 ⟨rfl,nq,rfl⟩;go_wp2_with fail;refine (zfS b s true st _ ((zb hL1).drewN _) hs hi).mono ?_;rintro e w2 ⟨sv,rfl,hsp,hL2,hO2⟩;obtain ⟨r0,r1,r2,r3,hsz⟩:=res2 hO2.undrewN rfl (by unfold zt;omega);have Hsp:=zc (hsp.base (base':=w.heap.size+1) (by simp));have HL2:=zc hL2;have HO2:=zc hO2.undrewN;obtain ⟨v0,v1,v2,rfl⟩:=zy hsp;clear hsp hL2 hO2;go_wp2_with fail;refine bodyPost_ret (v:=.tuple #[.agg #[.bool (Ref.jv s true st).1.neg,.slice v0 v1 v2],.bool (Ref.jv s true st).2.1]) (by simp [results,results214,go_sem,r0,r1]) rfl ?_;rw [zb HF];refine ⟨_,rfl,?_,?_,?_⟩
  ·exact ((zb Hsp).keep (ze.two w.heap.size _ _ _) (by intro g hg _ hh;unfold zt at hh;omega)).base (by omega)
  ·exact (zb HL2).keep (ze.two w.heap.size _ _ _) (by unfold zt;omega)
  ·exact (((ze.refl _ _).alloc _).trans (zb HO2)).young (ze.two w.heap.size _ _ _) (z8 _)
 ·have hbb:(zd s st.i == 92)=false:=by simp [hb]
  have HF:Hid (Ref.za s st=(⟨false,[(c,c)]⟩,true,st.go n)):=by show _=_;unfold Ref.za;rw [if_neg hb,ho]
  have Ho:=zc ho;have Hg:=zc hgn;clear ho hg hgn hb;go_enter func214,ntmps214;go_wp2_with fail;refine (now_lex b s st _ (zb hL1) hs).mono ?_;rintro e w1 ⟨rfl,nq,rfl⟩;go_wp2_with fail;refine (char_any b s st n c _ ((zb hL1).drewN _) hs hi (zb Ho) (zb Hg)).mono ?_;rintro e w2 ⟨sv,rfl,hsp,hL2,hO2⟩;obtain ⟨r0,r1,r2,r3,hsz⟩:=res2 hO2.undrewN rfl (by unfold zt;omega);have Hsp:=zc (hsp.base (base':=w.heap.size+1) (by simp));have HL2:=zc hL2;have HO2:=zc hO2.undrewN;obtain ⟨v0,v1,v2,rfl⟩:=zy hsp;clear hsp hL2 hO2;go_wp2_with fail;refine bodyPost_ret (v:=.tuple #[.agg #[.bool false,.slice v0 v1 v2],.bool true]) (by simp [results,results214,go_sem,r0,r1]) rfl ?_;rw [zb HF];refine ⟨_,rfl,?_,?_,?_⟩
  ·exact ((zb Hsp).keep (ze.two w.heap.size _ _ _) (by intro g hg _ hh;unfold zt at hh;omega)).base (by omega)
  ·exact (zb HL2).keep (ze.two w.heap.size _ _ _) (by unfold zt;omega)
  ·exact (((ze.refl _ _).alloc _).trans (zb HO2)).young (ze.two w.heap.size _ _ _) (z8 _)
theorem open_any (s:ByteArray)(st:St)(w:World)(h:Lex w b s st)(hs:s.size<=400)(hi:st.i<s.size) :
  Calls prog 181 #[.pointer (some ⟨b,0,none⟩)] w fun x w'=>
   x = .returned (.agg #[.int .i64 3,.bool false,.slice none 0 0,.int .i64 0,.int .i64 0,.int .i64 0])/\Lex w' b s (Ref.openF s st)/\ze (zt b) w w':=by
 have hlt:=h.lt;have hL1:=zc h;obtain ⟨c0,c1,c2,c3,f1,f2,f3⟩:=h;go_enter func181,ntmps181;go_wp2_with fail;have hL2:=zc (((zb hL1).setI ((st.i:Int)+1) 1 (by omega)).alloc (.cells #[.int .i64 0,.bool false,.slice none 0 0,.int .i64 0,.int .i64 0,.int .i64 0] 308));have hO1:=zc (((ze.refl (zt b) w).mine 1 (.int .i64 ((st.i:Int)+1))).alloc (.cells #[.int .i64 0,.bool false,.slice none 0 0,.int .i64 0,.int .i64 0,.int .i64 0] 308));refine (now_lex b s (st.go 1) _ (zb hL2) hs).mono ?_;rintro e w1 ⟨rfl,nq,rfl⟩;simp only [St.go];by_cases h1:zd s (st.i+1)=63
 ·have hb1:(zd s (st.i+1) == 63)=true:=by simp [h1]
  go_wp2_with fail;have hL3:=zc (((zb hL2).drewN nq).setI ((st.i:Int)+1+1) 1 (by simp only [St.go];omega));have hO3:=zc (((zb hO1).drewN nq).mine 1 (.int .i64 ((st.i:Int)+1+1)));refine (now_lex b s ((st.go 1).go 1) _ (zb hL3) hs).mono ?_;rintro e w1 ⟨rfl,nq1,rfl⟩;simp only [St.go];rw [show st.i+1+1=st.i+2 from rfl];by_cases h2:zd s (st.i+2)=58
  ·have hb2:(zd s (st.i+2) == 58)=true:=(by simp [h2]);have HF:Hid (Ref.openF s st=st.go 3):=(by show _=_;unfold Ref.openF;rw [if_pos h1,if_pos h2]);clear h1 h2;go_wp2_with fail;refine bodyPost_ret (v:=.agg #[.int .i64 3,.bool false,.slice none 0 0,.int .i64 0,.int .i64 0,.int .i64 0]) (by simp [results,results181,go_sem]) rfl ?_;rw [zb HF];exact ⟨rfl,(((zb hL3).drewN nq1).setI _ 1 (by simp only [St.go];omega)).keep (ze.six w.heap.size _ _ _ _ _ _ _) (by unfold zt;omega),(((zb hO3).drewN nq1).mine 1 _).young (ze.six w.heap.size _ _ _ _ _ _ _) (z8 _)⟩
  ·have hb2:(zd s (st.i+2) == 58)=false:=(by simp [h2]);by_cases h3:zd s (st.i+2)=61\/zd s (st.i+2)=33\/zd s (st.i+2)=60
   ·have HF:Hid (Ref.openF s st=(st.go 2).fail 6 st.i):=(by show _=_;unfold Ref.openF;rw [if_pos h1,if_neg h2,if_pos h3]);have h3':(zd s (st.i+2) == 61)=true\/(zd s (st.i+2) == 61)=false/\((zd s (st.i+2) == 33)=true\/(zd s (st.i+2) == 33)=false/\(zd s (st.i+2) == 60)=true):=(by simp;omega);clear h1 h2 h3;rcases h3' with y1 |⟨y1,y2 |⟨y2,y3⟩⟩
    all_goals
     go_wp2_with fail;refine (fail_lex b s (st.go 2) 6 _ _ ((zb hL3).drewN nq1)).mono ?_;rintro e w2 ⟨rfl,hL4,hO4⟩;obtain ⟨⟨r0,r1,r2,r3,r4,r5⟩,⟨q0,q1,q2,q3,q4,q5⟩,hsz⟩:=res6 (P:=zt b) (n:=w.heap.size) (((((ze.refl _ _).drewN nq).mine 1 _).drewN nq1).trans hO4) (by simp) (by unfold zt;omega);have HL4:=zc hL4;have HO4:=zc (((zb hO3).drewN nq1).trans hO4);clear hL4 hO4;go_wp2_with fail;refine bodyPost_ret (v:=.agg #[.int .i64 3,.bool false,.slice none 0 0,.int .i64 0,.int .i64 0,.int .i64 0]) (by simp [results,results181,go_sem,r0,r1,r2,r3,r4,r5]) rfl ?_;rw [zb HF];exact ⟨rfl,(zb HL4).keep (ze.six w.heap.size _ _ _ _ _ _ _) (by unfold zt;omega),(zb HO4).young (ze.six w.heap.size _ _ _ _ _ _ _) (z8 _)⟩
   ·have HF:Hid (Ref.openF s st=(st.go 2).fail 3 ((st.i+2:Nat):Int)):=(by show _=_;unfold Ref.openF;rw [if_pos h1,if_neg h2,if_neg h3]);have h3':(zd s (st.i+2) == 61)=false/\(zd s (st.i+2) == 33)=false/\(zd s (st.i+2) == 60)=false:=(by simp;omega);obtain ⟨y1,y2,y3⟩:=h3';clear h1 h2 h3;go_wp2_with fail;refine (fail_lex b s (st.go 2) 3 _ _ ((zb hL3).drewN nq1)).mono ?_;rintro e w2 ⟨rfl,hL4,hO4⟩;obtain ⟨⟨r0,r1,r2,r3,r4,r5⟩,⟨q0,q1,q2,q3,q4,q5⟩,hsz⟩:=res6 (P:=zt b) (n:=w.heap.size) (((((ze.refl _ _).drewN nq).mine 1 _).drewN nq1).trans hO4) (by simp) (by unfold zt;omega);have HL4:=zc hL4;have HO4:=zc (((zb hO3).drewN nq1).trans hO4);clear hL4 hO4;go_wp2_with fail;refine bodyPost_ret (v:=.agg #[.int .i64 3,.bool false,.slice none 0 0,.int .i64 0,.int .i64 0,.int .i64 0]) (by simp [results,results181,go_sem,r0,r1,r2,r3,r4,r5]) rfl ?_;rw [zb HF];exact ⟨rfl,(zb HL4).keep (ze.six w.heap.size _ _ _ _ _ _ _) (by unfold zt;omega),(zb HO4).young (ze.six w.heap.size _ _ _ _ _ _ _) (z8 _)⟩
 ·have hb1:(zd s (st.i+1) == 63)=false:=by simp [h1]
  have HF:Hid (Ref.openF s st=st.go 1):=by show _=_;unfold Ref.openF;rw [if_neg h1]
  clear h1;go_wp2_with fail;refine bodyPost_ret (v:=.agg #[.int .i64 3,.bool false,.slice none 0 0,.int .i64 0,.int .i64 0,.int .i64 0]) (by simp [results,results181,go_sem]) rfl ?_;rw [zb HF];exact ⟨rfl,((zb hL2).drewN nq).keep (ze.six w.heap.size _ _ _ _ _ _ _) (by unfold zt;omega),((zb hO1).drewN nq).young (ze.six w.heap.size _ _ _ _ _ _ _) (z8 _)⟩
namespace Ref
theorem zeY {b:Int}(h:digitB b=true):48<=b/\b<=57:=by simpa [digitB] using h
theorem zgu {b:Int}(h:digitB b=false):¬(48<=b/\b<=57):=by
 intro ⟨h1,h2⟩;simp [digitB,h1,h2] at h
theorem zev {st st':St}{n:Int}(h:countN s st=(n,st')):Kc s st=(n,if 100<n then (if st'.i=st.i then st'.fail 3 st.i else st').fail 5 st.i else (if st'.i=st.i then st'.fail 3 st.i else st')):=by
 unfold Kc;rw [h]
end Ref
def lexI (w:World)(b:Nat):Nat:=match w.cell? ⟨b,1,none⟩ with
 |some v=>(intOf v).toNat
 |none=>0
theorem lexI_of {b:Nat}{s:ByteArray}{st:St}(h:Lex w b s st):lexI w b=st.i:=by unfold lexI;rw [h.c1];simp [intOf]
theorem zgi (s:ByteArray)(st:St)(w:World)(h:Lex w b s st)(hs:s.size<=400)(hi:st.i<=s.size) :
  Calls prog 213 #[.pointer (some ⟨b,0,none⟩)] w fun x w'=>
   x = .returned (.int .i64 (Ref.Kc s st).1)/\Lex w' b s (Ref.Kc s st).2/\ze (zt b) w w':=by
 have hL1:=zc h;obtain ⟨c0,c1,c2,c3,f1,f2,f3⟩:=h;go_enter func213,ntmps213;go_wp2_with fail;go_loopw [4] (fun n wr=>∃ (q:Int) (st':St),n = .int .i64 q/\0<=q/\q<=2000/\st'.i<=s.size/\Lex wr b s st'/\ze (zt b) w wr/\Hid (Ref.countN s st=Ref.countL s (s.size+1-st'.i) q st'))
  (fun _ wr=>s.size-lexI wr b)
 case atStart=>exact ⟨0,st,rfl,by omega,by omega,hi,zb hL1,ze.refl _ _,rfl⟩
 case round=>
  obtain ⟨q,st',rfl,hq0,hq1,hi',hL,hO,HF⟩:=hrel;have hfu:Hid (s.size+1-st'.i=(s.size-st'.i)+1):=by show _=_;omega
  have hL2:=zc hL;clear c0 c1 c2 c3 f1 f2 f3;cases hd:Ref.digitB (zd s st'.i)
  ·have HG:Hid (Ref.countN s st=(q,st')):=(by rw [zb HF,zb hfu];exact Ref.countL_stop hd);have hnd:=Ref.zgu hd;clear hd;by_cases hlo:48<=zd s st'.i
   ·have hhi:57<zd s st'.i:=(by omega);have hhd:decide (zd s st'.i<=57)=false:=(by simp;omega);clear hnd;go_wp2_with fail;refine (now_lex b s st' _ hL hs).mono ?_;rintro e w1 ⟨rfl,nq,rfl⟩;go_wp2_with fail;refine (now_lex b s st' _ (hL.drewN _) hs).mono ?_;rintro e w1 ⟨rfl,nq1,rfl⟩;obtain ⟨c0,c1,c2,c3,f1,f2,f3⟩:=hL;by_cases he:st'.i=st.i
    ·have hb:((st'.i:Int) == (st.i:Int))=true:=(by simp [he]);have Hee:=zc he;clear he;go_wp2_with fail;refine (fail_lex b s st' 3 _ _ ((zb hL2).drewN _)).mono ?_;rintro e w2 ⟨rfl,hL3,hO3⟩;by_cases hn:100<q
     ·have HH:Hid (Ref.Kc s st=(q,(st'.fail 3 st.i).fail 5 st.i)):=(by rw [Ref.zev (zb HG),if_pos hn,if_pos (zb Hee)];rfl);go_wp2_with fail;refine (fail_lex b s _ 5 _ _ hL3).mono ?_;rintro e w3 ⟨rfl,hL4,hO4⟩;go_wp2_with fail;go_ret;rw [zb HH];exact ⟨rfl,hL4,((hO.drewN _).trans hO3).trans hO4⟩
     ·have HH:Hid (Ref.Kc s st=(q,(st'.fail 3 st.i))):=(by rw [Ref.zev (zb HG),if_neg hn,if_pos (zb Hee)];rfl);go_wp2_with fail;go_ret;rw [zb HH];exact ⟨rfl,hL3,((hO.drewN _).trans hO3)⟩
    ·have hb:((st'.i:Int) == (st.i:Int))=false:=(by simp;omega);have Hee:=zc he;clear he;by_cases hn:100<q
     ·have HH:Hid (Ref.Kc s st=(q,st'.fail 5 st.i)):=(by rw [Ref.zev (zb HG),if_pos hn,if_neg (zb Hee)];rfl);go_wp2_with fail;refine (fail_lex b s st' 5 _ _ ((zb hL2).drewN _)).mono ?_;rintro e w3 ⟨rfl,hL4,hO4⟩;go_wp2_with fail;go_ret;rw [zb HH];exact ⟨rfl,hL4,(hO.drewN _).trans hO4⟩
     ·have HH:Hid (Ref.Kc s st=(q,st')):=(by rw [Ref.zev (zb HG),if_neg hn,if_neg (zb Hee)];rfl);go_wp2_with fail;go_ret;rw [zb HH];exact ⟨rfl,(zb hL2).drewN _,hO.drewN _⟩
   ·clear hnd;have hhd:decide (48<=zd s st'.i)=false:=(by simp;omega);go_wp2_with fail;refine (now_lex b s st' _ hL hs).mono ?_;rintro e w1 ⟨rfl,nq,rfl⟩;obtain ⟨c0,c1,c2,c3,f1,f2,f3⟩:=hL;by_cases he:st'.i=st.i
    ·have hb:((st'.i:Int) == (st.i:Int))=true:=(by simp [he]);have Hee:=zc he;clear he;go_wp2_with fail;refine (fail_lex b s st' 3 _ _ ((zb hL2).drewN _)).mono ?_;rintro e w2 ⟨rfl,hL3,hO3⟩;by_cases hn:100<q
     ·have HH:Hid (Ref.Kc s st=(q,(st'.fail 3 st.i).fail 5 st.i)):=(by rw [Ref.zev (zb HG),if_pos hn,if_pos (zb Hee)];rfl);go_wp2_with fail;refine (fail_lex b s _ 5 _ _ hL3).mono ?_;rintro e w3 ⟨rfl,hL4,hO4⟩;go_wp2_with fail;go_ret;rw [zb HH];exact ⟨rfl,hL4,((hO.drewN _).trans hO3).trans hO4⟩
     ·have HH:Hid (Ref.Kc s st=(q,(st'.fail 3 st.i))):=(by rw [Ref.zev (zb HG),if_neg hn,if_pos (zb Hee)];rfl);go_wp2_with fail;go_ret;rw [zb HH];exact ⟨rfl,hL3,((hO.drewN _).trans hO3)⟩
    ·have hb:((st'.i:Int) == (st.i:Int))=false:=(by simp;omega);have Hee:=zc he;clear he;by_cases hn:100<q
     ·have HH:Hid (Ref.Kc s st=(q,st'.fail 5 st.i)):=(by rw [Ref.zev (zb HG),if_pos hn,if_neg (zb Hee)];rfl);go_wp2_with fail;refine (fail_lex b s st' 5 _ _ ((zb hL2).drewN _)).mono ?_;rintro e w3 ⟨rfl,hL4,hO4⟩;go_wp2_with fail;go_ret;rw [zb HH];exact ⟨rfl,hL4,(hO.drewN _).trans hO4⟩
     ·have HH:Hid (Ref.Kc s st=(q,st')):=(by rw [Ref.zev (zb HG),if_neg hn,if_neg (zb Hee)];rfl);go_wp2_with fail;go_ret;rw [zb HH];exact ⟨rfl,(zb hL2).drewN _,hO.drewN _⟩
  ·have HG:Hid (Ref.countN s st=Ref.countL s (s.size+1-(st'.go 1).i) (if q<=100 then 10*q+zd s st'.i-48 else q) (st'.go 1)):=by
    rw [zb HF,zb hfu,show s.size+1-(st'.go 1).i=s.size-st'.i by simp only [St.go];omega];exact Ref.countL_go hd
   obtain ⟨hlo,hhi⟩:=Ref.zeY hd;have hlt:st'.i<s.size:=(by rw [<-yL];omega);clear hd;go_wp2_with fail;refine (now_lex b s st' _ hL hs).mono ?_;rintro e w1 ⟨rfl,nq,rfl⟩;go_wp2_with fail;refine (now_lex b s st' _ (hL.drewN _) hs).mono ?_;rintro e w1 ⟨rfl,nq1,rfl⟩;by_cases hn:q<=100
   ·have HG1:Hid (Ref.countN s st=Ref.countL s (s.size+1-(st'.go 1).i) (10*q+zd s st'.i-48) (st'.go 1)):=(by rw [zb HG,if_pos hn];rfl);go_wp2_with fail;refine (now_lex b s st' _ (hL.drewN _) hs).mono ?_;rintro e w1 ⟨rfl,nq2,rfl⟩;obtain ⟨c0,c1,c2,c3,f1,f2,f3⟩:=hL;go_wp2_with fail;have hLn:=((zb hL2).drewN (nq+nq1+nq2)).setI ((st'.i:Int)+1) 1 (by omega);go_roundw
    case rel=>exact ⟨_,st'.go 1,rfl,by omega,by omega,by simp only [St.go];omega,hLn,(hO.drewN _).mine _ _,HG1⟩
    case measure=>rw [lexI_of (zb hL2),lexI_of hLn];simp only [St.go];omega
   ·have HG1:Hid (Ref.countN s st=Ref.countL s (s.size+1-(st'.go 1).i) q (st'.go 1)):=(by rw [zb HG,if_neg hn];rfl);obtain ⟨c0,c1,c2,c3,f1,f2,f3⟩:=hL;go_wp2_with fail;have hLn:=((zb hL2).drewN (nq+nq1)).setI ((st'.i:Int)+1) 1 (by omega);go_roundw
    case rel=>exact ⟨_,st'.go 1,rfl,by omega,by omega,by simp only [St.go];omega,hLn,(hO.drewN _).mine _ _,HG1⟩
    case measure=>rw [lexI_of (zb hL2),lexI_of hLn];simp only [St.go];omega
set_option maxHeartbeats 1600000
set_option maxRecDepth 100000
namespace Ref
def restF (s:ByteArray)(mn:Int)(st:St):Int×St:=
 if st.e=0/\zd s st.i=44 then
  (if zd s (st.i+1)=125 then (-1,st.go 1) else Kc s (st.go 1))
 else (mn,st)
def braceF (s:ByteArray)(st:St):St:=if st.e=0/\zd s st.i≠125 then st.fail 3 st.i else st
def countsF (s:ByteArray)(st:St):Int×Int×St:=
 let r1:=Kc s (st.go 1)
 let r2:=restF s r1.1 r1.2
 let st3:=(braceF s r2.2).go 1
 (r1.1,r2.1,if st3.e=0/\0<=r2.1/\r2.1<r1.1 then st3.fail 4 st.i else st3)
def lazyF (s:ByteArray)(st:St):St:=if st.e=0/\zd s st.i=63 then st.go 1 else st
def kp (s:ByteArray)(st:St):Int×Int×St:=
 if zd s st.i=43 then (1,-1,lazyF s (st.go 1))
 else if zd s st.i=63 then (0,1,lazyF s (st.go 1))
 else if zd s st.i=42 then (0,-1,lazyF s (st.go 1))
 else ((countsF s st).1,(countsF s st).2.1,lazyF s (countsF s st).2.2)
theorem zgj (s:ByteArray):∀ (f:Nat) (n:Int) (st:St),0<=n->n<=2000->0<=(countL s f n st).1/\(countL s f n st).1<=2000/\st.i<=(countL s f n st).2.i/\(st.i<=s.size->(countL s f n st).2.i<=s.size)
 |0,n,st,h0,h1=>by simp only [countL];omega
 |f+1,n,st,h0,h1=>by
  cases hd:digitB (zd s st.i)
  ·rw [countL_stop hd];simp only [];omega
  ·rw [countL_go hd];have hb:=zeY hd;have hlt:st.i<s.size:=(by rw [<-yL];omega);have h:=zgj s f (if n<=100 then 10*n+zd s st.i-48 else n) (st.go 1) (by split<;>omega) (by split<;>omega);simp only [St.go] at h ⊢;omega
theorem fail_i (st:St)(e a:Int):(st.fail e a).i=st.i:=by unfold St.fail;split<;>rfl
theorem countF_i (s:ByteArray)(st:St):(Kc s st).2.i=(countN s st).2.i:=by
 unfold Kc;dsimp only;split
 ·rw [fail_i];split
  ·rw [fail_i]
  ·rfl
 ·split
  ·rw [fail_i]
  ·rfl
theorem zeH (s:ByteArray)(st:St):0<=(Kc s st).1/\(Kc s st).1<=2000/\st.i<=(Kc s st).2.i/\(st.i<=s.size->(Kc s st).2.i<=s.size):=by
 rw [countF_i];exact zgj s (s.size+1-st.i) 0 st (by omega) (by omega)
end Ref
structure Six (w:World)(n:Nat)(a0 a1 a2 a3 a4 a5:Value):Prop where
 c0:w.cell? ⟨n,0,none⟩=some a0
 c1:w.cell? ⟨n,1,none⟩=some a1
 c2:w.cell? ⟨n,2,none⟩=some a2
 c3:w.cell? ⟨n,3,none⟩=some a3
 c4:w.cell? ⟨n,4,none⟩=some a4
 c5:w.cell? ⟨n,5,none⟩=some a5
 f0:w.frozen? ⟨n,0,none⟩=false
 f1:w.frozen? ⟨n,1,none⟩=false
 f2:w.frozen? ⟨n,2,none⟩=false
 f3:w.frozen? ⟨n,3,none⟩=false
 f4:w.frozen? ⟨n,4,none⟩=false
 f5:w.frozen? ⟨n,5,none⟩=false
section
variable {P:Nat->Prop} {w w':World} {n:Nat} {a0 a1 a2 a3 a4 a5:Value}
theorem Six.lt (h:Six w n a0 a1 a2 a3 a4 a5):n<w.heap.size:=zE w ⟨n,0,none⟩ h.c0
theorem Six.to (h:Six w n a0 a1 a2 a3 a4 a5):(∀ (j:Nat) u,[a0,a1,a2,a3,a4,a5][j]?=some u->w.cell? ⟨n,j,none⟩=some u)/\∀ j,j<6->w.frozen? ⟨n,j,none⟩=false:=
 ⟨fun |0,_,rfl=>h.c0 |1,_,rfl=>h.c1 |2,_,rfl=>h.c2 |3,_,rfl=>h.c3 |4,_,rfl=>h.c4 |5,_,rfl=>h.c5 |j+6,_,e=>by simp at e,fun |0,_=>h.f0 |1,_=>h.f1 |2,_=>h.f2 |3,_=>h.f3 |4,_=>h.f4 |5,_=>h.f5 |j+6,e=>absurd e (by omega)⟩
theorem Six.of (h:∀ (j:Nat) u,[a0,a1,a2,a3,a4,a5][j]?=some u->w.cell? ⟨n,j,none⟩=some u)(f:∀ j,j<6->w.frozen? ⟨n,j,none⟩=false):Six w n a0 a1 a2 a3 a4 a5:=
 ⟨h 0 _ rfl,h 1 _ rfl,h 2 _ rfl,h 3 _ rfl,h 4 _ rfl,h 5 _ rfl,f 0 (by decide),f 1 (by decide),f 2 (by decide),f 3 (by decide),f 4 (by decide),f 5 (by decide)⟩
theorem Six.keep (h:Six w n a0 a1 a2 a3 a4 a5)(k:ze P w w')(hn:¬P n):Six w' n a0 a1 a2 a3 a4 a5:=
 .of (fun j u e=>zg k _ _ (h.to.1 j u e) hn) (fun j e=>zP k _ h.lt (h.to.2 j e) hn)
theorem Six.new (W:World)(T:TypeId)(hn:W.heap.size=n):Six (W.alloc (.cells #[a0,a1,a2,a3,a4,a5] T)) n a0 a1 a2 a3 a4 a5:=
 .of (fun j u e=>zm _ _ hn _ _ j _ (by simpa using e)) (fun j _=>zG _ _ hn _ _ j)
theorem Six.drewN (h:Six w n a0 a1 a2 a3 a4 a5)(k:Nat):Six (w.drewN k) n a0 a1 a2 a3 a4 a5:=h.keep ((ze.refl (fun _=>False) w).drewN k) (fun f=>f)
theorem Six.other (h:Six w n a0 a1 a2 a3 a4 a5)(p:Addr)(hp:p.block≠n)(u:Value):Six (w.setCell p u) n a0 a1 a2 a3 a4 a5:=
 h.keep (P:=zt p.block) ((ze.refl (zt p.block) w).setCell (p:=p) (Or.inl (show p.block=p.block from rfl)) u) (fun e=>hp e.symm)
theorem Six.cells (h:Six w n a0 a1 a2 a3 a4 a5)(i:Nat)(hi:i<6)(u:Value):(∀ (j:Nat) x,([a0,a1,a2,a3,a4,a5].set i u)[j]?=some x->(w.setCell ⟨n,i,none⟩ u).cell? ⟨n,j,none⟩=some x)/\∀ j,j<6->(w.setCell ⟨n,i,none⟩ u).frozen? ⟨n,j,none⟩=false:=by
 refine ⟨fun j x e=>?_,fun j e=>(zk _ _ _ _).trans (h.to.2 j e)⟩;rw [List.getElem?_set] at e;split at e
 ·rename_i q;subst q;rw [show (if i < [a0,a1,a2,a3,a4,a5].length then some u else none)=some u from if_pos hi] at e;cases e;exact yY _ _ _ (h.to.1 i _ (zD hi))
 ·rename_i q;exact (zF _ _ _ _ (fun c=>q (by injection c))).trans (h.to.1 j x e)
theorem Six.set1 (h:Six w n a0 a1 a2 a3 a4 a5)(u:Value):Six (w.setCell ⟨n,1,none⟩ u) n a0 u a2 a3 a4 a5:=.of (h.cells 1 (by decide) u).1 (h.cells 1 (by decide) u).2
theorem Six.set2 (h:Six w n a0 a1 a2 a3 a4 a5)(u:Value):Six (w.setCell ⟨n,2,none⟩ u) n a0 a1 u a3 a4 a5:=.of (h.cells 2 (by decide) u).1 (h.cells 2 (by decide) u).2
theorem Six.set4 (h:Six w n a0 a1 a2 a3 a4 a5)(u:Value):Six (w.setCell ⟨n,4,none⟩ u) n a0 a1 a2 a3 u a5:=.of (h.cells 4 (by decide) u).1 (h.cells 4 (by decide) u).2
theorem Six.set5 (h:Six w n a0 a1 a2 a3 a4 a5)(u:Value):Six (w.setCell ⟨n,5,none⟩ u) n a0 a1 a2 a3 a4 u:=.of (h.cells 5 (by decide) u).1 (h.cells 5 (by decide) u).2
end
namespace Ref
theorem zeT {st st1 stx:St}{mn mx:Int}(h1:Kc s (st.go 1)=(mn,st1))(h2:restF s mn st1=(mx,stx)) :
  countsF s st=(mn,mx,if ((braceF s stx).go 1).e=0/\0<=mx/\mx<mn then ((braceF s stx).go 1).fail 4 st.i else (braceF s stx).go 1):=by
 unfold countsF;rw [h1];simp only [h2]
theorem fail_ne (st:St)(e a:Int)(h:e≠0):(st.fail e a).e≠0:=by unfold St.fail;split<;>simp_all
theorem zgv {st st1 stx:St}{mn mx:Int}(h1:Kc s (st.go 1)=(mn,st1))(h2:restF s mn st1=(mx,stx))(h3:¬stx.e=0):countsF s st=(mn,mx,stx.go 1):=by
 rw [zeT h1 h2];have hb:braceF s stx=stx:=by unfold braceF;rw [if_neg (by intro h;exact h3 h.1)]
 rw [hb,if_neg (by intro h;exact h3 h.1)]
theorem zgJ {st st1 stx:St}{mn mx:Int}(h1:Kc s (st.go 1)=(mn,st1))(h2:restF s mn st1=(mx,stx))(h3:stx.e=0)(h4:¬zd s stx.i=125):countsF s st=(mn,mx,(stx.fail 3 stx.i).go 1):=by
 rw [zeT h1 h2];have hb:braceF s stx=stx.fail 3 stx.i:=by unfold braceF;rw [if_pos ⟨h3,h4⟩]
 rw [hb,if_neg (by intro h;exact fail_ne stx 3 stx.i (by decide) h.1)]
theorem zfW {st st1 stx:St}{mn mx:Int}(h1:Kc s (st.go 1)=(mn,st1))(h2:restF s mn st1=(mx,stx))(h3:stx.e=0)(h4:zd s stx.i=125)(h5:0<=mx/\mx<mn):countsF s st=(mn,mx,(stx.go 1).fail 4 st.i):=by
 rw [zeT h1 h2];have hb:braceF s stx=stx:=by unfold braceF;rw [if_neg (by intro h;exact h.2 h4)]
 rw [hb,if_pos ⟨h3,h5⟩]
theorem zgw {st st1 stx:St}{mn mx:Int}(h1:Kc s (st.go 1)=(mn,st1))(h2:restF s mn st1=(mx,stx))(_h3:stx.e=0)(h4:zd s stx.i=125)(h5:¬(0<=mx/\mx<mn)):countsF s st=(mn,mx,stx.go 1):=by
 rw [zeT h1 h2];have hb:braceF s stx=stx:=by unfold braceF;rw [if_neg (by intro h;exact h.2 h4)]
 rw [hb,if_neg (by intro h;exact h5 h.2)]
end Ref
theorem now_abs (s:ByteArray)(st:St)(w:World)(h:Lex w b s st)(hs:s.size<=400) :
  Calls prog 144 #[.pointer (some ⟨b,0,none⟩)] w fun x w'=>x = .returned (.int .i64 (zd s st.i))/\Q8 w w':=
 (now_lex b s st w h hs).mono fun _ _ ⟨h1,_,h2⟩=>⟨h1,by rw [h2];exact (ze.refl _ _).drewN _⟩
structure Cnts (w wx:World)(b:Nat)(s:ByteArray)(st:St)(mn mx:Int):Prop where
 l:Lex wx b s st
 t:Six wx (w.heap.size+1) (.int .i64 6) (.bool false) (.slice none 0 0) (.int .i64 0) (.int .i64 mn) (.int .i64 mx)
 r:Six wx w.heap.size (.int .i64 0) (.bool false) (.slice none 0 0) (.int .i64 0) (.int .i64 0) (.int .i64 0)
 o:ze (zt b) w wx
 lt:b<w.heap.size
section
variable {w wx w':World} {b:Nat} {s:ByteArray} {st st':St} {mn mx:Int}
theorem Cnts.turn (h:Cnts w wx b s st mn mx)(k:ze (zt b) wx w')(l:Lex w' b s st'):Cnts w w' b s st' mn mx:=by
 have hl:=h.lt;exact ⟨l,h.t.keep k (by unfold zt;omega),h.r.keep k (by unfold zt;omega),h.o.trans k,hl⟩
theorem Cnts.keep (h:Cnts w wx b s st mn mx)(k:Q8 wx w'):Cnts w w' b s st mn mx:=h.turn (k.mono (fun _ _ f=>f.elim)) (h.l.keep k (fun f=>f))
theorem Cnts.go (h:Cnts w wx b s st mn mx):Cnts w (wx.setCell ⟨b,1,none⟩ (.int .i64 ((st.i:Int)+1))) b s (st.go 1) mn mx:=h.turn ((ze.refl _ _).mine _ _) (h.l.setI _ 1 (by omega))
theorem Cnts.top (h:Cnts w wx b s st mn mx)(m:Int):Cnts w (wx.setCell ⟨w.heap.size+1,5,none⟩ (.int .i64 m)) b s st mn m:=by
 have hl:=h.lt;exact ⟨h.l.keep ((ze.refl (zt (w.heap.size+1)) _).mine _ _) (by unfold zt;omega),h.t.set5 _,h.r.other _ (by simp) _,h.o.young ((ze.refl (zt (w.heap.size+1)) _).mine _ _) (by omega),hl⟩
end
theorem zhd (s:ByteArray)(st:St)(w:World)(h:Lex w b s st)(hs:s.size<=400)(hi:st.i<s.size) :
  Calls prog 178 #[.pointer (some ⟨b,0,none⟩)] w fun x w'=>
   x = .returned (.agg #[.int .i64 6,.bool false,.slice none 0 0,.int .i64 0,.int .i64 (Ref.countsF s st).1,.int .i64 (Ref.countsF s st).2.1])/\Lex w' b s (Ref.countsF s st).2.2/\ze (zt b) w w':=by
 have hlt:=h.lt;have HX:Hid (Cnts w (((w.setCell ⟨b,1,none⟩ (.int .i64 ((st.i:Int)+1))).alloc (.cells #[.int .i64 0,.bool false,.slice none 0 0,.int .i64 0,.int .i64 0,.int .i64 0] 308)).alloc (.cells #[.int .i64 6,.bool false,.slice none 0 0,.int .i64 0,.int .i64 0,.int .i64 0] 308)) b s (st.go 1) 0 0):=
  ⟨((h.setI _ 1 (by omega)).alloc _).alloc _,Six.new _ _ (by simp),(Six.new _ _ (by simp)).keep ((ze.refl (fun _=>False) _).alloc _) (fun f=>f),(((ze.refl _ _).mine _ _).alloc _).alloc _,hlt⟩
 obtain ⟨c0,c1,c2,c3,f1,f2,f3⟩:=h;go_enter func178,ntmps178;go_wp2_with fail;refine (zgi b s (st.go 1) _ (zb HX).l hs (by simp only [St.go];omega)).mono ?_;rintro e w1 ⟨rfl,hL3,hO3⟩;have H3:=(zb HX).turn hO3 hL3;obtain ⟨m0,m1,m2,m3⟩:=Ref.zeH s (st.go 1);generalize hr:Ref.Kc s (st.go 1)=r at *;obtain ⟨mn,st1⟩:=r;simp only [] at *;have m4:st1.i<=s.size:=m3 (by simp only [St.go];omega);have H1:=zc hr;have H4:Hid (Cnts w ((w1.setCell ⟨w.heap.size+1,4,none⟩ (.int .i64 mn)).setCell ⟨w.heap.size+1,5,none⟩ (.int .i64 mn)) b s st1 mn mn):=
  (⟨H3.l.keep ((ze.refl (zt (w.heap.size+1)) _).mine _ _) (by unfold zt;omega),H3.t.set4 _,H3.r.other _ (by simp) _,H3.o.young ((ze.refl (zt (w.heap.size+1)) _).mine _ _) (by omega),hlt⟩:Cnts w (w1.setCell ⟨w.heap.size+1,4,none⟩ (.int .i64 mn)) b s st1 mn 0).top mn
 obtain ⟨t0,t1,t2,t3,t4,t5,v0,v1,v2,v3,v4,v5⟩:=H3.t;clear hr m3 c0 c1 c2 c3 f1 f2 f3 H3 hL3 hO3 HX;go_upto_region 6 with fail;go_cut [32] (fun x wx=>∃ c:Bool,x = .bool c/\(c=true↔st1.e=0/\zd s st1.i=44)/\Hid (Cnts w wx b s st1 mn mn))
 case first=>
  obtain ⟨l0,l1,l2,l3,k1,k2,k3⟩:=(zb H4).l;by_cases e1:st1.e=0
  ·have eb:(st1.e == 0)=true:=(by simp [e1]);go_wp2_with fail;refine (now_abs b s st1 _ (zb H4).l hs).mono ?_;rintro e w2 ⟨rfl,hO⟩;go_wp2_with fail;go_meet
   case rel=>exact ⟨_,rfl,by simp [e1],(zb H4).keep hO⟩
  ·have eb:(st1.e == 0)=false:=(by simp [e1]);go_wp2_with fail;go_meet
   case rel=>exact ⟨_,rfl,by simp [e1],H4⟩
 case rest=>
  clear H4;obtain ⟨c,rfl,hc,H4⟩:=hcut;go_upto_if 32 with fail;go_cut [4] (fun x wx=>x = .pointer (some ⟨w.heap.size+1,0,none⟩)/\∃ mx st2,Hid (Ref.restF s mn st1=(mx,st2))/\mx<=2000/\(mx = -1\/0<=mx)/\st2.i<=401/\Hid (Cnts w wx b s st2 mn mx))
  case first=>
   cases c
   ·go_wp2_with fail;go_meet
    case rel=>exact ⟨rfl,mn,st1,by show _=_;unfold Ref.restF;exact if_neg (fun q=>by simpa using hc.2 q),by omega,by omega,by omega,H4⟩
   ·obtain ⟨e1,b1⟩:=hc.1 rfl;clear hc;have hlt1:st1.i<s.size:=(by rw [<-yL];omega);obtain ⟨l0,l1,l2,l3,k1,k2,k3⟩:=(zb H4).l;obtain ⟨t0,t1,t2,t3,t4,t5,v0,v1,v2,v3,v4,v5⟩:=(zb H4).t;have H5:=zc ((zb H4).go.top (-1));go_wp2_with fail;refine (now_abs b s (st1.go 1) _ (zb H5).l hs).mono ?_;rintro e w2 ⟨rfl,hON⟩;have H6:=zc ((zb H5).keep hON);by_cases b2:zd s (st1.i+1)=125
    ·have bb2:(zd s (st1.go 1).i != 125)=false:=(by simp [St.go,b2]);go_wp2_with fail;go_meet
     case rel=>exact ⟨rfl,-1,st1.go 1,by show _=_;unfold Ref.restF;rw [if_pos ⟨e1,b1⟩,if_pos b2],by omega,.inl rfl,by simp only [St.go];omega,H6⟩
    ·have bb2:(zd s (st1.go 1).i != 125)=true:=(by simp [St.go,b2]);obtain ⟨n0,n1,n2,n3⟩:=Ref.zeH s (st1.go 1);have n4:=n3 (by simp only [St.go];omega);go_wp2_with fail;refine (zgi b s (st1.go 1) _ (zb H6).l hs (by simp only [St.go];omega)).mono ?_;rintro e w4 ⟨rfl,hL6,hO6⟩;have H7:=(zb H6).turn hO6 hL6;have H9:Hid (Ref.restF s mn st1=Ref.Kc s (st1.go 1)):=(by show _=_;unfold Ref.restF;rw [if_pos ⟨e1,b1⟩,if_neg b2]);generalize Ref.Kc s (st1.go 1)=r at *;obtain ⟨mx,st2⟩:=r;simp only [] at *;have H8:=zc (H7.top mx);obtain ⟨t0,t1,t2,t3,t4,t5,v0,v1,v2,v3,v4,v5⟩:=H7.t;clear H7 hL6 hO6 n2 n3 b1 b2 e1 l0 l1 l2 l3 k1 k2 k3 H5 H6;go_wp2_with fail;go_meet
     case rel=>exact ⟨rfl,mx,st2,H9,n1,.inr n0,by omega,H8⟩
  case rest=>
   clear H4 hc;obtain ⟨rfl,mx,st2,H2,x1,x2,x3,H⟩:=hcut;obtain ⟨l0,l1,l2,l3,k1,k2,k3⟩:=(zb H).l;obtain ⟨t0,t1,t2,t3,t4,t5,v0,v1,v2,v3,v4,v5⟩:=(zb H).t;obtain ⟨r0,r1,r2,r3,r4,r5,u0,u1,u2,u3,u4,u5⟩:=(zb H).r;have HF:Hid (∀ st3 w',Ref.countsF s st=(mn,mx,st3)->Cnts w w' b s st3 mn mx->∀ u0 u1 u2 u3 u4 u5,(Ref.countsF s st).1=mn/\(Ref.countsF s st).2.1=mx/\Lex ((((((w'.setCell ⟨w.heap.size,0,none⟩ u0).setCell ⟨w.heap.size,1,none⟩ u1).setCell ⟨w.heap.size,2,none⟩ u2).setCell ⟨w.heap.size,3,none⟩ u3).setCell ⟨w.heap.size,4,none⟩ u4).setCell ⟨w.heap.size,5,none⟩ u5) b s (Ref.countsF s st).2.2/\ze (zt b) w ((((((w'.setCell ⟨w.heap.size,0,none⟩ u0).setCell ⟨w.heap.size,1,none⟩ u1).setCell ⟨w.heap.size,2,none⟩ u2).setCell ⟨w.heap.size,3,none⟩ u3).setCell ⟨w.heap.size,4,none⟩ u4).setCell ⟨w.heap.size,5,none⟩ u5)):=fun st3 w' e h _ _ _ _ _ _=>by
    rw [e];exact ⟨rfl,rfl,h.l.keep (ze.six w.heap.size _ _ _ _ _ _ _) (by unfold zt;omega),h.o.young (ze.six w.heap.size _ _ _ _ _ _ _) (z8 _)⟩
   by_cases e2:st2.e=0
   ·have eb2:(st2.e == 0)=true:=(by simp [e2]);go_wp2_with fail;refine (now_lex b s st2 _ (zb H).l hs).mono ?_;rintro e w2 ⟨rfl,nq2,rfl⟩;by_cases b3:zd s st2.i=125
    ·have bb3:(zd s st2.i != 125)=false:=(by simp [b3]);have H8:=zc ((zb H).keep ((ze.refl _ _).drewN nq2)).go;by_cases hlt3:0<=mx/\mx<mn
     ·have HH:=zc (Ref.zfW (zb H1) (zb H2) e2 b3 hlt3);obtain ⟨y0,y1⟩:=hlt3;clear e2 b3 x2;go_wp2_with fail;refine (fail_lex b s (st2.go 1) 4 _ _ (zb H8).l).mono ?_;rintro e w5 ⟨rfl,hL9,hO9⟩;have H9:=(zb H8).turn hO9 hL9;obtain ⟨t0,t1,t2,t3,t4,t5,v0,v1,v2,v3,v4,v5⟩:=H9.t;obtain ⟨r0,r1,r2,r3,r4,r5,u0,u1,u2,u3,u4,u5⟩:=H9.r;have HG:=zc (zb HF _ _ (zb HH) H9);clear H9 hL9 hO9;go_wp2_with fail;refine bodyPost_ret (v:=.agg #[.int .i64 6,.bool false,.slice none 0 0,.int .i64 0,.int .i64 mn,.int .i64 mx]) (by simp [results,results178,go_sem,r0,r1,r2,r3,r4,r5]) rfl ?_;obtain ⟨q1,q2,q3⟩:=zb HG _ _ _ _ _ _;exact ⟨by rw [q1,q2],q3⟩
     ·have HG:=zc (zb HF _ _ (Ref.zgw (zb H1) (zb H2) e2 b3 hlt3) (zb H8));have y:decide (0<=mx)=false\/(0<=mx/\¬mx<mn):=(by rcases x2 with q |q;left;simp;omega;right;omega);clear e2 b3 x2;rcases y with y |⟨y,y2⟩
      all_goals
       go_wp2_with fail;refine bodyPost_ret (v:=.agg #[.int .i64 6,.bool false,.slice none 0 0,.int .i64 0,.int .i64 mn,.int .i64 mx]) (by simp [results,results178,go_sem,r0,r1,r2,r3,r4,r5]) rfl ?_;obtain ⟨q1,q2,q3⟩:=zb HG _ _ _ _ _ _;exact ⟨by rw [q1,q2],q3⟩
    ·have bb3:(zd s st2.i != 125)=true:=(by simp [b3]);have HH:=zc (Ref.zgJ (zb H1) (zb H2) e2 b3);have en:((st2.fail 3 st2.i).e == 0)=false:=(by simp [Ref.fail_ne]);clear e2 b3;go_wp2_with fail;refine (fail_lex b s st2 3 _ _ ((zb H).l.drewN nq2)).mono ?_;rintro e w5 ⟨rfl,hL9,hO9⟩;have H9:=((zb H).keep ((ze.refl _ _).drewN nq2)).turn hO9 hL9;obtain ⟨t0,t1,t2,t3,t4,t5,v0,v1,v2,v3,v4,v5⟩:=H9.t;obtain ⟨r0,r1,r2,r3,r4,r5,u0,u1,u2,u3,u4,u5⟩:=H9.r;have hfi:(st2.fail 3 st2.i).i<=401:=(by rw [Ref.fail_i];omega);have HG:=zc (zb HF _ _ (zb HH) H9.go);obtain ⟨l0,l1,l2,l3,k1,k2,k3⟩:=H9.l;clear H9 hL9 hO9;go_wp2_with fail;refine bodyPost_ret (v:=.agg #[.int .i64 6,.bool false,.slice none 0 0,.int .i64 0,.int .i64 mn,.int .i64 mx]) (by simp [results,results178,go_sem,r0,r1,r2,r3,r4,r5]) rfl ?_;obtain ⟨q1,q2,q3⟩:=zb HG _ _ _ _ _ _;exact ⟨by rw [q1,q2],q3⟩
   ·have eb2:(st2.e == 0)=false:=(by simp [e2]);have HG:=zc (zb HF _ _ (Ref.zgv (zb H1) (zb H2) e2) (zb H).go);clear e2;go_wp2_with fail;refine bodyPost_ret (v:=.agg #[.int .i64 6,.bool false,.slice none 0 0,.int .i64 0,.int .i64 mn,.int .i64 mx]) (by simp [results,results178,go_sem,r0,r1,r2,r3,r4,r5]) rfl ?_;obtain ⟨q1,q2,q3⟩:=zb HG _ _ _ _ _ _;exact ⟨by rw [q1,q2],q3⟩
namespace Ref
theorem restF_i (s:ByteArray)(mn:Int)(st:St)(h:st.i<=s.size):(restF s mn st).2.i<=s.size+1:=by
 unfold restF;split
 ·rename_i hh;have hlt:st.i<s.size:=by rw [<-yL];omega
  split
  ·simp only [St.go];omega
  ·have:=(zeH s (st.go 1)).2.2.2 (by simp only [St.go];omega);omega
 ·simp only [];omega
theorem zgk (s:ByteArray)(st:St)(h:st.i<s.size):(countsF s st).2.2.i<=s.size+2:=by
 have h1:=(zeH s (st.go 1)).2.2.2 (by simp only [St.go];omega);have h2:=restF_i s (Kc s (st.go 1)).1 _ h1;have h3:∀ st',(braceF s st').i=st'.i:=by intro st';unfold braceF;split;exact fail_i _ _ _;rfl
 unfold countsF;dsimp only;have h4:∀ st':St,((braceF s st').go 1).i=st'.i+1:=by intro st';show (braceF s st').i+1=_;rw [h3]
 split
 ·rw [fail_i,h4];omega
 ·rw [h4];omega
end Ref
namespace Ref
theorem bq {c k:Int}(x:c=k)(j:Int):(c == j)=(k == j):=by rw [x]
end Ref
theorem zfX (s:ByteArray)(st:St)(w:World)(h:Lex w b s st)(hs:s.size<=400)(hi:st.i<s.size)(he:st.e=0) :
  Calls prog 145 #[.pointer (some ⟨b,0,none⟩)] w fun x w'=>
   x = .returned (.agg #[.int .i64 6,.bool false,.slice none 0 0,.int .i64 0,.int .i64 (Ref.kp s st).1,.int .i64 (Ref.kp s st).2.1])/\Lex w' b s (Ref.kp s st).2.2/\ze (zt b) w w':=by
 have hL1:=zc h;have hlt:=h.lt;have HE:=zc he;have eb:(st.e == 0)=true:=by simp [he]
 clear he;have hL2:=zc (((zb hL1).alloc (.cells #[.int .i64 0,.bool false,.slice none 0 0,.int .i64 0,.int .i64 0,.int .i64 0] 308)).alloc (.cells #[.int .i64 6,.bool false,.slice none 0 0,.int .i64 0,.int .i64 0,.int .i64 (-1)] 308));have hR2:=zc ((Six.new (n:=w.heap.size) (a0:=.int .i64 0) (a1:=.bool false) (a2:=.slice none 0 0) (a3:=.int .i64 0) (a4:=.int .i64 0) (a5:=.int .i64 0) w 308 rfl).keep ((ze.refl (fun _=>False) _).alloc (.cells #[.int .i64 6,.bool false,.slice none 0 0,.int .i64 0,.int .i64 0,.int .i64 (-1)] 308)) (fun f=>f));have hT2:=zc (Six.new (n:=w.heap.size+1) (a0:=.int .i64 6) (a1:=.bool false) (a2:=.slice none 0 0) (a3:=.int .i64 0) (a4:=.int .i64 0) (a5:=.int .i64 (-1)) (w.alloc (.cells #[.int .i64 0,.bool false,.slice none 0 0,.int .i64 0,.int .i64 0,.int .i64 0] 308)) 308 (by simp));have hO2:=zc (((ze.refl (zt b) w).alloc (.cells #[.int .i64 0,.bool false,.slice none 0 0,.int .i64 0,.int .i64 0,.int .i64 0] 308)).alloc (.cells #[.int .i64 6,.bool false,.slice none 0 0,.int .i64 0,.int .i64 0,.int .i64 (-1)] 308));clear h;go_enter func145,ntmps145;go_wp2_with fail;refine (now_abs b s st _ (zb hL2) hs).mono ?_;rintro e w1 ⟨rfl,hON⟩;have hLN:=(zb hL2).keep hON (fun f=>f);have hTN:=(zb hT2).keep hON (fun f=>f);have hRN:=(zb hR2).keep hON (fun f=>f);have hOO:=zc ((zb hO2).trans (hON.mono (fun _ _ f=>f.elim)));have hLL:=zc hLN;have hTT:=zc hTN;have hRR:=zc hRN;clear hON hL2 hT2 hR2 hO2;obtain ⟨l0,l1,l2,l3,k1,k2,k3⟩:=hLN;obtain ⟨t0,t1,t2,t3,t4,t5,v0,v1,v2,v3,v4,v5⟩:=hTN;obtain ⟨r0,r1,r2,r3,r4,r5,u0,u1,u2,u3,u4,u5⟩:=hRN;by_cases x:zd s st.i=43\/zd s st.i=63\/zd s st.i=42
 ·have eb':((st.go 1).e == 0)=true:=by simp [St.go,zb HE]
  rcases x with x |x |x
  case' inl=>have HQ:Hid (Ref.kp s st=(1,-1,Ref.lazyF s (st.go 1))):=by show _=_;unfold Ref.kp;rw [if_pos x]
  case' inl=>have HW:=zc ((ze.refl (zt (w.heap.size+1)) w1).mine 4 (.int .i64 1))
  case' inr.inl=>have HQ:Hid (Ref.kp s st=(0,1,Ref.lazyF s (st.go 1))):=by show _=_;unfold Ref.kp;rw [if_neg (by omega),if_pos x]
  case' inr.inl=>have HW:=zc ((ze.refl (zt (w.heap.size+1)) w1).mine 5 (.int .i64 1))
  case' inr.inr=>have HQ:Hid (Ref.kp s st=(0,-1,Ref.lazyF s (st.go 1))):=by show _=_;unfold Ref.kp;rw [if_neg (by omega),if_neg (by omega),if_pos x]
  case' inr.inr=>have HW:=zc (ze.refl (zt (w.heap.size+1)) w1)
  all_goals
   have hq:=Ref.bq x;clear x;go_wp2_with fail;have hL5:=zc (((zb hLL).keep (zb HW) (by unfold zt;omega)).setI ((st.i:Int)+1) 1 (by omega));have hO5:=zc (((zb hOO).young (zb HW) (by omega)).mine 1 (.int .i64 ((st.i:Int)+1)));refine (now_lex b s (st.go 1) _ (zb hL5) hs).mono ?_;rintro e w2 ⟨rfl,nq,rfl⟩;simp only [St.go];by_cases b2:zd s (st.i+1)=63
   ·have bb2:(zd s (st.i+1) == 63)=true:=(by simp [b2]);have HH:Hid (Ref.lazyF s (st.go 1)=(st.go 1).go 1):=(by show _=_;unfold Ref.lazyF;rw [if_pos ⟨by simp [St.go,zb HE],b2⟩]);clear b2;go_wp2_with fail;refine bodyPost_ret (v:=.agg #[.int .i64 6,.bool false,.slice none 0 0,.int .i64 0,.int .i64 (Ref.kp s st).1,.int .i64 (Ref.kp s st).2.1]) (by simp [results,results145,go_sem,r0,r1,r2,r3,r4,r5,zb HQ]) rfl ?_;rw [zb HQ,zb HH];exact ⟨rfl,(((zb hL5).drewN nq).setI _ 1 (by simp only [St.go];omega)).keep (ze.six w.heap.size _ _ _ _ _ _ _) (by unfold zt;omega),(((zb hO5).drewN nq).mine 1 _).young (ze.six w.heap.size _ _ _ _ _ _ _) (z8 _)⟩
   ·have bb2:(zd s (st.i+1) == 63)=false:=(by simp [b2]);have HH:Hid (Ref.lazyF s (st.go 1)=st.go 1):=(by show _=_;unfold Ref.lazyF;rw [if_neg (by intro hh;exact b2 hh.2)]);clear b2;go_wp2_with fail;refine bodyPost_ret (v:=.agg #[.int .i64 6,.bool false,.slice none 0 0,.int .i64 0,.int .i64 (Ref.kp s st).1,.int .i64 (Ref.kp s st).2.1]) (by simp [results,results145,go_sem,r0,r1,r2,r3,r4,r5,zb HQ]) rfl ?_;rw [zb HQ,zb HH];exact ⟨rfl,((zb hL5).drewN nq).keep (ze.six w.heap.size _ _ _ _ _ _ _) (by unfold zt;omega),((zb hO5).drewN nq).young (ze.six w.heap.size _ _ _ _ _ _ _) (z8 _)⟩
 ·simp only [not_or] at x;obtain ⟨x1,x2,x3⟩:=x;have y1:(zd s st.i == 43)=false:=by simp [x1]
  have y2:(zd s st.i == 63)=false:=by simp [x2]
  have y3:(zd s st.i == 42)=false:=by simp [x3]
  have HQ:Hid (Ref.kp s st=((Ref.countsF s st).1,(Ref.countsF s st).2.1,Ref.lazyF s (Ref.countsF s st).2.2)):=by show _=_;unfold Ref.kp;rw [if_neg x1,if_neg x2,if_neg x3]
  clear x1 x2 x3;go_wp2_with fail;refine (zhd b s st _ (zb hLL) hs hi).mono ?_;rintro e w3 ⟨rfl,hL6,hO6⟩;have hR6:=(zb hRR).keep hO6 (by unfold zt;omega);have hT6:=(zb hTT).keep hO6 (by unfold zt;omega);have hi2:=Ref.zgk s st hi;generalize hr:Ref.countsF s st=r at *;obtain ⟨mn,mx,st2⟩:=r;simp only [] at *;have hL7:=zc (hL6.keep (ze.six (w.heap.size+1) w3 (.int .i64 6) (.bool false) (.slice none 0 0) (.int .i64 0) (.int .i64 mn) (.int .i64 mx)) (by unfold zt;omega));have hO7:=zc (((zb hOO).trans hO6).young (ze.six (w.heap.size+1) w3 (.int .i64 6) (.bool false) (.slice none 0 0) (.int .i64 0) (.int .i64 mn) (.int .i64 mx)) (by omega));obtain ⟨a0,a1,a2,a3,a4,a5,c0,c1,c2,c3,c4,c5⟩:=hT6;obtain ⟨g0,g1,g2,g3,g4,g5,d0,d1,d2,d3,d4,d5⟩:=hR6;obtain ⟨z0,z1,z2,z3,j1,j2,j3⟩:=hL6;clear hO6 hr l0 l1 l2 l3 k1 k2 k3 t0 t1 t2 t3 t4 t5 v0 v1 v2 v3 v4 v5 r0 r1 r2 r3 r4 r5 u0 u1 u2 u3 u4 u5;by_cases e2:st2.e=0
  ·have eb2:(st2.e == 0)=true:=(by simp [e2]);by_cases b2:zd s st2.i=63
   ·have bb2:(zd s st2.i == 63)=true:=(by simp [b2]);have HH:Hid (Ref.kp s st=(mn,mx,st2.go 1)):=(by rw [zb HQ];show _=_;unfold Ref.lazyF;rw [if_pos ⟨e2,b2⟩]);clear e2 b2;go_wp2_with fail;refine (now_lex b s st2 _ (zb hL7) hs).mono ?_;rintro e w2 ⟨rfl,nq,rfl⟩;go_wp2_with fail;refine bodyPost_ret (v:=.agg #[.int .i64 6,.bool false,.slice none 0 0,.int .i64 0,.int .i64 (mn),.int .i64 (mx)]) (by simp [results,results145,go_sem,g0,g1,g2,g3,g4,g5]) rfl ?_;rw [zb HH];exact ⟨rfl,(((zb hL7).drewN nq).setI _ 1 (by omega)).keep (ze.six w.heap.size _ _ _ _ _ _ _) (by unfold zt;omega),(((zb hO7).drewN nq).mine 1 _).young (ze.six w.heap.size _ _ _ _ _ _ _) (z8 _)⟩
   ·have bb2:(zd s st2.i == 63)=false:=(by simp [b2]);have HH:Hid (Ref.kp s st=(mn,mx,st2)):=(by rw [zb HQ];show _=_;unfold Ref.lazyF;rw [if_neg (by intro hh;exact b2 hh.2)]);clear e2 b2;go_wp2_with fail;refine (now_lex b s st2 _ (zb hL7) hs).mono ?_;rintro e w2 ⟨rfl,nq,rfl⟩;go_wp2_with fail;refine bodyPost_ret (v:=.agg #[.int .i64 6,.bool false,.slice none 0 0,.int .i64 0,.int .i64 (mn),.int .i64 (mx)]) (by simp [results,results145,go_sem,g0,g1,g2,g3,g4,g5]) rfl ?_;rw [zb HH];exact ⟨rfl,((zb hL7).drewN nq).keep (ze.six w.heap.size _ _ _ _ _ _ _) (by unfold zt;omega),((zb hO7).drewN nq).young (ze.six w.heap.size _ _ _ _ _ _ _) (z8 _)⟩
  ·have eb2:(st2.e == 0)=false:=(by simp [e2]);have HH:Hid (Ref.kp s st=(mn,mx,st2)):=(by rw [zb HQ];show _=_;unfold Ref.lazyF;rw [if_neg (by intro hh;exact e2 hh.1)]);clear e2;go_wp2_with fail;refine bodyPost_ret (v:=.agg #[.int .i64 6,.bool false,.slice none 0 0,.int .i64 0,.int .i64 (mn),.int .i64 (mx)]) (by simp [results,results145,go_sem,g0,g1,g2,g3,g4,g5]) rfl ?_;rw [zb HH];exact ⟨rfl,(zb hL7).keep (ze.six w.heap.size _ _ _ _ _ _ _) (by unfold zt;omega),(zb hO7).young (ze.six w.heap.size _ _ _ _ _ _ _) (z8 _)⟩
namespace Ref
def Fine (s:ByteArray)(st:St):Prop:=st.i<=s.size/\(st.e=0->Good s st.i)
theorem Fine.fail {st:St}{e a:Int}(h:st.i<=s.size)(he:e≠0):Fine s (st.fail e a):=
 ⟨by rw [fail_i];exact h,fun h0=>absurd h0 (fail_ne st e a he)⟩
theorem zfe {b:Int}(h:0<=hexV b):0<=b/\b<128:=by unfold hexV at h;(repeat' split at h)<;>omega
theorem zfz (s:ByteArray):∀ (n:Nat) (c:Int) (st:St),Good s st.i->Fine s (hexF s n c st).2/\st.i<=(hexF s n c st).2.i
 |0,c,st,h=>⟨⟨h.le,fun _=>h⟩,z8 _⟩
 |n+1,c,st,h=>by
  by_cases hb:hexV (zd s st.i)<0
  ·rw [hexF_bad hb];exact ⟨Fine.fail h.le (by decide),by rw [fail_i];exact z8 _⟩
  ·rw [zfw (by omega)];have ha:=zfe (b:=zd s st.i) (by omega);have:=zfz s n (16*c+hexV (zd s st.i)) (st.go 1) (h.ascii ha.1 ha.2);exact ⟨this.1,by have:=this.2;simp only [St.go] at this ⊢;omega⟩
theorem zfl (s:ByteArray):∀ (f:Nat) (c:Int) (n:Nat) (st:St),Good s st.i->Fine s (bracedF s f c n st).2/\st.i<=(bracedF s f c n st).2.i
 |0,c,n,st,h=>⟨⟨h.le,fun _=>h⟩,z8 _⟩
 |f+1,c,n,st,h=>by
  by_cases hc:0<n/\zd s st.i=125
  ·rw [zeL hc.1 hc.2];have hg:=h.ascii (by omega) (by omega);exact ⟨⟨hg.le,fun _=>hg⟩,by simp only [St.go];omega⟩
  ·by_cases hb:hexV (zd s st.i)<0\/1114111<16*c+hexV (zd s st.i)
   ·rw [zeX hc hb];exact ⟨Fine.fail h.le (by decide),by rw [fail_i];exact z8 _⟩
   ·rw [zeQ hc hb];have ha:=zfe (b:=zd s st.i) (by omega);have:=zfl s f (16*c+hexV (zd s st.i)) (n+1) (st.go 1) (h.ascii ha.1 ha.2);exact ⟨this.1,by have:=this.2;simp only [St.go] at this ⊢;omega⟩
theorem zfm (s:ByteArray):∀ (n k:Nat) (c:Int),0<=c->0<=halfD s n k c->Good s k->Good s (k+n)
 |0,k,c,_,_,h=>h
 |n+1,k,c,h0,h1,h=>by
  by_cases hb:hexV (zd s k)<0
  ·rw [ze6 hb] at h1;omega
  ·rw [zeR (by omega)] at h1;have ha:=zfe (b:=zd s k) (by omega);have:=zfm s n (k+1) _ (by omega) h1 (h.ascii ha.1 ha.2);rw [show k+(n+1)=k+1+n by omega];exact this
theorem zgl {i:Nat}(h:0<=halfF s i)(hg:Good s i):Good s (i+6)/\zd s i=92/\zd s (i+1)=117:=by
 unfold halfF at h;split at h
 ·omega
 ·rename_i hn;have h1:zd s i=92:=by omega
  have h2:zd s (i+1)=117:=by omega
  have g1:=hg.ascii (by omega) (by omega);have g2:=g1.ascii (by omega) (by omega);exact ⟨zfm s 4 (i+2) 0 (by omega) h g2,h1,h2⟩
theorem zf8 {st:St}(h1:1<=st.i)(hg:Good s (st.i-1))(hb:zd s (st.i-1)=92)(hu:zd s st.i=117):Fine s (unicodeF s st).2/\st.i<=(unicodeF s st).2.i:=by
 have g0:Good s st.i:=by have:=hg.ascii (by omega) (by omega);rwa [show st.i-1+1=st.i by omega] at this
 have g1:=g0.ascii (by omega) (by omega);unfold unicodeF;split
 ·rename_i h;have g2:=g1.ascii (by omega) (by omega);have:=zfl s (s.size+1-(st.go 2).i) 0 0 (st.go 2) g2;exact ⟨this.1,by have:=this.2;simp only [St.go,bracedR] at this ⊢;omega⟩
 ·split
  ·rename_i h;simp only [pairB,kt,decide_eq_true_eq] at h;have a1:=(zgl (by omega) hg).1;rw [show st.i-1+6=st.i+5 by omega] at a1;have a2:=(zgl (by omega) a1).1;exact ⟨⟨a2.le,fun _=>a2⟩,by simp only [St.go];omega⟩
  ·have:=zfz s 4 0 (st.go 1) g1;exact ⟨this.1,by have:=this.2;simp only [St.go] at this ⊢;omega⟩
theorem zgK {b:Int}(h:signB b=true):0<=b/\b<128:=by
 simp [signB] at h;omega
theorem zgx {st:St}(h1:1<=st.i)(hg:Good s (st.i-1))(hb:zd s (st.i-1)=92):Fine s (kf s cls st).2/\st.i<=(kf s cls st).2.i:=by
 have g0:Good s st.i:=by have:=hg.ascii (by omega) (by omega);rwa [show st.i-1+1=st.i by omega] at this
 have step:0<=zd s st.i->zd s st.i<128->Fine s (st.go 1)/\st.i<=(st.go 1).i:=fun a b=>⟨⟨(g0.ascii a b).le,fun _=>g0.ascii a b⟩,by simp only [St.go];omega⟩
 unfold kf;split
 ·rename_i h;have:0<=zd s st.i/\zd s st.i<128:=by unfold controlV at h;(repeat' split at h)<;>omega
  exact step this.1 this.2
 split
 ·have hs:=step (by omega) (by omega);dsimp only;split
  ·exact ⟨Fine.fail hs.1.1 (by decide),by rw [fail_i];exact hs.2⟩
  ·exact hs
 split
 ·have hs:=step (by omega) (by omega);have g1:=g0.ascii (by omega) (by omega);split
  ·have g2:=g1.ascii (by omega) (by omega);exact ⟨⟨g2.le,fun _=>g2⟩,by simp only [St.go];omega⟩
  ·exact ⟨Fine.fail hs.1.1 (by decide),by rw [fail_i];exact hs.2⟩
 split
 ·have g1:=g0.ascii (by omega) (by omega);have:=zfz s 2 0 (st.go 1) g1;exact ⟨this.1,by have:=this.2;simp only [St.go] at this ⊢;omega⟩
 split
 ·rename_i h;exact zf8 h1 hg hb h
 split
 ·rename_i h;have:0<=zd s st.i/\zd s st.i<128:=by
   rcases h with h |h
   ·exact zgK h
   ·omega
  exact step this.1 this.2
 split
 ·exact step (by omega) (by omega)
 ·exact ⟨Fine.fail g0.le (by decide),by rw [fail_i];exact z8 _⟩
theorem zhe {b:Int}(h:setL b≠[]):0<=b/\b<128:=by
 unfold setL at h;(repeat' split at h)<;>first |omega |simp at h
theorem zfn {st:St}(hg:Good s st.i)(hb:zd s st.i=92):Fine s (jv s cls st).2.2/\st.i<(jv s cls st).2.2.i:=by
 have g1:=hg.ascii (by omega) (by omega);unfold jv;split
 ·exact ⟨Fine.fail g1.le (by decide),by rw [fail_i];simp only [St.go];omega⟩
 split
 ·rename_i h;have ha:=zhe h;have g2:=g1.ascii ha.1 ha.2;exact ⟨⟨g2.le,fun _=>g2⟩,by simp only [St.go];omega⟩
 ·have:=zgx (cls:=cls) (st:=st.go 1) (by simp only [St.go];omega) (by simp only [St.go,Nat.add_sub_cancel];exact hg) (by simp only [St.go,Nat.add_sub_cancel];exact hb);exact ⟨this.1,by have:=this.2;simp only [St.go] at this ⊢;omega⟩
theorem zeD {st:St}(hg:Good s st.i)(hi:st.i<s.size):Fine s (za s st).2.2/\st.i<(za s st).2.2.i:=by
 unfold za;split
 ·rename_i h;exact zfn hg h
 ·obtain ⟨n,c,ho,hn⟩:=hg.next hi;rw [ho];have hb:=qC ho;exact ⟨⟨hn.le,fun _=>hn⟩,by simp only [St.go];omega⟩
theorem zgL {st:St}(h:(jv s cls st).2.1=true)(he:(jv s cls st).2.2.e=0):∃ c,(jv s cls st).1.spans=[(c,c)]:=by
 unfold jv at *;split
 ·rename_i hb;rw [if_pos hb] at he;exact absurd he (fail_ne _ _ _ (by decide))
 ·rename_i hb;rw [if_neg hb] at h he;split
  ·rename_i h2;rw [if_pos h2] at h;simp at h
  ·exact ⟨_,rfl⟩
theorem zfF {st:St}(hg:Good s st.i)(hi:st.i<s.size)(h:(za s st).2.1=true)(he:(za s st).2.2.e=0):∃ c,(za s st).1.spans=[(c,c)]:=by
 unfold za at *;split
 ·rename_i hb;rw [if_pos hb] at h he;exact zgL h he
 ·obtain ⟨n,c,ho,hn⟩:=hg.next hi;rw [ho];exact ⟨c,rfl⟩
end Ref
theorem ze.ofGrown {row:Option Nat}(h:w.grownBy w' row):ze (fun k=>row=some k) w w':=
 ⟨h.os,h.tape,h.output,h.size,fun k hk hn=>h.block k hk (fun e=>hn e.symm)⟩
theorem own_ne {base base':Nat}{e e':TypeId}{size size':Nat}{v v':Value}{n n':Nat}{xs xs':List Value}(h:w.ownsRow base e size v n xs)(h':w.ownsRow base' e' size' v' n' xs')(he:e≠e')(g:Nat)(hg:v.ownBlock=some g):¬v'.ownBlock=some g:=by
 intro hg';obtain ⟨_,h2⟩:=h;obtain ⟨_,h2'⟩:=h';rcases h2 with ⟨rfl,_⟩ |⟨g1,cap,cur,rfl,hb,hh,_⟩
 ·simp [Value.ownBlock] at hg
 rcases h2' with ⟨rfl,_⟩ |⟨g2,cap',cur',rfl,hb',hh',_⟩
 ·simp [Value.ownBlock] at hg'
 simp only [Value.ownBlock,Option.some.injEq] at hg hg';subst hg;subst hg';rw [hh] at hh';simp only [Option.some.injEq,Obj.cells.injEq] at hh';exact he hh'.2.1
def PartsOK (w:World)(base:Nat):List Pt->List Value->Prop
 | [],[]=>True
 |p :: ps,b :: v :: vs=>b = .bool p.neg/\SpansAt w base v p.spans/\PartsOK w base ps vs
 |_,_=>False
def PartsAt (w:World)(base:Nat)(v:Value)(l:List Pt):Prop:=∃ cs,w.ownsRow base 336 2 v l.length cs/\PartsOK w base l cs
theorem PartsOK.keep {P:Nat->Prop}{w w':World}{base:Nat}(k:ze P w w')(hn:∀ g,base<=g->g<w.heap.size->¬P g):∀ (l:List Pt) (cs:List Value),PartsOK w base l cs->PartsOK w' base l cs
 | [],[],_=>trivial
 |_p :: ps,_b :: _v :: vs,h=>⟨h.1,h.2.1.keep k hn,PartsOK.keep k hn ps vs h.2.2⟩
 | [],_ :: _,h=>h
 |_ :: _,[],h=>h
 |_ :: _,[_],h=>h
theorem PartsAt.keep {P:Nat->Prop}{w w':World}{base:Nat}{v:Value}{l:List Pt}(h:PartsAt w base v l)(k:ze P w w')(hn:∀ g,base<=g->g<w.heap.size->¬P g):PartsAt w' base v l:=by
 obtain ⟨cs,h1,h2⟩:=h;exact ⟨cs,zn h1 k (fun g hg=>hn g (zh h1 g hg).1 (zh h1 g hg).2),PartsOK.keep k hn l cs h2⟩
theorem PartsOK.base {w:World}{base base':Nat}(hb:base'<=base):∀ (l:List Pt) (cs:List Value),PartsOK w base l cs->PartsOK w base' l cs
 | [],[],_=>trivial
 |_p :: ps,_b :: _v :: vs,h=>⟨h.1,h.2.1.base hb,PartsOK.base hb ps vs h.2.2⟩
 | [],_ :: _,h=>h
 |_ :: _,[],h=>h
 |_ :: _,[_],h=>h
theorem PartsAt.base {w:World}{base base':Nat}{v:Value}{l:List Pt}(h:PartsAt w base v l)(hb:base'<=base):PartsAt w base' v l:=by
 obtain ⟨cs,h1,h2⟩:=h;exact ⟨cs,xd h1 hb,PartsOK.base hb l cs h2⟩
theorem PartsAt.nil (w:World)(base:Nat):PartsAt w base (.slice none 0 0) []:=⟨[],qD _ _ _ _,trivial⟩
theorem SpansAt.grown {base base':Nat}{sv v:Value}{n:Nat}{xs:List Value}{l:List (Int×Int)}(h:SpansAt w base sv l)(hr:w.ownsRow base' 336 2 v n xs)(hg:w.grownBy w' v.ownBlock):SpansAt w' base sv l:=
 zn h (ze.ofGrown hg) (fun g h1 h2=>own_ne h hr (by decide) g h1 h2)
theorem PartsOK.grown {w w':World}{base base':Nat}{v:Value}{n:Nat}{xs:List Value}(hr:w.ownsRow base' 336 2 v n xs)(hg:w.grownBy w' v.ownBlock):∀ (l:List Pt) (cs:List Value),PartsOK w base l cs->PartsOK w' base l cs
 | [],[],_=>trivial
 |_p :: ps,_b :: _v :: vs,h=>⟨h.1,h.2.1.grown hr hg,PartsOK.grown hr hg ps vs h.2.2⟩
 | [],_ :: _,h=>h
 |_ :: _,[],h=>h
 |_ :: _,[_],h=>h
theorem PartsOK.append {w:World}{base:Nat}{p:Pt}{sv:Value}(hs:SpansAt w base sv p.spans):∀ (l:List Pt) (cs:List Value),PartsOK w base l cs->PartsOK w base (l++[p]) (cs++[.bool p.neg,sv])
 | [],[],_=>⟨rfl,hs,trivial⟩
 |_q :: ps,_b :: _v :: vs,h=>⟨h.1,h.2.1,PartsOK.append hs ps vs h.2.2⟩
 | [],_ :: _,h=>h.elim
 |_ :: _,[],h=>h.elim
 |_ :: _,[_],h=>h.elim
theorem PartsAt.appended {base:Nat}{v v':Value}{l:List Pt}{cs:List Value}{p:Pt}{sv:Value}(h1:w.ownsRow base 336 2 v l.length cs)(h2:PartsOK w base l cs)(hs:SpansAt w base sv p.spans)
  (hown:w'.ownsRow base 336 2 v' (l.length+1) (cs++[.bool p.neg,sv])) (hg:w.grownBy w' v.ownBlock):PartsAt w' base v' (l++[p]):=
 ⟨cs++[.bool p.neg,sv],by rw [yS];exact hown,PartsOK.append (hs.grown h1 hg) l cs (PartsOK.grown h1 hg l cs h2)⟩
namespace Ref
def rangeB (s:ByteArray)(st:St):Bool:=decide (st.e=0) && decide (zd s st.i=45) && decide (st.i+1<s.size) && decide (zd s (st.i+1)≠93)
def loOf (p:Pt):Int:=match p.spans with
 | []=>0
 |x :: _=>x.1
def badB (p q:Pt)(one two:Bool):Bool:=!one || !two ||decide (loOf q<loOf p)
def classF (s:ByteArray):Nat->List Pt->St->List Pt×St
 |0,ps,st=>(ps,st)
 |f+1,ps,st=>
  if st.e=0/\zd s st.i≠93 then
   (if zd s st.i<0 then (ps,st.fail 3 st.i)
    else if rangeB s (za s st).2.2=true then
    (if (za s ((za s st).2.2.go 1)).2.2.e≠0 then (ps,(za s ((za s st).2.2.go 1)).2.2)
     else if badB (za s st).1 (za s ((za s st).2.2.go 1)).1 (za s st).2.1 (za s ((za s st).2.2.go 1)).2.1=true then (ps,(za s ((za s st).2.2.go 1)).2.2.fail 4 (za s st).2.2.i)
     else classF s f (ps++[⟨(za s st).1.neg,[(loOf (za s st).1,loOf (za s ((za s st).2.2.go 1)).1)]⟩]) (za s ((za s st).2.2.go 1)).2.2)
    else classF s f (ps++[(za s st).1]) (za s st).2.2)
  else (ps,st.go 1)
def notB (s:ByteArray)(st:St):Bool:=decide (zd s st.i=94)
def classSt (s:ByteArray)(st:St):St:=if notB s st=true then st.go 1 else st
def classR (s:ByteArray)(st:St):List Pt×St:=classF s (s.size+1-(classSt s st).i) [] (classSt s st)
section
variable {s:ByteArray} {f:Nat} {ps:List Pt} {st:St}
theorem zez (h:¬(st.e=0/\zd s st.i≠93)):classF s (f+1) ps st=(ps,st.go 1):=by simp only [classF];rw [if_neg h]
theorem zeZ (h:st.e=0/\zd s st.i≠93)(h1:zd s st.i<0):classF s (f+1) ps st=(ps,st.fail 3 st.i):=by simp only [classF];rw [if_pos h,if_pos h1]
theorem zeJ (h:st.e=0/\zd s st.i≠93)(h1:¬zd s st.i<0)(h2:¬rangeB s (za s st).2.2=true):classF s (f+1) ps st=classF s f (ps++[(za s st).1]) (za s st).2.2:=by
 simp only [classF];rw [if_pos h,if_neg h1,if_neg h2]
theorem ze0 (h:st.e=0/\zd s st.i≠93)(h1:¬zd s st.i<0)(h2:rangeB s (za s st).2.2=true)(h3:¬(za s ((za s st).2.2.go 1)).2.2.e=0):classF s (f+1) ps st=(ps,(za s ((za s st).2.2.go 1)).2.2):=by
 simp only [classF];rw [if_pos h,if_neg h1,if_pos h2,if_pos h3]
theorem zff (h:st.e=0/\zd s st.i≠93)(h1:¬zd s st.i<0)(h2:rangeB s (za s st).2.2=true)(h3:(za s ((za s st).2.2.go 1)).2.2.e=0)
  (h4:badB (za s st).1 (za s ((za s st).2.2.go 1)).1 (za s st).2.1 (za s ((za s st).2.2.go 1)).2.1=true):classF s (f+1) ps st=(ps,(za s ((za s st).2.2.go 1)).2.2.fail 4 (za s st).2.2.i):=by
 simp only [classF];rw [if_pos h,if_neg h1,if_pos h2,if_neg (by simp [h3]),if_pos h4]
theorem zeE (h:st.e=0/\zd s st.i≠93)(h1:¬zd s st.i<0)(h2:rangeB s (za s st).2.2=true)(h3:(za s ((za s st).2.2.go 1)).2.2.e=0)
  (h4:¬badB (za s st).1 (za s ((za s st).2.2.go 1)).1 (za s st).2.1 (za s ((za s st).2.2.go 1)).2.1=true) :
  classF s (f+1) ps st=classF s f (ps++[⟨(za s st).1.neg,[(loOf (za s st).1,loOf (za s ((za s st).2.2.go 1)).1)]⟩]) (za s ((za s st).2.2.go 1)).2.2:=by
 simp only [classF];rw [if_pos h,if_neg h1,if_pos h2,if_neg (by simp [h3]),if_neg h4]
end
end Ref
end
end Go.Proofs.YtcgleficedipkaaGreatDoor
