/- The reference's quantifiers. -/
import Derived.Test.YtnagphodmfejiaaGreatDoorX2
namespace Go.Proofs.YtnagphodmfejiaaGreatDoor
section
open Go.RowKit
set_option maxHeartbeats 1600000
namespace Ref
def qe (s:ByteArray)(mn:Int)(st:St):Int×St:=
 if st.e=0∧zd s st.i=44 then
  (if zd s (st.i+1)=125 then (-1,st.go 1) else zX s (st.go 1))
 else (mn,st)
def yC (s:ByteArray)(st:St):St:=if st.e=0∧zd s st.i≠125 then st.fail 3 st.i else st
def yj (s:ByteArray)(st:St):Int×Int×St:=
 let r1:=zX s (st.go 1)
 let r2:=qe s r1.1 r1.2
 let st3:=(yC s r2.2).go 1
 (r1.1,r2.1,if st3.e=0∧0≤r2.1∧r2.1<r1.1 then st3.fail 4 st.i else st3)
def qf (s:ByteArray)(st:St):St:=if st.e=0∧zd s st.i=63 then st.go 1 else st
def zO (s:ByteArray)(st:St):Int×Int×St:=
 if zd s st.i=43 then (1,-1,qf s (st.go 1))
 else if zd s st.i=63 then (0,1,qf s (st.go 1))
 else if zd s st.i=42 then (0,-1,qf s (st.go 1))
 else ((yj s st).1,(yj s st).2.1,qf s (yj s st).2.2)
theorem Kt (s:ByteArray):∀ (f:Nat) (n:Int) (st:St),0≤n→n≤2000→0≤(countL s f n st).1∧(countL s f n st).1≤2000∧st.i≤(countL s f n st).2.i∧(st.i≤s.size→(countL s f n st).2.i≤s.size)
 |0,n,st,h0,h1=>by simp only [countL];omega
 |f+1,n,st,h0,h1=>by
  cases hd:jk (zd s st.i)
  ·rw [countL_stop hd];simp only [];omega
  ·rw [countL_go hd]
   have hb:=Zq hd
   have hlt:st.i<s.size:=by rw [←zx];omega
   have h:=Kt s f (if n≤100 then 10*n+zd s st.i-48 else n) (st.go 1) (by split<;>omega) (by split<;>omega)
   simp only [St.go] at h ⊢
   omega
theorem xl (st:St)(e a:Int):(st.fail e a).i=st.i:=by unfold St.fail;split<;>rfl
theorem Wx (s:ByteArray)(st:St):(zX s st).2.i=(vk s st).2.i:=by
 unfold zX
 dsimp only
 split
 ·rw [xl];split
  ·rw [xl]
  ·rfl
 ·split
  ·rw [xl]
  ·rfl
theorem kX (s:ByteArray)(st:St):0≤(zX s st).1∧(zX s st).1≤2000∧st.i≤(zX s st).2.i∧(st.i≤s.size→(zX s st).2.i≤s.size):=by
 rw [Wx]
 exact Kt s (s.size+1-st.i) 0 st (by omega) (by omega)
end Ref
structure Six (w:World)(n:Nat)(a0 a1 a2 a3 a4 a5:Value):Prop where
 c0:w.cell? ⟨n,0,none⟩=some a0
 c1:w.cell? ⟨n,1,none⟩=some a1
 c2:w.cell? ⟨n,2,none⟩=some a2
 c3:w.cell? ⟨n,3,none⟩=some a3
 c4:w.cell? ⟨n,4,none⟩=some a4
 c5:w.cell? ⟨n,5,none⟩=some a5
 f0:w.frozen? ⟨n,0,none⟩=false
 f1:w.frozen? ⟨n,1,none⟩=false
 f2:w.frozen? ⟨n,2,none⟩=false
 f3:w.frozen? ⟨n,3,none⟩=false
 f4:w.frozen? ⟨n,4,none⟩=false
 f5:w.frozen? ⟨n,5,none⟩=false
section
variable {P:Nat→Prop} {w w':World} {n:Nat} {a0 a1 a2 a3 a4 a5:Value}
theorem Six.lt (h:Six w n a0 a1 a2 a3 a4 a5):n<w.heap.size:=World.block_lt_of_cell? w ⟨n,0,none⟩ h.c0
theorem Six.keep (h:Six w n a0 a1 a2 a3 a4 a5)(k:zf P w w')(hn:¬P n):Six w' n a0 a1 a2 a3 a4 a5:=
 ⟨zg k ⟨n,0,none⟩ _ h.c0 hn,zg k ⟨n,1,none⟩ _ h.c1 hn,zg k ⟨n,2,none⟩ _ h.c2 hn,zg k ⟨n,3,none⟩ _ h.c3 hn,zg k ⟨n,4,none⟩ _ h.c4 hn,zg k ⟨n,5,none⟩ _ h.c5 hn,
  zw k ⟨n,0,none⟩ h.lt h.f0 hn,zw k ⟨n,1,none⟩ h.lt h.f1 hn,zw k ⟨n,2,none⟩ h.lt h.f2 hn,zw k ⟨n,3,none⟩ h.lt h.f3 hn,zw k ⟨n,4,none⟩ h.lt h.f4 hn,zw k ⟨n,5,none⟩ h.lt h.f5 hn⟩
theorem Six.new (W:World)(T:TypeId)(hn:W.heap.size=n):Six (W.alloc (.cells #[a0,a1,a2,a3,a4,a5] T)) n a0 a1 a2 a3 a4 a5:=
 ⟨zo _ _ hn _ _ 0 _ rfl,zo _ _ hn _ _ 1 _ rfl,zo _ _ hn _ _ 2 _ rfl,zo _ _ hn _ _ 3 _ rfl,zo _ _ hn _ _ 4 _ rfl,zo _ _ hn _ _ 5 _ rfl,
  zv _ _ hn _ _ 0,zv _ _ hn _ _ 1,zv _ _ hn _ _ 2,zv _ _ hn _ _ 3,zv _ _ hn _ _ 4,zv _ _ hn _ _ 5⟩
theorem Six.drewN (h:Six w n a0 a1 a2 a3 a4 a5)(k:Nat):Six (w.drewN k) n a0 a1 a2 a3 a4 a5:=h.keep ((zf.refl (fun _=>False) w).drewN k) (fun f=>f)
theorem Six.other (h:Six w n a0 a1 a2 a3 a4 a5)(p:Addr)(hp:p.block≠n)(u:Value):Six (w.setCell p u) n a0 a1 a2 a3 a4 a5:=
 h.keep (P:=zm p.block) ((zf.refl (zm p.block) w).setCell (p:=p) (Or.inl (show p.block=p.block from rfl)) u) (fun e=>hp e.symm)
theorem Six.set1 (h:Six w n a0 a1 a2 a3 a4 a5)(u:Value):Six (w.setCell ⟨n,1,none⟩ u) n a0 u a2 a3 a4 a5:=
 ⟨(World.cell?_setCell_other _ _ _ _ (by simp)).trans h.c0,World.cell?_setCell_same _ _ _ h.c1,(World.cell?_setCell_other _ _ _ _ (by simp)).trans h.c2,(World.cell?_setCell_other _ _ _ _ (by simp)).trans h.c3,(World.cell?_setCell_other _ _ _ _ (by simp)).trans h.c4,(World.cell?_setCell_other _ _ _ _ (by simp)).trans h.c5,
  (zj _ _ _ _).trans h.f0,(zj _ _ _ _).trans h.f1,(zj _ _ _ _).trans h.f2,(zj _ _ _ _).trans h.f3,(zj _ _ _ _).trans h.f4,(zj _ _ _ _).trans h.f5⟩
theorem Six.set2 (h:Six w n a0 a1 a2 a3 a4 a5)(u:Value):Six (w.setCell ⟨n,2,none⟩ u) n a0 a1 u a3 a4 a5:=
 ⟨(World.cell?_setCell_other _ _ _ _ (by simp)).trans h.c0,(World.cell?_setCell_other _ _ _ _ (by simp)).trans h.c1,World.cell?_setCell_same _ _ _ h.c2,(World.cell?_setCell_other _ _ _ _ (by simp)).trans h.c3,(World.cell?_setCell_other _ _ _ _ (by simp)).trans h.c4,(World.cell?_setCell_other _ _ _ _ (by simp)).trans h.c5,
  (zj _ _ _ _).trans h.f0,(zj _ _ _ _).trans h.f1,(zj _ _ _ _).trans h.f2,(zj _ _ _ _).trans h.f3,(zj _ _ _ _).trans h.f4,(zj _ _ _ _).trans h.f5⟩
theorem Six.set4 (h:Six w n a0 a1 a2 a3 a4 a5)(u:Value):Six (w.setCell ⟨n,4,none⟩ u) n a0 a1 a2 a3 u a5:=
 ⟨(World.cell?_setCell_other _ _ _ _ (by simp)).trans h.c0,(World.cell?_setCell_other _ _ _ _ (by simp)).trans h.c1,(World.cell?_setCell_other _ _ _ _ (by simp)).trans h.c2,(World.cell?_setCell_other _ _ _ _ (by simp)).trans h.c3,World.cell?_setCell_same _ _ _ h.c4,(World.cell?_setCell_other _ _ _ _ (by simp)).trans h.c5,
  (zj _ _ _ _).trans h.f0,(zj _ _ _ _).trans h.f1,(zj _ _ _ _).trans h.f2,(zj _ _ _ _).trans h.f3,(zj _ _ _ _).trans h.f4,(zj _ _ _ _).trans h.f5⟩
theorem Six.set5 (h:Six w n a0 a1 a2 a3 a4 a5)(u:Value):Six (w.setCell ⟨n,5,none⟩ u) n a0 a1 a2 a3 a4 u:=
 ⟨(World.cell?_setCell_other _ _ _ _ (by simp)).trans h.c0,(World.cell?_setCell_other _ _ _ _ (by simp)).trans h.c1,(World.cell?_setCell_other _ _ _ _ (by simp)).trans h.c2,(World.cell?_setCell_other _ _ _ _ (by simp)).trans h.c3,(World.cell?_setCell_other _ _ _ _ (by simp)).trans h.c4,World.cell?_setCell_same _ _ _ h.c5,
  (zj _ _ _ _).trans h.f0,(zj _ _ _ _).trans h.f1,(zj _ _ _ _).trans h.f2,(zj _ _ _ _).trans h.f3,(zj _ _ _ _).trans h.f4,(zj _ _ _ _).trans h.f5⟩
end
namespace Ref
theorem wP {s:ByteArray}{st st1 stx:St}{mn mx:Int}(h1:zX s (st.go 1)=(mn,st1))(h2:qe s mn st1=(mx,stx)) :
  yj s st=(mn,mx,if ((yC s stx).go 1).e=0∧0≤mx∧mx<mn then ((yC s stx).go 1).fail 4 st.i else (yC s stx).go 1):=by
 unfold yj;rw [h1];simp only [h2]
theorem jU (st:St)(e a:Int)(h:e≠0):(st.fail e a).e≠0:=by unfold St.fail;split<;>simp_all
theorem Y9 {s:ByteArray}{st st1 stx:St}{mn mx:Int}(h1:zX s (st.go 1)=(mn,st1))(h2:qe s mn st1=(mx,stx))(h3:¬stx.e=0):yj s st=(mn,mx,stx.go 1):=by
 rw [wP h1 h2]
 have hb:yC s stx=stx:=by unfold yC;rw [if_neg (by intro h;exact h3 h.1)]
 rw [hb,if_neg (by intro h;exact h3 h.1)]
theorem X9 {s:ByteArray}{st st1 stx:St}{mn mx:Int}(h1:zX s (st.go 1)=(mn,st1))(h2:qe s mn st1=(mx,stx))(h3:stx.e=0)(h4:¬zd s stx.i=125):yj s st=(mn,mx,(stx.fail 3 stx.i).go 1):=by
 rw [wP h1 h2]
 have hb:yC s stx=stx.fail 3 stx.i:=by unfold yC;rw [if_pos ⟨h3,h4⟩]
 rw [hb,if_neg (by intro h;exact jU stx 3 stx.i (by decide) h.1)]
theorem Jg {s:ByteArray}{st st1 stx:St}{mn mx:Int}(h1:zX s (st.go 1)=(mn,st1))(h2:qe s mn st1=(mx,stx))(h3:stx.e=0)(h4:zd s stx.i=125)(h5:0≤mx∧mx<mn):yj s st=(mn,mx,(stx.go 1).fail 4 st.i):=by
 rw [wP h1 h2]
 have hb:yC s stx=stx:=by unfold yC;rw [if_neg (by intro h;exact h.2 h4)]
 rw [hb,if_pos ⟨h3,h5⟩]
theorem wQ {s:ByteArray}{st st1 stx:St}{mn mx:Int}(h1:zX s (st.go 1)=(mn,st1))(h2:qe s mn st1=(mx,stx))(_h3:stx.e=0)(h4:zd s stx.i=125)(h5:¬(0≤mx∧mx<mn)):yj s st=(mn,mx,stx.go 1):=by
 rw [wP h1 h2]
 have hb:yC s stx=stx:=by unfold yC;rw [if_neg (by intro h;exact h.2 h4)]
 rw [hb,if_neg (by intro h;exact h5 h.2)]
end Ref
theorem wR (b:Nat)(s:ByteArray)(st:St)(w:World)(h:Lex w b s st)(hs:s.size≤400) :
  Calls Tryz.prog 69 #[.pointer (some ⟨b,0,none⟩)] w fun x w'=>x = .returned (.int .i64 (zd s st.i))∧zf (fun _=>False) w w':=
 (zP b s st w h hs).mono fun _ _ ⟨h1,_,h2⟩=>⟨h1,by rw [h2];exact (zf.refl _ _).drewN _⟩
theorem zaP (b:Nat)(s:ByteArray)(st:St)(w:World)(h:Lex w b s st)(hs:s.size≤400)(hi:st.i<s.size) :
  Calls Tryz.prog 122 #[.pointer (some ⟨b,0,none⟩)] w fun x w'=>
   x = .returned (.agg #[.int .i64 6,.bool false,.slice none 0 0,.int .i64 0,.int .i64 (Ref.yj s st).1,.int .i64 (Ref.yj s st).2.1])∧Lex w' b s (Ref.yj s st).2.2∧zf (zm b) w w':=by
 have hL1:=ze h
 have hlt:=h.lt
 obtain ⟨c0,c1,c2,c3,f1,f2,f3⟩:=h
 have hL2:=ze ((((zb hL1).setI ((st.i:Int)+1) 1 (by omega)).alloc (.cells #[.int .i64 0,.bool false,.slice none 0 0,.int .i64 0,.int .i64 0,.int .i64 0] 178)).alloc (.cells #[.int .i64 6,.bool false,.slice none 0 0,.int .i64 0,.int .i64 0,.int .i64 0] 178))
 have hR2:=ze ((Six.new (n:=w.heap.size) (a0:=.int .i64 0) (a1:=.bool false) (a2:=.slice none 0 0) (a3:=.int .i64 0) (a4:=.int .i64 0) (a5:=.int .i64 0) (w.setCell ⟨b,1,none⟩ (.int .i64 ((st.i:Int)+1))) 178 (by simp)).keep ((zf.refl (fun _=>False) _).alloc (.cells #[.int .i64 6,.bool false,.slice none 0 0,.int .i64 0,.int .i64 0,.int .i64 0] 178)) (fun f=>f))
 have hT2:=ze (Six.new (n:=w.heap.size+1) (a0:=.int .i64 6) (a1:=.bool false) (a2:=.slice none 0 0) (a3:=.int .i64 0) (a4:=.int .i64 0) (a5:=.int .i64 0) ((w.setCell ⟨b,1,none⟩ (.int .i64 ((st.i:Int)+1))).alloc (.cells #[.int .i64 0,.bool false,.slice none 0 0,.int .i64 0,.int .i64 0,.int .i64 0] 178)) 178 (by simp))
 have hO2:=ze ((((zf.refl (zm b) w).mine 1 (.int .i64 ((st.i:Int)+1))).alloc (.cells #[.int .i64 0,.bool false,.slice none 0 0,.int .i64 0,.int .i64 0,.int .i64 0] 178)).alloc (.cells #[.int .i64 6,.bool false,.slice none 0 0,.int .i64 0,.int .i64 0,.int .i64 0] 178))
 go_enter Tryz.func122,Tryz.ntmps122
 go_wp2_with fail
 refine (Kk b s (st.go 1) _ (zb hL2) hs (by simp only [St.go];omega)).mono ?_
 rintro e w1 ⟨rfl,hL3,hO3⟩
 have hR3:=(zb hR2).keep hO3 (by unfold zm;omega)
 have hT3:=(zb hT2).keep hO3 (by unfold zm;omega)
 have HO3:=ze ((zb hO2).trans hO3)
 have hcb:=Ref.kX s (st.go 1)
 have HC:=ze (Eq.refl (Ref.zX s (st.go 1)))
 generalize hr:Ref.zX s (st.go 1)=r at *
 obtain ⟨mn,st1⟩:=r
 simp only [] at *
 obtain ⟨m0,m1,m2,m3⟩:=hcb
 have m4:st1.i≤s.size:=m3 (by simp only [St.go];omega)
 have H1:=ze hr
 clear hr HC m3 c0 c1 c2 c3 f1 f2 f3
 have hL4:=ze ((hL3.keep (((zf.refl (zm (w.heap.size+1)) w1).mine 4 (.int .i64 mn)).mine 5 (.int .i64 mn)) (by unfold zm;omega)))
 have hT4:=ze ((hT3.set4 (.int .i64 mn)).set5 (.int .i64 mn))
 have hR4:=ze ((hR3.other ⟨w.heap.size+1,4,none⟩ (by simp) (.int .i64 mn)).other ⟨w.heap.size+1,5,none⟩ (by simp) (.int .i64 mn))
 have hO4:=ze ((zb HO3).young (((zf.refl (zm (w.heap.size+1)) w1).mine 4 (.int .i64 mn)).mine 5 (.int .i64 mn)) (by omega))
 obtain ⟨t0,t1,t2,t3,t4,t5,v0,v1,v2,v3,v4,v5⟩:=hT3
 obtain ⟨r0,r1,r2,r3,r4,r5,u0,u1,u2,u3,u4,u5⟩:=hR3
 obtain ⟨l0,l1,l2,l3,k1,k2,k3⟩:=hL3
 clear hO3
 by_cases e1:st1.e=0
 ·have eb:(st1.e == 0)=true:=by simp [e1]
  have E1:=ze e1
  clear e1
  by_cases b1:zd s st1.i=44
  ·have bb:(zd s st1.i == 44)=true:=by simp [b1]
   have hlt1:st1.i<s.size:=by rw [←zx];omega
   go_wp2_with fail
   refine (zP b s st1 _ (zb hL4) hs).mono ?_
   rintro e w2 ⟨rfl,nq,rfl⟩
   go_wp2_with fail
   have hL5:=ze ((((zb hL4).drewN nq).setI ((st1.i:Int)+1) 1 (by omega)).keep ((zf.refl (zm (w.heap.size+1)) _).mine 5 (.int .i64 (-1))) (by unfold zm;omega))
   have hT5:=ze (((((zb hT4).drewN nq).other ⟨b,1,none⟩ (by simp;omega) (.int .i64 ((st1.i:Int)+1)))).set5 (.int .i64 (-1)))
   have hR5:=ze (((((zb hR4).drewN nq).other ⟨b,1,none⟩ (by simp;omega) (.int .i64 ((st1.i:Int)+1)))).other ⟨w.heap.size+1,5,none⟩ (by simp) (.int .i64 (-1)))
   have hO5:=ze ((((zb hO4).drewN nq).mine 1 (.int .i64 ((st1.i:Int)+1))).young ((zf.refl (zm (w.heap.size+1)) _).mine 5 (.int .i64 (-1))) (by omega))
   refine (wR b s (st1.go 1) _ (zb hL5) hs).mono ?_
   rintro e w2 ⟨rfl,hON⟩
   simp only [St.go]
   have hLN:=(zb hL5).keep hON (fun f=>f)
   have hTN:=(zb hT5).keep hON (fun f=>f)
   have hRN:=(zb hR5).keep hON (fun f=>f)
   have hOO:=ze ((zb hO5).trans (hON.mono (fun _ _ f=>f.elim)))
   have hLL:=ze hLN
   have hTT:=ze hTN
   have hRR:=ze hRN
   clear hON l0 l1 l2 l3 k1 k2 k3 t0 t1 t2 t3 t4 t5 v0 v1 v2 v3 v4 v5 r0 r1 r2 r3 r4 r5 u0 u1 u2 u3 u4 u5 hL5 hT5 hR5 hO5
   obtain ⟨l0,l1,l2,l3,k1,k2,k3⟩:=hLN
   obtain ⟨t0,t1,t2,t3,t4,t5,v0,v1,v2,v3,v4,v5⟩:=hTN
   obtain ⟨r0,r1,r2,r3,r4,r5,u0,u1,u2,u3,u4,u5⟩:=hRN
   have hgi:(st1.go 1).i≤1000:=by simp only [St.go];omega
   by_cases b2:zd s (st1.i+1)=125
   ·have bb2:(zd s (st1.i+1) == 125)=true:=by simp [b2]
    have bb2':(zd s (st1.i+1) != 125)=false:=by simp [b2]
    have HH:Hid (Ref.yj s st=(mn,-1,(st1.go 1).go 1)):=Ref.wQ (zb H1) (by unfold Ref.qe;rw [if_pos ⟨zb E1,b1⟩,if_pos b2]) (zb E1) b2 (by omega)
    clear b1 b2
    go_wp2_with fail
    refine (zP b s (st1.go 1) _ (zb hLL) hs).mono ?_
    rintro e w2 ⟨rfl,nq2,rfl⟩
    simp only [St.go]
    go_wp2_with fail
    refine bodyPost_ret (v:=.agg #[.int .i64 6,.bool false,.slice none 0 0,.int .i64 0,.int .i64 mn,.int .i64 (-1)]) (by simp [results,Tryz.results122,go_sem,r0,r1,r2,r3,r4,r5]) rfl ?_
    rw [zb HH]
    exact ⟨rfl,(((zb hLL).drewN _).setI _ 1 (by simp only [St.go];omega)).keep (zf.six w.heap.size _ _ _ _ _ _ _) (by unfold zm;omega),(((zb hOO).drewN _).mine 1 _).young (zf.six w.heap.size _ _ _ _ _ _ _) (Nat.le_refl _)⟩
   ·have bb2':(zd s (st1.i+1) != 125)=true:=by simp [b2]
    go_wp2_with fail
    refine (Kk b s (st1.go 1) _ (zb hLL) hs (by simp only [St.go];omega)).mono ?_
    rintro e w4 ⟨rfl,hL6,hO6⟩
    have hR6:=((zb hRR).keep hO6 (by unfold zm;omega))
    have hT6:=((zb hTT).keep hO6 (by unfold zm;omega))
    have HO6:=ze ((zb hOO).trans hO6)
    have hcb:=Ref.kX s (st1.go 1)
    generalize hr:Ref.zX s (st1.go 1)=r at *
    obtain ⟨mx,st2⟩:=r
    simp only [] at *
    obtain ⟨n0,n1,n2,n3⟩:=hcb
    have n4:st2.i≤s.size:=n3 (by simp only [St.go];omega)
    have H2:Hid (Ref.qe s mn st1=(mx,st2)):=by show _=_;unfold Ref.qe;rw [if_pos ⟨zb E1,b1⟩,if_neg b2,hr]
    clear hr n3 b1 b2 hO6
    have hL7:=ze (hL6.keep ((zf.refl (zm (w.heap.size+1)) w4).mine 5 (.int .i64 mx)) (by unfold zm;omega))
    have hT7:=ze (hT6.set5 (.int .i64 mx))
    have hR7:=ze (hR6.other ⟨w.heap.size+1,5,none⟩ (by simp) (.int .i64 mx))
    have hO7:=ze ((zb HO6).young ((zf.refl (zm (w.heap.size+1)) w4).mine 5 (.int .i64 mx)) (by omega))
    obtain ⟨a0,a1,a2,a3,a4,a5,x0,x1,x2,x3,x4,x5⟩:=hT6
    obtain ⟨g0,g1,g2,g3,g4,g5,y0,y1,y2,y3,y4,y5⟩:=hR6
    obtain ⟨z0,z1,z2,z3,j1,j2,j3⟩:=hL6
    clear l0 l1 l2 l3 k1 k2 k3 t0 t1 t2 t3 t4 t5 v0 v1 v2 v3 v4 v5 r0 r1 r2 r3 r4 r5 u0 u1 u2 u3 u4 u5
    by_cases e2:st2.e=0
    ·have eb2:(st2.e == 0)=true:=by simp [e2]
     by_cases b3:zd s st2.i=125
     ·have bb3:(zd s st2.i != 125)=false:=by simp [b3]
      by_cases hlt3:mx<mn
      ·have HH:Hid (Ref.yj s st=(mn,mx,(st2.go 1).fail 4 st.i)):=Ref.Jg (zb H1) (zb H2) e2 b3 ⟨n0,hlt3⟩
       clear e2 b3
       go_wp2_with fail
       refine (zP b s st2 _ (zb hL7) hs).mono ?_
       rintro e w2 ⟨rfl,nq2,rfl⟩
       go_wp2_with fail
       have hL8:=((zb hL7).drewN nq2).setI ((st2.i:Int)+1) 1 (by omega)
       refine (yi b s (st2.go 1) 4 _ _ hL8).mono ?_
       rintro e w5 ⟨rfl,hL9,hO9⟩
       have hT9:=((((zb hT7).drewN nq2).other ⟨b,1,none⟩ (by simp;omega) (.int .i64 ((st2.i:Int)+1)))).keep hO9 (by unfold zm;omega)
       have hR9:=((((zb hR7).drewN nq2).other ⟨b,1,none⟩ (by simp;omega) (.int .i64 ((st2.i:Int)+1)))).keep hO9 (by unfold zm;omega)
       obtain ⟨p0,p1,p2,p3,p4,p5,o0,o1,o2,o3,o4,o5⟩:=hT9
       obtain ⟨d0,d1,d2,d3,d4,d5,i0,i1,i2,i3,i4,i5⟩:=hR9
       have HL9:=ze hL9
       have HO9:=ze ((((zb hO7).drewN nq2).mine 1 (.int .i64 ((st2.i:Int)+1))).trans hO9)
       clear hL9 hO9 hL8
       go_wp2_with fail
       refine bodyPost_ret (v:=.agg #[.int .i64 6,.bool false,.slice none 0 0,.int .i64 0,.int .i64 mn,.int .i64 (mx)]) (by simp [results,Tryz.results122,go_sem,d0,d1,d2,d3,d4,d5]) rfl ?_
       rw [zb HH]
       exact ⟨rfl,(zb HL9).keep (zf.six w.heap.size _ _ _ _ _ _ _) (by unfold zm;omega),(zb HO9).young (zf.six w.heap.size _ _ _ _ _ _ _) (Nat.le_refl _)⟩
      ·have HH:Hid (Ref.yj s st=(mn,mx,(st2.go 1))):=Ref.wQ (zb H1) (zb H2) e2 b3 (by omega)
       clear e2 b3
       go_wp2_with fail
       refine (zP b s st2 _ (zb hL7) hs).mono ?_
       rintro e w2 ⟨rfl,nq2,rfl⟩
       go_wp2_with fail
       refine bodyPost_ret (v:=.agg #[.int .i64 6,.bool false,.slice none 0 0,.int .i64 0,.int .i64 mn,.int .i64 (mx)]) (by simp [results,Tryz.results122,go_sem,g0,g1,g2,g3,g4,g5]) rfl ?_
       rw [zb HH]
       exact ⟨rfl,(((zb hL7).drewN nq2).setI _ 1 (by omega)).keep (zf.six w.heap.size _ _ _ _ _ _ _) (by unfold zm;omega),(((zb hO7).drewN nq2).mine 1 _).young (zf.six w.heap.size _ _ _ _ _ _ _) (Nat.le_refl _)⟩
     ·have bb3:(zd s st2.i != 125)=true:=by simp [b3]
      have HH:Hid (Ref.yj s st=(mn,mx,(st2.fail 3 st2.i).go 1)):=Ref.X9 (zb H1) (zb H2) e2 b3
      have en:((st2.fail 3 st2.i).e == 0)=false:=by simp [Ref.jU]
      clear e2 b3
      go_wp2_with fail
      refine (zP b s st2 _ (zb hL7) hs).mono ?_
      rintro e w2 ⟨rfl,nq2,rfl⟩
      go_wp2_with fail
      refine (yi b s st2 3 _ _ ((zb hL7).drewN nq2)).mono ?_
      rintro e w5 ⟨rfl,hL9,hO9⟩
      have hT9:=((zb hT7).drewN nq2).keep hO9 (by unfold zm;omega)
      have hR9:=((zb hR7).drewN nq2).keep hO9 (by unfold zm;omega)
      obtain ⟨p0,p1,p2,p3,p4,p5,o0,o1,o2,o3,o4,o5⟩:=hT9
      obtain ⟨d0,d1,d2,d3,d4,d5,i0,i1,i2,i3,i4,i5⟩:=hR9
      have HL9:=ze hL9
      have HO9:=ze (((zb hO7).drewN nq2).trans hO9)
      have hfi:(st2.fail 3 st2.i).i≤400:=by rw [Ref.xl];omega
      obtain ⟨zz0,zz1,zz2,zz3,jj1,jj2,jj3⟩:=hL9
      clear hO9
      go_wp2_with fail
      refine bodyPost_ret (v:=.agg #[.int .i64 6,.bool false,.slice none 0 0,.int .i64 0,.int .i64 mn,.int .i64 (mx)]) (by simp [results,Tryz.results122,go_sem,d0,d1,d2,d3,d4,d5]) rfl ?_
      rw [zb HH]
      exact ⟨rfl,((zb HL9).setI _ 1 (by omega)).keep (zf.six w.heap.size _ _ _ _ _ _ _) (by unfold zm;omega),((zb HO9).mine 1 _).young (zf.six w.heap.size _ _ _ _ _ _ _) (Nat.le_refl _)⟩
    ·have eb2:(st2.e == 0)=false:=by simp [e2]
     have HH:Hid (Ref.yj s st=(mn,mx,st2.go 1)):=Ref.Y9 (zb H1) (zb H2) e2
     clear e2
     go_wp2_with fail
     refine bodyPost_ret (v:=.agg #[.int .i64 6,.bool false,.slice none 0 0,.int .i64 0,.int .i64 mn,.int .i64 (mx)]) (by simp [results,Tryz.results122,go_sem,g0,g1,g2,g3,g4,g5]) rfl ?_
     rw [zb HH]
     exact ⟨rfl,((zb hL7).setI _ 1 (by omega)).keep (zf.six w.heap.size _ _ _ _ _ _ _) (by unfold zm;omega),((zb hO7).mine 1 _).young (zf.six w.heap.size _ _ _ _ _ _ _) (Nat.le_refl _)⟩
  ·have bb:(zd s st1.i == 44)=false:=by simp [b1]
   have H2:Hid (Ref.qe s mn st1=(mn,st1)):=by show _=_;unfold Ref.qe;rw [if_neg (by intro hh;exact b1 hh.2)]
   clear b1
   go_wp2_with fail
   refine (zP b s st1 _ (zb hL4) hs).mono ?_
   rintro e w2 ⟨rfl,nq,rfl⟩
   by_cases b3:zd s st1.i=125
   ·have bb3:(zd s st1.i != 125)=false:=by simp [b3]
    have HH:Hid (Ref.yj s st=(mn,mn,(st1.go 1))):=Ref.wQ (zb H1) (zb H2) (zb E1) b3 (by omega)
    clear b3
    go_wp2_with fail
    refine (zP b s st1 _ ((zb hL4).drewN nq) hs).mono ?_
    rintro e w2 ⟨rfl,nq2,rfl⟩
    go_wp2_with fail
    refine bodyPost_ret (v:=.agg #[.int .i64 6,.bool false,.slice none 0 0,.int .i64 0,.int .i64 mn,.int .i64 (mn)]) (by simp [results,Tryz.results122,go_sem,r0,r1,r2,r3,r4,r5]) rfl ?_
    rw [zb HH]
    exact ⟨rfl,(((zb hL4).drewN _).setI _ 1 (by omega)).keep (zf.six w.heap.size _ _ _ _ _ _ _) (by unfold zm;omega),(((zb hO4).drewN _).mine 1 _).young (zf.six w.heap.size _ _ _ _ _ _ _) (Nat.le_refl _)⟩
   ·have bb3:(zd s st1.i != 125)=true:=by simp [b3]
    have HH:Hid (Ref.yj s st=(mn,mn,(st1.fail 3 st1.i).go 1)):=Ref.X9 (zb H1) (zb H2) (zb E1) b3
    have en:((st1.fail 3 st1.i).e == 0)=false:=by simp [Ref.jU]
    clear b3
    go_wp2_with fail
    refine (zP b s st1 _ ((zb hL4).drewN nq) hs).mono ?_
    rintro e w2 ⟨rfl,nq2,rfl⟩
    go_wp2_with fail
    refine (yi b s st1 3 _ _ ((zb hL4).drewN _)).mono ?_
    rintro e w5 ⟨rfl,hL9,hO9⟩
    have hT9:=((zb hT4).drewN _).keep hO9 (by unfold zm;omega)
    have hR9:=((zb hR4).drewN _).keep hO9 (by unfold zm;omega)
    obtain ⟨p0,p1,p2,p3,p4,p5,o0,o1,o2,o3,o4,o5⟩:=hT9
    obtain ⟨d0,d1,d2,d3,d4,d5,i0,i1,i2,i3,i4,i5⟩:=hR9
    have HL9:=ze hL9
    have HO9:=ze (((zb hO4).drewN _).trans hO9)
    have hfi:(st1.fail 3 st1.i).i≤400:=by rw [Ref.xl];omega
    obtain ⟨zz0,zz1,zz2,zz3,jj1,jj2,jj3⟩:=hL9
    clear hO9
    go_wp2_with fail
    refine bodyPost_ret (v:=.agg #[.int .i64 6,.bool false,.slice none 0 0,.int .i64 0,.int .i64 mn,.int .i64 (mn)]) (by simp [results,Tryz.results122,go_sem,d0,d1,d2,d3,d4,d5]) rfl ?_
    rw [zb HH]
    exact ⟨rfl,((zb HL9).setI _ 1 (by omega)).keep (zf.six w.heap.size _ _ _ _ _ _ _) (by unfold zm;omega),((zb HO9).mine 1 _).young (zf.six w.heap.size _ _ _ _ _ _ _) (Nat.le_refl _)⟩
 ·have eb:(st1.e == 0)=false:=by simp [e1]
  have HH:Hid (Ref.yj s st=(mn,mn,st1.go 1)):=Ref.Y9 (zb H1) (by unfold Ref.qe;rw [if_neg (by intro hh;exact e1 hh.1)]) e1
  clear e1
  go_wp2_with fail
  refine bodyPost_ret (v:=.agg #[.int .i64 6,.bool false,.slice none 0 0,.int .i64 0,.int .i64 mn,.int .i64 (mn)]) (by simp [results,Tryz.results122,go_sem,r0,r1,r2,r3,r4,r5]) rfl ?_
  rw [zb HH]
  exact ⟨rfl,((zb hL4).setI _ 1 (by omega)).keep (zf.six w.heap.size _ _ _ _ _ _ _) (by unfold zm;omega),((zb hO4).mine 1 _).young (zf.six w.heap.size _ _ _ _ _ _ _) (Nat.le_refl _)⟩
namespace Ref
theorem restF_i (s:ByteArray)(mn:Int)(st:St)(h:st.i≤s.size):(qe s mn st).2.i≤s.size+1:=by
 unfold qe
 split
 ·rename_i hh
  have hlt:st.i<s.size:=by rw [←zx];omega
  split
  ·simp only [St.go];omega
  ·have:=(kX s (st.go 1)).2.2.2 (by simp only [St.go];omega);omega
 ·simp only [];omega
theorem Ku (s:ByteArray)(st:St)(h:st.i<s.size):(yj s st).2.2.i≤s.size+2:=by
 have h1:=(kX s (st.go 1)).2.2.2 (by simp only [St.go];omega)
 have h2:=restF_i s (zX s (st.go 1)).1 _ h1
 have h3:∀ st',(yC s st').i=st'.i:=by intro st';unfold yC;split;exact xl _ _ _;rfl
 unfold yj
 dsimp only
 have h4:∀ st':St,((yC s st').go 1).i=st'.i+1:=by intro st';show (yC s st').i+1=_;rw [h3]
 split
 ·rw [xl,h4];omega
 ·rw [h4];omega
end Ref
theorem Jh (b:Nat)(s:ByteArray)(st:St)(w:World)(h:Lex w b s st)(hs:s.size≤400)(hi:st.i<s.size)(he:st.e=0) :
  Calls Tryz.prog 70 #[.pointer (some ⟨b,0,none⟩)] w fun x w'=>
   x = .returned (.agg #[.int .i64 6,.bool false,.slice none 0 0,.int .i64 0,.int .i64 (Ref.zO s st).1,.int .i64 (Ref.zO s st).2.1])∧Lex w' b s (Ref.zO s st).2.2∧zf (zm b) w w':=by
 have hL1:=ze h
 have hlt:=h.lt
 have HE:=ze he
 have eb:(st.e == 0)=true:=by simp [he]
 clear he
 have hL2:=ze (((zb hL1).alloc (.cells #[.int .i64 0,.bool false,.slice none 0 0,.int .i64 0,.int .i64 0,.int .i64 0] 178)).alloc (.cells #[.int .i64 6,.bool false,.slice none 0 0,.int .i64 0,.int .i64 0,.int .i64 (-1)] 178))
 have hR2:=ze ((Six.new (n:=w.heap.size) (a0:=.int .i64 0) (a1:=.bool false) (a2:=.slice none 0 0) (a3:=.int .i64 0) (a4:=.int .i64 0) (a5:=.int .i64 0) w 178 rfl).keep ((zf.refl (fun _=>False) _).alloc (.cells #[.int .i64 6,.bool false,.slice none 0 0,.int .i64 0,.int .i64 0,.int .i64 (-1)] 178)) (fun f=>f))
 have hT2:=ze (Six.new (n:=w.heap.size+1) (a0:=.int .i64 6) (a1:=.bool false) (a2:=.slice none 0 0) (a3:=.int .i64 0) (a4:=.int .i64 0) (a5:=.int .i64 (-1)) (w.alloc (.cells #[.int .i64 0,.bool false,.slice none 0 0,.int .i64 0,.int .i64 0,.int .i64 0] 178)) 178 (by simp))
 have hO2:=ze (((zf.refl (zm b) w).alloc (.cells #[.int .i64 0,.bool false,.slice none 0 0,.int .i64 0,.int .i64 0,.int .i64 0] 178)).alloc (.cells #[.int .i64 6,.bool false,.slice none 0 0,.int .i64 0,.int .i64 0,.int .i64 (-1)] 178))
 clear h
 go_enter Tryz.func70,Tryz.ntmps70
 go_wp2_with fail
 refine (wR b s st _ (zb hL2) hs).mono ?_
 rintro e w1 ⟨rfl,hON⟩
 have hLN:=(zb hL2).keep hON (fun f=>f)
 have hTN:=(zb hT2).keep hON (fun f=>f)
 have hRN:=(zb hR2).keep hON (fun f=>f)
 have hOO:=ze ((zb hO2).trans (hON.mono (fun _ _ f=>f.elim)))
 have hLL:=ze hLN
 have hTT:=ze hTN
 have hRR:=ze hRN
 clear hON hL2 hT2 hR2 hO2
 obtain ⟨l0,l1,l2,l3,k1,k2,k3⟩:=hLN
 obtain ⟨t0,t1,t2,t3,t4,t5,v0,v1,v2,v3,v4,v5⟩:=hTN
 obtain ⟨r0,r1,r2,r3,r4,r5,u0,u1,u2,u3,u4,u5⟩:=hRN
 by_cases x1:zd s st.i=43
 ·have y1:(zd s st.i == 43)=true:=by simp [x1]
  have eb':((st.go 1).e == 0)=true:=by simp [St.go,zb HE]
  go_wp2_with fail
  have hL5:=ze (((zb hLL).keep ((zf.refl (zm (w.heap.size+1)) w1).mine 4 (.int .i64 1)) (by unfold zm;omega)).setI ((st.i:Int)+1) 1 (by omega))
  have hO5:=ze (((zb hOO).young ((zf.refl (zm (w.heap.size+1)) w1).mine 4 (.int .i64 1)) (by omega)).mine 1 (.int .i64 ((st.i:Int)+1)))
  refine (zP b s (st.go 1) _ (zb hL5) hs).mono ?_
  rintro e w2 ⟨rfl,nq,rfl⟩
  simp only [St.go]
  by_cases b2:zd s (st.i+1)=63
  ·have bb2:(zd s (st.i+1) == 63)=true:=by simp [b2]
   have HH:Hid (Ref.zO s st=(1,-1,(st.go 1).go 1)):=by show _=_;unfold Ref.zO Ref.qf;rw [if_pos x1,if_pos ⟨by simp [St.go,zb HE],b2⟩]
   clear x1 b2
   go_wp2_with fail
   refine bodyPost_ret (v:=.agg #[.int .i64 6,.bool false,.slice none 0 0,.int .i64 0,.int .i64 (1),.int .i64 (-1)]) (by simp [results,Tryz.results70,go_sem,r0,r1,r2,r3,r4,r5]) rfl ?_
   rw [zb HH]
   exact ⟨rfl,(((zb hL5).drewN nq).setI _ 1 (by simp only [St.go];omega)).keep (zf.six w.heap.size _ _ _ _ _ _ _) (by unfold zm;omega),(((zb hO5).drewN nq).mine 1 _).young (zf.six w.heap.size _ _ _ _ _ _ _) (Nat.le_refl _)⟩
  ·have bb2:(zd s (st.i+1) == 63)=false:=by simp [b2]
   have HH:Hid (Ref.zO s st=(1,-1,st.go 1)):=by show _=_;unfold Ref.zO Ref.qf;rw [if_pos x1,if_neg (by intro hh;exact b2 hh.2)]
   clear x1 b2
   go_wp2_with fail
   refine bodyPost_ret (v:=.agg #[.int .i64 6,.bool false,.slice none 0 0,.int .i64 0,.int .i64 (1),.int .i64 (-1)]) (by simp [results,Tryz.results70,go_sem,r0,r1,r2,r3,r4,r5]) rfl ?_
   rw [zb HH]
   exact ⟨rfl,((zb hL5).drewN nq).keep (zf.six w.heap.size _ _ _ _ _ _ _) (by unfold zm;omega),((zb hO5).drewN nq).young (zf.six w.heap.size _ _ _ _ _ _ _) (Nat.le_refl _)⟩
 ·have y1:(zd s st.i == 43)=false:=by simp [x1]
  by_cases x2:zd s st.i=63
  ·have y2:(zd s st.i == 63)=true:=by simp [x2]
   have eb':((st.go 1).e == 0)=true:=by simp [St.go,zb HE]
   go_wp2_with fail
   have hL5:=ze (((zb hLL).keep ((zf.refl (zm (w.heap.size+1)) w1).mine 5 (.int .i64 1)) (by unfold zm;omega)).setI ((st.i:Int)+1) 1 (by omega))
   have hO5:=ze (((zb hOO).young ((zf.refl (zm (w.heap.size+1)) w1).mine 5 (.int .i64 1)) (by omega)).mine 1 (.int .i64 ((st.i:Int)+1)))
   refine (zP b s (st.go 1) _ (zb hL5) hs).mono ?_
   rintro e w2 ⟨rfl,nq,rfl⟩
   simp only [St.go]
   by_cases b2:zd s (st.i+1)=63
   ·have bb2:(zd s (st.i+1) == 63)=true:=by simp [b2]
    have HH:Hid (Ref.zO s st=(0,1,(st.go 1).go 1)):=by show _=_;unfold Ref.zO Ref.qf;rw [if_neg x1,if_pos x2,if_pos ⟨by simp [St.go,zb HE],b2⟩]
    clear x1 x2 b2
    go_wp2_with fail
    refine bodyPost_ret (v:=.agg #[.int .i64 6,.bool false,.slice none 0 0,.int .i64 0,.int .i64 (0),.int .i64 (1)]) (by simp [results,Tryz.results70,go_sem,r0,r1,r2,r3,r4,r5]) rfl ?_
    rw [zb HH]
    exact ⟨rfl,(((zb hL5).drewN nq).setI _ 1 (by simp only [St.go];omega)).keep (zf.six w.heap.size _ _ _ _ _ _ _) (by unfold zm;omega),(((zb hO5).drewN nq).mine 1 _).young (zf.six w.heap.size _ _ _ _ _ _ _) (Nat.le_refl _)⟩
   ·have bb2:(zd s (st.i+1) == 63)=false:=by simp [b2]
    have HH:Hid (Ref.zO s st=(0,1,st.go 1)):=by show _=_;unfold Ref.zO Ref.qf;rw [if_neg x1,if_pos x2,if_neg (by intro hh;exact b2 hh.2)]
    clear x1 x2 b2
    go_wp2_with fail
    refine bodyPost_ret (v:=.agg #[.int .i64 6,.bool false,.slice none 0 0,.int .i64 0,.int .i64 (0),.int .i64 (1)]) (by simp [results,Tryz.results70,go_sem,r0,r1,r2,r3,r4,r5]) rfl ?_
    rw [zb HH]
    exact ⟨rfl,((zb hL5).drewN nq).keep (zf.six w.heap.size _ _ _ _ _ _ _) (by unfold zm;omega),((zb hO5).drewN nq).young (zf.six w.heap.size _ _ _ _ _ _ _) (Nat.le_refl _)⟩
  ·have y2:(zd s st.i == 63)=false:=by simp [x2]
   by_cases x3:zd s st.i=42
   ·have y3:(zd s st.i == 42)=true:=by simp [x3]
    have eb':((st.go 1).e == 0)=true:=by simp [St.go,zb HE]
    go_wp2_with fail
    have hL5:=ze (((zb hLL)).setI ((st.i:Int)+1) 1 (by omega))
    have hO5:=ze (((zb hOO)).mine 1 (.int .i64 ((st.i:Int)+1)))
    refine (zP b s (st.go 1) _ (zb hL5) hs).mono ?_
    rintro e w2 ⟨rfl,nq,rfl⟩
    simp only [St.go]
    by_cases b2:zd s (st.i+1)=63
    ·have bb2:(zd s (st.i+1) == 63)=true:=by simp [b2]
     have HH:Hid (Ref.zO s st=(0,-1,(st.go 1).go 1)):=by show _=_;unfold Ref.zO Ref.qf;rw [if_neg x1,if_neg x2,if_pos x3,if_pos ⟨by simp [St.go,zb HE],b2⟩]
     clear x1 x2 x3 b2
     go_wp2_with fail
     refine bodyPost_ret (v:=.agg #[.int .i64 6,.bool false,.slice none 0 0,.int .i64 0,.int .i64 (0),.int .i64 (-1)]) (by simp [results,Tryz.results70,go_sem,r0,r1,r2,r3,r4,r5]) rfl ?_
     rw [zb HH]
     exact ⟨rfl,(((zb hL5).drewN nq).setI _ 1 (by simp only [St.go];omega)).keep (zf.six w.heap.size _ _ _ _ _ _ _) (by unfold zm;omega),(((zb hO5).drewN nq).mine 1 _).young (zf.six w.heap.size _ _ _ _ _ _ _) (Nat.le_refl _)⟩
    ·have bb2:(zd s (st.i+1) == 63)=false:=by simp [b2]
     have HH:Hid (Ref.zO s st=(0,-1,st.go 1)):=by show _=_;unfold Ref.zO Ref.qf;rw [if_neg x1,if_neg x2,if_pos x3,if_neg (by intro hh;exact b2 hh.2)]
     clear x1 x2 x3 b2
     go_wp2_with fail
     refine bodyPost_ret (v:=.agg #[.int .i64 6,.bool false,.slice none 0 0,.int .i64 0,.int .i64 (0),.int .i64 (-1)]) (by simp [results,Tryz.results70,go_sem,r0,r1,r2,r3,r4,r5]) rfl ?_
     rw [zb HH]
     exact ⟨rfl,((zb hL5).drewN nq).keep (zf.six w.heap.size _ _ _ _ _ _ _) (by unfold zm;omega),((zb hO5).drewN nq).young (zf.six w.heap.size _ _ _ _ _ _ _) (Nat.le_refl _)⟩
   ·have y3:(zd s st.i == 42)=false:=by simp [x3]
    have HQ:Hid (Ref.zO s st=((Ref.yj s st).1,(Ref.yj s st).2.1,Ref.qf s (Ref.yj s st).2.2)):=by show _=_;unfold Ref.zO;rw [if_neg x1,if_neg x2,if_neg x3]
    clear x1 x2 x3
    go_wp2_with fail
    refine (zaP b s st _ (zb hLL) hs hi).mono ?_
    rintro e w3 ⟨rfl,hL6,hO6⟩
    have hR6:=(zb hRR).keep hO6 (by unfold zm;omega)
    have hT6:=(zb hTT).keep hO6 (by unfold zm;omega)
    have hi2:=Ref.Ku s st hi
    generalize hr:Ref.yj s st=r at *
    obtain ⟨mn,mx,st2⟩:=r
    simp only [] at *
    have hL7:=ze (hL6.keep (zf.six (w.heap.size+1) w3 (.int .i64 6) (.bool false) (.slice none 0 0) (.int .i64 0) (.int .i64 mn) (.int .i64 mx)) (by unfold zm;omega))
    have hO7:=ze (((zb hOO).trans hO6).young (zf.six (w.heap.size+1) w3 (.int .i64 6) (.bool false) (.slice none 0 0) (.int .i64 0) (.int .i64 mn) (.int .i64 mx)) (by omega))
    obtain ⟨a0,a1,a2,a3,a4,a5,c0,c1,c2,c3,c4,c5⟩:=hT6
    obtain ⟨g0,g1,g2,g3,g4,g5,d0,d1,d2,d3,d4,d5⟩:=hR6
    obtain ⟨z0,z1,z2,z3,j1,j2,j3⟩:=hL6
    clear hO6 hr l0 l1 l2 l3 k1 k2 k3 t0 t1 t2 t3 t4 t5 v0 v1 v2 v3 v4 v5 r0 r1 r2 r3 r4 r5 u0 u1 u2 u3 u4 u5
    by_cases e2:st2.e=0
    ·have eb2:(st2.e == 0)=true:=by simp [e2]
     by_cases b2:zd s st2.i=63
     ·have bb2:(zd s st2.i == 63)=true:=by simp [b2]
      have HH:Hid (Ref.zO s st=(mn,mx,st2.go 1)):=by rw [zb HQ];show _=_;unfold Ref.qf;rw [if_pos ⟨e2,b2⟩]
      clear e2 b2
      go_wp2_with fail
      refine (zP b s st2 _ (zb hL7) hs).mono ?_
      rintro e w2 ⟨rfl,nq,rfl⟩
      go_wp2_with fail
      refine bodyPost_ret (v:=.agg #[.int .i64 6,.bool false,.slice none 0 0,.int .i64 0,.int .i64 (mn),.int .i64 (mx)]) (by simp [results,Tryz.results70,go_sem,g0,g1,g2,g3,g4,g5]) rfl ?_
      rw [zb HH]
      exact ⟨rfl,(((zb hL7).drewN nq).setI _ 1 (by omega)).keep (zf.six w.heap.size _ _ _ _ _ _ _) (by unfold zm;omega),(((zb hO7).drewN nq).mine 1 _).young (zf.six w.heap.size _ _ _ _ _ _ _) (Nat.le_refl _)⟩
     ·have bb2:(zd s st2.i == 63)=false:=by simp [b2]
      have HH:Hid (Ref.zO s st=(mn,mx,st2)):=by rw [zb HQ];show _=_;unfold Ref.qf;rw [if_neg (by intro hh;exact b2 hh.2)]
      clear e2 b2
      go_wp2_with fail
      refine (zP b s st2 _ (zb hL7) hs).mono ?_
      rintro e w2 ⟨rfl,nq,rfl⟩
      go_wp2_with fail
      refine bodyPost_ret (v:=.agg #[.int .i64 6,.bool false,.slice none 0 0,.int .i64 0,.int .i64 (mn),.int .i64 (mx)]) (by simp [results,Tryz.results70,go_sem,g0,g1,g2,g3,g4,g5]) rfl ?_
      rw [zb HH]
      exact ⟨rfl,((zb hL7).drewN nq).keep (zf.six w.heap.size _ _ _ _ _ _ _) (by unfold zm;omega),((zb hO7).drewN nq).young (zf.six w.heap.size _ _ _ _ _ _ _) (Nat.le_refl _)⟩
    ·have eb2:(st2.e == 0)=false:=by simp [e2]
     have HH:Hid (Ref.zO s st=(mn,mx,st2)):=by rw [zb HQ];show _=_;unfold Ref.qf;rw [if_neg (by intro hh;exact e2 hh.1)]
     clear e2
     go_wp2_with fail
     refine bodyPost_ret (v:=.agg #[.int .i64 6,.bool false,.slice none 0 0,.int .i64 0,.int .i64 (mn),.int .i64 (mx)]) (by simp [results,Tryz.results70,go_sem,g0,g1,g2,g3,g4,g5]) rfl ?_
     rw [zb HH]
     exact ⟨rfl,(zb hL7).keep (zf.six w.heap.size _ _ _ _ _ _ _) (by unfold zm;omega),(zb hO7).young (zf.six w.heap.size _ _ _ _ _ _ _) (Nat.le_refl _)⟩
namespace Ref
def vu (s:ByteArray)(st:St):Prop:=st.i≤s.size∧(st.e=0→Good s st.i)
theorem vu.fail {s:ByteArray}{st:St}{e a:Int}(h:st.i≤s.size)(he:e≠0):vu s (st.fail e a):=
 ⟨by rw [xl];exact h,fun h0=>absurd h0 (jU st e a he)⟩
theorem YD {b:Int}(h:0≤hexV b):0≤b∧b<128:=by unfold hexV at h;(repeat' split at h)<;>omega
theorem XJ (s:ByteArray):∀ (n:Nat) (c:Int) (st:St),Good s st.i→vu s (hexF s n c st).2∧st.i≤(hexF s n c st).2.i
 |0,c,st,h=>⟨⟨h.le,fun _=>h⟩,Nat.le_refl _⟩
 |n+1,c,st,h=>by
  by_cases hb:hexV (zd s st.i)<0
  ·rw [QC hb]
   exact ⟨vu.fail h.le (by decide),by rw [xl];exact Nat.le_refl _⟩
  ·rw [Xu (by omega)]
   have ha:=YD (b:=zd s st.i) (by omega)
   have:=XJ s n (16*c+hexV (zd s st.i)) (st.go 1) (h.ascii ha.1 ha.2)
   exact ⟨this.1,by have:=this.2;simp only [St.go] at this ⊢;omega⟩
theorem Xa (s:ByteArray):∀ (f:Nat) (c:Int) (n:Nat) (st:St),Good s st.i→vu s (qD s f c n st).2∧st.i≤(qD s f c n st).2.i
 |0,c,n,st,h=>⟨⟨h.le,fun _=>h⟩,Nat.le_refl _⟩
 |f+1,c,n,st,h=>by
  by_cases hc:0<n∧zd s st.i=125
  ·rw [vJ hc.1 hc.2]
   have hg:=h.ascii (by omega) (by omega)
   exact ⟨⟨hg.le,fun _=>hg⟩,by simp only [St.go];omega⟩
  ·by_cases hb:hexV (zd s st.i)<0∨1114111<16*c+hexV (zd s st.i)
   ·rw [Zg hc hb]
    exact ⟨vu.fail h.le (by decide),by rw [xl];exact Nat.le_refl _⟩
   ·rw [wu hc hb]
    have ha:=YD (b:=zd s st.i) (by omega)
    have:=Xa s f (16*c+hexV (zd s st.i)) (n+1) (st.go 1) (h.ascii ha.1 ha.2)
    exact ⟨this.1,by have:=this.2;simp only [St.go] at this ⊢;omega⟩
theorem Xb (s:ByteArray):∀ (n k:Nat) (c:Int),0≤c→0≤kJ s n k c→Good s k→Good s (k+n)
 |0,k,c,_,_,h=>h
 |n+1,k,c,h0,h1,h=>by
  by_cases hb:hexV (zd s k)<0
  ·rw [ZS hb] at h1;omega
  ·rw [ww (by omega)] at h1
   have ha:=YD (b:=zd s k) (by omega)
   have:=Xb s n (k+1) _ (by omega) h1 (h.ascii ha.1 ha.2)
   rw [show k+(n+1)=k+1+n by omega];exact this
theorem Kv {s:ByteArray}{i:Nat}(h:0≤xw s i)(hg:Good s i):Good s (i+6)∧zd s i=92∧zd s (i+1)=117:=by
 unfold xw at h
 split at h
 ·omega
 ·rename_i hn
  have h1:zd s i=92:=by omega
  have h2:zd s (i+1)=117:=by omega
  have g1:=hg.ascii (by omega) (by omega)
  have g2:=g1.ascii (by omega) (by omega)
  exact ⟨Xb s 4 (i+2) 0 (by omega) h g2,h1,h2⟩
theorem JJ {s:ByteArray}{st:St}(h1:1≤st.i)(hg:Good s (st.i-1))(hb:zd s (st.i-1)=92)(hu:zd s st.i=117):vu s (xx s st).2∧st.i≤(xx s st).2.i:=by
 have g0:Good s st.i:=by have:=hg.ascii (by omega) (by omega);rwa [show st.i-1+1=st.i by omega] at this
 have g1:=g0.ascii (by omega) (by omega)
 unfold xx
 split
 ·rename_i h
  have g2:=g1.ascii (by omega) (by omega)
  have:=Xa s (s.size+1-(st.go 2).i) 0 0 (st.go 2) g2
  exact ⟨this.1,by have:=this.2;simp only [St.go,kt] at this ⊢;omega⟩
 ·split
  ·rename_i h
   simp only [vR,Bool.and_eq_true,decide_eq_true_eq] at h
   have a1:=(Kv (by omega) hg).1
   rw [show st.i-1+6=st.i+5 by omega] at a1
   have a2:=(Kv (by omega) a1).1
   exact ⟨⟨a2.le,fun _=>a2⟩,by simp only [St.go];omega⟩
  ·have:=XJ s 4 0 (st.go 1) g1
   exact ⟨this.1,by have:=this.2;simp only [St.go] at this ⊢;omega⟩
theorem Wy {b:Int}(h:signB b=true):0≤b∧b<128:=by
 simp [signB] at h;omega
theorem K3 {s:ByteArray}{cls:Bool}{st:St}(h1:1≤st.i)(hg:Good s (st.i-1))(hb:zd s (st.i-1)=92):vu s (zM s cls st).2∧st.i≤(zM s cls st).2.i:=by
 have g0:Good s st.i:=by have:=hg.ascii (by omega) (by omega);rwa [show st.i-1+1=st.i by omega] at this
 have step:0≤zd s st.i→zd s st.i<128→vu s (st.go 1)∧st.i≤(st.go 1).i:=fun a b=>⟨⟨(g0.ascii a b).le,fun _=>g0.ascii a b⟩,by simp only [St.go];omega⟩
 unfold zM
 split
 ·rename_i h
  have:0≤zd s st.i∧zd s st.i<128:=by unfold yL at h;(repeat' split at h)<;>omega
  exact step this.1 this.2
 split
 ·have hs:=step (by omega) (by omega)
  dsimp only
  split
  ·exact ⟨vu.fail hs.1.1 (by decide),by rw [xl];exact hs.2⟩
  ·exact hs
 split
 ·have hs:=step (by omega) (by omega)
  have g1:=g0.ascii (by omega) (by omega)
  split
  ·have g2:=g1.ascii (by omega) (by omega)
   exact ⟨⟨g2.le,fun _=>g2⟩,by simp only [St.go];omega⟩
  ·exact ⟨vu.fail hs.1.1 (by decide),by rw [xl];exact hs.2⟩
 split
 ·have g1:=g0.ascii (by omega) (by omega)
  have:=XJ s 2 0 (st.go 1) g1
  exact ⟨this.1,by have:=this.2;simp only [St.go] at this ⊢;omega⟩
 split
 ·rename_i h
  exact JJ h1 hg hb h
 split
 ·rename_i h
  have:0≤zd s st.i∧zd s st.i<128:=by
   rcases h with h |h
   ·exact Wy h
   ·omega
  exact step this.1 this.2
 split
 ·exact step (by omega) (by omega)
 ·exact ⟨vu.fail g0.le (by decide),by rw [xl];exact Nat.le_refl _⟩
theorem zaQ {b:Int}(h:setL b≠[]):0≤b∧b<128:=by
 unfold setL at h;(repeat' split at h)<;>first |omega |simp at h
theorem Xc {s:ByteArray}{cls:Bool}{st:St}(hg:Good s st.i)(hb:zd s st.i=92):vu s (zI s cls st).2.2∧st.i<(zI s cls st).2.2.i:=by
 have g1:=hg.ascii (by omega) (by omega)
 unfold zI
 split
 ·exact ⟨vu.fail g1.le (by decide),by rw [xl];simp only [St.go];omega⟩
 split
 ·rename_i h
  have ha:=zaQ h
  have g2:=g1.ascii ha.1 ha.2
  exact ⟨⟨g2.le,fun _=>g2⟩,by simp only [St.go];omega⟩
 ·have:=K3 (cls:=cls) (st:=st.go 1) (by simp only [St.go];omega) (by simp only [St.go,Nat.add_sub_cancel];exact hg) (by simp only [St.go,Nat.add_sub_cancel];exact hb)
  exact ⟨this.1,by have:=this.2;simp only [St.go] at this ⊢;omega⟩
theorem kQ {s:ByteArray}{st:St}(hg:Good s st.i)(hi:st.i<s.size):vu s (zl s st).2.2∧st.i<(zl s st).2.2.i:=by
 unfold zl
 split
 ·rename_i h;exact Xc hg h
 ·obtain ⟨n,c,ho,hn⟩:=hg.next hi
  rw [ho]
  have hb:=qd ho
  exact ⟨⟨hn.le,fun _=>hn⟩,by simp only [St.go];omega⟩
theorem Wz {s:ByteArray}{cls:Bool}{st:St}(h:(zI s cls st).2.1=true)(he:(zI s cls st).2.2.e=0):∃ c,(zI s cls st).1.spans=[(c,c)]:=by
 unfold zI at *
 split
 ·rename_i hb
  rw [if_pos hb] at he
  exact absurd he (jU _ _ _ (by decide))
 ·rename_i hb
  rw [if_neg hb] at h he
  split
  ·rename_i h2;rw [if_pos h2] at h;simp at h
  ·exact ⟨_,rfl⟩
theorem Qa {s:ByteArray}{st:St}(hg:Good s st.i)(hi:st.i<s.size)(h:(zl s st).2.1=true)(he:(zl s st).2.2.e=0):∃ c,(zl s st).1.spans=[(c,c)]:=by
 unfold zl at *
 split
 ·rename_i hb
  rw [if_pos hb] at h he
  exact Wz h he
 ·obtain ⟨n,c,ho,hn⟩:=hg.next hi
  rw [ho];exact ⟨c,rfl⟩
end Ref
theorem zf.ofGrown {w w':World}{row:Option Nat}(h:w.grownBy w' row):zf (fun k=>row=some k) w w':=
 ⟨h.os,h.tape,h.output,h.size,fun k hk hn=>h.block k hk (fun e=>hn e.symm)⟩
theorem jl {w:World}{base base':Nat}{e e':TypeId}{size size':Nat}{v v':Value}{n n':Nat}{xs xs':List Value}(h:w.ownsRow base e size v n xs)(h':w.ownsRow base' e' size' v' n' xs')(he:e≠e')(g:Nat)(hg:v.ownBlock=some g):¬v'.ownBlock=some g:=by
 intro hg'
 obtain ⟨_,h2⟩:=h
 obtain ⟨_,h2'⟩:=h'
 rcases h2 with ⟨rfl,_⟩ |⟨g1,cap,cur,rfl,hb,hh,_⟩
 ·simp [Value.ownBlock] at hg
 rcases h2' with ⟨rfl,_⟩ |⟨g2,cap',cur',rfl,hb',hh',_⟩
 ·simp [Value.ownBlock] at hg'
 simp only [Value.ownBlock,Option.some.injEq] at hg hg'
 subst hg;subst hg'
 rw [hh] at hh'
 simp only [Option.some.injEq,Obj.cells.injEq] at hh'
 exact he hh'.2.1
def yz (w:World)(base:Nat):List Pt→List Value→Prop
 | [],[]=>True
 |p :: ps,b :: v :: vs=>b = .bool p.neg∧yB w base v p.spans∧yz w base ps vs
 |_,_=>False
def PartsAt (w:World)(base:Nat)(v:Value)(l:List Pt):Prop:=∃ cs,w.ownsRow base 274 2 v l.length cs∧yz w base l cs
theorem yz.keep {P:Nat→Prop}{w w':World}{base:Nat}(k:zf P w w')(hn:∀ g,base≤g→g<w.heap.size→¬P g):∀ (l:List Pt) (cs:List Value),yz w base l cs→yz w' base l cs
 | [],[],_=>trivial
 |_p :: ps,_b :: _v :: vs,h=>⟨h.1,h.2.1.keep k hn,yz.keep k hn ps vs h.2.2⟩
 | [],_ :: _,h=>h
 |_ :: _,[],h=>h
 |_ :: _,[_],h=>h
theorem PartsAt.keep {P:Nat→Prop}{w w':World}{base:Nat}{v:Value}{l:List Pt}(h:PartsAt w base v l)(k:zf P w w')(hn:∀ g,base≤g→g<w.heap.size→¬P g):PartsAt w' base v l:=by
 obtain ⟨cs,h1,h2⟩:=h
 exact ⟨cs,zp h1 k (fun g hg=>hn g (zh h1 g hg).1 (zh h1 g hg).2),yz.keep k hn l cs h2⟩
theorem yz.base {w:World}{base base':Nat}(hb:base'≤base):∀ (l:List Pt) (cs:List Value),yz w base l cs→yz w base' l cs
 | [],[],_=>trivial
 |_p :: ps,_b :: _v :: vs,h=>⟨h.1,h.2.1.base hb,yz.base hb ps vs h.2.2⟩
 | [],_ :: _,h=>h
 |_ :: _,[],h=>h
 |_ :: _,[_],h=>h
theorem PartsAt.base {w:World}{base base':Nat}{v:Value}{l:List Pt}(h:PartsAt w base v l)(hb:base'≤base):PartsAt w base' v l:=by
 obtain ⟨cs,h1,h2⟩:=h
 exact ⟨cs,yD h1 hb,yz.base hb l cs h2⟩
theorem PartsAt.nil (w:World)(base:Nat):PartsAt w base (.slice none 0 0) []:=⟨[],World.ownsRow_nil _ _ _ _,trivial⟩
theorem yB.grown {w w':World}{base base':Nat}{sv v:Value}{n:Nat}{xs:List Value}{l:List (Int×Int)}(h:yB w base sv l)(hr:w.ownsRow base' 274 2 v n xs)(hg:w.grownBy w' v.ownBlock):yB w' base sv l:=
 zp h (zf.ofGrown hg) (fun g h1 h2=>jl h hr (by decide) g h1 h2)
theorem yz.grown {w w':World}{base base':Nat}{v:Value}{n:Nat}{xs:List Value}(hr:w.ownsRow base' 274 2 v n xs)(hg:w.grownBy w' v.ownBlock):∀ (l:List Pt) (cs:List Value),yz w base l cs→yz w' base l cs
 | [],[],_=>trivial
 |_p :: ps,_b :: _v :: vs,h=>⟨h.1,h.2.1.grown hr hg,yz.grown hr hg ps vs h.2.2⟩
 | [],_ :: _,h=>h
 |_ :: _,[],h=>h
 |_ :: _,[_],h=>h
theorem yz.append {w:World}{base:Nat}{p:Pt}{sv:Value}(hs:yB w base sv p.spans):∀ (l:List Pt) (cs:List Value),yz w base l cs→yz w base (l++[p]) (cs++[.bool p.neg,sv])
 | [],[],_=>⟨rfl,hs,trivial⟩
 |_q :: ps,_b :: _v :: vs,h=>⟨h.1,h.2.1,yz.append hs ps vs h.2.2⟩
 | [],_ :: _,h=>h.elim
 |_ :: _,[],h=>h.elim
 |_ :: _,[_],h=>h.elim
theorem PartsAt.appended {w w':World}{base:Nat}{v v':Value}{l:List Pt}{cs:List Value}{p:Pt}{sv:Value}(h1:w.ownsRow base 274 2 v l.length cs)(h2:yz w base l cs)(hs:yB w base sv p.spans)
  (hown:w'.ownsRow base 274 2 v' (l.length+1) (cs++[.bool p.neg,sv])) (hg:w.grownBy w' v.ownBlock):PartsAt w' base v' (l++[p]):=
 ⟨cs++[.bool p.neg,sv],by rw [List.length_append];exact hown,yz.append (hs.grown h1 hg) l cs (yz.grown h1 hg l cs h2)⟩
namespace Ref
def jm (s:ByteArray)(st:St):Bool:=decide (st.e=0) && decide (zd s st.i=45) && decide (st.i+1<s.size) && decide (zd s (st.i+1)≠93)
def loOf (p:Pt):Int:=match p.spans with
 | []=>0
 |x :: _=>x.1
def badB (p q:Pt)(one two:Bool):Bool:=!one || !two ||decide (loOf q<loOf p)
def yK (s:ByteArray):Nat→List Pt→St→List Pt×St
 |0,ps,st=>(ps,st)
 |f+1,ps,st=>
  if st.e=0∧zd s st.i≠93 then
   (if zd s st.i<0 then (ps,st.fail 3 st.i)
    else if jm s (zl s st).2.2=true then
    (if (zl s ((zl s st).2.2.go 1)).2.2.e≠0 then (ps,(zl s ((zl s st).2.2.go 1)).2.2)
     else if badB (zl s st).1 (zl s ((zl s st).2.2.go 1)).1 (zl s st).2.1 (zl s ((zl s st).2.2.go 1)).2.1=true then (ps,(zl s ((zl s st).2.2.go 1)).2.2.fail 4 (zl s st).2.2.i)
     else yK s f (ps++[⟨(zl s st).1.neg,[(loOf (zl s st).1,loOf (zl s ((zl s st).2.2.go 1)).1)]⟩]) (zl s ((zl s st).2.2.go 1)).2.2)
    else yK s f (ps++[(zl s st).1]) (zl s st).2.2)
  else (ps,st.go 1)
def notB (s:ByteArray)(st:St):Bool:=decide (zd s st.i=94)
def yP (s:ByteArray)(st:St):St:=if notB s st=true then st.go 1 else st
def xm (s:ByteArray)(st:St):List Pt×St:=yK s (s.size+1-(yP s st).i) [] (yP s st)
section
variable {s:ByteArray} {f:Nat} {ps:List Pt} {st:St}
theorem km (h:¬(st.e=0∧zd s st.i≠93)):yK s (f+1) ps st=(ps,st.go 1):=by simp only [yK];rw [if_neg h]
theorem ZB (h:st.e=0∧zd s st.i≠93)(h1:zd s st.i<0):yK s (f+1) ps st=(ps,st.fail 3 st.i):=by simp only [yK];rw [if_pos h,if_pos h1]
theorem vq (h:st.e=0∧zd s st.i≠93)(h1:¬zd s st.i<0)(h2:¬jm s (zl s st).2.2=true):yK s (f+1) ps st=yK s f (ps++[(zl s st).1]) (zl s st).2.2:=by
 simp only [yK];rw [if_pos h,if_neg h1,if_neg h2]
theorem ZC (h:st.e=0∧zd s st.i≠93)(h1:¬zd s st.i<0)(h2:jm s (zl s st).2.2=true)(h3:¬(zl s ((zl s st).2.2.go 1)).2.2.e=0):yK s (f+1) ps st=(ps,(zl s ((zl s st).2.2.go 1)).2.2):=by
 simp only [yK];rw [if_pos h,if_neg h1,if_pos h2,if_pos h3]
theorem YE (h:st.e=0∧zd s st.i≠93)(h1:¬zd s st.i<0)(h2:jm s (zl s st).2.2=true)(h3:(zl s ((zl s st).2.2.go 1)).2.2.e=0)
  (h4:badB (zl s st).1 (zl s ((zl s st).2.2.go 1)).1 (zl s st).2.1 (zl s ((zl s st).2.2.go 1)).2.1=true):yK s (f+1) ps st=(ps,(zl s ((zl s st).2.2.go 1)).2.2.fail 4 (zl s st).2.2.i):=by
 simp only [yK];rw [if_pos h,if_neg h1,if_pos h2,if_neg (by simp [h3]),if_pos h4]
theorem kR (h:st.e=0∧zd s st.i≠93)(h1:¬zd s st.i<0)(h2:jm s (zl s st).2.2=true)(h3:(zl s ((zl s st).2.2.go 1)).2.2.e=0)
  (h4:¬badB (zl s st).1 (zl s ((zl s st).2.2.go 1)).1 (zl s st).2.1 (zl s ((zl s st).2.2.go 1)).2.1=true) :
  yK s (f+1) ps st=yK s f (ps++[⟨(zl s st).1.neg,[(loOf (zl s st).1,loOf (zl s ((zl s st).2.2.go 1)).1)]⟩]) (zl s ((zl s st).2.2.go 1)).2.2:=by
 simp only [yK];rw [if_pos h,if_neg h1,if_pos h2,if_neg (by simp [h3]),if_neg h4]
end
end Ref
end
end Go.Proofs.YtnagphodmfejiaaGreatDoor
