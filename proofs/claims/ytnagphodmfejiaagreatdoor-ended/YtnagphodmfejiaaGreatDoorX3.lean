/- The reference's quantifiers. -/
import Derived.Test.YtnagphodmfejiaaGreatDoorX2
namespace Go.Proofs.YtnagphodmfejiaaGreatDoor
section
open Go.RowKit
set_option maxHeartbeats 1600000
namespace Ref
def xx (s:ByteArray)(mn:Int)(st:St):Int×St:=
 if st.e=0∧zd s st.i=44 then
  (if zd s (st.i+1)=125 then (-1,st.go 1) else zR s (st.go 1))
 else (mn,st)
def yh (s:ByteArray)(st:St):St:=if st.e=0∧zd s st.i≠125 then st.fail 3 st.i else st
def zZ (s:ByteArray)(st:St):Int×Int×St:=
 let r1:=zR s (st.go 1)
 let r2:=xx s r1.1 r1.2
 let st3:=(yh s r2.2).go 1
 (r1.1,r2.1,if st3.e=0∧0≤r2.1∧r2.1<r1.1 then st3.fail 4 st.i else st3)
def xy (s:ByteArray)(st:St):St:=if st.e=0∧zd s st.i=63 then st.go 1 else st
def zK (s:ByteArray)(st:St):Int×Int×St:=
 if zd s st.i=43 then (1,-1,xy s (st.go 1))
 else if zd s st.i=63 then (0,1,xy s (st.go 1))
 else if zd s st.i=42 then (0,-1,xy s (st.go 1))
 else ((zZ s st).1,(zZ s st).2.1,xy s (zZ s st).2.2)
theorem Jc (s:ByteArray):∀ (f:Nat) (n:Int) (st:St),0≤n→n≤2000→0≤(countL s f n st).1∧(countL s f n st).1≤2000∧st.i≤(countL s f n st).2.i∧(st.i≤s.size→(countL s f n st).2.i≤s.size)
 |0,n,st,h0,h1=>by simp only [countL];omega
 |f+1,n,st,h0,h1=>by
  cases hd:qx (zd s st.i)
  ·rw [countL_stop hd];simp only [];omega
  ·rw [countL_go hd]
   have hb:=vI hd
   have hlt:st.i<s.size:=by rw [←zw];omega
   have h:=Jc s f (if n≤100 then 10*n+zd s st.i-48 else n) (st.go 1) (by split<;>omega) (by split<;>omega)
   simp only [St.go] at h ⊢
   omega
theorem yQ (st:St)(e a:Int):(st.fail e a).i=st.i:=by unfold St.fail;split<;>rfl
theorem Va (s:ByteArray)(st:St):(zR s st).2.i=(jX s st).2.i:=by
 unfold zR
 dsimp only
 split
 ·rw [yQ];split
  ·rw [yQ]
  ·rfl
 ·split
  ·rw [yQ]
  ·rfl
theorem jP (s:ByteArray)(st:St):0≤(zR s st).1∧(zR s st).1≤2000∧st.i≤(zR s st).2.i∧(st.i≤s.size→(zR s st).2.i≤s.size):=by
 rw [Va]
 exact Jc s (s.size+1-st.i) 0 st (by omega) (by omega)
end Ref
structure Six (w:World)(n:Nat)(a0 a1 a2 a3 a4 a5:Value):Prop where
 c0:w.cell? ⟨n,0,none⟩=some a0
 c1:w.cell? ⟨n,1,none⟩=some a1
 c2:w.cell? ⟨n,2,none⟩=some a2
 c3:w.cell? ⟨n,3,none⟩=some a3
 c4:w.cell? ⟨n,4,none⟩=some a4
 c5:w.cell? ⟨n,5,none⟩=some a5
 f0:w.frozen? ⟨n,0,none⟩=false
 f1:w.frozen? ⟨n,1,none⟩=false
 f2:w.frozen? ⟨n,2,none⟩=false
 f3:w.frozen? ⟨n,3,none⟩=false
 f4:w.frozen? ⟨n,4,none⟩=false
 f5:w.frozen? ⟨n,5,none⟩=false
section
variable {P:Nat→Prop} {w w':World} {n:Nat} {a0 a1 a2 a3 a4 a5:Value}
theorem Six.lt (h:Six w n a0 a1 a2 a3 a4 a5):n<w.heap.size:=World.block_lt_of_cell? w ⟨n,0,none⟩ h.c0
theorem Six.keep (h:Six w n a0 a1 a2 a3 a4 a5)(k:Only P w w')(hn:¬P n):Six w' n a0 a1 a2 a3 a4 a5:=
 ⟨zf k ⟨n,0,none⟩ _ h.c0 hn,zf k ⟨n,1,none⟩ _ h.c1 hn,zf k ⟨n,2,none⟩ _ h.c2 hn,zf k ⟨n,3,none⟩ _ h.c3 hn,zf k ⟨n,4,none⟩ _ h.c4 hn,zf k ⟨n,5,none⟩ _ h.c5 hn,
  zv k ⟨n,0,none⟩ h.lt h.f0 hn,zv k ⟨n,1,none⟩ h.lt h.f1 hn,zv k ⟨n,2,none⟩ h.lt h.f2 hn,zv k ⟨n,3,none⟩ h.lt h.f3 hn,zv k ⟨n,4,none⟩ h.lt h.f4 hn,zv k ⟨n,5,none⟩ h.lt h.f5 hn⟩
theorem Six.new (W:World)(T:TypeId)(hn:W.heap.size=n):Six (W.alloc (.cells #[a0,a1,a2,a3,a4,a5] T)) n a0 a1 a2 a3 a4 a5:=
 ⟨zm _ _ hn _ _ 0 _ rfl,zm _ _ hn _ _ 1 _ rfl,zm _ _ hn _ _ 2 _ rfl,zm _ _ hn _ _ 3 _ rfl,zm _ _ hn _ _ 4 _ rfl,zm _ _ hn _ _ 5 _ rfl,
  zu _ _ hn _ _ 0,zu _ _ hn _ _ 1,zu _ _ hn _ _ 2,zu _ _ hn _ _ 3,zu _ _ hn _ _ 4,zu _ _ hn _ _ 5⟩
theorem Six.drewN (h:Six w n a0 a1 a2 a3 a4 a5)(k:Nat):Six (w.drewN k) n a0 a1 a2 a3 a4 a5:=h.keep ((Only.refl (fun _=>False) w).drewN k) (fun f=>f)
theorem Six.other (h:Six w n a0 a1 a2 a3 a4 a5)(p:Addr)(hp:p.block≠n)(u:Value):Six (w.setCell p u) n a0 a1 a2 a3 a4 a5:=
 h.keep (P:=zl p.block) ((Only.refl (zl p.block) w).setCell (p:=p) (Or.inl (show p.block=p.block from rfl)) u) (fun e=>hp e.symm)
theorem Six.set1 (h:Six w n a0 a1 a2 a3 a4 a5)(u:Value):Six (w.setCell ⟨n,1,none⟩ u) n a0 u a2 a3 a4 a5:=
 ⟨(World.cell?_setCell_other _ _ _ _ (by simp)).trans h.c0,World.cell?_setCell_same _ _ _ h.c1,(World.cell?_setCell_other _ _ _ _ (by simp)).trans h.c2,(World.cell?_setCell_other _ _ _ _ (by simp)).trans h.c3,(World.cell?_setCell_other _ _ _ _ (by simp)).trans h.c4,(World.cell?_setCell_other _ _ _ _ (by simp)).trans h.c5,
  (zi _ _ _ _).trans h.f0,(zi _ _ _ _).trans h.f1,(zi _ _ _ _).trans h.f2,(zi _ _ _ _).trans h.f3,(zi _ _ _ _).trans h.f4,(zi _ _ _ _).trans h.f5⟩
theorem Six.set2 (h:Six w n a0 a1 a2 a3 a4 a5)(u:Value):Six (w.setCell ⟨n,2,none⟩ u) n a0 a1 u a3 a4 a5:=
 ⟨(World.cell?_setCell_other _ _ _ _ (by simp)).trans h.c0,(World.cell?_setCell_other _ _ _ _ (by simp)).trans h.c1,World.cell?_setCell_same _ _ _ h.c2,(World.cell?_setCell_other _ _ _ _ (by simp)).trans h.c3,(World.cell?_setCell_other _ _ _ _ (by simp)).trans h.c4,(World.cell?_setCell_other _ _ _ _ (by simp)).trans h.c5,
  (zi _ _ _ _).trans h.f0,(zi _ _ _ _).trans h.f1,(zi _ _ _ _).trans h.f2,(zi _ _ _ _).trans h.f3,(zi _ _ _ _).trans h.f4,(zi _ _ _ _).trans h.f5⟩
theorem Six.set4 (h:Six w n a0 a1 a2 a3 a4 a5)(u:Value):Six (w.setCell ⟨n,4,none⟩ u) n a0 a1 a2 a3 u a5:=
 ⟨(World.cell?_setCell_other _ _ _ _ (by simp)).trans h.c0,(World.cell?_setCell_other _ _ _ _ (by simp)).trans h.c1,(World.cell?_setCell_other _ _ _ _ (by simp)).trans h.c2,(World.cell?_setCell_other _ _ _ _ (by simp)).trans h.c3,World.cell?_setCell_same _ _ _ h.c4,(World.cell?_setCell_other _ _ _ _ (by simp)).trans h.c5,
  (zi _ _ _ _).trans h.f0,(zi _ _ _ _).trans h.f1,(zi _ _ _ _).trans h.f2,(zi _ _ _ _).trans h.f3,(zi _ _ _ _).trans h.f4,(zi _ _ _ _).trans h.f5⟩
theorem Six.set5 (h:Six w n a0 a1 a2 a3 a4 a5)(u:Value):Six (w.setCell ⟨n,5,none⟩ u) n a0 a1 a2 a3 a4 u:=
 ⟨(World.cell?_setCell_other _ _ _ _ (by simp)).trans h.c0,(World.cell?_setCell_other _ _ _ _ (by simp)).trans h.c1,(World.cell?_setCell_other _ _ _ _ (by simp)).trans h.c2,(World.cell?_setCell_other _ _ _ _ (by simp)).trans h.c3,(World.cell?_setCell_other _ _ _ _ (by simp)).trans h.c4,World.cell?_setCell_same _ _ _ h.c5,
  (zi _ _ _ _).trans h.f0,(zi _ _ _ _).trans h.f1,(zi _ _ _ _).trans h.f2,(zi _ _ _ _).trans h.f3,(zi _ _ _ _).trans h.f4,(zi _ _ _ _).trans h.f5⟩
end
namespace Ref
theorem vh {s:ByteArray}{st st1 stx:St}{mn mx:Int}(h1:zR s (st.go 1)=(mn,st1))(h2:xx s mn st1=(mx,stx)) :
  zZ s st=(mn,mx,if ((yh s stx).go 1).e=0∧0≤mx∧mx<mn then ((yh s stx).go 1).fail 4 st.i else (yh s stx).go 1):=by
 unfold zZ;rw [h1];simp only [h2]
theorem qY (st:St)(e a:Int)(h:e≠0):(st.fail e a).e≠0:=by unfold St.fail;split<;>simp_all
theorem ZP {s:ByteArray}{st st1 stx:St}{mn mx:Int}(h1:zR s (st.go 1)=(mn,st1))(h2:xx s mn st1=(mx,stx))(h3:¬stx.e=0):zZ s st=(mn,mx,stx.go 1):=by
 rw [vh h1 h2]
 have hb:yh s stx=stx:=by unfold yh;rw [if_neg (by intro h;exact h3 h.1)]
 rw [hb,if_neg (by intro h;exact h3 h.1)]
theorem YK {s:ByteArray}{st st1 stx:St}{mn mx:Int}(h1:zR s (st.go 1)=(mn,st1))(h2:xx s mn st1=(mx,stx))(h3:stx.e=0)(h4:¬zd s stx.i=125):zZ s st=(mn,mx,(stx.fail 3 stx.i).go 1):=by
 rw [vh h1 h2]
 have hb:yh s stx=stx.fail 3 stx.i:=by unfold yh;rw [if_pos ⟨h3,h4⟩]
 rw [hb,if_neg (by intro h;exact qY stx 3 stx.i (by decide) h.1)]
theorem XT {s:ByteArray}{st st1 stx:St}{mn mx:Int}(h1:zR s (st.go 1)=(mn,st1))(h2:xx s mn st1=(mx,stx))(h3:stx.e=0)(h4:zd s stx.i=125)(h5:0≤mx∧mx<mn):zZ s st=(mn,mx,(stx.go 1).fail 4 st.i):=by
 rw [vh h1 h2]
 have hb:yh s stx=stx:=by unfold yh;rw [if_neg (by intro h;exact h.2 h4)]
 rw [hb,if_pos ⟨h3,h5⟩]
theorem vk {s:ByteArray}{st st1 stx:St}{mn mx:Int}(h1:zR s (st.go 1)=(mn,st1))(h2:xx s mn st1=(mx,stx))(_h3:stx.e=0)(h4:zd s stx.i=125)(h5:¬(0≤mx∧mx<mn)):zZ s st=(mn,mx,stx.go 1):=by
 rw [vh h1 h2]
 have hb:yh s stx=stx:=by unfold yh;rw [if_neg (by intro h;exact h.2 h4)]
 rw [hb,if_neg (by intro h;exact h5 h.2)]
end Ref
theorem vm (b:Nat)(s:ByteArray)(st:St)(w:World)(h:Lex w b s st)(hs:s.size≤400) :
  Calls Tryz.prog 69 #[.pointer (some ⟨b,0,none⟩)] w fun x w'=>x = .returned (.int .i64 (zd s st.i))∧Only (fun _=>False) w w':=
 (zL b s st w h hs).mono fun _ _ ⟨h1,_,h2⟩=>⟨h1,by rw [h2];exact (Only.refl _ _).drewN _⟩
theorem Wq (b:Nat)(s:ByteArray)(st:St)(w:World)(h:Lex w b s st)(hs:s.size≤400)(hi:st.i<s.size) :
  Calls Tryz.prog 122 #[.pointer (some ⟨b,0,none⟩)] w fun x w'=>
   x = .returned (.agg #[.int .i64 6,.bool false,.slice none 0 0,.int .i64 0,.int .i64 (Ref.zZ s st).1,.int .i64 (Ref.zZ s st).2.1])∧Lex w' b s (Ref.zZ s st).2.2∧Only (zl b) w w':=by
 have hL1:=ze h
 have hlt:=h.lt
 obtain ⟨c0,c1,c2,c3,f1,f2,f3⟩:=h
 have hL2:=ze ((((zb hL1).setI ((st.i:Int)+1) 1 (by omega)).alloc (.cells #[.int .i64 0,.bool false,.slice none 0 0,.int .i64 0,.int .i64 0,.int .i64 0] 178)).alloc (.cells #[.int .i64 6,.bool false,.slice none 0 0,.int .i64 0,.int .i64 0,.int .i64 0] 178))
 have hR2:=ze ((Six.new (n:=w.heap.size) (a0:=.int .i64 0) (a1:=.bool false) (a2:=.slice none 0 0) (a3:=.int .i64 0) (a4:=.int .i64 0) (a5:=.int .i64 0) (w.setCell ⟨b,1,none⟩ (.int .i64 ((st.i:Int)+1))) 178 (by simp)).keep ((Only.refl (fun _=>False) _).alloc (.cells #[.int .i64 6,.bool false,.slice none 0 0,.int .i64 0,.int .i64 0,.int .i64 0] 178)) (fun f=>f))
 have hT2:=ze (Six.new (n:=w.heap.size+1) (a0:=.int .i64 6) (a1:=.bool false) (a2:=.slice none 0 0) (a3:=.int .i64 0) (a4:=.int .i64 0) (a5:=.int .i64 0) ((w.setCell ⟨b,1,none⟩ (.int .i64 ((st.i:Int)+1))).alloc (.cells #[.int .i64 0,.bool false,.slice none 0 0,.int .i64 0,.int .i64 0,.int .i64 0] 178)) 178 (by simp))
 have hO2:=ze ((((Only.refl (zl b) w).mine 1 (.int .i64 ((st.i:Int)+1))).alloc (.cells #[.int .i64 0,.bool false,.slice none 0 0,.int .i64 0,.int .i64 0,.int .i64 0] 178)).alloc (.cells #[.int .i64 6,.bool false,.slice none 0 0,.int .i64 0,.int .i64 0,.int .i64 0] 178))
 go_enter Tryz.func122,Tryz.ntmps122
 go_wp2_with fail
 refine (Q3 b s (st.go 1) _ (zb hL2) hs (by simp only [St.go];omega)).mono ?_
 rintro e w1 ⟨rfl,hL3,hO3⟩
 have hR3:=(zb hR2).keep hO3 (by unfold zl;omega)
 have hT3:=(zb hT2).keep hO3 (by unfold zl;omega)
 have HO3:=ze ((zb hO2).trans hO3)
 have hcb:=Ref.jP s (st.go 1)
 have HC:=ze (Eq.refl (Ref.zR s (st.go 1)))
 generalize hr:Ref.zR s (st.go 1)=r at *
 obtain ⟨mn,st1⟩:=r
 simp only [] at *
 obtain ⟨m0,m1,m2,m3⟩:=hcb
 have m4:st1.i≤s.size:=m3 (by simp only [St.go];omega)
 have H1:=ze hr
 clear hr HC m3 c0 c1 c2 c3 f1 f2 f3
 have hL4:=ze ((hL3.keep (((Only.refl (zl (w.heap.size+1)) w1).mine 4 (.int .i64 mn)).mine 5 (.int .i64 mn)) (by unfold zl;omega)))
 have hT4:=ze ((hT3.set4 (.int .i64 mn)).set5 (.int .i64 mn))
 have hR4:=ze ((hR3.other ⟨w.heap.size+1,4,none⟩ (by simp) (.int .i64 mn)).other ⟨w.heap.size+1,5,none⟩ (by simp) (.int .i64 mn))
 have hO4:=ze ((zb HO3).young (((Only.refl (zl (w.heap.size+1)) w1).mine 4 (.int .i64 mn)).mine 5 (.int .i64 mn)) (by omega))
 obtain ⟨t0,t1,t2,t3,t4,t5,v0,v1,v2,v3,v4,v5⟩:=hT3
 obtain ⟨r0,r1,r2,r3,r4,r5,u0,u1,u2,u3,u4,u5⟩:=hR3
 obtain ⟨l0,l1,l2,l3,k1,k2,k3⟩:=hL3
 clear hO3
 by_cases e1:st1.e=0
 ·have eb:(st1.e == 0)=true:=by simp [e1]
  have E1:=ze e1
  clear e1
  by_cases b1:zd s st1.i=44
  ·have bb:(zd s st1.i == 44)=true:=by simp [b1]
   have hlt1:st1.i<s.size:=by rw [←zw];omega
   go_wp2_with fail
   refine (zL b s st1 _ (zb hL4) hs).mono ?_
   rintro e w2 ⟨rfl,nq,rfl⟩
   go_wp2_with fail
   have hL5:=ze ((((zb hL4).drewN nq).setI ((st1.i:Int)+1) 1 (by omega)).keep ((Only.refl (zl (w.heap.size+1)) _).mine 5 (.int .i64 (-1))) (by unfold zl;omega))
   have hT5:=ze (((((zb hT4).drewN nq).other ⟨b,1,none⟩ (by simp;omega) (.int .i64 ((st1.i:Int)+1)))).set5 (.int .i64 (-1)))
   have hR5:=ze (((((zb hR4).drewN nq).other ⟨b,1,none⟩ (by simp;omega) (.int .i64 ((st1.i:Int)+1)))).other ⟨w.heap.size+1,5,none⟩ (by simp) (.int .i64 (-1)))
   have hO5:=ze ((((zb hO4).drewN nq).mine 1 (.int .i64 ((st1.i:Int)+1))).young ((Only.refl (zl (w.heap.size+1)) _).mine 5 (.int .i64 (-1))) (by omega))
   refine (vm b s (st1.go 1) _ (zb hL5) hs).mono ?_
   rintro e w2 ⟨rfl,hON⟩
   simp only [St.go]
   have hLN:=(zb hL5).keep hON (fun f=>f)
   have hTN:=(zb hT5).keep hON (fun f=>f)
   have hRN:=(zb hR5).keep hON (fun f=>f)
   have hOO:=ze ((zb hO5).trans (hON.mono (fun _ _ f=>f.elim)))
   have hLL:=ze hLN
   have hTT:=ze hTN
   have hRR:=ze hRN
   clear hON l0 l1 l2 l3 k1 k2 k3 t0 t1 t2 t3 t4 t5 v0 v1 v2 v3 v4 v5 r0 r1 r2 r3 r4 r5 u0 u1 u2 u3 u4 u5 hL5 hT5 hR5 hO5
   obtain ⟨l0,l1,l2,l3,k1,k2,k3⟩:=hLN
   obtain ⟨t0,t1,t2,t3,t4,t5,v0,v1,v2,v3,v4,v5⟩:=hTN
   obtain ⟨r0,r1,r2,r3,r4,r5,u0,u1,u2,u3,u4,u5⟩:=hRN
   have hgi:(st1.go 1).i≤1000:=by simp only [St.go];omega
   by_cases b2:zd s (st1.i+1)=125
   ·have bb2:(zd s (st1.i+1) == 125)=true:=by simp [b2]
    have bb2':(zd s (st1.i+1) != 125)=false:=by simp [b2]
    have HH:Hid (Ref.zZ s st=(mn,-1,(st1.go 1).go 1)):=Ref.vk (zb H1) (by unfold Ref.xx;rw [if_pos ⟨zb E1,b1⟩,if_pos b2]) (zb E1) b2 (by omega)
    clear b1 b2
    go_wp2_with fail
    refine (zL b s (st1.go 1) _ (zb hLL) hs).mono ?_
    rintro e w2 ⟨rfl,nq2,rfl⟩
    simp only [St.go]
    go_wp2_with fail
    refine bodyPost_ret (v:=.agg #[.int .i64 6,.bool false,.slice none 0 0,.int .i64 0,.int .i64 mn,.int .i64 (-1)]) (by simp [results,Tryz.results122,go_sem,r0,r1,r2,r3,r4,r5]) rfl ?_
    rw [zb HH]
    exact ⟨rfl,(((zb hLL).drewN _).setI _ 1 (by simp only [St.go];omega)).keep (Only.six w.heap.size _ _ _ _ _ _ _) (by unfold zl;omega),(((zb hOO).drewN _).mine 1 _).young (Only.six w.heap.size _ _ _ _ _ _ _) (Nat.le_refl _)⟩
   ·have bb2':(zd s (st1.i+1) != 125)=true:=by simp [b2]
    go_wp2_with fail
    refine (Q3 b s (st1.go 1) _ (zb hLL) hs (by simp only [St.go];omega)).mono ?_
    rintro e w4 ⟨rfl,hL6,hO6⟩
    have hR6:=((zb hRR).keep hO6 (by unfold zl;omega))
    have hT6:=((zb hTT).keep hO6 (by unfold zl;omega))
    have HO6:=ze ((zb hOO).trans hO6)
    have hcb:=Ref.jP s (st1.go 1)
    generalize hr:Ref.zR s (st1.go 1)=r at *
    obtain ⟨mx,st2⟩:=r
    simp only [] at *
    obtain ⟨n0,n1,n2,n3⟩:=hcb
    have n4:st2.i≤s.size:=n3 (by simp only [St.go];omega)
    have H2:Hid (Ref.xx s mn st1=(mx,st2)):=by show _=_;unfold Ref.xx;rw [if_pos ⟨zb E1,b1⟩,if_neg b2,hr]
    clear hr n3 b1 b2 hO6
    have hL7:=ze (hL6.keep ((Only.refl (zl (w.heap.size+1)) w4).mine 5 (.int .i64 mx)) (by unfold zl;omega))
    have hT7:=ze (hT6.set5 (.int .i64 mx))
    have hR7:=ze (hR6.other ⟨w.heap.size+1,5,none⟩ (by simp) (.int .i64 mx))
    have hO7:=ze ((zb HO6).young ((Only.refl (zl (w.heap.size+1)) w4).mine 5 (.int .i64 mx)) (by omega))
    obtain ⟨a0,a1,a2,a3,a4,a5,x0,x1,x2,x3,x4,x5⟩:=hT6
    obtain ⟨g0,g1,g2,g3,g4,g5,y0,y1,y2,y3,y4,y5⟩:=hR6
    obtain ⟨z0,z1,z2,z3,j1,j2,j3⟩:=hL6
    clear l0 l1 l2 l3 k1 k2 k3 t0 t1 t2 t3 t4 t5 v0 v1 v2 v3 v4 v5 r0 r1 r2 r3 r4 r5 u0 u1 u2 u3 u4 u5
    by_cases e2:st2.e=0
    ·have eb2:(st2.e == 0)=true:=by simp [e2]
     by_cases b3:zd s st2.i=125
     ·have bb3:(zd s st2.i != 125)=false:=by simp [b3]
      by_cases hlt3:mx<mn
      ·have HH:Hid (Ref.zZ s st=(mn,mx,(st2.go 1).fail 4 st.i)):=Ref.XT (zb H1) (zb H2) e2 b3 ⟨n0,hlt3⟩
       clear e2 b3
       go_wp2_with fail
       refine (zL b s st2 _ (zb hL7) hs).mono ?_
       rintro e w2 ⟨rfl,nq2,rfl⟩
       go_wp2_with fail
       have hL8:=((zb hL7).drewN nq2).setI ((st2.i:Int)+1) 1 (by omega)
       refine (zY b s (st2.go 1) 4 _ _ hL8).mono ?_
       rintro e w5 ⟨rfl,hL9,hO9⟩
       have hT9:=((((zb hT7).drewN nq2).other ⟨b,1,none⟩ (by simp;omega) (.int .i64 ((st2.i:Int)+1)))).keep hO9 (by unfold zl;omega)
       have hR9:=((((zb hR7).drewN nq2).other ⟨b,1,none⟩ (by simp;omega) (.int .i64 ((st2.i:Int)+1)))).keep hO9 (by unfold zl;omega)
       obtain ⟨p0,p1,p2,p3,p4,p5,o0,o1,o2,o3,o4,o5⟩:=hT9
       obtain ⟨d0,d1,d2,d3,d4,d5,i0,i1,i2,i3,i4,i5⟩:=hR9
       have HL9:=ze hL9
       have HO9:=ze ((((zb hO7).drewN nq2).mine 1 (.int .i64 ((st2.i:Int)+1))).trans hO9)
       clear hL9 hO9 hL8
       go_wp2_with fail
       refine bodyPost_ret (v:=.agg #[.int .i64 6,.bool false,.slice none 0 0,.int .i64 0,.int .i64 mn,.int .i64 (mx)]) (by simp [results,Tryz.results122,go_sem,d0,d1,d2,d3,d4,d5]) rfl ?_
       rw [zb HH]
       exact ⟨rfl,(zb HL9).keep (Only.six w.heap.size _ _ _ _ _ _ _) (by unfold zl;omega),(zb HO9).young (Only.six w.heap.size _ _ _ _ _ _ _) (Nat.le_refl _)⟩
      ·have HH:Hid (Ref.zZ s st=(mn,mx,(st2.go 1))):=Ref.vk (zb H1) (zb H2) e2 b3 (by omega)
       clear e2 b3
       go_wp2_with fail
       refine (zL b s st2 _ (zb hL7) hs).mono ?_
       rintro e w2 ⟨rfl,nq2,rfl⟩
       go_wp2_with fail
       refine bodyPost_ret (v:=.agg #[.int .i64 6,.bool false,.slice none 0 0,.int .i64 0,.int .i64 mn,.int .i64 (mx)]) (by simp [results,Tryz.results122,go_sem,g0,g1,g2,g3,g4,g5]) rfl ?_
       rw [zb HH]
       exact ⟨rfl,(((zb hL7).drewN nq2).setI _ 1 (by omega)).keep (Only.six w.heap.size _ _ _ _ _ _ _) (by unfold zl;omega),(((zb hO7).drewN nq2).mine 1 _).young (Only.six w.heap.size _ _ _ _ _ _ _) (Nat.le_refl _)⟩
     ·have bb3:(zd s st2.i != 125)=true:=by simp [b3]
      have HH:Hid (Ref.zZ s st=(mn,mx,(st2.fail 3 st2.i).go 1)):=Ref.YK (zb H1) (zb H2) e2 b3
      have en:((st2.fail 3 st2.i).e == 0)=false:=by simp [Ref.qY]
      clear e2 b3
      go_wp2_with fail
      refine (zL b s st2 _ (zb hL7) hs).mono ?_
      rintro e w2 ⟨rfl,nq2,rfl⟩
      go_wp2_with fail
      refine (zY b s st2 3 _ _ ((zb hL7).drewN nq2)).mono ?_
      rintro e w5 ⟨rfl,hL9,hO9⟩
      have hT9:=((zb hT7).drewN nq2).keep hO9 (by unfold zl;omega)
      have hR9:=((zb hR7).drewN nq2).keep hO9 (by unfold zl;omega)
      obtain ⟨p0,p1,p2,p3,p4,p5,o0,o1,o2,o3,o4,o5⟩:=hT9
      obtain ⟨d0,d1,d2,d3,d4,d5,i0,i1,i2,i3,i4,i5⟩:=hR9
      have HL9:=ze hL9
      have HO9:=ze (((zb hO7).drewN nq2).trans hO9)
      have hfi:(st2.fail 3 st2.i).i≤400:=by rw [Ref.yQ];omega
      obtain ⟨zz0,zz1,zz2,zz3,jj1,jj2,jj3⟩:=hL9
      clear hO9
      go_wp2_with fail
      refine bodyPost_ret (v:=.agg #[.int .i64 6,.bool false,.slice none 0 0,.int .i64 0,.int .i64 mn,.int .i64 (mx)]) (by simp [results,Tryz.results122,go_sem,d0,d1,d2,d3,d4,d5]) rfl ?_
      rw [zb HH]
      exact ⟨rfl,((zb HL9).setI _ 1 (by omega)).keep (Only.six w.heap.size _ _ _ _ _ _ _) (by unfold zl;omega),((zb HO9).mine 1 _).young (Only.six w.heap.size _ _ _ _ _ _ _) (Nat.le_refl _)⟩
    ·have eb2:(st2.e == 0)=false:=by simp [e2]
     have HH:Hid (Ref.zZ s st=(mn,mx,st2.go 1)):=Ref.ZP (zb H1) (zb H2) e2
     clear e2
     go_wp2_with fail
     refine bodyPost_ret (v:=.agg #[.int .i64 6,.bool false,.slice none 0 0,.int .i64 0,.int .i64 mn,.int .i64 (mx)]) (by simp [results,Tryz.results122,go_sem,g0,g1,g2,g3,g4,g5]) rfl ?_
     rw [zb HH]
     exact ⟨rfl,((zb hL7).setI _ 1 (by omega)).keep (Only.six w.heap.size _ _ _ _ _ _ _) (by unfold zl;omega),((zb hO7).mine 1 _).young (Only.six w.heap.size _ _ _ _ _ _ _) (Nat.le_refl _)⟩
  ·have bb:(zd s st1.i == 44)=false:=by simp [b1]
   have H2:Hid (Ref.xx s mn st1=(mn,st1)):=by show _=_;unfold Ref.xx;rw [if_neg (by intro hh;exact b1 hh.2)]
   clear b1
   go_wp2_with fail
   refine (zL b s st1 _ (zb hL4) hs).mono ?_
   rintro e w2 ⟨rfl,nq,rfl⟩
   by_cases b3:zd s st1.i=125
   ·have bb3:(zd s st1.i != 125)=false:=by simp [b3]
    have HH:Hid (Ref.zZ s st=(mn,mn,(st1.go 1))):=Ref.vk (zb H1) (zb H2) (zb E1) b3 (by omega)
    clear b3
    go_wp2_with fail
    refine (zL b s st1 _ ((zb hL4).drewN nq) hs).mono ?_
    rintro e w2 ⟨rfl,nq2,rfl⟩
    go_wp2_with fail
    refine bodyPost_ret (v:=.agg #[.int .i64 6,.bool false,.slice none 0 0,.int .i64 0,.int .i64 mn,.int .i64 (mn)]) (by simp [results,Tryz.results122,go_sem,r0,r1,r2,r3,r4,r5]) rfl ?_
    rw [zb HH]
    exact ⟨rfl,(((zb hL4).drewN _).setI _ 1 (by omega)).keep (Only.six w.heap.size _ _ _ _ _ _ _) (by unfold zl;omega),(((zb hO4).drewN _).mine 1 _).young (Only.six w.heap.size _ _ _ _ _ _ _) (Nat.le_refl _)⟩
   ·have bb3:(zd s st1.i != 125)=true:=by simp [b3]
    have HH:Hid (Ref.zZ s st=(mn,mn,(st1.fail 3 st1.i).go 1)):=Ref.YK (zb H1) (zb H2) (zb E1) b3
    have en:((st1.fail 3 st1.i).e == 0)=false:=by simp [Ref.qY]
    clear b3
    go_wp2_with fail
    refine (zL b s st1 _ ((zb hL4).drewN nq) hs).mono ?_
    rintro e w2 ⟨rfl,nq2,rfl⟩
    go_wp2_with fail
    refine (zY b s st1 3 _ _ ((zb hL4).drewN _)).mono ?_
    rintro e w5 ⟨rfl,hL9,hO9⟩
    have hT9:=((zb hT4).drewN _).keep hO9 (by unfold zl;omega)
    have hR9:=((zb hR4).drewN _).keep hO9 (by unfold zl;omega)
    obtain ⟨p0,p1,p2,p3,p4,p5,o0,o1,o2,o3,o4,o5⟩:=hT9
    obtain ⟨d0,d1,d2,d3,d4,d5,i0,i1,i2,i3,i4,i5⟩:=hR9
    have HL9:=ze hL9
    have HO9:=ze (((zb hO4).drewN _).trans hO9)
    have hfi:(st1.fail 3 st1.i).i≤400:=by rw [Ref.yQ];omega
    obtain ⟨zz0,zz1,zz2,zz3,jj1,jj2,jj3⟩:=hL9
    clear hO9
    go_wp2_with fail
    refine bodyPost_ret (v:=.agg #[.int .i64 6,.bool false,.slice none 0 0,.int .i64 0,.int .i64 mn,.int .i64 (mn)]) (by simp [results,Tryz.results122,go_sem,d0,d1,d2,d3,d4,d5]) rfl ?_
    rw [zb HH]
    exact ⟨rfl,((zb HL9).setI _ 1 (by omega)).keep (Only.six w.heap.size _ _ _ _ _ _ _) (by unfold zl;omega),((zb HO9).mine 1 _).young (Only.six w.heap.size _ _ _ _ _ _ _) (Nat.le_refl _)⟩
 ·have eb:(st1.e == 0)=false:=by simp [e1]
  have HH:Hid (Ref.zZ s st=(mn,mn,st1.go 1)):=Ref.ZP (zb H1) (by unfold Ref.xx;rw [if_neg (by intro hh;exact e1 hh.1)]) e1
  clear e1
  go_wp2_with fail
  refine bodyPost_ret (v:=.agg #[.int .i64 6,.bool false,.slice none 0 0,.int .i64 0,.int .i64 mn,.int .i64 (mn)]) (by simp [results,Tryz.results122,go_sem,r0,r1,r2,r3,r4,r5]) rfl ?_
  rw [zb HH]
  exact ⟨rfl,((zb hL4).setI _ 1 (by omega)).keep (Only.six w.heap.size _ _ _ _ _ _ _) (by unfold zl;omega),((zb hO4).mine 1 _).young (Only.six w.heap.size _ _ _ _ _ _ _) (Nat.le_refl _)⟩
namespace Ref
theorem restF_i (s:ByteArray)(mn:Int)(st:St)(h:st.i≤s.size):(xx s mn st).2.i≤s.size+1:=by
 unfold xx
 split
 ·rename_i hh
  have hlt:st.i<s.size:=by rw [←zw];omega
  split
  ·simp only [St.go];omega
  ·have:=(jP s (st.go 1)).2.2.2 (by simp only [St.go];omega);omega
 ·simp only [];omega
theorem Jd (s:ByteArray)(st:St)(h:st.i<s.size):(zZ s st).2.2.i≤s.size+2:=by
 have h1:=(jP s (st.go 1)).2.2.2 (by simp only [St.go];omega)
 have h2:=restF_i s (zR s (st.go 1)).1 _ h1
 have h3:∀ st',(yh s st').i=st'.i:=by intro st';unfold yh;split;exact yQ _ _ _;rfl
 unfold zZ
 dsimp only
 have h4:∀ st':St,((yh s st').go 1).i=st'.i+1:=by intro st';show (yh s st').i+1=_;rw [h3]
 split
 ·rw [yQ,h4];omega
 ·rw [h4];omega
end Ref
theorem XU (b:Nat)(s:ByteArray)(st:St)(w:World)(h:Lex w b s st)(hs:s.size≤400)(hi:st.i<s.size)(he:st.e=0) :
  Calls Tryz.prog 70 #[.pointer (some ⟨b,0,none⟩)] w fun x w'=>
   x = .returned (.agg #[.int .i64 6,.bool false,.slice none 0 0,.int .i64 0,.int .i64 (Ref.zK s st).1,.int .i64 (Ref.zK s st).2.1])∧Lex w' b s (Ref.zK s st).2.2∧Only (zl b) w w':=by
 have hL1:=ze h
 have hlt:=h.lt
 have HE:=ze he
 have eb:(st.e == 0)=true:=by simp [he]
 clear he
 have hL2:=ze (((zb hL1).alloc (.cells #[.int .i64 0,.bool false,.slice none 0 0,.int .i64 0,.int .i64 0,.int .i64 0] 178)).alloc (.cells #[.int .i64 6,.bool false,.slice none 0 0,.int .i64 0,.int .i64 0,.int .i64 (-1)] 178))
 have hR2:=ze ((Six.new (n:=w.heap.size) (a0:=.int .i64 0) (a1:=.bool false) (a2:=.slice none 0 0) (a3:=.int .i64 0) (a4:=.int .i64 0) (a5:=.int .i64 0) w 178 rfl).keep ((Only.refl (fun _=>False) _).alloc (.cells #[.int .i64 6,.bool false,.slice none 0 0,.int .i64 0,.int .i64 0,.int .i64 (-1)] 178)) (fun f=>f))
 have hT2:=ze (Six.new (n:=w.heap.size+1) (a0:=.int .i64 6) (a1:=.bool false) (a2:=.slice none 0 0) (a3:=.int .i64 0) (a4:=.int .i64 0) (a5:=.int .i64 (-1)) (w.alloc (.cells #[.int .i64 0,.bool false,.slice none 0 0,.int .i64 0,.int .i64 0,.int .i64 0] 178)) 178 (by simp))
 have hO2:=ze (((Only.refl (zl b) w).alloc (.cells #[.int .i64 0,.bool false,.slice none 0 0,.int .i64 0,.int .i64 0,.int .i64 0] 178)).alloc (.cells #[.int .i64 6,.bool false,.slice none 0 0,.int .i64 0,.int .i64 0,.int .i64 (-1)] 178))
 clear h
 go_enter Tryz.func70,Tryz.ntmps70
 go_wp2_with fail
 refine (vm b s st _ (zb hL2) hs).mono ?_
 rintro e w1 ⟨rfl,hON⟩
 have hLN:=(zb hL2).keep hON (fun f=>f)
 have hTN:=(zb hT2).keep hON (fun f=>f)
 have hRN:=(zb hR2).keep hON (fun f=>f)
 have hOO:=ze ((zb hO2).trans (hON.mono (fun _ _ f=>f.elim)))
 have hLL:=ze hLN
 have hTT:=ze hTN
 have hRR:=ze hRN
 clear hON hL2 hT2 hR2 hO2
 obtain ⟨l0,l1,l2,l3,k1,k2,k3⟩:=hLN
 obtain ⟨t0,t1,t2,t3,t4,t5,v0,v1,v2,v3,v4,v5⟩:=hTN
 obtain ⟨r0,r1,r2,r3,r4,r5,u0,u1,u2,u3,u4,u5⟩:=hRN
 by_cases x1:zd s st.i=43
 ·have y1:(zd s st.i == 43)=true:=by simp [x1]
  have eb':((st.go 1).e == 0)=true:=by simp [St.go,zb HE]
  go_wp2_with fail
  have hL5:=ze (((zb hLL).keep ((Only.refl (zl (w.heap.size+1)) w1).mine 4 (.int .i64 1)) (by unfold zl;omega)).setI ((st.i:Int)+1) 1 (by omega))
  have hO5:=ze (((zb hOO).young ((Only.refl (zl (w.heap.size+1)) w1).mine 4 (.int .i64 1)) (by omega)).mine 1 (.int .i64 ((st.i:Int)+1)))
  refine (zL b s (st.go 1) _ (zb hL5) hs).mono ?_
  rintro e w2 ⟨rfl,nq,rfl⟩
  simp only [St.go]
  by_cases b2:zd s (st.i+1)=63
  ·have bb2:(zd s (st.i+1) == 63)=true:=by simp [b2]
   have HH:Hid (Ref.zK s st=(1,-1,(st.go 1).go 1)):=by show _=_;unfold Ref.zK Ref.xy;rw [if_pos x1,if_pos ⟨by simp [St.go,zb HE],b2⟩]
   clear x1 b2
   go_wp2_with fail
   refine bodyPost_ret (v:=.agg #[.int .i64 6,.bool false,.slice none 0 0,.int .i64 0,.int .i64 (1),.int .i64 (-1)]) (by simp [results,Tryz.results70,go_sem,r0,r1,r2,r3,r4,r5]) rfl ?_
   rw [zb HH]
   exact ⟨rfl,(((zb hL5).drewN nq).setI _ 1 (by simp only [St.go];omega)).keep (Only.six w.heap.size _ _ _ _ _ _ _) (by unfold zl;omega),(((zb hO5).drewN nq).mine 1 _).young (Only.six w.heap.size _ _ _ _ _ _ _) (Nat.le_refl _)⟩
  ·have bb2:(zd s (st.i+1) == 63)=false:=by simp [b2]
   have HH:Hid (Ref.zK s st=(1,-1,st.go 1)):=by show _=_;unfold Ref.zK Ref.xy;rw [if_pos x1,if_neg (by intro hh;exact b2 hh.2)]
   clear x1 b2
   go_wp2_with fail
   refine bodyPost_ret (v:=.agg #[.int .i64 6,.bool false,.slice none 0 0,.int .i64 0,.int .i64 (1),.int .i64 (-1)]) (by simp [results,Tryz.results70,go_sem,r0,r1,r2,r3,r4,r5]) rfl ?_
   rw [zb HH]
   exact ⟨rfl,((zb hL5).drewN nq).keep (Only.six w.heap.size _ _ _ _ _ _ _) (by unfold zl;omega),((zb hO5).drewN nq).young (Only.six w.heap.size _ _ _ _ _ _ _) (Nat.le_refl _)⟩
 ·have y1:(zd s st.i == 43)=false:=by simp [x1]
  by_cases x2:zd s st.i=63
  ·have y2:(zd s st.i == 63)=true:=by simp [x2]
   have eb':((st.go 1).e == 0)=true:=by simp [St.go,zb HE]
   go_wp2_with fail
   have hL5:=ze (((zb hLL).keep ((Only.refl (zl (w.heap.size+1)) w1).mine 5 (.int .i64 1)) (by unfold zl;omega)).setI ((st.i:Int)+1) 1 (by omega))
   have hO5:=ze (((zb hOO).young ((Only.refl (zl (w.heap.size+1)) w1).mine 5 (.int .i64 1)) (by omega)).mine 1 (.int .i64 ((st.i:Int)+1)))
   refine (zL b s (st.go 1) _ (zb hL5) hs).mono ?_
   rintro e w2 ⟨rfl,nq,rfl⟩
   simp only [St.go]
   by_cases b2:zd s (st.i+1)=63
   ·have bb2:(zd s (st.i+1) == 63)=true:=by simp [b2]
    have HH:Hid (Ref.zK s st=(0,1,(st.go 1).go 1)):=by show _=_;unfold Ref.zK Ref.xy;rw [if_neg x1,if_pos x2,if_pos ⟨by simp [St.go,zb HE],b2⟩]
    clear x1 x2 b2
    go_wp2_with fail
    refine bodyPost_ret (v:=.agg #[.int .i64 6,.bool false,.slice none 0 0,.int .i64 0,.int .i64 (0),.int .i64 (1)]) (by simp [results,Tryz.results70,go_sem,r0,r1,r2,r3,r4,r5]) rfl ?_
    rw [zb HH]
    exact ⟨rfl,(((zb hL5).drewN nq).setI _ 1 (by simp only [St.go];omega)).keep (Only.six w.heap.size _ _ _ _ _ _ _) (by unfold zl;omega),(((zb hO5).drewN nq).mine 1 _).young (Only.six w.heap.size _ _ _ _ _ _ _) (Nat.le_refl _)⟩
   ·have bb2:(zd s (st.i+1) == 63)=false:=by simp [b2]
    have HH:Hid (Ref.zK s st=(0,1,st.go 1)):=by show _=_;unfold Ref.zK Ref.xy;rw [if_neg x1,if_pos x2,if_neg (by intro hh;exact b2 hh.2)]
    clear x1 x2 b2
    go_wp2_with fail
    refine bodyPost_ret (v:=.agg #[.int .i64 6,.bool false,.slice none 0 0,.int .i64 0,.int .i64 (0),.int .i64 (1)]) (by simp [results,Tryz.results70,go_sem,r0,r1,r2,r3,r4,r5]) rfl ?_
    rw [zb HH]
    exact ⟨rfl,((zb hL5).drewN nq).keep (Only.six w.heap.size _ _ _ _ _ _ _) (by unfold zl;omega),((zb hO5).drewN nq).young (Only.six w.heap.size _ _ _ _ _ _ _) (Nat.le_refl _)⟩
  ·have y2:(zd s st.i == 63)=false:=by simp [x2]
   by_cases x3:zd s st.i=42
   ·have y3:(zd s st.i == 42)=true:=by simp [x3]
    have eb':((st.go 1).e == 0)=true:=by simp [St.go,zb HE]
    go_wp2_with fail
    have hL5:=ze (((zb hLL)).setI ((st.i:Int)+1) 1 (by omega))
    have hO5:=ze (((zb hOO)).mine 1 (.int .i64 ((st.i:Int)+1)))
    refine (zL b s (st.go 1) _ (zb hL5) hs).mono ?_
    rintro e w2 ⟨rfl,nq,rfl⟩
    simp only [St.go]
    by_cases b2:zd s (st.i+1)=63
    ·have bb2:(zd s (st.i+1) == 63)=true:=by simp [b2]
     have HH:Hid (Ref.zK s st=(0,-1,(st.go 1).go 1)):=by show _=_;unfold Ref.zK Ref.xy;rw [if_neg x1,if_neg x2,if_pos x3,if_pos ⟨by simp [St.go,zb HE],b2⟩]
     clear x1 x2 x3 b2
     go_wp2_with fail
     refine bodyPost_ret (v:=.agg #[.int .i64 6,.bool false,.slice none 0 0,.int .i64 0,.int .i64 (0),.int .i64 (-1)]) (by simp [results,Tryz.results70,go_sem,r0,r1,r2,r3,r4,r5]) rfl ?_
     rw [zb HH]
     exact ⟨rfl,(((zb hL5).drewN nq).setI _ 1 (by simp only [St.go];omega)).keep (Only.six w.heap.size _ _ _ _ _ _ _) (by unfold zl;omega),(((zb hO5).drewN nq).mine 1 _).young (Only.six w.heap.size _ _ _ _ _ _ _) (Nat.le_refl _)⟩
    ·have bb2:(zd s (st.i+1) == 63)=false:=by simp [b2]
     have HH:Hid (Ref.zK s st=(0,-1,st.go 1)):=by show _=_;unfold Ref.zK Ref.xy;rw [if_neg x1,if_neg x2,if_pos x3,if_neg (by intro hh;exact b2 hh.2)]
     clear x1 x2 x3 b2
     go_wp2_with fail
     refine bodyPost_ret (v:=.agg #[.int .i64 6,.bool false,.slice none 0 0,.int .i64 0,.int .i64 (0),.int .i64 (-1)]) (by simp [results,Tryz.results70,go_sem,r0,r1,r2,r3,r4,r5]) rfl ?_
     rw [zb HH]
     exact ⟨rfl,((zb hL5).drewN nq).keep (Only.six w.heap.size _ _ _ _ _ _ _) (by unfold zl;omega),((zb hO5).drewN nq).young (Only.six w.heap.size _ _ _ _ _ _ _) (Nat.le_refl _)⟩
   ·have y3:(zd s st.i == 42)=false:=by simp [x3]
    have HQ:Hid (Ref.zK s st=((Ref.zZ s st).1,(Ref.zZ s st).2.1,Ref.xy s (Ref.zZ s st).2.2)):=by show _=_;unfold Ref.zK;rw [if_neg x1,if_neg x2,if_neg x3]
    clear x1 x2 x3
    go_wp2_with fail
    refine (Wq b s st _ (zb hLL) hs hi).mono ?_
    rintro e w3 ⟨rfl,hL6,hO6⟩
    have hR6:=(zb hRR).keep hO6 (by unfold zl;omega)
    have hT6:=(zb hTT).keep hO6 (by unfold zl;omega)
    have hi2:=Ref.Jd s st hi
    generalize hr:Ref.zZ s st=r at *
    obtain ⟨mn,mx,st2⟩:=r
    simp only [] at *
    have hL7:=ze (hL6.keep (Only.six (w.heap.size+1) w3 (.int .i64 6) (.bool false) (.slice none 0 0) (.int .i64 0) (.int .i64 mn) (.int .i64 mx)) (by unfold zl;omega))
    have hO7:=ze (((zb hOO).trans hO6).young (Only.six (w.heap.size+1) w3 (.int .i64 6) (.bool false) (.slice none 0 0) (.int .i64 0) (.int .i64 mn) (.int .i64 mx)) (by omega))
    obtain ⟨a0,a1,a2,a3,a4,a5,c0,c1,c2,c3,c4,c5⟩:=hT6
    obtain ⟨g0,g1,g2,g3,g4,g5,d0,d1,d2,d3,d4,d5⟩:=hR6
    obtain ⟨z0,z1,z2,z3,j1,j2,j3⟩:=hL6
    clear hO6 hr l0 l1 l2 l3 k1 k2 k3 t0 t1 t2 t3 t4 t5 v0 v1 v2 v3 v4 v5 r0 r1 r2 r3 r4 r5 u0 u1 u2 u3 u4 u5
    by_cases e2:st2.e=0
    ·have eb2:(st2.e == 0)=true:=by simp [e2]
     by_cases b2:zd s st2.i=63
     ·have bb2:(zd s st2.i == 63)=true:=by simp [b2]
      have HH:Hid (Ref.zK s st=(mn,mx,st2.go 1)):=by rw [zb HQ];show _=_;unfold Ref.xy;rw [if_pos ⟨e2,b2⟩]
      clear e2 b2
      go_wp2_with fail
      refine (zL b s st2 _ (zb hL7) hs).mono ?_
      rintro e w2 ⟨rfl,nq,rfl⟩
      go_wp2_with fail
      refine bodyPost_ret (v:=.agg #[.int .i64 6,.bool false,.slice none 0 0,.int .i64 0,.int .i64 (mn),.int .i64 (mx)]) (by simp [results,Tryz.results70,go_sem,g0,g1,g2,g3,g4,g5]) rfl ?_
      rw [zb HH]
      exact ⟨rfl,(((zb hL7).drewN nq).setI _ 1 (by omega)).keep (Only.six w.heap.size _ _ _ _ _ _ _) (by unfold zl;omega),(((zb hO7).drewN nq).mine 1 _).young (Only.six w.heap.size _ _ _ _ _ _ _) (Nat.le_refl _)⟩
     ·have bb2:(zd s st2.i == 63)=false:=by simp [b2]
      have HH:Hid (Ref.zK s st=(mn,mx,st2)):=by rw [zb HQ];show _=_;unfold Ref.xy;rw [if_neg (by intro hh;exact b2 hh.2)]
      clear e2 b2
      go_wp2_with fail
      refine (zL b s st2 _ (zb hL7) hs).mono ?_
      rintro e w2 ⟨rfl,nq,rfl⟩
      go_wp2_with fail
      refine bodyPost_ret (v:=.agg #[.int .i64 6,.bool false,.slice none 0 0,.int .i64 0,.int .i64 (mn),.int .i64 (mx)]) (by simp [results,Tryz.results70,go_sem,g0,g1,g2,g3,g4,g5]) rfl ?_
      rw [zb HH]
      exact ⟨rfl,((zb hL7).drewN nq).keep (Only.six w.heap.size _ _ _ _ _ _ _) (by unfold zl;omega),((zb hO7).drewN nq).young (Only.six w.heap.size _ _ _ _ _ _ _) (Nat.le_refl _)⟩
    ·have eb2:(st2.e == 0)=false:=by simp [e2]
     have HH:Hid (Ref.zK s st=(mn,mx,st2)):=by rw [zb HQ];show _=_;unfold Ref.xy;rw [if_neg (by intro hh;exact e2 hh.1)]
     clear e2
     go_wp2_with fail
     refine bodyPost_ret (v:=.agg #[.int .i64 6,.bool false,.slice none 0 0,.int .i64 0,.int .i64 (mn),.int .i64 (mx)]) (by simp [results,Tryz.results70,go_sem,g0,g1,g2,g3,g4,g5]) rfl ?_
     rw [zb HH]
     exact ⟨rfl,(zb hL7).keep (Only.six w.heap.size _ _ _ _ _ _ _) (by unfold zl;omega),(zb hO7).young (Only.six w.heap.size _ _ _ _ _ _ _) (Nat.le_refl _)⟩
namespace Ref
def Fine (s:ByteArray)(st:St):Prop:=st.i≤s.size∧(st.e=0→Good s st.i)
theorem Fine.fail {s:ByteArray}{st:St}{e a:Int}(h:st.i≤s.size)(he:e≠0):Fine s (st.fail e a):=
 ⟨by rw [yQ];exact h,fun h0=>absurd h0 (qY st e a he)⟩
theorem Zo {b:Int}(h:0≤hexV b):0≤b∧b<128:=by unfold hexV at h;(repeat' split at h)<;>omega
theorem Yq (s:ByteArray):∀ (n:Nat) (c:Int) (st:St),Good s st.i→Fine s (hexF s n c st).2∧st.i≤(hexF s n c st).2.i
 |0,c,st,h=>⟨⟨h.le,fun _=>h⟩,Nat.le_refl _⟩
 |n+1,c,st,h=>by
  by_cases hb:hexV (zd s st.i)<0
  ·rw [Xg hb]
   exact ⟨Fine.fail h.le (by decide),by rw [yQ];exact Nat.le_refl _⟩
  ·rw [Yb (by omega)]
   have ha:=Zo (b:=zd s st.i) (by omega)
   have:=Yq s n (16*c+hexV (zd s st.i)) (st.go 1) (h.ascii ha.1 ha.2)
   exact ⟨this.1,by have:=this.2;simp only [St.go] at this ⊢;omega⟩
theorem ZQ (s:ByteArray):∀ (f:Nat) (c:Int) (n:Nat) (st:St),Good s st.i→Fine s (xN s f c n st).2∧st.i≤(xN s f c n st).2.i
 |0,c,n,st,h=>⟨⟨h.le,fun _=>h⟩,Nat.le_refl _⟩
 |f+1,c,n,st,h=>by
  by_cases hc:0<n∧zd s st.i=125
  ·rw [kq hc.1 hc.2]
   have hg:=h.ascii (by omega) (by omega)
   exact ⟨⟨hg.le,fun _=>hg⟩,by simp only [St.go];omega⟩
  ·by_cases hb:hexV (zd s st.i)<0∨1114111<16*c+hexV (zd s st.i)
   ·rw [vy hc hb]
    exact ⟨Fine.fail h.le (by decide),by rw [yQ];exact Nat.le_refl _⟩
   ·rw [kM hc hb]
    have ha:=Zo (b:=zd s st.i) (by omega)
    have:=ZQ s f (16*c+hexV (zd s st.i)) (n+1) (st.go 1) (h.ascii ha.1 ha.2)
    exact ⟨this.1,by have:=this.2;simp only [St.go] at this ⊢;omega⟩
theorem ZR (s:ByteArray):∀ (n k:Nat) (c:Int),0≤c→0≤jE s n k c→Good s k→Good s (k+n)
 |0,k,c,_,_,h=>h
 |n+1,k,c,h0,h1,h=>by
  by_cases hb:hexV (zd s k)<0
  ·rw [wl hb] at h1;omega
  ·rw [kN (by omega)] at h1
   have ha:=Zo (b:=zd s k) (by omega)
   have:=ZR s n (k+1) _ (by omega) h1 (h.ascii ha.1 ha.2)
   rw [show k+(n+1)=k+1+n by omega];exact this
theorem Je {s:ByteArray}{i:Nat}(h:0≤yT s i)(hg:Good s i):Good s (i+6)∧zd s i=92∧zd s (i+1)=117:=by
 unfold yT at h
 split at h
 ·omega
 ·rename_i hn
  have h1:zd s i=92:=by omega
  have h2:zd s (i+1)=117:=by omega
  have g1:=hg.ascii (by omega) (by omega)
  have g2:=g1.ascii (by omega) (by omega)
  exact ⟨ZR s 4 (i+2) 0 (by omega) h g2,h1,h2⟩
theorem Qr {s:ByteArray}{st:St}(h1:1≤st.i)(hg:Good s (st.i-1))(hb:zd s (st.i-1)=92)(hu:zd s st.i=117):Fine s (yU s st).2∧st.i≤(yU s st).2.i:=by
 have g0:Good s st.i:=by have:=hg.ascii (by omega) (by omega);rwa [show st.i-1+1=st.i by omega] at this
 have g1:=g0.ascii (by omega) (by omega)
 unfold yU
 split
 ·rename_i h
  have g2:=g1.ascii (by omega) (by omega)
  have:=ZQ s (s.size+1-(st.go 2).i) 0 0 (st.go 2) g2
  exact ⟨this.1,by have:=this.2;simp only [St.go,jr] at this ⊢;omega⟩
 ·split
  ·rename_i h
   simp only [kz,Bool.and_eq_true,decide_eq_true_eq] at h
   have a1:=(Je (by omega) hg).1
   rw [show st.i-1+6=st.i+5 by omega] at a1
   have a2:=(Je (by omega) a1).1
   exact ⟨⟨a2.le,fun _=>a2⟩,by simp only [St.go];omega⟩
  ·have:=Yq s 4 0 (st.go 1) g1
   exact ⟨this.1,by have:=this.2;simp only [St.go] at this ⊢;omega⟩
theorem Vb {b:Int}(h:signB b=true):0≤b∧b<128:=by
 simp [signB] at h;omega
theorem JL {s:ByteArray}{cls:Bool}{st:St}(h1:1≤st.i)(hg:Good s (st.i-1))(hb:zd s (st.i-1)=92):Fine s (zI s cls st).2∧st.i≤(zI s cls st).2.i:=by
 have g0:Good s st.i:=by have:=hg.ascii (by omega) (by omega);rwa [show st.i-1+1=st.i by omega] at this
 have step:0≤zd s st.i→zd s st.i<128→Fine s (st.go 1)∧st.i≤(st.go 1).i:=fun a b=>⟨⟨(g0.ascii a b).le,fun _=>g0.ascii a b⟩,by simp only [St.go];omega⟩
 unfold zI
 split
 ·rename_i h
  have:0≤zd s st.i∧zd s st.i<128:=by unfold yu at h;(repeat' split at h)<;>omega
  exact step this.1 this.2
 split
 ·have hs:=step (by omega) (by omega)
  dsimp only
  split
  ·exact ⟨Fine.fail hs.1.1 (by decide),by rw [yQ];exact hs.2⟩
  ·exact hs
 split
 ·have hs:=step (by omega) (by omega)
  have g1:=g0.ascii (by omega) (by omega)
  split
  ·have g2:=g1.ascii (by omega) (by omega)
   exact ⟨⟨g2.le,fun _=>g2⟩,by simp only [St.go];omega⟩
  ·exact ⟨Fine.fail hs.1.1 (by decide),by rw [yQ];exact hs.2⟩
 split
 ·have g1:=g0.ascii (by omega) (by omega)
  have:=Yq s 2 0 (st.go 1) g1
  exact ⟨this.1,by have:=this.2;simp only [St.go] at this ⊢;omega⟩
 split
 ·rename_i h
  exact Qr h1 hg hb h
 split
 ·rename_i h
  have:0≤zd s st.i∧zd s st.i<128:=by
   rcases h with h |h
   ·exact Vb h
   ·omega
  exact step this.1 this.2
 split
 ·exact step (by omega) (by omega)
 ·exact ⟨Fine.fail g0.le (by decide),by rw [yQ];exact Nat.le_refl _⟩
theorem Wr {b:Int}(h:setL b≠[]):0≤b∧b<128:=by
 unfold setL at h;(repeat' split at h)<;>first |omega |simp at h
theorem ZS {s:ByteArray}{cls:Bool}{st:St}(hg:Good s st.i)(hb:zd s st.i=92):Fine s (zG s cls st).2.2∧st.i<(zG s cls st).2.2.i:=by
 have g1:=hg.ascii (by omega) (by omega)
 unfold zG
 split
 ·exact ⟨Fine.fail g1.le (by decide),by rw [yQ];simp only [St.go];omega⟩
 split
 ·rename_i h
  have ha:=Wr h
  have g2:=g1.ascii ha.1 ha.2
  exact ⟨⟨g2.le,fun _=>g2⟩,by simp only [St.go];omega⟩
 ·have:=JL (cls:=cls) (st:=st.go 1) (by simp only [St.go];omega) (by simp only [St.go,Nat.add_sub_cancel];exact hg) (by simp only [St.go,Nat.add_sub_cancel];exact hb)
  exact ⟨this.1,by have:=this.2;simp only [St.go] at this ⊢;omega⟩
theorem jI {s:ByteArray}{st:St}(hg:Good s st.i)(hi:st.i<s.size):Fine s (zk s st).2.2∧st.i<(zk s st).2.2.i:=by
 unfold zk
 split
 ·rename_i h;exact ZS hg h
 ·obtain ⟨n,c,ho,hn⟩:=hg.next hi
  rw [ho]
  have hb:=xw ho
  exact ⟨⟨hn.le,fun _=>hn⟩,by simp only [St.go];omega⟩
theorem Vc {s:ByteArray}{cls:Bool}{st:St}(h:(zG s cls st).2.1=true)(he:(zG s cls st).2.2.e=0):∃ c,(zG s cls st).1.spans=[(c,c)]:=by
 unfold zG at *
 split
 ·rename_i hb
  rw [if_pos hb] at he
  exact absurd he (qY _ _ _ (by decide))
 ·rename_i hb
  rw [if_neg hb] at h he
  split
  ·rename_i h2;rw [if_pos h2] at h;simp at h
  ·exact ⟨_,rfl⟩
theorem YL {s:ByteArray}{st:St}(hg:Good s st.i)(hi:st.i<s.size)(h:(zk s st).2.1=true)(he:(zk s st).2.2.e=0):∃ c,(zk s st).1.spans=[(c,c)]:=by
 unfold zk at *
 split
 ·rename_i hb
  rw [if_pos hb] at h he
  exact Vc h he
 ·obtain ⟨n,c,ho,hn⟩:=hg.next hi
  rw [ho];exact ⟨c,rfl⟩
end Ref
theorem Only.ofGrown {w w':World}{row:Option Nat}(h:w.grownBy w' row):Only (fun k=>row=some k) w w':=
 ⟨h.os,h.tape,h.output,h.size,fun k hk hn=>h.block k hk (fun e=>hn e.symm)⟩
theorem qy {w:World}{base base':Nat}{e e':TypeId}{size size':Nat}{v v':Value}{n n':Nat}{xs xs':List Value}(h:w.ownsRow base e size v n xs)(h':w.ownsRow base' e' size' v' n' xs')(he:e≠e')(g:Nat)(hg:v.ownBlock=some g):¬v'.ownBlock=some g:=by
 intro hg'
 obtain ⟨_,h2⟩:=h
 obtain ⟨_,h2'⟩:=h'
 rcases h2 with ⟨rfl,_⟩ |⟨g1,cap,cur,rfl,hb,hh,_⟩
 ·simp [Value.ownBlock] at hg
 rcases h2' with ⟨rfl,_⟩ |⟨g2,cap',cur',rfl,hb',hh',_⟩
 ·simp [Value.ownBlock] at hg'
 simp only [Value.ownBlock,Option.some.injEq] at hg hg'
 subst hg;subst hg'
 rw [hh] at hh'
 simp only [Option.some.injEq,Obj.cells.injEq] at hh'
 exact he hh'.2.1
def PartsOK (w:World)(base:Nat):List Pt→List Value→Prop
 | [],[]=>True
 |p :: ps,b :: v :: vs=>b = .bool p.neg∧SpansAt w base v p.spans∧PartsOK w base ps vs
 |_,_=>False
def PartsAt (w:World)(base:Nat)(v:Value)(l:List Pt):Prop:=∃ cs,w.ownsRow base 274 2 v l.length cs∧PartsOK w base l cs
theorem PartsOK.keep {P:Nat→Prop}{w w':World}{base:Nat}(k:Only P w w')(hn:∀ g,base≤g→g<w.heap.size→¬P g):∀ (l:List Pt) (cs:List Value),PartsOK w base l cs→PartsOK w' base l cs
 | [],[],_=>trivial
 |_p :: ps,_b :: _v :: vs,h=>⟨h.1,h.2.1.keep k hn,PartsOK.keep k hn ps vs h.2.2⟩
 | [],_ :: _,h=>h
 |_ :: _,[],h=>h
 |_ :: _,[_],h=>h
theorem PartsAt.keep {P:Nat→Prop}{w w':World}{base:Nat}{v:Value}{l:List Pt}(h:PartsAt w base v l)(k:Only P w w')(hn:∀ g,base≤g→g<w.heap.size→¬P g):PartsAt w' base v l:=by
 obtain ⟨cs,h1,h2⟩:=h
 exact ⟨cs,zo h1 k (fun g hg=>hn g (zg h1 g hg).1 (zg h1 g hg).2),PartsOK.keep k hn l cs h2⟩
theorem PartsOK.base {w:World}{base base':Nat}(hb:base'≤base):∀ (l:List Pt) (cs:List Value),PartsOK w base l cs→PartsOK w base' l cs
 | [],[],_=>trivial
 |_p :: ps,_b :: _v :: vs,h=>⟨h.1,h.2.1.base hb,PartsOK.base hb ps vs h.2.2⟩
 | [],_ :: _,h=>h
 |_ :: _,[],h=>h
 |_ :: _,[_],h=>h
theorem PartsAt.base {w:World}{base base':Nat}{v:Value}{l:List Pt}(h:PartsAt w base v l)(hb:base'≤base):PartsAt w base' v l:=by
 obtain ⟨cs,h1,h2⟩:=h
 exact ⟨cs,yi h1 hb,PartsOK.base hb l cs h2⟩
theorem PartsAt.nil (w:World)(base:Nat):PartsAt w base (.slice none 0 0) []:=⟨[],World.ownsRow_nil _ _ _ _,trivial⟩
theorem SpansAt.grown {w w':World}{base base':Nat}{sv v:Value}{n:Nat}{xs:List Value}{l:List (Int×Int)}(h:SpansAt w base sv l)(hr:w.ownsRow base' 274 2 v n xs)(hg:w.grownBy w' v.ownBlock):SpansAt w' base sv l:=
 zo h (Only.ofGrown hg) (fun g h1 h2=>qy h hr (by decide) g h1 h2)
theorem PartsOK.grown {w w':World}{base base':Nat}{v:Value}{n:Nat}{xs:List Value}(hr:w.ownsRow base' 274 2 v n xs)(hg:w.grownBy w' v.ownBlock):∀ (l:List Pt) (cs:List Value),PartsOK w base l cs→PartsOK w' base l cs
 | [],[],_=>trivial
 |_p :: ps,_b :: _v :: vs,h=>⟨h.1,h.2.1.grown hr hg,PartsOK.grown hr hg ps vs h.2.2⟩
 | [],_ :: _,h=>h
 |_ :: _,[],h=>h
 |_ :: _,[_],h=>h
theorem PartsOK.append {w:World}{base:Nat}{p:Pt}{sv:Value}(hs:SpansAt w base sv p.spans):∀ (l:List Pt) (cs:List Value),PartsOK w base l cs→PartsOK w base (l++[p]) (cs++[.bool p.neg,sv])
 | [],[],_=>⟨rfl,hs,trivial⟩
 |_q :: ps,_b :: _v :: vs,h=>⟨h.1,h.2.1,PartsOK.append hs ps vs h.2.2⟩
 | [],_ :: _,h=>h.elim
 |_ :: _,[],h=>h.elim
 |_ :: _,[_],h=>h.elim
theorem PartsAt.appended {w w':World}{base:Nat}{v v':Value}{l:List Pt}{cs:List Value}{p:Pt}{sv:Value}(h1:w.ownsRow base 274 2 v l.length cs)(h2:PartsOK w base l cs)(hs:SpansAt w base sv p.spans)
  (hown:w'.ownsRow base 274 2 v' (l.length+1) (cs++[.bool p.neg,sv])) (hg:w.grownBy w' v.ownBlock):PartsAt w' base v' (l++[p]):=
 ⟨cs++[.bool p.neg,sv],by rw [List.length_append];exact hown,PartsOK.append (hs.grown h1 hg) l cs (PartsOK.grown h1 hg l cs h2)⟩
namespace Ref
def qz (s:ByteArray)(st:St):Bool:=decide (st.e=0) && decide (zd s st.i=45) && decide (st.i+1<s.size) && decide (zd s (st.i+1)≠93)
def loOf (p:Pt):Int:=match p.spans with
 | []=>0
 |x :: _=>x.1
def badB (p q:Pt)(one two:Bool):Bool:=!one || !two ||decide (loOf q<loOf p)
def yt (s:ByteArray):Nat→List Pt→St→List Pt×St
 |0,ps,st=>(ps,st)
 |f+1,ps,st=>
  if st.e=0∧zd s st.i≠93 then
   (if zd s st.i<0 then (ps,st.fail 3 st.i)
    else if qz s (zk s st).2.2=true then
    (if (zk s ((zk s st).2.2.go 1)).2.2.e≠0 then (ps,(zk s ((zk s st).2.2.go 1)).2.2)
     else if badB (zk s st).1 (zk s ((zk s st).2.2.go 1)).1 (zk s st).2.1 (zk s ((zk s st).2.2.go 1)).2.1=true then (ps,(zk s ((zk s st).2.2.go 1)).2.2.fail 4 (zk s st).2.2.i)
     else yt s f (ps++[⟨(zk s st).1.neg,[(loOf (zk s st).1,loOf (zk s ((zk s st).2.2.go 1)).1)]⟩]) (zk s ((zk s st).2.2.go 1)).2.2)
    else yt s f (ps++[(zk s st).1]) (zk s st).2.2)
  else (ps,st.go 1)
def notB (s:ByteArray)(st:St):Bool:=decide (zd s st.i=94)
def yA (s:ByteArray)(st:St):St:=if notB s st=true then st.go 1 else st
def yR (s:ByteArray)(st:St):List Pt×St:=yt s (s.size+1-(yA s st).i) [] (yA s st)
section
variable {s:ByteArray} {f:Nat} {ps:List Pt} {st:St}
theorem jl (h:¬(st.e=0∧zd s st.i≠93)):yt s (f+1) ps st=(ps,st.go 1):=by simp only [yt];rw [if_neg h]
theorem vS (h:st.e=0∧zd s st.i≠93)(h1:zd s st.i<0):yt s (f+1) ps st=(ps,st.fail 3 st.i):=by simp only [yt];rw [if_pos h,if_pos h1]
theorem j5 (h:st.e=0∧zd s st.i≠93)(h1:¬zd s st.i<0)(h2:¬qz s (zk s st).2.2=true):yt s (f+1) ps st=yt s f (ps++[(zk s st).1]) (zk s st).2.2:=by
 simp only [yt];rw [if_pos h,if_neg h1,if_neg h2]
theorem vT (h:st.e=0∧zd s st.i≠93)(h1:¬zd s st.i<0)(h2:qz s (zk s st).2.2=true)(h3:¬(zk s ((zk s st).2.2.go 1)).2.2.e=0):yt s (f+1) ps st=(ps,(zk s ((zk s st).2.2.go 1)).2.2):=by
 simp only [yt];rw [if_pos h,if_neg h1,if_pos h2,if_pos h3]
theorem Zp (h:st.e=0∧zd s st.i≠93)(h1:¬zd s st.i<0)(h2:qz s (zk s st).2.2=true)(h3:(zk s ((zk s st).2.2.go 1)).2.2.e=0)
  (h4:badB (zk s st).1 (zk s ((zk s st).2.2.go 1)).1 (zk s st).2.1 (zk s ((zk s st).2.2.go 1)).2.1=true):yt s (f+1) ps st=(ps,(zk s ((zk s st).2.2.go 1)).2.2.fail 4 (zk s st).2.2.i):=by
 simp only [yt];rw [if_pos h,if_neg h1,if_pos h2,if_neg (by simp [h3]),if_pos h4]
theorem jJ (h:st.e=0∧zd s st.i≠93)(h1:¬zd s st.i<0)(h2:qz s (zk s st).2.2=true)(h3:(zk s ((zk s st).2.2.go 1)).2.2.e=0)
  (h4:¬badB (zk s st).1 (zk s ((zk s st).2.2.go 1)).1 (zk s st).2.1 (zk s ((zk s st).2.2.go 1)).2.1=true) :
  yt s (f+1) ps st=yt s f (ps++[⟨(zk s st).1.neg,[(loOf (zk s st).1,loOf (zk s ((zk s st).2.2.go 1)).1)]⟩]) (zk s ((zk s st).2.2.go 1)).2.2:=by
 simp only [yt];rw [if_pos h,if_neg h1,if_pos h2,if_neg (by simp [h3]),if_neg h4]
end
end Ref
end
end Go.Proofs.YtnagphodmfejiaaGreatDoor
