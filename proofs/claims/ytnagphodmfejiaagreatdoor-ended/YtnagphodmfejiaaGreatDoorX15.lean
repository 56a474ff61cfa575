/- The program's machine that reads characters: its first byte, and its further ones. -/
import Derived.Test.YtnagphodmfejiaaGreatDoorX7
import Derived.Laws.BitsLemmas
import Derived.ScopeJumps
namespace Go.Proofs.YtnagphodmfejiaaGreatDoor
section
open Go.RowKit
set_option maxHeartbeats 2000000
structure xB (w:World)(b:Nat)(s:ByteArray)(nx p:Nat)(ch:Int):Prop where
 c0:w.cell? ⟨b,0,none⟩=some (.string s)
 c1:w.cell? ⟨b,1,none⟩=some (.int .i64 nx)
 c2:w.cell? ⟨b,2,none⟩=some (.int .i64 p)
 c3:w.cell? ⟨b,3,none⟩=some (.int .i32 ch)
 f1:w.frozen? ⟨b,1,none⟩=false
 f2:w.frozen? ⟨b,2,none⟩=false
 f3:w.frozen? ⟨b,3,none⟩=false
section
variable {w w':World} {b:Nat} {s:ByteArray} {nx p:Nat} {ch:Int}
theorem xB.lt (h:xB w b s nx p ch):b<w.heap.size:=World.block_lt_of_cell? w ⟨b,0,none⟩ h.c0
theorem xB.keep {P:Nat→Prop}(h:xB w b s nx p ch)(k:zf P w w')(hn:¬P b):xB w' b s nx p ch:=
 ⟨(k.cell (p:=⟨b,0,none⟩) h.lt hn).trans h.c0,(k.cell (p:=⟨b,1,none⟩) h.lt hn).trans h.c1,(k.cell (p:=⟨b,2,none⟩) h.lt hn).trans h.c2,(k.cell (p:=⟨b,3,none⟩) h.lt hn).trans h.c3,
  (k.frozen (p:=⟨b,1,none⟩) h.lt hn).trans h.f1,(k.frozen (p:=⟨b,2,none⟩) h.lt hn).trans h.f2,(k.frozen (p:=⟨b,3,none⟩) h.lt hn).trans h.f3⟩
theorem xB.drewN (h:xB w b s nx p ch)(q:Nat):xB (w.drewN q) b s nx p ch:=h.keep ((zf.refl (fun _=>False) w).drewN q) (fun f=>f)
theorem xB.set1 (h:xB w b s nx p ch)(n:Nat)(j:Int)(hj:j=(n:Int)):xB (w.setCell ⟨b,1,none⟩ (.int .i64 j)) b s n p ch:=by
 subst hj
 exact ⟨(World.cell?_setCell_other _ _ _ _ (by simp)).trans h.c0,World.cell?_setCell_same _ _ _ h.c1,(World.cell?_setCell_other _ _ _ _ (by simp)).trans h.c2,(World.cell?_setCell_other _ _ _ _ (by simp)).trans h.c3,(zj _ _ _ _).trans h.f1,(zj _ _ _ _).trans h.f2,(zj _ _ _ _).trans h.f3⟩
theorem xB.set2 (h:xB w b s nx p ch)(n:Nat)(j:Int)(hj:j=(n:Int)):xB (w.setCell ⟨b,2,none⟩ (.int .i64 j)) b s nx n ch:=by
 subst hj
 exact ⟨(World.cell?_setCell_other _ _ _ _ (by simp)).trans h.c0,(World.cell?_setCell_other _ _ _ _ (by simp)).trans h.c1,World.cell?_setCell_same _ _ _ h.c2,(World.cell?_setCell_other _ _ _ _ (by simp)).trans h.c3,(zj _ _ _ _).trans h.f1,(zj _ _ _ _).trans h.f2,(zj _ _ _ _).trans h.f3⟩
theorem xB.set3 (h:xB w b s nx p ch)(j k:Int)(hj:k=j):xB (w.setCell ⟨b,3,none⟩ (.int .i32 k)) b s nx p j:=by
 subst hj
 exact ⟨(World.cell?_setCell_other _ _ _ _ (by simp)).trans h.c0,(World.cell?_setCell_other _ _ _ _ (by simp)).trans h.c1,(World.cell?_setCell_other _ _ _ _ (by simp)).trans h.c2,World.cell?_setCell_same _ _ _ h.c3,(zj _ _ _ _).trans h.f1,(zj _ _ _ _).trans h.f2,(zj _ _ _ _).trans h.f3⟩
end
namespace Pro
def y9 (b:Int):Int:=if b<128 then b else if b<224 then b % 32 else if b<240 then b % 16 else b % 8
def xX (s:ByteArray)(nx:Nat)(lo hi:Int):Bool:=decide (nx<s.size) && decide (lo≤zd s nx) && decide (zd s nx≤hi)
theorem Ka {s:ByteArray}{nx:Nat}{lo hi:Int}(h:nx<s.size)(h1:¬zd s nx<lo)(h2:¬hi<zd s nx):xX s nx lo hi=true:=by
 unfold xX;simp;omega
theorem QO {s:ByteArray}{nx:Nat}{lo hi:Int}(h:¬(nx<s.size∧lo≤zd s nx∧zd s nx≤hi)):xX s nx lo hi=false:=by
 cases hb:xX s nx lo hi with
 |false=>rfl
 |true=>unfold xX at hb;simp at hb;exact absurd ⟨hb.1.1,hb.1.2,hb.2⟩ h
end Pro
theorem jq (b:Nat)(s:ByteArray)(nx p:Nat)(ch:Int)(w:World)(h:xB w b s nx p ch)(hs:s.size≤400)(hn:nx<s.size) :
  Calls Tryz.prog 172 #[.pointer (some ⟨b,0,none⟩)] w fun x w'=>x = .returned (.int .u8 (zd s nx))∧xB w' b s (nx+1) p (Pro.y9 (zd s nx))∧zf (zm b) w w':=by
 have H:=ze h
 obtain ⟨c0,c1,c2,c3,f1,f2,f3⟩:=h
 have hb0:=(zx s nx).2 hn
 have hb1:=yw s nx
 have hix:∀ wx,(Instr.index 9 (.string s) (.int .i64 (nx:Int))).run Tryz.prog wx = .ok (.int .u8 (zd s nx)) wx:=fun wx=>wh s nx hn _ rfl wx
 have hcs:(zd s nx<128∧Hid (Pro.y9 (zd s nx)=zd s nx))∨(128≤zd s nx∧zd s nx<224∧Hid (Pro.y9 (zd s nx)=zd s nx % 32))∨(128≤zd s nx∧224≤zd s nx∧zd s nx<240∧Hid (Pro.y9 (zd s nx)=zd s nx % 16))∨(128≤zd s nx∧224≤zd s nx∧240≤zd s nx∧Hid (Pro.y9 (zd s nx)=zd s nx % 8)):=by
  unfold Pro.y9
  by_cases h1:zd s nx<128
  ·left;rw [if_pos h1];exact ⟨h1,rfl⟩
  ·right
   rw [if_neg h1]
   by_cases h2:zd s nx<224
   ·left;rw [if_pos h2];exact ⟨by omega,h2,rfl⟩
   ·right
    rw [if_neg h2]
    by_cases h3:zd s nx<240
    ·left;rw [if_pos h3];exact ⟨by omega,by omega,h3,rfl⟩
    ·right;rw [if_neg h3];exact ⟨by omega,by omega,by omega,rfl⟩
 have e31:=u8_and31 (zd s nx) hb0 (by omega)
 have e15:=u8_and15 (zd s nx) hb0 (by omega)
 have e7:=u8_and7 (zd s nx) hb0 (by omega)
 have hcv:IntKind.i32.wrap (zd s nx)=zd s nx:=wraps_i32 _ hb0 (by omega)
 rcases hcs with ⟨k1,HL⟩ |⟨k1,k2,HL⟩ |⟨k1,k2,k3,HL⟩ |⟨k1,k2,k3,HL⟩
 all_goals
  go_enter Tryz.func172,Tryz.ntmps172
  go_wp2_with fail
  go_quiet (fail)
  go_wp2_with fail
  go_ret
  refine ⟨rfl,(((zb H).drewN _).set1 (nx+1) _ (by omega)).set3 _ _ ?_,(((zf.refl _ _).drewN _).mine _ _).mine _ _⟩
  rw [zb HL]
  try rw [wraps_i32 _ (by omega) (by omega)]
theorem xY (b:Nat)(s:ByteArray)(nx p:Nat)(ch lo hi:Int)(w:World)(h:xB w b s nx p ch)(hs:s.size≤400)(hn:nx≤s.size)(hc0:0≤ch)(hc1:ch<33554432)(hl:128≤lo)(hh:hi≤191) :
  Calls Tryz.prog 173 #[.pointer (some ⟨b,0,none⟩),.int .u8 lo,.int .u8 hi] w fun x w'=>zf (zm b) w w'∧((Pro.xX s nx lo hi=true∧x = .returned (.bool true)∧xB w' b s (nx+1) p (ch*64+zd s nx-128))∨(Pro.xX s nx lo hi=false∧x = .returned (.bool false)∧xB w' b s nx p ch)):=by
 have H:=ze h
 obtain ⟨c0,c1,c2,c3,f1,f2,f3⟩:=h
 by_cases hlt:nx<s.size
 ·have he:((nx:Int) == (s.size:Int))=false:=by simp;omega
  have hb0:=(zx s nx).2 hlt
  have hb1:=yw s nx
  have hix:∀ wx,(Instr.index 9 (.string s) (.int .i64 (nx:Int))).run Tryz.prog wx = .ok (.int .u8 (zd s nx)) wx:=fun wx=>wh s nx hlt _ rfl wx
  by_cases h1:zd s nx<lo
  ·have HB:Hid (Pro.xX s nx lo hi=false):=Pro.QO (by omega)
   go_enter Tryz.func173,Tryz.ntmps173
   go_wp2_with fail
   go_quiet (fail)
   go_wp2_with fail
   go_quiet (fail)
   go_wp2_with fail
   go_ret
   exact ⟨by first |exact (zf.refl _ _).drewN _ |exact ((zf.refl _ _).drewN _).drewN _,.inr ⟨zb HB,rfl,by first |exact (zb H).drewN _ |exact ((zb H).drewN _).drewN _⟩⟩
  ·by_cases h2:hi<zd s nx
   ·have HB:Hid (Pro.xX s nx lo hi=false):=Pro.QO (by omega)
    go_enter Tryz.func173,Tryz.ntmps173
    go_wp2_with fail
    go_quiet (fail)
    go_wp2_with fail
    go_quiet (fail)
    go_wp2_with fail
    go_ret
    exact ⟨by first |exact (zf.refl _ _).drewN _ |exact ((zf.refl _ _).drewN _).drewN _,.inr ⟨zb HB,rfl,by first |exact (zb H).drewN _ |exact ((zb H).drewN _).drewN _⟩⟩
   ·have HB:Hid (Pro.xX s nx lo hi=true):=Pro.Ka hlt h1 h2
    have e63:=u8_and63 (zd s nx) hb0 (by omega)
    have hor:bits BinOp.or IntKind.i32 (ch*64) (zd s nx % 64)=ch*64+zd s nx-128:=by
     rw [i32_or6 (ch*64) (zd s nx % 64) (by omega) (by omega) (by omega) (by omega) (by omega)];omega
    go_enter Tryz.func173,Tryz.ntmps173
    go_wp2_with fail
    go_quiet (fail)
    go_wp2_with fail
    go_quiet (fail)
    go_wp2_with fail
    go_ret
    exact ⟨(((zf.refl _ _).drewN _).mine _ _).mine _ _,.inl ⟨zb HB,rfl,(((zb H).drewN _).set1 (nx+1) _ (by omega)).set3 _ _ rfl⟩⟩
 ·have he:((nx:Int) == (s.size:Int))=true:=by simp;omega
  have HB:Hid (Pro.xX s nx lo hi=false):=Pro.QO (by omega)
  go_enter Tryz.func173,Tryz.ntmps173
  go_wp2_with fail
  go_quiet (fail)
  go_wp2_with fail
  go_ret
  exact ⟨(zf.refl _ _).drewN _,.inr ⟨zb HB,rfl,(zb H).drewN _⟩⟩
set_option maxHeartbeats 4000000
set_option maxRecDepth 1000000
def Exit.jumps (J:Nat→Act→World→Prop)(Q:Exit→Act→World→Prop):Exit→Act→World→Prop
 | .goto l,a,w=>J l a w
 |e,a,w=>Q e a w
theorem JG {P:Program}{a:Act}{w:World}{Q:Exit→Act→World→Prop}{c:Code}(J:Nat→Act→World→Prop)(μ:Nat→Nat)(rest:Nat→Code)(hf:∀ l a w,J l a w→findLabel c l=some (rest l))
  (first:c.wp P (Exit.jumps J Q) a w)
  (pass:∀ l a w,J l a w→(rest l).wp P (Exit.jumps (fun l' a' w'=>J l' a' w'∧μ l'<μ l) Q) a w):(Code.scope c).wp P Q a w:=by
 intro b k cs
 have hg:∀ l a w,J l a w→gotoIn l (.inScope c :: k)=some (.code (rest l) :: .inScope c :: k):=fun l a w h=>by simp [gotoIn,hf l a w h]
 have key:∀ n l a w,μ l=n→J l a w→∃ e a' w',Q e a' w'∧Arrives P (lone (b.at a (.code (rest l) :: .inScope c :: k)) cs w) b k cs e a' w':=by
  intro n
  induction n using Nat.strongRecOn with
  |_ n ih=>
   intro l a w hn hJ
   obtain ⟨e,a₁,w₁,hq,harr⟩:=pass l a w hJ b (.inScope c :: k) cs
   cases e with
   |normal=>exact ⟨.normal,a₁,w₁,hq,Steps.trans harr (.one step_inScope)⟩
   |exit id=>exact ⟨.exit id,a₁,w₁,hq,fun k' hk=>harr k' (by simp [exitTo,hk])⟩
   |goto l'=>
    obtain ⟨hJ',hlt⟩:=hq
    obtain ⟨e₂,a₂,w₂,hq₂,harr₂⟩:=ih _ (by omega) l' a₁ w₁ rfl hJ'
    exact ⟨e₂,a₂,w₂,hq₂,.of_steps (harr _ (hg l' a₁ w₁ hJ')) harr₂⟩
   |ret=>exact ⟨_,a₁,w₁,hq,harr⟩
   |panic ch=>exact ⟨_,a₁,w₁,hq,harr⟩
   |outgrown=>exact ⟨_,a₁,w₁,hq,harr⟩
 obtain ⟨e,a₁,w₁,hq,harr⟩:=first b (.inScope c :: k) cs
 cases e with
 |normal=>exact ⟨.normal,a₁,w₁,hq,.head step_scope (Steps.trans harr (.one step_inScope))⟩
 |exit id=>exact ⟨.exit id,a₁,w₁,hq,fun k' hk=>.head step_scope (harr k' (by simp [exitTo,hk]))⟩
 |goto l'=>
  obtain ⟨e₂,a₂,w₂,hq₂,harr₂⟩:=key _ l' a₁ w₁ rfl hq
  exact ⟨e₂,a₂,w₂,hq₂,.of_steps (.head step_scope (harr _ (hg l' a₁ w₁ hq))) harr₂⟩
 |ret=>exact ⟨_,a₁,w₁,hq,.of_steps (.one step_scope) harr⟩
 |panic ch=>exact ⟨_,a₁,w₁,hq,.of_steps (.one step_scope) harr⟩
 |outgrown=>exact ⟨_,a₁,w₁,hq,.of_steps (.one step_scope) harr⟩
theorem QP {P:Program}{a:Act}{w:World}{Q:Exit→Act→World→Prop}{c r0 r1 r2 r3 r4 r5 r6:Code}(J:Nat→Act→World→Prop)(μ:Nat→Nat)
  (h0:findLabel c 0=some r0) (h1:findLabel c 1=some r1) (h2:findLabel c 2=some r2) (h3:findLabel c 3=some r3) (h4:findLabel c 4=some r4) (h5:findLabel c 5=some r5) (h6:findLabel c 6=some r6)
  (hJ:∀ l a w,J l a w→l≤6) (first:c.wp P (Exit.jumps J Q) a w)
  (p0:∀ a w,J 0 a w→r0.wp P (Exit.jumps (fun l' a' w'=>J l' a' w'∧μ l'<μ 0) Q) a w) (p1:∀ a w,J 1 a w→r1.wp P (Exit.jumps (fun l' a' w'=>J l' a' w'∧μ l'<μ 1) Q) a w)
  (p2:∀ a w,J 2 a w→r2.wp P (Exit.jumps (fun l' a' w'=>J l' a' w'∧μ l'<μ 2) Q) a w) (p3:∀ a w,J 3 a w→r3.wp P (Exit.jumps (fun l' a' w'=>J l' a' w'∧μ l'<μ 3) Q) a w)
  (p4:∀ a w,J 4 a w→r4.wp P (Exit.jumps (fun l' a' w'=>J l' a' w'∧μ l'<μ 4) Q) a w) (p5:∀ a w,J 5 a w→r5.wp P (Exit.jumps (fun l' a' w'=>J l' a' w'∧μ l'<μ 5) Q) a w)
  (p6:∀ a w,J 6 a w→r6.wp P (Exit.jumps (fun l' a' w'=>J l' a' w'∧μ l'<μ 6) Q) a w):(Code.scope c).wp P Q a w:=by
 have hcs:∀ l,l≤6→l=0∨l=1∨l=2∨l=3∨l=4∨l=5∨l=6:=fun l h=>by omega
 refine JG J μ (fun l=>match l with
  |0=>r0
  |1=>r1
  |2=>r2
  |3=>r3
  |4=>r4
  |5=>r5
  |_=>r6) ?_ first ?_
 ·intro l a w h
  rcases hcs l (hJ l a w h) with rfl |rfl |rfl |rfl |rfl |rfl |rfl
  ·exact h0
  ·exact h1
  ·exact h2
  ·exact h3
  ·exact h4
  ·exact h5
  ·exact h6
 ·intro l a w h
  rcases hcs l (hJ l a w h) with rfl |rfl |rfl |rfl |rfl |rfl |rfl
  ·exact p0 a w h
  ·exact p1 a w h
  ·exact p2 a w h
  ·exact p3 a w h
  ·exact p4 a w h
  ·exact p5 a w h
  ·exact p6 a w h
namespace Pro
section
variable (s:ByteArray)
def oneM (nx:Nat)(ch:Int):Option (Nat×Int):=if xX s nx 128 191=true then some (nx+1,ch*64+zd s nx-128) else none
def twoM (nx:Nat)(ch:Int):Option (Nat×Int):=if xX s nx 128 191=true then oneM s (nx+1) (ch*64+zd s nx-128) else none
def vL (lo hi:Int)(nx:Nat)(ch:Int):Option (Nat×Int):=if xX s nx lo hi=true then oneM s (nx+1) (ch*64+zd s nx-128) else none
def jy (lo hi:Int)(nx:Nat)(ch:Int):Option (Nat×Int):=if xX s nx lo hi=true then twoM s (nx+1) (ch*64+zd s nx-128) else none
def atLab (l:Nat)(nx:Nat)(ch:Int):Option (Nat×Int):=match l with
 |0=>oneM s nx ch
 |1=>vL s 160 191 nx ch
 |2=>vL s 128 159 nx ch
 |3=>twoM s nx ch
 |4=>jy s 144 191 nx ch
 |5=>jy s 128 191 nx ch
 |_=>jy s 128 143 nx ch
def xd (b:Int):Nat:=if b<128 then 7 else if b<194 then 8 else if b<224 then 0 else if b=224 then 1 else if b=237 then 2 else if b<240 then 3 else if b=240 then 4 else if b<244 then 5 else if b=244 then 6 else 8
def yM (p:Nat):Option (Nat×Int):=
 if p<s.size then (if xd (zd s p)=7 then some (p+1,zd s p) else if xd (zd s p)=8 then none else atLab s (xd (zd s p)) (p+1) (y9 (zd s p))) else none
end
end Pro
def LabAt (b:Nat)(s:ByteArray)(p:Nat)(w:World)(l:Nat)(a':Act)(w':World):Prop:=l≤6∧(∃ (nx:Nat) (ch:Int),xB w' b s nx p ch∧0≤ch∧ch<(if l=0 then 33554432 else if l≤3 then 524288 else 8192)∧nx≤s.size∧Pro.yM s p=Pro.atLab s l nx ch)∧zf (zm b) w w'∧
 ∃ u1 u2 u3 u4 u5 u6 u7 u8 u9 u10 u11 u12 u13 u14 u15 u16 u17 u18 u19 u20 u21 u22 u23 u24 u25 u26 u27 u28 u29 u30 u31 u32 u33 u34 u35 u36 u37 u38 u39 u40 u41 u42 u43 u44 u45 u46 u47 u48 u49 u50 u51 u52 u53 u54 u55 u56 u57 u58 u59 u60 u61 u62 u63:Value,a' = { tmps:=#[.pointer (some ⟨b,0,none⟩),u1,u2,u3,u4,u5,u6,u7,u8,u9,u10,u11,u12,u13,u14,u15,u16,u17,u18,u19,u20,u21,u22,u23,u24,u25,u26,u27,u28,u29,u30,u31,u32,u33,u34,u35,u36,u37,u38,u39,u40,u41,u42,u43,u44,u45,u46,u47,u48,u49,u50,u51,u52,u53,u54,u55,u56,u57,u58,u59,u60,u61,u62,u63],defers:=[] }
theorem xS {J:Nat→Act→World→Prop}{Q:Exit→Act→World→Prop}{a:Act}{w:World}:Exit.jumps J Q .ret a w=Q .ret a w:=rfl
theorem Yv {t:Bool}{x y z:Ending}{A B:Prop}(h:(t=true∧x=y∧A)∨(t=false∧x=z∧B))(ht:t=true):x=y∧A:=by
 rcases h with ⟨_,h⟩ |⟨h,_⟩
 ·exact h
 ·rw [ht] at h;cases h
theorem Yw {t:Bool}{x y z:Ending}{A B:Prop}(h:(t=true∧x=y∧A)∨(t=false∧x=z∧B))(ht:t=false):x=z:=by
 rcases h with ⟨h,_⟩ |⟨_,h,_⟩
 ·rw [ht] at h;cases h
 ·exact h
namespace Pro
theorem XV {s:ByteArray}{p:Nat}(h:p<s.size)(hl:zd s p<128):yM s p=some (p+1,y9 (zd s p)):=by
 have e:xd (zd s p)=7:=by unfold xd;rw [if_pos hl]
 have e2:y9 (zd s p)=zd s p:=by unfold y9;rw [if_pos hl]
 unfold yM;rw [if_pos h,if_pos e,e2]
theorem j8 {s:ByteArray}{p:Nat}(hl:xd (zd s p)=8):yM s p=none:=by
 unfold yM;rw [hl];simp
theorem xj {s:ByteArray}{p l:Nat}(h:p<s.size)(hl:xd (zd s p)=l)(h7:l≤6):yM s p=atLab s l (p+1) (y9 (zd s p)):=by
 subst hl
 unfold yM;rw [if_pos h,if_neg (by omega),if_neg (by omega)]
theorem vg {s:ByteArray}{nx:Nat}{lo hi:Int}(h:xX s nx lo hi=true):nx<s.size:=by unfold xX at h;simp at h;exact h.1.1
theorem vh {s:ByteArray}{nx:Nat}{lo hi:Int}(h:xX s nx lo hi=true):lo≤zd s nx∧zd s nx≤hi:=by unfold xX at h;simp at h;exact ⟨h.1.2,h.2⟩
theorem j9 {b:Int}(h0:128≤b)(h1:b<256):0≤y9 b∧y9 b<32:=by unfold y9;(repeat' split)<;>omega
end Pro
def labM (l:Nat):Nat:=if l=0 then 0 else if l≤3 then 1 else 2
theorem VT (b:Nat)(s:ByteArray)(nx p:Nat)(ch:Int)(w:World)(h:xB w b s nx p ch)(hs:s.size≤400)(hn:nx≤s.size) :
  Calls Tryz.prog 137 #[.pointer (some ⟨b,0,none⟩)] w fun x w'=>zf (zm b) w w'∧((∃ n c,Pro.yM s nx=some (n,c)∧x = .returned (.bool true)∧xB w' b s n nx c)∨(Pro.yM s nx=none∧x = .returned (.bool false))):=by
 have H:=ze h
 have c0:=h.c0
 have c1:=h.c1
 have c2:=h.c2
 have f2:=h.f2
 clear h
 go_enter Tryz.func137,Tryz.ntmps137
 go_wp2_with fail
 refine QP (LabAt b s nx w) labM rfl rfl rfl rfl rfl rfl rfl (fun l a w h=>h.1) ?_ ?_ ?_ ?_ ?_ ?_ ?_ ?_
 case refine_1=>
  by_cases hlt:nx<s.size
  ·have he:((nx:Int) == (s.size:Int))=false:=by simp;omega
   have hb0:=(zx s nx).2 hlt
   have hb1:=yw s nx
   have hcs:(zd s nx<128)∨(128≤zd s nx∧zd s nx<194)∨(194≤zd s nx∧zd s nx<224)∨(zd s nx=224)∨(zd s nx=237)∨(225≤zd s nx∧zd s nx<240∧zd s nx≠237)∨(zd s nx=240)∨(241≤zd s nx∧zd s nx<244)∨(zd s nx=244)∨(245≤zd s nx):=by omega
   rcases hcs with hc |hc |hc |hc |hc |hc |hc |hc |hc |hc
   ·have t0:zd s nx<128:=by omega
    clear hc
    go_wp2_with fail
    go_quiet (fail)
    go_wp2_with (go_at_call 172;refine (jq b s nx nx ch _ (by first |exact ((zb H).set2 nx _ rfl).drewN _ |exact (zb H).set2 nx _ rfl) hs hlt).mono ?_;rintro e w1 ⟨rfl,hm1,hO1⟩;have HM1:=ze hm1;have HO1:Hid (zf (zm b) w w1):=by first |exact (((zf.refl (zm b) w).mine 2 _).drewN _).trans hO1 |exact (((zf.refl (zm b) w).drewN _).mine 2 _).trans hO1 |exact ((zf.refl (zm b) w).mine 2 _).trans hO1;clear hm1 hO1)
    rw [xS]
    go_ret
    exact ⟨zb HO1,.inl ⟨nx+1,Pro.y9 (zd s nx),Pro.XV hlt (by omega),rfl,zb HM1⟩⟩
   ·have t0:128≤zd s nx:=by omega
    have t1:zd s nx<194:=by omega
    have hl:Hid (Pro.xd (zd s nx)=8):=ze (by unfold Pro.xd;(repeat' split)<;>omega)
    clear hc
    go_wp2_with fail
    go_quiet (fail)
    go_wp2_with (go_at_call 172;refine (jq b s nx nx ch _ (by first |exact ((zb H).set2 nx _ rfl).drewN _ |exact (zb H).set2 nx _ rfl) hs hlt).mono ?_;rintro e w1 ⟨rfl,hm1,hO1⟩;have HM1:=ze hm1;have HO1:Hid (zf (zm b) w w1):=by first |exact (((zf.refl (zm b) w).mine 2 _).drewN _).trans hO1 |exact (((zf.refl (zm b) w).drewN _).mine 2 _).trans hO1 |exact ((zf.refl (zm b) w).mine 2 _).trans hO1;clear hm1 hO1)
    rw [xS]
    go_ret
    exact ⟨zb HO1,.inr ⟨Pro.j8 (zb hl),rfl⟩⟩
   ·have t0:128≤zd s nx:=by omega
    have t1:194≤zd s nx:=by omega
    have t2:zd s nx<224:=by omega
    have hl:Hid (Pro.xd (zd s nx)=0):=ze (by unfold Pro.xd;(repeat' split)<;>omega)
    clear hc
    go_wp2_with fail
    go_quiet (fail)
    go_wp2_with (go_at_call 172;refine (jq b s nx nx ch _ (by first |exact ((zb H).set2 nx _ rfl).drewN _ |exact (zb H).set2 nx _ rfl) hs hlt).mono ?_;rintro e w1 ⟨rfl,hm1,hO1⟩;have HM1:=ze hm1;have HO1:Hid (zf (zm b) w w1):=by first |exact (((zf.refl (zm b) w).mine 2 _).drewN _).trans hO1 |exact (((zf.refl (zm b) w).drewN _).mine 2 _).trans hO1 |exact ((zf.refl (zm b) w).mine 2 _).trans hO1;clear hm1 hO1)
    go_step3
    have hle:=Pro.j9 (b:=zd s nx) (by omega) (by omega)
    exact ⟨by decide,⟨nx+1,Pro.y9 (zd s nx),zb HM1,hle.1,(show Pro.y9 (zd s nx)<33554432 by omega),by omega,Pro.xj hlt (zb hl) (by decide)⟩,zb HO1,_,_,_,_,_,_,_,_,_,_,_,_,_,_,_,_,_,_,_,_,_,_,_,_,_,_,_,_,_,_,_,_,_,_,_,_,_,_,_,_,_,_,_,_,_,_,_,_,_,_,_,_,_,_,_,_,_,_,_,_,_,_,_,rfl⟩
   ·have t0:128≤zd s nx:=by omega
    have t1:194≤zd s nx:=by omega
    have t2:224≤zd s nx:=by omega
    have t3:(zd s nx == 224)=true:=by simp;omega
    have hl:Hid (Pro.xd (zd s nx)=1):=ze (by unfold Pro.xd;(repeat' split)<;>omega)
    clear hc
    go_wp2_with fail
    go_quiet (fail)
    go_wp2_with (go_at_call 172;refine (jq b s nx nx ch _ (by first |exact ((zb H).set2 nx _ rfl).drewN _ |exact (zb H).set2 nx _ rfl) hs hlt).mono ?_;rintro e w1 ⟨rfl,hm1,hO1⟩;have HM1:=ze hm1;have HO1:Hid (zf (zm b) w w1):=by first |exact (((zf.refl (zm b) w).mine 2 _).drewN _).trans hO1 |exact (((zf.refl (zm b) w).drewN _).mine 2 _).trans hO1 |exact ((zf.refl (zm b) w).mine 2 _).trans hO1;clear hm1 hO1)
    go_step3
    have hle:=Pro.j9 (b:=zd s nx) (by omega) (by omega)
    exact ⟨by decide,⟨nx+1,Pro.y9 (zd s nx),zb HM1,hle.1,(show Pro.y9 (zd s nx)<524288 by omega),by omega,Pro.xj hlt (zb hl) (by decide)⟩,zb HO1,_,_,_,_,_,_,_,_,_,_,_,_,_,_,_,_,_,_,_,_,_,_,_,_,_,_,_,_,_,_,_,_,_,_,_,_,_,_,_,_,_,_,_,_,_,_,_,_,_,_,_,_,_,_,_,_,_,_,_,_,_,_,_,rfl⟩
   ·have t0:128≤zd s nx:=by omega
    have t1:194≤zd s nx:=by omega
    have t2:224≤zd s nx:=by omega
    have t3:(zd s nx == 224)=false:=by simp;omega
    have t4:(zd s nx == 237)=true:=by simp;omega
    have hl:Hid (Pro.xd (zd s nx)=2):=ze (by unfold Pro.xd;(repeat' split)<;>omega)
    clear hc
    go_wp2_with fail
    go_quiet (fail)
    go_wp2_with (go_at_call 172;refine (jq b s nx nx ch _ (by first |exact ((zb H).set2 nx _ rfl).drewN _ |exact (zb H).set2 nx _ rfl) hs hlt).mono ?_;rintro e w1 ⟨rfl,hm1,hO1⟩;have HM1:=ze hm1;have HO1:Hid (zf (zm b) w w1):=by first |exact (((zf.refl (zm b) w).mine 2 _).drewN _).trans hO1 |exact (((zf.refl (zm b) w).drewN _).mine 2 _).trans hO1 |exact ((zf.refl (zm b) w).mine 2 _).trans hO1;clear hm1 hO1)
    go_step3
    have hle:=Pro.j9 (b:=zd s nx) (by omega) (by omega)
    exact ⟨by decide,⟨nx+1,Pro.y9 (zd s nx),zb HM1,hle.1,(show Pro.y9 (zd s nx)<524288 by omega),by omega,Pro.xj hlt (zb hl) (by decide)⟩,zb HO1,_,_,_,_,_,_,_,_,_,_,_,_,_,_,_,_,_,_,_,_,_,_,_,_,_,_,_,_,_,_,_,_,_,_,_,_,_,_,_,_,_,_,_,_,_,_,_,_,_,_,_,_,_,_,_,_,_,_,_,_,_,_,_,rfl⟩
   ·have t0:128≤zd s nx:=by omega
    have t1:194≤zd s nx:=by omega
    have t2:224≤zd s nx:=by omega
    have t3:(zd s nx == 224)=false:=by simp;omega
    have t4:(zd s nx == 237)=false:=by simp;omega
    have t5:zd s nx<240:=by omega
    have hl:Hid (Pro.xd (zd s nx)=3):=ze (by unfold Pro.xd;(repeat' split)<;>omega)
    clear hc
    go_wp2_with fail
    go_quiet (fail)
    go_wp2_with (go_at_call 172;refine (jq b s nx nx ch _ (by first |exact ((zb H).set2 nx _ rfl).drewN _ |exact (zb H).set2 nx _ rfl) hs hlt).mono ?_;rintro e w1 ⟨rfl,hm1,hO1⟩;have HM1:=ze hm1;have HO1:Hid (zf (zm b) w w1):=by first |exact (((zf.refl (zm b) w).mine 2 _).drewN _).trans hO1 |exact (((zf.refl (zm b) w).drewN _).mine 2 _).trans hO1 |exact ((zf.refl (zm b) w).mine 2 _).trans hO1;clear hm1 hO1)
    go_step3
    have hle:=Pro.j9 (b:=zd s nx) (by omega) (by omega)
    exact ⟨by decide,⟨nx+1,Pro.y9 (zd s nx),zb HM1,hle.1,(show Pro.y9 (zd s nx)<524288 by omega),by omega,Pro.xj hlt (zb hl) (by decide)⟩,zb HO1,_,_,_,_,_,_,_,_,_,_,_,_,_,_,_,_,_,_,_,_,_,_,_,_,_,_,_,_,_,_,_,_,_,_,_,_,_,_,_,_,_,_,_,_,_,_,_,_,_,_,_,_,_,_,_,_,_,_,_,_,_,_,_,rfl⟩
   ·have t0:128≤zd s nx:=by omega
    have t1:194≤zd s nx:=by omega
    have t2:224≤zd s nx:=by omega
    have t3:(zd s nx == 224)=false:=by simp;omega
    have t4:(zd s nx == 237)=false:=by simp;omega
    have t5:240≤zd s nx:=by omega
    have t6:(zd s nx == 240)=true:=by simp;omega
    have hl:Hid (Pro.xd (zd s nx)=4):=ze (by unfold Pro.xd;(repeat' split)<;>omega)
    clear hc
    go_wp2_with fail
    go_quiet (fail)
    go_wp2_with (go_at_call 172;refine (jq b s nx nx ch _ (by first |exact ((zb H).set2 nx _ rfl).drewN _ |exact (zb H).set2 nx _ rfl) hs hlt).mono ?_;rintro e w1 ⟨rfl,hm1,hO1⟩;have HM1:=ze hm1;have HO1:Hid (zf (zm b) w w1):=by first |exact (((zf.refl (zm b) w).mine 2 _).drewN _).trans hO1 |exact (((zf.refl (zm b) w).drewN _).mine 2 _).trans hO1 |exact ((zf.refl (zm b) w).mine 2 _).trans hO1;clear hm1 hO1)
    go_step3
    have hle:=Pro.j9 (b:=zd s nx) (by omega) (by omega)
    exact ⟨by decide,⟨nx+1,Pro.y9 (zd s nx),zb HM1,hle.1,(show Pro.y9 (zd s nx)<8192 by omega),by omega,Pro.xj hlt (zb hl) (by decide)⟩,zb HO1,_,_,_,_,_,_,_,_,_,_,_,_,_,_,_,_,_,_,_,_,_,_,_,_,_,_,_,_,_,_,_,_,_,_,_,_,_,_,_,_,_,_,_,_,_,_,_,_,_,_,_,_,_,_,_,_,_,_,_,_,_,_,_,rfl⟩
   ·have t0:128≤zd s nx:=by omega
    have t1:194≤zd s nx:=by omega
    have t2:224≤zd s nx:=by omega
    have t3:(zd s nx == 224)=false:=by simp;omega
    have t4:(zd s nx == 237)=false:=by simp;omega
    have t5:240≤zd s nx:=by omega
    have t6:(zd s nx == 240)=false:=by simp;omega
    have t7:zd s nx<244:=by omega
    have hl:Hid (Pro.xd (zd s nx)=5):=ze (by unfold Pro.xd;(repeat' split)<;>omega)
    clear hc
    go_wp2_with fail
    go_quiet (fail)
    go_wp2_with (go_at_call 172;refine (jq b s nx nx ch _ (by first |exact ((zb H).set2 nx _ rfl).drewN _ |exact (zb H).set2 nx _ rfl) hs hlt).mono ?_;rintro e w1 ⟨rfl,hm1,hO1⟩;have HM1:=ze hm1;have HO1:Hid (zf (zm b) w w1):=by first |exact (((zf.refl (zm b) w).mine 2 _).drewN _).trans hO1 |exact (((zf.refl (zm b) w).drewN _).mine 2 _).trans hO1 |exact ((zf.refl (zm b) w).mine 2 _).trans hO1;clear hm1 hO1)
    go_step3
    have hle:=Pro.j9 (b:=zd s nx) (by omega) (by omega)
    exact ⟨by decide,⟨nx+1,Pro.y9 (zd s nx),zb HM1,hle.1,(show Pro.y9 (zd s nx)<8192 by omega),by omega,Pro.xj hlt (zb hl) (by decide)⟩,zb HO1,_,_,_,_,_,_,_,_,_,_,_,_,_,_,_,_,_,_,_,_,_,_,_,_,_,_,_,_,_,_,_,_,_,_,_,_,_,_,_,_,_,_,_,_,_,_,_,_,_,_,_,_,_,_,_,_,_,_,_,_,_,_,_,rfl⟩
   ·have t0:128≤zd s nx:=by omega
    have t1:194≤zd s nx:=by omega
    have t2:224≤zd s nx:=by omega
    have t3:(zd s nx == 224)=false:=by simp;omega
    have t4:(zd s nx == 237)=false:=by simp;omega
    have t5:240≤zd s nx:=by omega
    have t6:(zd s nx == 240)=false:=by simp;omega
    have t7:244≤zd s nx:=by omega
    have t8:(zd s nx == 244)=true:=by simp;omega
    have hl:Hid (Pro.xd (zd s nx)=6):=ze (by unfold Pro.xd;(repeat' split)<;>omega)
    clear hc
    go_wp2_with fail
    go_quiet (fail)
    go_wp2_with (go_at_call 172;refine (jq b s nx nx ch _ (by first |exact ((zb H).set2 nx _ rfl).drewN _ |exact (zb H).set2 nx _ rfl) hs hlt).mono ?_;rintro e w1 ⟨rfl,hm1,hO1⟩;have HM1:=ze hm1;have HO1:Hid (zf (zm b) w w1):=by first |exact (((zf.refl (zm b) w).mine 2 _).drewN _).trans hO1 |exact (((zf.refl (zm b) w).drewN _).mine 2 _).trans hO1 |exact ((zf.refl (zm b) w).mine 2 _).trans hO1;clear hm1 hO1)
    go_step3
    have hle:=Pro.j9 (b:=zd s nx) (by omega) (by omega)
    exact ⟨by decide,⟨nx+1,Pro.y9 (zd s nx),zb HM1,hle.1,(show Pro.y9 (zd s nx)<8192 by omega),by omega,Pro.xj hlt (zb hl) (by decide)⟩,zb HO1,_,_,_,_,_,_,_,_,_,_,_,_,_,_,_,_,_,_,_,_,_,_,_,_,_,_,_,_,_,_,_,_,_,_,_,_,_,_,_,_,_,_,_,_,_,_,_,_,_,_,_,_,_,_,_,_,_,_,_,_,_,_,_,rfl⟩
   ·have t0:128≤zd s nx:=by omega
    have t1:194≤zd s nx:=by omega
    have t2:224≤zd s nx:=by omega
    have t3:(zd s nx == 224)=false:=by simp;omega
    have t4:(zd s nx == 237)=false:=by simp;omega
    have t5:240≤zd s nx:=by omega
    have t6:(zd s nx == 240)=false:=by simp;omega
    have t7:244≤zd s nx:=by omega
    have t8:(zd s nx == 244)=false:=by simp;omega
    have hl:Hid (Pro.xd (zd s nx)=8):=ze (by unfold Pro.xd;(repeat' split)<;>omega)
    clear hc
    go_wp2_with fail
    go_quiet (fail)
    go_wp2_with (go_at_call 172;refine (jq b s nx nx ch _ (by first |exact ((zb H).set2 nx _ rfl).drewN _ |exact (zb H).set2 nx _ rfl) hs hlt).mono ?_;rintro e w1 ⟨rfl,hm1,hO1⟩;have HM1:=ze hm1;have HO1:Hid (zf (zm b) w w1):=by first |exact (((zf.refl (zm b) w).mine 2 _).drewN _).trans hO1 |exact (((zf.refl (zm b) w).drewN _).mine 2 _).trans hO1 |exact ((zf.refl (zm b) w).mine 2 _).trans hO1;clear hm1 hO1)
    rw [xS]
    go_ret
    exact ⟨zb HO1,.inr ⟨Pro.j8 (zb hl),rfl⟩⟩
  ·have he:((nx:Int) == (s.size:Int))=true:=by simp;omega
   have HR:Hid (Pro.yM s nx=none):=by unfold Pro.yM;rw [if_neg hlt];rfl
   go_wp2_with fail
   go_quiet (fail)
   go_wp2_with fail
   rw [xS]
   go_ret
   exact ⟨((zf.refl _ _).mine _ _).drewN _,.inr ⟨zb HR,rfl⟩⟩
 case refine_2=>
  rintro a' w' ⟨_,⟨n1,ch1,hm,hc0,hc1,hn1,hR⟩,hO,u1,u2,u3,u4,u5,u6,u7,u8,u9,u10,u11,u12,u13,u14,u15,u16,u17,u18,u19,u20,u21,u22,u23,u24,u25,u26,u27,u28,u29,u30,u31,u32,u33,u34,u35,u36,u37,u38,u39,u40,u41,u42,u43,u44,u45,u46,u47,u48,u49,u50,u51,u52,u53,u54,u55,u56,u57,u58,u59,u60,u61,u62,u63,rfl⟩
  have hc1:ch1<33554432:=hc1
  have HM:=ze hm
  have HO:=ze hO
  have HRR:=ze hR
  clear hm hO hR c0 c1 c2 f2
  have hby:=yw s n1
  cases hT:Pro.xX s n1 128 191
  ·have HN:Hid (Pro.yM s nx=none):=by rw [zb HRR];show Pro.oneM s n1 ch1=none;unfold Pro.oneM;rw [if_neg (by simp [hT])]
   go_wp2_with (go_at_call 173;refine (xY b s n1 nx ch1 128 191 _ (zb HM) hs hn1 hc0 (by omega) (by decide) (by decide)).mono ?_;rintro e w1 ⟨hO1,hT1⟩;obtain rfl:=Yw hT1 hT;have HO1:=ze ((zb HO).trans hO1);clear hT1 hO1)
   rw [xS]
   go_ret
   exact ⟨zb HO1,.inr ⟨zb HN,rfl⟩⟩
  ·have hlt1:n1<s.size:=Pro.vg hT
   have HN:Hid (Pro.yM s nx=some (n1+1,ch1*64+zd s n1-128)):=by rw [zb HRR];show Pro.oneM s n1 ch1=_;unfold Pro.oneM;rw [if_pos hT]
   go_wp2_with (go_at_call 173;refine (xY b s n1 nx ch1 128 191 _ (zb HM) hs hn1 hc0 (by omega) (by decide) (by decide)).mono ?_;rintro e w1 ⟨hO1,hT1⟩;obtain ⟨rfl,hm1⟩:=Yv hT1 hT;have HM1:=ze hm1;have HO1:=ze ((zb HO).trans hO1);clear hT1 hO1 hm1)
   rw [xS]
   go_ret
   exact ⟨zb HO1,.inl ⟨_,_,zb HN,rfl,zb HM1⟩⟩
 case refine_3=>
  rintro a' w' ⟨_,⟨n1,ch1,hm,hc0,hc1,hn1,hR⟩,hO,u1,u2,u3,u4,u5,u6,u7,u8,u9,u10,u11,u12,u13,u14,u15,u16,u17,u18,u19,u20,u21,u22,u23,u24,u25,u26,u27,u28,u29,u30,u31,u32,u33,u34,u35,u36,u37,u38,u39,u40,u41,u42,u43,u44,u45,u46,u47,u48,u49,u50,u51,u52,u53,u54,u55,u56,u57,u58,u59,u60,u61,u62,u63,rfl⟩
  have hc1:ch1<524288:=hc1
  have HM:=ze hm
  have HO:=ze hO
  have HRR:=ze hR
  clear hm hO hR c0 c1 c2 f2
  have hby:=yw s n1
  cases hT:Pro.xX s n1 160 191
  ·have HN:Hid (Pro.yM s nx=none):=by rw [zb HRR];show Pro.vL s 160 191 n1 ch1=none;unfold Pro.vL;rw [if_neg (by simp [hT])]
   go_wp2_with (go_at_call 173;refine (xY b s n1 nx ch1 160 191 _ (zb HM) hs hn1 hc0 (by omega) (by decide) (by decide)).mono ?_;rintro e w1 ⟨hO1,hT1⟩;obtain rfl:=Yw hT1 hT;have HO1:=ze ((zb HO).trans hO1);clear hT1 hO1)
   rw [xS]
   go_ret
   exact ⟨zb HO1,.inr ⟨zb HN,rfl⟩⟩
  ·have hlt1:n1<s.size:=Pro.vg hT
   have hge:=Pro.vh hT
   have HN:Hid (Pro.yM s nx=Pro.oneM s (n1+1) (ch1*64+zd s n1-128)):=by rw [zb HRR];show Pro.vL s 160 191 n1 ch1=_;unfold Pro.vL;rw [if_pos hT]
   go_wp2_with (go_at_call 173;refine (xY b s n1 nx ch1 160 191 _ (zb HM) hs hn1 hc0 (by omega) (by decide) (by decide)).mono ?_;rintro e w1 ⟨hO1,hT1⟩;obtain ⟨rfl,hm1⟩:=Yv hT1 hT;have HM1:=ze hm1;have HO1:=ze ((zb HO).trans hO1);clear hT1 hO1 hm1)
   go_step3
   exact ⟨⟨by decide,⟨n1+1,ch1*64+zd s n1-128,zb HM1,by omega,(show ch1*64+zd s n1-128<33554432 by omega),by omega,zb HN⟩,zb HO1,_,_,_,_,_,_,_,_,_,_,_,_,_,_,_,_,_,_,_,_,_,_,_,_,_,_,_,_,_,_,_,_,_,_,_,_,_,_,_,_,_,_,_,_,_,_,_,_,_,_,_,_,_,_,_,_,_,_,_,_,_,_,_,rfl⟩,by decide⟩
 case refine_4=>
  rintro a' w' ⟨_,⟨n1,ch1,hm,hc0,hc1,hn1,hR⟩,hO,u1,u2,u3,u4,u5,u6,u7,u8,u9,u10,u11,u12,u13,u14,u15,u16,u17,u18,u19,u20,u21,u22,u23,u24,u25,u26,u27,u28,u29,u30,u31,u32,u33,u34,u35,u36,u37,u38,u39,u40,u41,u42,u43,u44,u45,u46,u47,u48,u49,u50,u51,u52,u53,u54,u55,u56,u57,u58,u59,u60,u61,u62,u63,rfl⟩
  have hc1:ch1<524288:=hc1
  have HM:=ze hm
  have HO:=ze hO
  have HRR:=ze hR
  clear hm hO hR c0 c1 c2 f2
  have hby:=yw s n1
  cases hT:Pro.xX s n1 128 159
  ·have HN:Hid (Pro.yM s nx=none):=by rw [zb HRR];show Pro.vL s 128 159 n1 ch1=none;unfold Pro.vL;rw [if_neg (by simp [hT])]
   go_wp2_with (go_at_call 173;refine (xY b s n1 nx ch1 128 159 _ (zb HM) hs hn1 hc0 (by omega) (by decide) (by decide)).mono ?_;rintro e w1 ⟨hO1,hT1⟩;obtain rfl:=Yw hT1 hT;have HO1:=ze ((zb HO).trans hO1);clear hT1 hO1)
   rw [xS]
   go_ret
   exact ⟨zb HO1,.inr ⟨zb HN,rfl⟩⟩
  ·have hlt1:n1<s.size:=Pro.vg hT
   have hge:=Pro.vh hT
   have HN:Hid (Pro.yM s nx=Pro.oneM s (n1+1) (ch1*64+zd s n1-128)):=by rw [zb HRR];show Pro.vL s 128 159 n1 ch1=_;unfold Pro.vL;rw [if_pos hT]
   go_wp2_with (go_at_call 173;refine (xY b s n1 nx ch1 128 159 _ (zb HM) hs hn1 hc0 (by omega) (by decide) (by decide)).mono ?_;rintro e w1 ⟨hO1,hT1⟩;obtain ⟨rfl,hm1⟩:=Yv hT1 hT;have HM1:=ze hm1;have HO1:=ze ((zb HO).trans hO1);clear hT1 hO1 hm1)
   go_step3
   exact ⟨⟨by decide,⟨n1+1,ch1*64+zd s n1-128,zb HM1,by omega,(show ch1*64+zd s n1-128<33554432 by omega),by omega,zb HN⟩,zb HO1,_,_,_,_,_,_,_,_,_,_,_,_,_,_,_,_,_,_,_,_,_,_,_,_,_,_,_,_,_,_,_,_,_,_,_,_,_,_,_,_,_,_,_,_,_,_,_,_,_,_,_,_,_,_,_,_,_,_,_,_,_,_,_,rfl⟩,by decide⟩
 case refine_5=>
  rintro a' w' ⟨_,⟨n1,ch1,hm,hc0,hc1,hn1,hR⟩,hO,u1,u2,u3,u4,u5,u6,u7,u8,u9,u10,u11,u12,u13,u14,u15,u16,u17,u18,u19,u20,u21,u22,u23,u24,u25,u26,u27,u28,u29,u30,u31,u32,u33,u34,u35,u36,u37,u38,u39,u40,u41,u42,u43,u44,u45,u46,u47,u48,u49,u50,u51,u52,u53,u54,u55,u56,u57,u58,u59,u60,u61,u62,u63,rfl⟩
  have hc1:ch1<524288:=hc1
  have HM:=ze hm
  have HO:=ze hO
  have HRR:=ze hR
  clear hm hO hR c0 c1 c2 f2
  have hby:=yw s n1
  cases hT:Pro.xX s n1 128 191
  ·have HN:Hid (Pro.yM s nx=none):=by rw [zb HRR];show Pro.twoM s n1 ch1=none;unfold Pro.twoM;rw [if_neg (by simp [hT])]
   go_wp2_with (go_at_call 173;refine (xY b s n1 nx ch1 128 191 _ (zb HM) hs hn1 hc0 (by omega) (by decide) (by decide)).mono ?_;rintro e w1 ⟨hO1,hT1⟩;obtain rfl:=Yw hT1 hT;have HO1:=ze ((zb HO).trans hO1);clear hT1 hO1)
   rw [xS]
   go_ret
   exact ⟨zb HO1,.inr ⟨zb HN,rfl⟩⟩
  ·have hlt1:n1<s.size:=Pro.vg hT
   have hge:=Pro.vh hT
   have HN:Hid (Pro.yM s nx=Pro.oneM s (n1+1) (ch1*64+zd s n1-128)):=by rw [zb HRR];show Pro.twoM s n1 ch1=_;unfold Pro.twoM;rw [if_pos hT]
   go_wp2_with (go_at_call 173;refine (xY b s n1 nx ch1 128 191 _ (zb HM) hs hn1 hc0 (by omega) (by decide) (by decide)).mono ?_;rintro e w1 ⟨hO1,hT1⟩;obtain ⟨rfl,hm1⟩:=Yv hT1 hT;have HM1:=ze hm1;have HO1:=ze ((zb HO).trans hO1);clear hT1 hO1 hm1)
   go_step3
   exact ⟨⟨by decide,⟨n1+1,ch1*64+zd s n1-128,zb HM1,by omega,(show ch1*64+zd s n1-128<33554432 by omega),by omega,zb HN⟩,zb HO1,_,_,_,_,_,_,_,_,_,_,_,_,_,_,_,_,_,_,_,_,_,_,_,_,_,_,_,_,_,_,_,_,_,_,_,_,_,_,_,_,_,_,_,_,_,_,_,_,_,_,_,_,_,_,_,_,_,_,_,_,_,_,_,rfl⟩,by decide⟩
 case refine_6=>
  rintro a' w' ⟨_,⟨n1,ch1,hm,hc0,hc1,hn1,hR⟩,hO,u1,u2,u3,u4,u5,u6,u7,u8,u9,u10,u11,u12,u13,u14,u15,u16,u17,u18,u19,u20,u21,u22,u23,u24,u25,u26,u27,u28,u29,u30,u31,u32,u33,u34,u35,u36,u37,u38,u39,u40,u41,u42,u43,u44,u45,u46,u47,u48,u49,u50,u51,u52,u53,u54,u55,u56,u57,u58,u59,u60,u61,u62,u63,rfl⟩
  have hc1:ch1<8192:=hc1
  have HM:=ze hm
  have HO:=ze hO
  have HRR:=ze hR
  clear hm hO hR c0 c1 c2 f2
  have hby:=yw s n1
  cases hT:Pro.xX s n1 144 191
  ·have HN:Hid (Pro.yM s nx=none):=by rw [zb HRR];show Pro.jy s 144 191 n1 ch1=none;unfold Pro.jy;rw [if_neg (by simp [hT])]
   go_wp2_with (go_at_call 173;refine (xY b s n1 nx ch1 144 191 _ (zb HM) hs hn1 hc0 (by omega) (by decide) (by decide)).mono ?_;rintro e w1 ⟨hO1,hT1⟩;obtain rfl:=Yw hT1 hT;have HO1:=ze ((zb HO).trans hO1);clear hT1 hO1)
   rw [xS]
   go_ret
   exact ⟨zb HO1,.inr ⟨zb HN,rfl⟩⟩
  ·have hlt1:n1<s.size:=Pro.vg hT
   have hge:=Pro.vh hT
   have HN:Hid (Pro.yM s nx=Pro.twoM s (n1+1) (ch1*64+zd s n1-128)):=by rw [zb HRR];show Pro.jy s 144 191 n1 ch1=_;unfold Pro.jy;rw [if_pos hT]
   go_wp2_with (go_at_call 173;refine (xY b s n1 nx ch1 144 191 _ (zb HM) hs hn1 hc0 (by omega) (by decide) (by decide)).mono ?_;rintro e w1 ⟨hO1,hT1⟩;obtain ⟨rfl,hm1⟩:=Yv hT1 hT;have HM1:=ze hm1;have HO1:=ze ((zb HO).trans hO1);clear hT1 hO1 hm1)
   go_step3
   exact ⟨⟨by decide,⟨n1+1,ch1*64+zd s n1-128,zb HM1,by omega,(show ch1*64+zd s n1-128<524288 by omega),by omega,zb HN⟩,zb HO1,_,_,_,_,_,_,_,_,_,_,_,_,_,_,_,_,_,_,_,_,_,_,_,_,_,_,_,_,_,_,_,_,_,_,_,_,_,_,_,_,_,_,_,_,_,_,_,_,_,_,_,_,_,_,_,_,_,_,_,_,_,_,_,rfl⟩,by decide⟩
 case refine_7=>
  rintro a' w' ⟨_,⟨n1,ch1,hm,hc0,hc1,hn1,hR⟩,hO,u1,u2,u3,u4,u5,u6,u7,u8,u9,u10,u11,u12,u13,u14,u15,u16,u17,u18,u19,u20,u21,u22,u23,u24,u25,u26,u27,u28,u29,u30,u31,u32,u33,u34,u35,u36,u37,u38,u39,u40,u41,u42,u43,u44,u45,u46,u47,u48,u49,u50,u51,u52,u53,u54,u55,u56,u57,u58,u59,u60,u61,u62,u63,rfl⟩
  have hc1:ch1<8192:=hc1
  have HM:=ze hm
  have HO:=ze hO
  have HRR:=ze hR
  clear hm hO hR c0 c1 c2 f2
  have hby:=yw s n1
  cases hT:Pro.xX s n1 128 191
  ·have HN:Hid (Pro.yM s nx=none):=by rw [zb HRR];show Pro.jy s 128 191 n1 ch1=none;unfold Pro.jy;rw [if_neg (by simp [hT])]
   go_wp2_with (go_at_call 173;refine (xY b s n1 nx ch1 128 191 _ (zb HM) hs hn1 hc0 (by omega) (by decide) (by decide)).mono ?_;rintro e w1 ⟨hO1,hT1⟩;obtain rfl:=Yw hT1 hT;have HO1:=ze ((zb HO).trans hO1);clear hT1 hO1)
   rw [xS]
   go_ret
   exact ⟨zb HO1,.inr ⟨zb HN,rfl⟩⟩
  ·have hlt1:n1<s.size:=Pro.vg hT
   have hge:=Pro.vh hT
   have HN:Hid (Pro.yM s nx=Pro.twoM s (n1+1) (ch1*64+zd s n1-128)):=by rw [zb HRR];show Pro.jy s 128 191 n1 ch1=_;unfold Pro.jy;rw [if_pos hT]
   go_wp2_with (go_at_call 173;refine (xY b s n1 nx ch1 128 191 _ (zb HM) hs hn1 hc0 (by omega) (by decide) (by decide)).mono ?_;rintro e w1 ⟨hO1,hT1⟩;obtain ⟨rfl,hm1⟩:=Yv hT1 hT;have HM1:=ze hm1;have HO1:=ze ((zb HO).trans hO1);clear hT1 hO1 hm1)
   go_step3
   exact ⟨⟨by decide,⟨n1+1,ch1*64+zd s n1-128,zb HM1,by omega,(show ch1*64+zd s n1-128<524288 by omega),by omega,zb HN⟩,zb HO1,_,_,_,_,_,_,_,_,_,_,_,_,_,_,_,_,_,_,_,_,_,_,_,_,_,_,_,_,_,_,_,_,_,_,_,_,_,_,_,_,_,_,_,_,_,_,_,_,_,_,_,_,_,_,_,_,_,_,_,_,_,_,_,rfl⟩,by decide⟩
 case refine_8=>
  rintro a' w' ⟨_,⟨n1,ch1,hm,hc0,hc1,hn1,hR⟩,hO,u1,u2,u3,u4,u5,u6,u7,u8,u9,u10,u11,u12,u13,u14,u15,u16,u17,u18,u19,u20,u21,u22,u23,u24,u25,u26,u27,u28,u29,u30,u31,u32,u33,u34,u35,u36,u37,u38,u39,u40,u41,u42,u43,u44,u45,u46,u47,u48,u49,u50,u51,u52,u53,u54,u55,u56,u57,u58,u59,u60,u61,u62,u63,rfl⟩
  have hc1:ch1<8192:=hc1
  have HM:=ze hm
  have HO:=ze hO
  have HRR:=ze hR
  clear hm hO hR c0 c1 c2 f2
  have hby:=yw s n1
  cases hT:Pro.xX s n1 128 143
  ·have HN:Hid (Pro.yM s nx=none):=by rw [zb HRR];show Pro.jy s 128 143 n1 ch1=none;unfold Pro.jy;rw [if_neg (by simp [hT])]
   go_wp2_with (go_at_call 173;refine (xY b s n1 nx ch1 128 143 _ (zb HM) hs hn1 hc0 (by omega) (by decide) (by decide)).mono ?_;rintro e w1 ⟨hO1,hT1⟩;obtain rfl:=Yw hT1 hT;have HO1:=ze ((zb HO).trans hO1);clear hT1 hO1)
   rw [xS]
   go_ret
   exact ⟨zb HO1,.inr ⟨zb HN,rfl⟩⟩
  ·have hlt1:n1<s.size:=Pro.vg hT
   have hge:=Pro.vh hT
   have HN:Hid (Pro.yM s nx=Pro.twoM s (n1+1) (ch1*64+zd s n1-128)):=by rw [zb HRR];show Pro.jy s 128 143 n1 ch1=_;unfold Pro.jy;rw [if_pos hT]
   go_wp2_with (go_at_call 173;refine (xY b s n1 nx ch1 128 143 _ (zb HM) hs hn1 hc0 (by omega) (by decide) (by decide)).mono ?_;rintro e w1 ⟨hO1,hT1⟩;obtain ⟨rfl,hm1⟩:=Yv hT1 hT;have HM1:=ze hm1;have HO1:=ze ((zb HO).trans hO1);clear hT1 hO1 hm1)
   go_step3
   exact ⟨⟨by decide,⟨n1+1,ch1*64+zd s n1-128,zb HM1,by omega,(show ch1*64+zd s n1-128<524288 by omega),by omega,zb HN⟩,zb HO1,_,_,_,_,_,_,_,_,_,_,_,_,_,_,_,_,_,_,_,_,_,_,_,_,_,_,_,_,_,_,_,_,_,_,_,_,_,_,_,_,_,_,_,_,_,_,_,_,_,_,_,_,_,_,_,_,_,_,_,_,_,_,_,rfl⟩,by decide⟩
end
end Go.Proofs.YtnagphodmfejiaaGreatDoor
