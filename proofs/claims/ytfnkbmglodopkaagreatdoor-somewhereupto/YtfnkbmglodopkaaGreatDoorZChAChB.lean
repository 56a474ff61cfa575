/- The program's machine that reads characters: its first byte, and its further ones. -/
import Derived.Test.YtfnkbmglodopkaaGreatDoorZProAProI2
import Derived.Laws.BitsLemmas
import Derived.ScopeJumps
namespace Go.Proofs.YtfnkbmglodopkaaGreatDoor
section
open Go.RowKit
set_option maxHeartbeats 2000000
structure yE (w:World)(b:Nat)(s:ByteArray)(nx p:Nat)(ch:Int):Prop where
 c0:w.cell? ⟨b,0,none⟩=some (.string s)
 c1:w.cell? ⟨b,1,none⟩=some (.int .i64 nx)
 c2:w.cell? ⟨b,2,none⟩=some (.int .i64 p)
 c3:w.cell? ⟨b,3,none⟩=some (.int .i32 ch)
 f1:w.frozen? ⟨b,1,none⟩=false
 f2:w.frozen? ⟨b,2,none⟩=false
 f3:w.frozen? ⟨b,3,none⟩=false
section
variable {w w':World} {b:Nat} {s:ByteArray} {nx p:Nat} {ch:Int}
theorem yE.lt (h:yE w b s nx p ch):b<w.heap.size:=World.block_lt_of_cell? w ⟨b,0,none⟩ h.c0
theorem yE.keep {P:Nat→Prop}(h:yE w b s nx p ch)(k:zd P w w')(hn:¬P b):yE w' b s nx p ch:=
 ⟨(k.cell (p:=⟨b,0,none⟩) h.lt hn).trans h.c0,(k.cell (p:=⟨b,1,none⟩) h.lt hn).trans h.c1,(k.cell (p:=⟨b,2,none⟩) h.lt hn).trans h.c2,(k.cell (p:=⟨b,3,none⟩) h.lt hn).trans h.c3,
  (k.frozen (p:=⟨b,1,none⟩) h.lt hn).trans h.f1,(k.frozen (p:=⟨b,2,none⟩) h.lt hn).trans h.f2,(k.frozen (p:=⟨b,3,none⟩) h.lt hn).trans h.f3⟩
theorem yE.drewN (h:yE w b s nx p ch)(q:Nat):yE (w.drewN q) b s nx p ch:=h.keep ((zd.refl (fun _=>False) w).drewN q) (fun f=>f)
theorem yE.set1 (h:yE w b s nx p ch)(n:Nat)(j:Int)(hj:j=(n:Int)):yE (w.setCell ⟨b,1,none⟩ (.int .i64 j)) b s n p ch:=by
 subst hj
 exact ⟨(World.cell?_setCell_other _ _ _ _ (by simp)).trans h.c0,World.cell?_setCell_same _ _ _ h.c1,(World.cell?_setCell_other _ _ _ _ (by simp)).trans h.c2,(World.cell?_setCell_other _ _ _ _ (by simp)).trans h.c3,(zh _ _ _ _).trans h.f1,(zh _ _ _ _).trans h.f2,(zh _ _ _ _).trans h.f3⟩
theorem yE.set2 (h:yE w b s nx p ch)(n:Nat)(j:Int)(hj:j=(n:Int)):yE (w.setCell ⟨b,2,none⟩ (.int .i64 j)) b s nx n ch:=by
 subst hj
 exact ⟨(World.cell?_setCell_other _ _ _ _ (by simp)).trans h.c0,(World.cell?_setCell_other _ _ _ _ (by simp)).trans h.c1,World.cell?_setCell_same _ _ _ h.c2,(World.cell?_setCell_other _ _ _ _ (by simp)).trans h.c3,(zh _ _ _ _).trans h.f1,(zh _ _ _ _).trans h.f2,(zh _ _ _ _).trans h.f3⟩
theorem yE.set3 (h:yE w b s nx p ch)(j k:Int)(hj:k=j):yE (w.setCell ⟨b,3,none⟩ (.int .i32 k)) b s nx p j:=by
 subst hj
 exact ⟨(World.cell?_setCell_other _ _ _ _ (by simp)).trans h.c0,(World.cell?_setCell_other _ _ _ _ (by simp)).trans h.c1,(World.cell?_setCell_other _ _ _ _ (by simp)).trans h.c2,World.cell?_setCell_same _ _ _ h.c3,(zh _ _ _ _).trans h.f1,(zh _ _ _ _).trans h.f2,(zh _ _ _ _).trans h.f3⟩
end
namespace Pro
def yp (b:Int):Int:=if b<128 then b else if b<224 then b % 32 else if b<240 then b % 16 else b % 8
def yW (s:ByteArray)(nx:Nat)(lo hi:Int):Bool:=decide (nx<s.size) && decide (lo≤zc s nx) && decide (zc s nx≤hi)
theorem YQ {s:ByteArray}{nx:Nat}{lo hi:Int}(h:nx<s.size)(h1:¬zc s nx<lo)(h2:¬hi<zc s nx):yW s nx lo hi=true:=by
 unfold yW;simp;omega
theorem Z3 {s:ByteArray}{nx:Nat}{lo hi:Int}(h:¬(nx<s.size∧lo≤zc s nx∧zc s nx≤hi)):yW s nx lo hi=false:=by
 cases hb:yW s nx lo hi with
 |false=>rfl
 |true=>unfold yW at hb;simp at hb;exact absurd ⟨hb.1.1,hb.1.2,hb.2⟩ h
end Pro
theorem xJ (b:Nat)(s:ByteArray)(nx p:Nat)(ch:Int)(w:World)(h:yE w b s nx p ch)(hs:s.size≤400)(hn:nx<s.size) :
  Calls Tryz.prog 146 #[.pointer (some ⟨b,0,none⟩)] w fun x w'=>x = .returned (.int .u8 (zc s nx))∧yE w' b s (nx+1) p (Pro.yp (zc s nx))∧zd (zo b) w w':=by
 have H:=zb h
 obtain ⟨c0,c1,c2,c3,f1,f2,f3⟩:=h
 have hb0:=(ym s nx).2 hn
 have hb1:=ye s nx
 have hix:∀ wx,(Instr.index 9 (.string s) (.int .i64 (nx:Int))).run Tryz.prog wx = .ok (.int .u8 (zc s nx)) wx:=fun wx=>jY s nx hn _ rfl wx
 have hcs:(zc s nx<128∧Hid (Pro.yp (zc s nx)=zc s nx))∨(128≤zc s nx∧zc s nx<224∧Hid (Pro.yp (zc s nx)=zc s nx % 32))∨(128≤zc s nx∧224≤zc s nx∧zc s nx<240∧Hid (Pro.yp (zc s nx)=zc s nx % 16))∨(128≤zc s nx∧224≤zc s nx∧240≤zc s nx∧Hid (Pro.yp (zc s nx)=zc s nx % 8)):=by
  unfold Pro.yp
  by_cases h1:zc s nx<128
  ·left;rw [if_pos h1];exact ⟨h1,rfl⟩
  ·right
   rw [if_neg h1]
   by_cases h2:zc s nx<224
   ·left;rw [if_pos h2];exact ⟨by omega,h2,rfl⟩
   ·right
    rw [if_neg h2]
    by_cases h3:zc s nx<240
    ·left;rw [if_pos h3];exact ⟨by omega,by omega,h3,rfl⟩
    ·right;rw [if_neg h3];exact ⟨by omega,by omega,by omega,rfl⟩
 have e31:=u8_and31 (zc s nx) hb0 (by omega)
 have e15:=u8_and15 (zc s nx) hb0 (by omega)
 have e7:=u8_and7 (zc s nx) hb0 (by omega)
 have hcv:IntKind.i32.wrap (zc s nx)=zc s nx:=wraps_i32 _ hb0 (by omega)
 rcases hcs with ⟨k1,HL⟩ |⟨k1,k2,HL⟩ |⟨k1,k2,k3,HL⟩ |⟨k1,k2,k3,HL⟩
 all_goals
  go_enter Tryz.func146,Tryz.ntmps146
  go_wp2_with fail
  go_quiet (fail)
  go_wp2_with fail
  go_ret
  refine ⟨rfl,(((za H).drewN _).set1 (nx+1) _ (by omega)).set3 _ _ ?_,(((zd.refl _ _).drewN _).mine _ _).mine _ _⟩
  rw [za HL]
  try rw [wraps_i32 _ (by omega) (by omega)]
theorem yX (b:Nat)(s:ByteArray)(nx p:Nat)(ch lo hi:Int)(w:World)(h:yE w b s nx p ch)(hs:s.size≤400)(hn:nx≤s.size)(hc0:0≤ch)(hc1:ch<33554432)(hl:128≤lo)(hh:hi≤191) :
  Calls Tryz.prog 147 #[.pointer (some ⟨b,0,none⟩),.int .u8 lo,.int .u8 hi] w fun x w'=>zd (zo b) w w'∧((Pro.yW s nx lo hi=true∧x = .returned (.bool true)∧yE w' b s (nx+1) p (ch*64+zc s nx-128))∨(Pro.yW s nx lo hi=false∧x = .returned (.bool false)∧yE w' b s nx p ch)):=by
 have H:=zb h
 obtain ⟨c0,c1,c2,c3,f1,f2,f3⟩:=h
 by_cases hlt:nx<s.size
 ·have he:((nx:Int) == (s.size:Int))=false:=by simp;omega
  have hb0:=(ym s nx).2 hlt
  have hb1:=ye s nx
  have hix:∀ wx,(Instr.index 9 (.string s) (.int .i64 (nx:Int))).run Tryz.prog wx = .ok (.int .u8 (zc s nx)) wx:=fun wx=>jY s nx hlt _ rfl wx
  by_cases h1:zc s nx<lo
  ·have HB:Hid (Pro.yW s nx lo hi=false):=Pro.Z3 (by omega)
   go_enter Tryz.func147,Tryz.ntmps147
   go_wp2_with fail
   go_quiet (fail)
   go_wp2_with fail
   go_quiet (fail)
   go_wp2_with fail
   go_ret
   exact ⟨by first |exact (zd.refl _ _).drewN _ |exact ((zd.refl _ _).drewN _).drewN _,.inr ⟨za HB,rfl,by first |exact (za H).drewN _ |exact ((za H).drewN _).drewN _⟩⟩
  ·by_cases h2:hi<zc s nx
   ·have HB:Hid (Pro.yW s nx lo hi=false):=Pro.Z3 (by omega)
    go_enter Tryz.func147,Tryz.ntmps147
    go_wp2_with fail
    go_quiet (fail)
    go_wp2_with fail
    go_quiet (fail)
    go_wp2_with fail
    go_ret
    exact ⟨by first |exact (zd.refl _ _).drewN _ |exact ((zd.refl _ _).drewN _).drewN _,.inr ⟨za HB,rfl,by first |exact (za H).drewN _ |exact ((za H).drewN _).drewN _⟩⟩
   ·have HB:Hid (Pro.yW s nx lo hi=true):=Pro.YQ hlt h1 h2
    have e63:=u8_and63 (zc s nx) hb0 (by omega)
    have hor:bits BinOp.or IntKind.i32 (ch*64) (zc s nx % 64)=ch*64+zc s nx-128:=by
     rw [i32_or6 (ch*64) (zc s nx % 64) (by omega) (by omega) (by omega) (by omega) (by omega)];omega
    go_enter Tryz.func147,Tryz.ntmps147
    go_wp2_with fail
    go_quiet (fail)
    go_wp2_with fail
    go_quiet (fail)
    go_wp2_with fail
    go_ret
    exact ⟨(((zd.refl _ _).drewN _).mine _ _).mine _ _,.inl ⟨za HB,rfl,(((za H).drewN _).set1 (nx+1) _ (by omega)).set3 _ _ rfl⟩⟩
 ·have he:((nx:Int) == (s.size:Int))=true:=by simp;omega
  have HB:Hid (Pro.yW s nx lo hi=false):=Pro.Z3 (by omega)
  go_enter Tryz.func147,Tryz.ntmps147
  go_wp2_with fail
  go_quiet (fail)
  go_wp2_with fail
  go_ret
  exact ⟨(zd.refl _ _).drewN _,.inr ⟨za HB,rfl,(za H).drewN _⟩⟩
set_option maxHeartbeats 4000000
set_option maxRecDepth 1000000
def Exit.jumps (J:Nat→Act→World→Prop)(Q:Exit→Act→World→Prop):Exit→Act→World→Prop
 | .goto l,a,w=>J l a w
 |e,a,w=>Q e a w
theorem YF {P:Program}{a:Act}{w:World}{Q:Exit→Act→World→Prop}{c:Code}(J:Nat→Act→World→Prop)(μ:Nat→Nat)(rest:Nat→Code)(hf:∀ l a w,J l a w→findLabel c l=some (rest l))
  (first:c.wp P (Exit.jumps J Q) a w)
  (pass:∀ l a w,J l a w→(rest l).wp P (Exit.jumps (fun l' a' w'=>J l' a' w'∧μ l'<μ l) Q) a w):(Code.scope c).wp P Q a w:=by
 intro b k cs
 have hg:∀ l a w,J l a w→gotoIn l (.inScope c :: k)=some (.code (rest l) :: .inScope c :: k):=fun l a w h=>by simp [gotoIn,hf l a w h]
 have key:∀ n l a w,μ l=n→J l a w→∃ e a' w',Q e a' w'∧Arrives P (lone (b.at a (.code (rest l) :: .inScope c :: k)) cs w) b k cs e a' w':=by
  intro n
  induction n using Nat.strongRecOn with
  |_ n ih=>
   intro l a w hn hJ
   obtain ⟨e,a₁,w₁,hq,harr⟩:=pass l a w hJ b (.inScope c :: k) cs
   cases e with
   |normal=>exact ⟨.normal,a₁,w₁,hq,Steps.trans harr (.one step_inScope)⟩
   |exit id=>exact ⟨.exit id,a₁,w₁,hq,fun k' hk=>harr k' (by simp [exitTo,hk])⟩
   |goto l'=>
    obtain ⟨hJ',hlt⟩:=hq
    obtain ⟨e₂,a₂,w₂,hq₂,harr₂⟩:=ih _ (by omega) l' a₁ w₁ rfl hJ'
    exact ⟨e₂,a₂,w₂,hq₂,.of_steps (harr _ (hg l' a₁ w₁ hJ')) harr₂⟩
   |ret=>exact ⟨_,a₁,w₁,hq,harr⟩
   |panic ch=>exact ⟨_,a₁,w₁,hq,harr⟩
   |outgrown=>exact ⟨_,a₁,w₁,hq,harr⟩
 obtain ⟨e,a₁,w₁,hq,harr⟩:=first b (.inScope c :: k) cs
 cases e with
 |normal=>exact ⟨.normal,a₁,w₁,hq,.head step_scope (Steps.trans harr (.one step_inScope))⟩
 |exit id=>exact ⟨.exit id,a₁,w₁,hq,fun k' hk=>.head step_scope (harr k' (by simp [exitTo,hk]))⟩
 |goto l'=>
  obtain ⟨e₂,a₂,w₂,hq₂,harr₂⟩:=key _ l' a₁ w₁ rfl hq
  exact ⟨e₂,a₂,w₂,hq₂,.of_steps (.head step_scope (harr _ (hg l' a₁ w₁ hq))) harr₂⟩
 |ret=>exact ⟨_,a₁,w₁,hq,.of_steps (.one step_scope) harr⟩
 |panic ch=>exact ⟨_,a₁,w₁,hq,.of_steps (.one step_scope) harr⟩
 |outgrown=>exact ⟨_,a₁,w₁,hq,.of_steps (.one step_scope) harr⟩
theorem Z4 {P:Program}{a:Act}{w:World}{Q:Exit→Act→World→Prop}{c r0 r1 r2 r3 r4 r5 r6:Code}(J:Nat→Act→World→Prop)(μ:Nat→Nat)
  (h0:findLabel c 0=some r0) (h1:findLabel c 1=some r1) (h2:findLabel c 2=some r2) (h3:findLabel c 3=some r3) (h4:findLabel c 4=some r4) (h5:findLabel c 5=some r5) (h6:findLabel c 6=some r6)
  (hJ:∀ l a w,J l a w→l≤6) (first:c.wp P (Exit.jumps J Q) a w)
  (p0:∀ a w,J 0 a w→r0.wp P (Exit.jumps (fun l' a' w'=>J l' a' w'∧μ l'<μ 0) Q) a w) (p1:∀ a w,J 1 a w→r1.wp P (Exit.jumps (fun l' a' w'=>J l' a' w'∧μ l'<μ 1) Q) a w)
  (p2:∀ a w,J 2 a w→r2.wp P (Exit.jumps (fun l' a' w'=>J l' a' w'∧μ l'<μ 2) Q) a w) (p3:∀ a w,J 3 a w→r3.wp P (Exit.jumps (fun l' a' w'=>J l' a' w'∧μ l'<μ 3) Q) a w)
  (p4:∀ a w,J 4 a w→r4.wp P (Exit.jumps (fun l' a' w'=>J l' a' w'∧μ l'<μ 4) Q) a w) (p5:∀ a w,J 5 a w→r5.wp P (Exit.jumps (fun l' a' w'=>J l' a' w'∧μ l'<μ 5) Q) a w)
  (p6:∀ a w,J 6 a w→r6.wp P (Exit.jumps (fun l' a' w'=>J l' a' w'∧μ l'<μ 6) Q) a w):(Code.scope c).wp P Q a w:=by
 have hcs:∀ l,l≤6→l=0∨l=1∨l=2∨l=3∨l=4∨l=5∨l=6:=fun l h=>by omega
 refine YF J μ (fun l=>match l with
  |0=>r0
  |1=>r1
  |2=>r2
  |3=>r3
  |4=>r4
  |5=>r5
  |_=>r6) ?_ first ?_
 ·intro l a w h
  rcases hcs l (hJ l a w h) with rfl |rfl |rfl |rfl |rfl |rfl |rfl
  ·exact h0
  ·exact h1
  ·exact h2
  ·exact h3
  ·exact h4
  ·exact h5
  ·exact h6
 ·intro l a w h
  rcases hcs l (hJ l a w h) with rfl |rfl |rfl |rfl |rfl |rfl |rfl
  ·exact p0 a w h
  ·exact p1 a w h
  ·exact p2 a w h
  ·exact p3 a w h
  ·exact p4 a w h
  ·exact p5 a w h
  ·exact p6 a w h
namespace Pro
section
variable (s:ByteArray)
def oneM (nx:Nat)(ch:Int):Option (Nat×Int):=if yW s nx 128 191=true then some (nx+1,ch*64+zc s nx-128) else none
def twoM (nx:Nat)(ch:Int):Option (Nat×Int):=if yW s nx 128 191=true then oneM s (nx+1) (ch*64+zc s nx-128) else none
def jL (lo hi:Int)(nx:Nat)(ch:Int):Option (Nat×Int):=if yW s nx lo hi=true then oneM s (nx+1) (ch*64+zc s nx-128) else none
def xO (lo hi:Int)(nx:Nat)(ch:Int):Option (Nat×Int):=if yW s nx lo hi=true then twoM s (nx+1) (ch*64+zc s nx-128) else none
def atLab (l:Nat)(nx:Nat)(ch:Int):Option (Nat×Int):=match l with
 |0=>oneM s nx ch
 |1=>jL s 160 191 nx ch
 |2=>jL s 128 159 nx ch
 |3=>twoM s nx ch
 |4=>xO s 144 191 nx ch
 |5=>xO s 128 191 nx ch
 |_=>xO s 128 143 nx ch
def yq (b:Int):Nat:=if b<128 then 7 else if b<194 then 8 else if b<224 then 0 else if b=224 then 1 else if b=237 then 2 else if b<240 then 3 else if b=240 then 4 else if b<244 then 5 else if b=244 then 6 else 8
def z8 (p:Nat):Option (Nat×Int):=
 if p<s.size then (if yq (zc s p)=7 then some (p+1,zc s p) else if yq (zc s p)=8 then none else atLab s (yq (zc s p)) (p+1) (yp (zc s p))) else none
end
end Pro
def LabAt (b:Nat)(s:ByteArray)(p:Nat)(w:World)(l:Nat)(a':Act)(w':World):Prop:=l≤6∧(∃ (nx:Nat) (ch:Int),yE w' b s nx p ch∧0≤ch∧ch<(if l=0 then 33554432 else if l≤3 then 524288 else 8192)∧nx≤s.size∧Pro.z8 s p=Pro.atLab s l nx ch)∧zd (zo b) w w'∧
 ∃ u1 u2 u3 u4 u5 u6 u7 u8 u9 u10 u11 u12 u13 u14 u15 u16 u17 u18 u19 u20 u21 u22 u23 u24 u25 u26 u27 u28 u29 u30 u31 u32 u33 u34 u35 u36 u37 u38 u39 u40 u41 u42 u43 u44 u45 u46 u47 u48 u49 u50 u51 u52 u53 u54 u55 u56 u57 u58 u59 u60 u61 u62 u63:Value,a' = { tmps:=#[.pointer (some ⟨b,0,none⟩),u1,u2,u3,u4,u5,u6,u7,u8,u9,u10,u11,u12,u13,u14,u15,u16,u17,u18,u19,u20,u21,u22,u23,u24,u25,u26,u27,u28,u29,u30,u31,u32,u33,u34,u35,u36,u37,u38,u39,u40,u41,u42,u43,u44,u45,u46,u47,u48,u49,u50,u51,u52,u53,u54,u55,u56,u57,u58,u59,u60,u61,u62,u63],defers:=[] }
theorem yS {J:Nat→Act→World→Prop}{Q:Exit→Act→World→Prop}{a:Act}{w:World}:Exit.jumps J Q .ret a w=Q .ret a w:=rfl
theorem vD {t:Bool}{x y z:Ending}{A B:Prop}(h:(t=true∧x=y∧A)∨(t=false∧x=z∧B))(ht:t=true):x=y∧A:=by
 rcases h with ⟨_,h⟩ |⟨h,_⟩
 ·exact h
 ·rw [ht] at h;cases h
theorem vE {t:Bool}{x y z:Ending}{A B:Prop}(h:(t=true∧x=y∧A)∨(t=false∧x=z∧B))(ht:t=false):x=z:=by
 rcases h with ⟨h,_⟩ |⟨_,h,_⟩
 ·rw [ht] at h;cases h
 ·exact h
namespace Pro
theorem Zm {s:ByteArray}{p:Nat}(h:p<s.size)(hl:zc s p<128):z8 s p=some (p+1,yp (zc s p)):=by
 have e:yq (zc s p)=7:=by unfold yq;rw [if_pos hl]
 have e2:yp (zc s p)=zc s p:=by unfold yp;rw [if_pos hl]
 unfold z8;rw [if_pos h,if_pos e,e2]
theorem qx {s:ByteArray}{p:Nat}(hl:yq (zc s p)=8):z8 s p=none:=by
 unfold z8;rw [hl];simp
theorem yA {s:ByteArray}{p l:Nat}(h:p<s.size)(hl:yq (zc s p)=l)(h7:l≤6):z8 s p=atLab s l (p+1) (yp (zc s p)):=by
 subst hl
 unfold z8;rw [if_pos h,if_neg (by omega),if_neg (by omega)]
theorem jf {s:ByteArray}{nx:Nat}{lo hi:Int}(h:yW s nx lo hi=true):nx<s.size:=by unfold yW at h;simp at h;exact h.1.1
theorem jg {s:ByteArray}{nx:Nat}{lo hi:Int}(h:yW s nx lo hi=true):lo≤zc s nx∧zc s nx≤hi:=by unfold yW at h;simp at h;exact ⟨h.1.2,h.2⟩
theorem qy {b:Int}(h0:128≤b)(h1:b<256):0≤yp b∧yp b<32:=by unfold yp;(repeat' split)<;>omega
end Pro
def labM (l:Nat):Nat:=if l=0 then 0 else if l≤3 then 1 else 2
theorem Qj (b:Nat)(s:ByteArray)(nx p:Nat)(ch:Int)(w:World)(h:yE w b s nx p ch)(hs:s.size≤400)(hn:nx≤s.size) :
  Calls Tryz.prog 114 #[.pointer (some ⟨b,0,none⟩)] w fun x w'=>zd (zo b) w w'∧((∃ n c,Pro.z8 s nx=some (n,c)∧x = .returned (.bool true)∧yE w' b s n nx c)∨(Pro.z8 s nx=none∧x = .returned (.bool false))):=by
 have H:=zb h
 have c0:=h.c0
 have c1:=h.c1
 have c2:=h.c2
 have f2:=h.f2
 clear h
 go_enter Tryz.func114,Tryz.ntmps114
 go_wp2_with fail
 refine Z4 (LabAt b s nx w) labM rfl rfl rfl rfl rfl rfl rfl (fun l a w h=>h.1) ?_ ?_ ?_ ?_ ?_ ?_ ?_ ?_
 case refine_1=>
  by_cases hlt:nx<s.size
  ·have he:((nx:Int) == (s.size:Int))=false:=by simp;omega
   have hb0:=(ym s nx).2 hlt
   have hb1:=ye s nx
   have hcs:(zc s nx<128)∨(128≤zc s nx∧zc s nx<194)∨(194≤zc s nx∧zc s nx<224)∨(zc s nx=224)∨(zc s nx=237)∨(225≤zc s nx∧zc s nx<240∧zc s nx≠237)∨(zc s nx=240)∨(241≤zc s nx∧zc s nx<244)∨(zc s nx=244)∨(245≤zc s nx):=by omega
   rcases hcs with hc |hc |hc |hc |hc |hc |hc |hc |hc |hc
   ·have t0:zc s nx<128:=by omega
    clear hc
    go_wp2_with fail
    go_quiet (fail)
    go_wp2_with (go_at_call 146;refine (xJ b s nx nx ch _ (by first |exact ((za H).set2 nx _ rfl).drewN _ |exact (za H).set2 nx _ rfl) hs hlt).mono ?_;rintro e w1 ⟨rfl,hm1,hO1⟩;have HM1:=zb hm1;have HO1:Hid (zd (zo b) w w1):=by first |exact (((zd.refl (zo b) w).mine 2 _).drewN _).trans hO1 |exact (((zd.refl (zo b) w).drewN _).mine 2 _).trans hO1 |exact ((zd.refl (zo b) w).mine 2 _).trans hO1;clear hm1 hO1)
    rw [yS]
    go_ret
    exact ⟨za HO1,.inl ⟨nx+1,Pro.yp (zc s nx),Pro.Zm hlt (by omega),rfl,za HM1⟩⟩
   ·have t0:128≤zc s nx:=by omega
    have t1:zc s nx<194:=by omega
    have hl:Hid (Pro.yq (zc s nx)=8):=zb (by unfold Pro.yq;(repeat' split)<;>omega)
    clear hc
    go_wp2_with fail
    go_quiet (fail)
    go_wp2_with (go_at_call 146;refine (xJ b s nx nx ch _ (by first |exact ((za H).set2 nx _ rfl).drewN _ |exact (za H).set2 nx _ rfl) hs hlt).mono ?_;rintro e w1 ⟨rfl,hm1,hO1⟩;have HM1:=zb hm1;have HO1:Hid (zd (zo b) w w1):=by first |exact (((zd.refl (zo b) w).mine 2 _).drewN _).trans hO1 |exact (((zd.refl (zo b) w).drewN _).mine 2 _).trans hO1 |exact ((zd.refl (zo b) w).mine 2 _).trans hO1;clear hm1 hO1)
    rw [yS]
    go_ret
    exact ⟨za HO1,.inr ⟨Pro.qx (za hl),rfl⟩⟩
   ·have t0:128≤zc s nx:=by omega
    have t1:194≤zc s nx:=by omega
    have t2:zc s nx<224:=by omega
    have hl:Hid (Pro.yq (zc s nx)=0):=zb (by unfold Pro.yq;(repeat' split)<;>omega)
    clear hc
    go_wp2_with fail
    go_quiet (fail)
    go_wp2_with (go_at_call 146;refine (xJ b s nx nx ch _ (by first |exact ((za H).set2 nx _ rfl).drewN _ |exact (za H).set2 nx _ rfl) hs hlt).mono ?_;rintro e w1 ⟨rfl,hm1,hO1⟩;have HM1:=zb hm1;have HO1:Hid (zd (zo b) w w1):=by first |exact (((zd.refl (zo b) w).mine 2 _).drewN _).trans hO1 |exact (((zd.refl (zo b) w).drewN _).mine 2 _).trans hO1 |exact ((zd.refl (zo b) w).mine 2 _).trans hO1;clear hm1 hO1)
    go_step3
    have hle:=Pro.qy (b:=zc s nx) (by omega) (by omega)
    exact ⟨by decide,⟨nx+1,Pro.yp (zc s nx),za HM1,hle.1,(show Pro.yp (zc s nx)<33554432 by omega),by omega,Pro.yA hlt (za hl) (by decide)⟩,za HO1,_,_,_,_,_,_,_,_,_,_,_,_,_,_,_,_,_,_,_,_,_,_,_,_,_,_,_,_,_,_,_,_,_,_,_,_,_,_,_,_,_,_,_,_,_,_,_,_,_,_,_,_,_,_,_,_,_,_,_,_,_,_,_,rfl⟩
   ·have t0:128≤zc s nx:=by omega
    have t1:194≤zc s nx:=by omega
    have t2:224≤zc s nx:=by omega
    have t3:(zc s nx == 224)=true:=by simp;omega
    have hl:Hid (Pro.yq (zc s nx)=1):=zb (by unfold Pro.yq;(repeat' split)<;>omega)
    clear hc
    go_wp2_with fail
    go_quiet (fail)
    go_wp2_with (go_at_call 146;refine (xJ b s nx nx ch _ (by first |exact ((za H).set2 nx _ rfl).drewN _ |exact (za H).set2 nx _ rfl) hs hlt).mono ?_;rintro e w1 ⟨rfl,hm1,hO1⟩;have HM1:=zb hm1;have HO1:Hid (zd (zo b) w w1):=by first |exact (((zd.refl (zo b) w).mine 2 _).drewN _).trans hO1 |exact (((zd.refl (zo b) w).drewN _).mine 2 _).trans hO1 |exact ((zd.refl (zo b) w).mine 2 _).trans hO1;clear hm1 hO1)
    go_step3
    have hle:=Pro.qy (b:=zc s nx) (by omega) (by omega)
    exact ⟨by decide,⟨nx+1,Pro.yp (zc s nx),za HM1,hle.1,(show Pro.yp (zc s nx)<524288 by omega),by omega,Pro.yA hlt (za hl) (by decide)⟩,za HO1,_,_,_,_,_,_,_,_,_,_,_,_,_,_,_,_,_,_,_,_,_,_,_,_,_,_,_,_,_,_,_,_,_,_,_,_,_,_,_,_,_,_,_,_,_,_,_,_,_,_,_,_,_,_,_,_,_,_,_,_,_,_,_,rfl⟩
   ·have t0:128≤zc s nx:=by omega
    have t1:194≤zc s nx:=by omega
    have t2:224≤zc s nx:=by omega
    have t3:(zc s nx == 224)=false:=by simp;omega
    have t4:(zc s nx == 237)=true:=by simp;omega
    have hl:Hid (Pro.yq (zc s nx)=2):=zb (by unfold Pro.yq;(repeat' split)<;>omega)
    clear hc
    go_wp2_with fail
    go_quiet (fail)
    go_wp2_with (go_at_call 146;refine (xJ b s nx nx ch _ (by first |exact ((za H).set2 nx _ rfl).drewN _ |exact (za H).set2 nx _ rfl) hs hlt).mono ?_;rintro e w1 ⟨rfl,hm1,hO1⟩;have HM1:=zb hm1;have HO1:Hid (zd (zo b) w w1):=by first |exact (((zd.refl (zo b) w).mine 2 _).drewN _).trans hO1 |exact (((zd.refl (zo b) w).drewN _).mine 2 _).trans hO1 |exact ((zd.refl (zo b) w).mine 2 _).trans hO1;clear hm1 hO1)
    go_step3
    have hle:=Pro.qy (b:=zc s nx) (by omega) (by omega)
    exact ⟨by decide,⟨nx+1,Pro.yp (zc s nx),za HM1,hle.1,(show Pro.yp (zc s nx)<524288 by omega),by omega,Pro.yA hlt (za hl) (by decide)⟩,za HO1,_,_,_,_,_,_,_,_,_,_,_,_,_,_,_,_,_,_,_,_,_,_,_,_,_,_,_,_,_,_,_,_,_,_,_,_,_,_,_,_,_,_,_,_,_,_,_,_,_,_,_,_,_,_,_,_,_,_,_,_,_,_,_,rfl⟩
   ·have t0:128≤zc s nx:=by omega
    have t1:194≤zc s nx:=by omega
    have t2:224≤zc s nx:=by omega
    have t3:(zc s nx == 224)=false:=by simp;omega
    have t4:(zc s nx == 237)=false:=by simp;omega
    have t5:zc s nx<240:=by omega
    have hl:Hid (Pro.yq (zc s nx)=3):=zb (by unfold Pro.yq;(repeat' split)<;>omega)
    clear hc
    go_wp2_with fail
    go_quiet (fail)
    go_wp2_with (go_at_call 146;refine (xJ b s nx nx ch _ (by first |exact ((za H).set2 nx _ rfl).drewN _ |exact (za H).set2 nx _ rfl) hs hlt).mono ?_;rintro e w1 ⟨rfl,hm1,hO1⟩;have HM1:=zb hm1;have HO1:Hid (zd (zo b) w w1):=by first |exact (((zd.refl (zo b) w).mine 2 _).drewN _).trans hO1 |exact (((zd.refl (zo b) w).drewN _).mine 2 _).trans hO1 |exact ((zd.refl (zo b) w).mine 2 _).trans hO1;clear hm1 hO1)
    go_step3
    have hle:=Pro.qy (b:=zc s nx) (by omega) (by omega)
    exact ⟨by decide,⟨nx+1,Pro.yp (zc s nx),za HM1,hle.1,(show Pro.yp (zc s nx)<524288 by omega),by omega,Pro.yA hlt (za hl) (by decide)⟩,za HO1,_,_,_,_,_,_,_,_,_,_,_,_,_,_,_,_,_,_,_,_,_,_,_,_,_,_,_,_,_,_,_,_,_,_,_,_,_,_,_,_,_,_,_,_,_,_,_,_,_,_,_,_,_,_,_,_,_,_,_,_,_,_,_,rfl⟩
   ·have t0:128≤zc s nx:=by omega
    have t1:194≤zc s nx:=by omega
    have t2:224≤zc s nx:=by omega
    have t3:(zc s nx == 224)=false:=by simp;omega
    have t4:(zc s nx == 237)=false:=by simp;omega
    have t5:240≤zc s nx:=by omega
    have t6:(zc s nx == 240)=true:=by simp;omega
    have hl:Hid (Pro.yq (zc s nx)=4):=zb (by unfold Pro.yq;(repeat' split)<;>omega)
    clear hc
    go_wp2_with fail
    go_quiet (fail)
    go_wp2_with (go_at_call 146;refine (xJ b s nx nx ch _ (by first |exact ((za H).set2 nx _ rfl).drewN _ |exact (za H).set2 nx _ rfl) hs hlt).mono ?_;rintro e w1 ⟨rfl,hm1,hO1⟩;have HM1:=zb hm1;have HO1:Hid (zd (zo b) w w1):=by first |exact (((zd.refl (zo b) w).mine 2 _).drewN _).trans hO1 |exact (((zd.refl (zo b) w).drewN _).mine 2 _).trans hO1 |exact ((zd.refl (zo b) w).mine 2 _).trans hO1;clear hm1 hO1)
    go_step3
    have hle:=Pro.qy (b:=zc s nx) (by omega) (by omega)
    exact ⟨by decide,⟨nx+1,Pro.yp (zc s nx),za HM1,hle.1,(show Pro.yp (zc s nx)<8192 by omega),by omega,Pro.yA hlt (za hl) (by decide)⟩,za HO1,_,_,_,_,_,_,_,_,_,_,_,_,_,_,_,_,_,_,_,_,_,_,_,_,_,_,_,_,_,_,_,_,_,_,_,_,_,_,_,_,_,_,_,_,_,_,_,_,_,_,_,_,_,_,_,_,_,_,_,_,_,_,_,rfl⟩
   ·have t0:128≤zc s nx:=by omega
    have t1:194≤zc s nx:=by omega
    have t2:224≤zc s nx:=by omega
    have t3:(zc s nx == 224)=false:=by simp;omega
    have t4:(zc s nx == 237)=false:=by simp;omega
    have t5:240≤zc s nx:=by omega
    have t6:(zc s nx == 240)=false:=by simp;omega
    have t7:zc s nx<244:=by omega
    have hl:Hid (Pro.yq (zc s nx)=5):=zb (by unfold Pro.yq;(repeat' split)<;>omega)
    clear hc
    go_wp2_with fail
    go_quiet (fail)
    go_wp2_with (go_at_call 146;refine (xJ b s nx nx ch _ (by first |exact ((za H).set2 nx _ rfl).drewN _ |exact (za H).set2 nx _ rfl) hs hlt).mono ?_;rintro e w1 ⟨rfl,hm1,hO1⟩;have HM1:=zb hm1;have HO1:Hid (zd (zo b) w w1):=by first |exact (((zd.refl (zo b) w).mine 2 _).drewN _).trans hO1 |exact (((zd.refl (zo b) w).drewN _).mine 2 _).trans hO1 |exact ((zd.refl (zo b) w).mine 2 _).trans hO1;clear hm1 hO1)
    go_step3
    have hle:=Pro.qy (b:=zc s nx) (by omega) (by omega)
    exact ⟨by decide,⟨nx+1,Pro.yp (zc s nx),za HM1,hle.1,(show Pro.yp (zc s nx)<8192 by omega),by omega,Pro.yA hlt (za hl) (by decide)⟩,za HO1,_,_,_,_,_,_,_,_,_,_,_,_,_,_,_,_,_,_,_,_,_,_,_,_,_,_,_,_,_,_,_,_,_,_,_,_,_,_,_,_,_,_,_,_,_,_,_,_,_,_,_,_,_,_,_,_,_,_,_,_,_,_,_,rfl⟩
   ·have t0:128≤zc s nx:=by omega
    have t1:194≤zc s nx:=by omega
    have t2:224≤zc s nx:=by omega
    have t3:(zc s nx == 224)=false:=by simp;omega
    have t4:(zc s nx == 237)=false:=by simp;omega
    have t5:240≤zc s nx:=by omega
    have t6:(zc s nx == 240)=false:=by simp;omega
    have t7:244≤zc s nx:=by omega
    have t8:(zc s nx == 244)=true:=by simp;omega
    have hl:Hid (Pro.yq (zc s nx)=6):=zb (by unfold Pro.yq;(repeat' split)<;>omega)
    clear hc
    go_wp2_with fail
    go_quiet (fail)
    go_wp2_with (go_at_call 146;refine (xJ b s nx nx ch _ (by first |exact ((za H).set2 nx _ rfl).drewN _ |exact (za H).set2 nx _ rfl) hs hlt).mono ?_;rintro e w1 ⟨rfl,hm1,hO1⟩;have HM1:=zb hm1;have HO1:Hid (zd (zo b) w w1):=by first |exact (((zd.refl (zo b) w).mine 2 _).drewN _).trans hO1 |exact (((zd.refl (zo b) w).drewN _).mine 2 _).trans hO1 |exact ((zd.refl (zo b) w).mine 2 _).trans hO1;clear hm1 hO1)
    go_step3
    have hle:=Pro.qy (b:=zc s nx) (by omega) (by omega)
    exact ⟨by decide,⟨nx+1,Pro.yp (zc s nx),za HM1,hle.1,(show Pro.yp (zc s nx)<8192 by omega),by omega,Pro.yA hlt (za hl) (by decide)⟩,za HO1,_,_,_,_,_,_,_,_,_,_,_,_,_,_,_,_,_,_,_,_,_,_,_,_,_,_,_,_,_,_,_,_,_,_,_,_,_,_,_,_,_,_,_,_,_,_,_,_,_,_,_,_,_,_,_,_,_,_,_,_,_,_,_,rfl⟩
   ·have t0:128≤zc s nx:=by omega
    have t1:194≤zc s nx:=by omega
    have t2:224≤zc s nx:=by omega
    have t3:(zc s nx == 224)=false:=by simp;omega
    have t4:(zc s nx == 237)=false:=by simp;omega
    have t5:240≤zc s nx:=by omega
    have t6:(zc s nx == 240)=false:=by simp;omega
    have t7:244≤zc s nx:=by omega
    have t8:(zc s nx == 244)=false:=by simp;omega
    have hl:Hid (Pro.yq (zc s nx)=8):=zb (by unfold Pro.yq;(repeat' split)<;>omega)
    clear hc
    go_wp2_with fail
    go_quiet (fail)
    go_wp2_with (go_at_call 146;refine (xJ b s nx nx ch _ (by first |exact ((za H).set2 nx _ rfl).drewN _ |exact (za H).set2 nx _ rfl) hs hlt).mono ?_;rintro e w1 ⟨rfl,hm1,hO1⟩;have HM1:=zb hm1;have HO1:Hid (zd (zo b) w w1):=by first |exact (((zd.refl (zo b) w).mine 2 _).drewN _).trans hO1 |exact (((zd.refl (zo b) w).drewN _).mine 2 _).trans hO1 |exact ((zd.refl (zo b) w).mine 2 _).trans hO1;clear hm1 hO1)
    rw [yS]
    go_ret
    exact ⟨za HO1,.inr ⟨Pro.qx (za hl),rfl⟩⟩
  ·have he:((nx:Int) == (s.size:Int))=true:=by simp;omega
   have HR:Hid (Pro.z8 s nx=none):=by unfold Pro.z8;rw [if_neg hlt];rfl
   go_wp2_with fail
   go_quiet (fail)
   go_wp2_with fail
   rw [yS]
   go_ret
   exact ⟨((zd.refl _ _).mine _ _).drewN _,.inr ⟨za HR,rfl⟩⟩
 case refine_2=>
  rintro a' w' ⟨_,⟨n1,ch1,hm,hc0,hc1,hn1,hR⟩,hO,u1,u2,u3,u4,u5,u6,u7,u8,u9,u10,u11,u12,u13,u14,u15,u16,u17,u18,u19,u20,u21,u22,u23,u24,u25,u26,u27,u28,u29,u30,u31,u32,u33,u34,u35,u36,u37,u38,u39,u40,u41,u42,u43,u44,u45,u46,u47,u48,u49,u50,u51,u52,u53,u54,u55,u56,u57,u58,u59,u60,u61,u62,u63,rfl⟩
  have hc1:ch1<33554432:=hc1
  have HM:=zb hm
  have HO:=zb hO
  have HRR:=zb hR
  clear hm hO hR c0 c1 c2 f2
  have hby:=ye s n1
  cases hT:Pro.yW s n1 128 191
  ·have HN:Hid (Pro.z8 s nx=none):=by rw [za HRR];show Pro.oneM s n1 ch1=none;unfold Pro.oneM;rw [if_neg (by simp [hT])]
   go_wp2_with (go_at_call 147;refine (yX b s n1 nx ch1 128 191 _ (za HM) hs hn1 hc0 (by omega) (by decide) (by decide)).mono ?_;rintro e w1 ⟨hO1,hT1⟩;obtain rfl:=vE hT1 hT;have HO1:=zb ((za HO).trans hO1);clear hT1 hO1)
   rw [yS]
   go_ret
   exact ⟨za HO1,.inr ⟨za HN,rfl⟩⟩
  ·have hlt1:n1<s.size:=Pro.jf hT
   have HN:Hid (Pro.z8 s nx=some (n1+1,ch1*64+zc s n1-128)):=by rw [za HRR];show Pro.oneM s n1 ch1=_;unfold Pro.oneM;rw [if_pos hT]
   go_wp2_with (go_at_call 147;refine (yX b s n1 nx ch1 128 191 _ (za HM) hs hn1 hc0 (by omega) (by decide) (by decide)).mono ?_;rintro e w1 ⟨hO1,hT1⟩;obtain ⟨rfl,hm1⟩:=vD hT1 hT;have HM1:=zb hm1;have HO1:=zb ((za HO).trans hO1);clear hT1 hO1 hm1)
   rw [yS]
   go_ret
   exact ⟨za HO1,.inl ⟨_,_,za HN,rfl,za HM1⟩⟩
 case refine_3=>
  rintro a' w' ⟨_,⟨n1,ch1,hm,hc0,hc1,hn1,hR⟩,hO,u1,u2,u3,u4,u5,u6,u7,u8,u9,u10,u11,u12,u13,u14,u15,u16,u17,u18,u19,u20,u21,u22,u23,u24,u25,u26,u27,u28,u29,u30,u31,u32,u33,u34,u35,u36,u37,u38,u39,u40,u41,u42,u43,u44,u45,u46,u47,u48,u49,u50,u51,u52,u53,u54,u55,u56,u57,u58,u59,u60,u61,u62,u63,rfl⟩
  have hc1:ch1<524288:=hc1
  have HM:=zb hm
  have HO:=zb hO
  have HRR:=zb hR
  clear hm hO hR c0 c1 c2 f2
  have hby:=ye s n1
  cases hT:Pro.yW s n1 160 191
  ·have HN:Hid (Pro.z8 s nx=none):=by rw [za HRR];show Pro.jL s 160 191 n1 ch1=none;unfold Pro.jL;rw [if_neg (by simp [hT])]
   go_wp2_with (go_at_call 147;refine (yX b s n1 nx ch1 160 191 _ (za HM) hs hn1 hc0 (by omega) (by decide) (by decide)).mono ?_;rintro e w1 ⟨hO1,hT1⟩;obtain rfl:=vE hT1 hT;have HO1:=zb ((za HO).trans hO1);clear hT1 hO1)
   rw [yS]
   go_ret
   exact ⟨za HO1,.inr ⟨za HN,rfl⟩⟩
  ·have hlt1:n1<s.size:=Pro.jf hT
   have hge:=Pro.jg hT
   have HN:Hid (Pro.z8 s nx=Pro.oneM s (n1+1) (ch1*64+zc s n1-128)):=by rw [za HRR];show Pro.jL s 160 191 n1 ch1=_;unfold Pro.jL;rw [if_pos hT]
   go_wp2_with (go_at_call 147;refine (yX b s n1 nx ch1 160 191 _ (za HM) hs hn1 hc0 (by omega) (by decide) (by decide)).mono ?_;rintro e w1 ⟨hO1,hT1⟩;obtain ⟨rfl,hm1⟩:=vD hT1 hT;have HM1:=zb hm1;have HO1:=zb ((za HO).trans hO1);clear hT1 hO1 hm1)
   go_step3
   exact ⟨⟨by decide,⟨n1+1,ch1*64+zc s n1-128,za HM1,by omega,(show ch1*64+zc s n1-128<33554432 by omega),by omega,za HN⟩,za HO1,_,_,_,_,_,_,_,_,_,_,_,_,_,_,_,_,_,_,_,_,_,_,_,_,_,_,_,_,_,_,_,_,_,_,_,_,_,_,_,_,_,_,_,_,_,_,_,_,_,_,_,_,_,_,_,_,_,_,_,_,_,_,_,rfl⟩,by decide⟩
 case refine_4=>
  rintro a' w' ⟨_,⟨n1,ch1,hm,hc0,hc1,hn1,hR⟩,hO,u1,u2,u3,u4,u5,u6,u7,u8,u9,u10,u11,u12,u13,u14,u15,u16,u17,u18,u19,u20,u21,u22,u23,u24,u25,u26,u27,u28,u29,u30,u31,u32,u33,u34,u35,u36,u37,u38,u39,u40,u41,u42,u43,u44,u45,u46,u47,u48,u49,u50,u51,u52,u53,u54,u55,u56,u57,u58,u59,u60,u61,u62,u63,rfl⟩
  have hc1:ch1<524288:=hc1
  have HM:=zb hm
  have HO:=zb hO
  have HRR:=zb hR
  clear hm hO hR c0 c1 c2 f2
  have hby:=ye s n1
  cases hT:Pro.yW s n1 128 159
  ·have HN:Hid (Pro.z8 s nx=none):=by rw [za HRR];show Pro.jL s 128 159 n1 ch1=none;unfold Pro.jL;rw [if_neg (by simp [hT])]
   go_wp2_with (go_at_call 147;refine (yX b s n1 nx ch1 128 159 _ (za HM) hs hn1 hc0 (by omega) (by decide) (by decide)).mono ?_;rintro e w1 ⟨hO1,hT1⟩;obtain rfl:=vE hT1 hT;have HO1:=zb ((za HO).trans hO1);clear hT1 hO1)
   rw [yS]
   go_ret
   exact ⟨za HO1,.inr ⟨za HN,rfl⟩⟩
  ·have hlt1:n1<s.size:=Pro.jf hT
   have hge:=Pro.jg hT
   have HN:Hid (Pro.z8 s nx=Pro.oneM s (n1+1) (ch1*64+zc s n1-128)):=by rw [za HRR];show Pro.jL s 128 159 n1 ch1=_;unfold Pro.jL;rw [if_pos hT]
   go_wp2_with (go_at_call 147;refine (yX b s n1 nx ch1 128 159 _ (za HM) hs hn1 hc0 (by omega) (by decide) (by decide)).mono ?_;rintro e w1 ⟨hO1,hT1⟩;obtain ⟨rfl,hm1⟩:=vD hT1 hT;have HM1:=zb hm1;have HO1:=zb ((za HO).trans hO1);clear hT1 hO1 hm1)
   go_step3
   exact ⟨⟨by decide,⟨n1+1,ch1*64+zc s n1-128,za HM1,by omega,(show ch1*64+zc s n1-128<33554432 by omega),by omega,za HN⟩,za HO1,_,_,_,_,_,_,_,_,_,_,_,_,_,_,_,_,_,_,_,_,_,_,_,_,_,_,_,_,_,_,_,_,_,_,_,_,_,_,_,_,_,_,_,_,_,_,_,_,_,_,_,_,_,_,_,_,_,_,_,_,_,_,_,rfl⟩,by decide⟩
 case refine_5=>
  rintro a' w' ⟨_,⟨n1,ch1,hm,hc0,hc1,hn1,hR⟩,hO,u1,u2,u3,u4,u5,u6,u7,u8,u9,u10,u11,u12,u13,u14,u15,u16,u17,u18,u19,u20,u21,u22,u23,u24,u25,u26,u27,u28,u29,u30,u31,u32,u33,u34,u35,u36,u37,u38,u39,u40,u41,u42,u43,u44,u45,u46,u47,u48,u49,u50,u51,u52,u53,u54,u55,u56,u57,u58,u59,u60,u61,u62,u63,rfl⟩
  have hc1:ch1<524288:=hc1
  have HM:=zb hm
  have HO:=zb hO
  have HRR:=zb hR
  clear hm hO hR c0 c1 c2 f2
  have hby:=ye s n1
  cases hT:Pro.yW s n1 128 191
  ·have HN:Hid (Pro.z8 s nx=none):=by rw [za HRR];show Pro.twoM s n1 ch1=none;unfold Pro.twoM;rw [if_neg (by simp [hT])]
   go_wp2_with (go_at_call 147;refine (yX b s n1 nx ch1 128 191 _ (za HM) hs hn1 hc0 (by omega) (by decide) (by decide)).mono ?_;rintro e w1 ⟨hO1,hT1⟩;obtain rfl:=vE hT1 hT;have HO1:=zb ((za HO).trans hO1);clear hT1 hO1)
   rw [yS]
   go_ret
   exact ⟨za HO1,.inr ⟨za HN,rfl⟩⟩
  ·have hlt1:n1<s.size:=Pro.jf hT
   have hge:=Pro.jg hT
   have HN:Hid (Pro.z8 s nx=Pro.oneM s (n1+1) (ch1*64+zc s n1-128)):=by rw [za HRR];show Pro.twoM s n1 ch1=_;unfold Pro.twoM;rw [if_pos hT]
   go_wp2_with (go_at_call 147;refine (yX b s n1 nx ch1 128 191 _ (za HM) hs hn1 hc0 (by omega) (by decide) (by decide)).mono ?_;rintro e w1 ⟨hO1,hT1⟩;obtain ⟨rfl,hm1⟩:=vD hT1 hT;have HM1:=zb hm1;have HO1:=zb ((za HO).trans hO1);clear hT1 hO1 hm1)
   go_step3
   exact ⟨⟨by decide,⟨n1+1,ch1*64+zc s n1-128,za HM1,by omega,(show ch1*64+zc s n1-128<33554432 by omega),by omega,za HN⟩,za HO1,_,_,_,_,_,_,_,_,_,_,_,_,_,_,_,_,_,_,_,_,_,_,_,_,_,_,_,_,_,_,_,_,_,_,_,_,_,_,_,_,_,_,_,_,_,_,_,_,_,_,_,_,_,_,_,_,_,_,_,_,_,_,_,rfl⟩,by decide⟩
 case refine_6=>
  rintro a' w' ⟨_,⟨n1,ch1,hm,hc0,hc1,hn1,hR⟩,hO,u1,u2,u3,u4,u5,u6,u7,u8,u9,u10,u11,u12,u13,u14,u15,u16,u17,u18,u19,u20,u21,u22,u23,u24,u25,u26,u27,u28,u29,u30,u31,u32,u33,u34,u35,u36,u37,u38,u39,u40,u41,u42,u43,u44,u45,u46,u47,u48,u49,u50,u51,u52,u53,u54,u55,u56,u57,u58,u59,u60,u61,u62,u63,rfl⟩
  have hc1:ch1<8192:=hc1
  have HM:=zb hm
  have HO:=zb hO
  have HRR:=zb hR
  clear hm hO hR c0 c1 c2 f2
  have hby:=ye s n1
  cases hT:Pro.yW s n1 144 191
  ·have HN:Hid (Pro.z8 s nx=none):=by rw [za HRR];show Pro.xO s 144 191 n1 ch1=none;unfold Pro.xO;rw [if_neg (by simp [hT])]
   go_wp2_with (go_at_call 147;refine (yX b s n1 nx ch1 144 191 _ (za HM) hs hn1 hc0 (by omega) (by decide) (by decide)).mono ?_;rintro e w1 ⟨hO1,hT1⟩;obtain rfl:=vE hT1 hT;have HO1:=zb ((za HO).trans hO1);clear hT1 hO1)
   rw [yS]
   go_ret
   exact ⟨za HO1,.inr ⟨za HN,rfl⟩⟩
  ·have hlt1:n1<s.size:=Pro.jf hT
   have hge:=Pro.jg hT
   have HN:Hid (Pro.z8 s nx=Pro.twoM s (n1+1) (ch1*64+zc s n1-128)):=by rw [za HRR];show Pro.xO s 144 191 n1 ch1=_;unfold Pro.xO;rw [if_pos hT]
   go_wp2_with (go_at_call 147;refine (yX b s n1 nx ch1 144 191 _ (za HM) hs hn1 hc0 (by omega) (by decide) (by decide)).mono ?_;rintro e w1 ⟨hO1,hT1⟩;obtain ⟨rfl,hm1⟩:=vD hT1 hT;have HM1:=zb hm1;have HO1:=zb ((za HO).trans hO1);clear hT1 hO1 hm1)
   go_step3
   exact ⟨⟨by decide,⟨n1+1,ch1*64+zc s n1-128,za HM1,by omega,(show ch1*64+zc s n1-128<524288 by omega),by omega,za HN⟩,za HO1,_,_,_,_,_,_,_,_,_,_,_,_,_,_,_,_,_,_,_,_,_,_,_,_,_,_,_,_,_,_,_,_,_,_,_,_,_,_,_,_,_,_,_,_,_,_,_,_,_,_,_,_,_,_,_,_,_,_,_,_,_,_,_,rfl⟩,by decide⟩
 case refine_7=>
  rintro a' w' ⟨_,⟨n1,ch1,hm,hc0,hc1,hn1,hR⟩,hO,u1,u2,u3,u4,u5,u6,u7,u8,u9,u10,u11,u12,u13,u14,u15,u16,u17,u18,u19,u20,u21,u22,u23,u24,u25,u26,u27,u28,u29,u30,u31,u32,u33,u34,u35,u36,u37,u38,u39,u40,u41,u42,u43,u44,u45,u46,u47,u48,u49,u50,u51,u52,u53,u54,u55,u56,u57,u58,u59,u60,u61,u62,u63,rfl⟩
  have hc1:ch1<8192:=hc1
  have HM:=zb hm
  have HO:=zb hO
  have HRR:=zb hR
  clear hm hO hR c0 c1 c2 f2
  have hby:=ye s n1
  cases hT:Pro.yW s n1 128 191
  ·have HN:Hid (Pro.z8 s nx=none):=by rw [za HRR];show Pro.xO s 128 191 n1 ch1=none;unfold Pro.xO;rw [if_neg (by simp [hT])]
   go_wp2_with (go_at_call 147;refine (yX b s n1 nx ch1 128 191 _ (za HM) hs hn1 hc0 (by omega) (by decide) (by decide)).mono ?_;rintro e w1 ⟨hO1,hT1⟩;obtain rfl:=vE hT1 hT;have HO1:=zb ((za HO).trans hO1);clear hT1 hO1)
   rw [yS]
   go_ret
   exact ⟨za HO1,.inr ⟨za HN,rfl⟩⟩
  ·have hlt1:n1<s.size:=Pro.jf hT
   have hge:=Pro.jg hT
   have HN:Hid (Pro.z8 s nx=Pro.twoM s (n1+1) (ch1*64+zc s n1-128)):=by rw [za HRR];show Pro.xO s 128 191 n1 ch1=_;unfold Pro.xO;rw [if_pos hT]
   go_wp2_with (go_at_call 147;refine (yX b s n1 nx ch1 128 191 _ (za HM) hs hn1 hc0 (by omega) (by decide) (by decide)).mono ?_;rintro e w1 ⟨hO1,hT1⟩;obtain ⟨rfl,hm1⟩:=vD hT1 hT;have HM1:=zb hm1;have HO1:=zb ((za HO).trans hO1);clear hT1 hO1 hm1)
   go_step3
   exact ⟨⟨by decide,⟨n1+1,ch1*64+zc s n1-128,za HM1,by omega,(show ch1*64+zc s n1-128<524288 by omega),by omega,za HN⟩,za HO1,_,_,_,_,_,_,_,_,_,_,_,_,_,_,_,_,_,_,_,_,_,_,_,_,_,_,_,_,_,_,_,_,_,_,_,_,_,_,_,_,_,_,_,_,_,_,_,_,_,_,_,_,_,_,_,_,_,_,_,_,_,_,_,rfl⟩,by decide⟩
 case refine_8=>
  rintro a' w' ⟨_,⟨n1,ch1,hm,hc0,hc1,hn1,hR⟩,hO,u1,u2,u3,u4,u5,u6,u7,u8,u9,u10,u11,u12,u13,u14,u15,u16,u17,u18,u19,u20,u21,u22,u23,u24,u25,u26,u27,u28,u29,u30,u31,u32,u33,u34,u35,u36,u37,u38,u39,u40,u41,u42,u43,u44,u45,u46,u47,u48,u49,u50,u51,u52,u53,u54,u55,u56,u57,u58,u59,u60,u61,u62,u63,rfl⟩
  have hc1:ch1<8192:=hc1
  have HM:=zb hm
  have HO:=zb hO
  have HRR:=zb hR
  clear hm hO hR c0 c1 c2 f2
  have hby:=ye s n1
  cases hT:Pro.yW s n1 128 143
  ·have HN:Hid (Pro.z8 s nx=none):=by rw [za HRR];show Pro.xO s 128 143 n1 ch1=none;unfold Pro.xO;rw [if_neg (by simp [hT])]
   go_wp2_with (go_at_call 147;refine (yX b s n1 nx ch1 128 143 _ (za HM) hs hn1 hc0 (by omega) (by decide) (by decide)).mono ?_;rintro e w1 ⟨hO1,hT1⟩;obtain rfl:=vE hT1 hT;have HO1:=zb ((za HO).trans hO1);clear hT1 hO1)
   rw [yS]
   go_ret
   exact ⟨za HO1,.inr ⟨za HN,rfl⟩⟩
  ·have hlt1:n1<s.size:=Pro.jf hT
   have hge:=Pro.jg hT
   have HN:Hid (Pro.z8 s nx=Pro.twoM s (n1+1) (ch1*64+zc s n1-128)):=by rw [za HRR];show Pro.xO s 128 143 n1 ch1=_;unfold Pro.xO;rw [if_pos hT]
   go_wp2_with (go_at_call 147;refine (yX b s n1 nx ch1 128 143 _ (za HM) hs hn1 hc0 (by omega) (by decide) (by decide)).mono ?_;rintro e w1 ⟨hO1,hT1⟩;obtain ⟨rfl,hm1⟩:=vD hT1 hT;have HM1:=zb hm1;have HO1:=zb ((za HO).trans hO1);clear hT1 hO1 hm1)
   go_step3
   exact ⟨⟨by decide,⟨n1+1,ch1*64+zc s n1-128,za HM1,by omega,(show ch1*64+zc s n1-128<524288 by omega),by omega,za HN⟩,za HO1,_,_,_,_,_,_,_,_,_,_,_,_,_,_,_,_,_,_,_,_,_,_,_,_,_,_,_,_,_,_,_,_,_,_,_,_,_,_,_,_,_,_,_,_,_,_,_,_,_,_,_,_,_,_,_,_,_,_,_,_,_,_,_,rfl⟩,by decide⟩
end
end Go.Proofs.YtfnkbmglodopkaaGreatDoor
