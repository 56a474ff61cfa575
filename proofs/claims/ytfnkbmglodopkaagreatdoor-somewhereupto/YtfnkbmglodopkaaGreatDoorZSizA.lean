/- The program's sizes of parts. -/
import Derived.Test.YtfnkbmglodopkaaGreatDoorZParAParC
namespace Go.Proofs.YtfnkbmglodopkaaGreatDoor
section
open Go.RowKit
set_option maxHeartbeats 4000000
set_option maxRecDepth 1000000
theorem Tryz.as00 (v:Value)(w:World):(Instr.typeAssert (.iface 138 v) 70 138 true).run Tryz.prog w = .ok (.tuple #[v,.bool true]) w:=by kernel_rfl
theorem Tryz.as01 (v:Value)(w:World):(Instr.typeAssert (.iface 138 v) 70 205 true).run Tryz.prog w = .ok (.tuple #[.agg #[],.bool false]) w:=by kernel_rfl
theorem Tryz.as02 (v:Value)(w:World):(Instr.typeAssert (.iface 138 v) 70 206 true).run Tryz.prog w = .ok (.tuple #[.int .i32 0,.bool false]) w:=by kernel_rfl
theorem Tryz.as03 (v:Value)(w:World):(Instr.typeAssert (.iface 138 v) 70 207 true).run Tryz.prog w = .ok (.tuple #[.int .i32 0,.bool false]) w:=by kernel_rfl
theorem Tryz.as04 (v:Value)(w:World):(Instr.typeAssert (.iface 138 v) 70 211 true).run Tryz.prog w = .ok (.tuple #[.agg #[.bool false,.slice none 0 0,.slice none 0 0],.bool false]) w:=by kernel_rfl
theorem Tryz.as10 (v:Value)(w:World):(Instr.typeAssert (.iface 205 v) 70 138 true).run Tryz.prog w = .ok (.tuple #[.int .i64 0,.bool false]) w:=by kernel_rfl
theorem Tryz.as11 (v:Value)(w:World):(Instr.typeAssert (.iface 205 v) 70 205 true).run Tryz.prog w = .ok (.tuple #[v,.bool true]) w:=by kernel_rfl
theorem Tryz.as12 (v:Value)(w:World):(Instr.typeAssert (.iface 205 v) 70 206 true).run Tryz.prog w = .ok (.tuple #[.int .i32 0,.bool false]) w:=by kernel_rfl
theorem Tryz.as13 (v:Value)(w:World):(Instr.typeAssert (.iface 205 v) 70 207 true).run Tryz.prog w = .ok (.tuple #[.int .i32 0,.bool false]) w:=by kernel_rfl
theorem Tryz.as14 (v:Value)(w:World):(Instr.typeAssert (.iface 205 v) 70 211 true).run Tryz.prog w = .ok (.tuple #[.agg #[.bool false,.slice none 0 0,.slice none 0 0],.bool false]) w:=by kernel_rfl
theorem Tryz.as20 (v:Value)(w:World):(Instr.typeAssert (.iface 206 v) 70 138 true).run Tryz.prog w = .ok (.tuple #[.int .i64 0,.bool false]) w:=by kernel_rfl
theorem Tryz.as21 (v:Value)(w:World):(Instr.typeAssert (.iface 206 v) 70 205 true).run Tryz.prog w = .ok (.tuple #[.agg #[],.bool false]) w:=by kernel_rfl
theorem Tryz.as22 (v:Value)(w:World):(Instr.typeAssert (.iface 206 v) 70 206 true).run Tryz.prog w = .ok (.tuple #[v,.bool true]) w:=by kernel_rfl
theorem Tryz.as23 (v:Value)(w:World):(Instr.typeAssert (.iface 206 v) 70 207 true).run Tryz.prog w = .ok (.tuple #[.int .i32 0,.bool false]) w:=by kernel_rfl
theorem Tryz.as24 (v:Value)(w:World):(Instr.typeAssert (.iface 206 v) 70 211 true).run Tryz.prog w = .ok (.tuple #[.agg #[.bool false,.slice none 0 0,.slice none 0 0],.bool false]) w:=by kernel_rfl
theorem Tryz.as30 (v:Value)(w:World):(Instr.typeAssert (.iface 207 v) 70 138 true).run Tryz.prog w = .ok (.tuple #[.int .i64 0,.bool false]) w:=by kernel_rfl
theorem Tryz.as31 (v:Value)(w:World):(Instr.typeAssert (.iface 207 v) 70 205 true).run Tryz.prog w = .ok (.tuple #[.agg #[],.bool false]) w:=by kernel_rfl
theorem Tryz.as32 (v:Value)(w:World):(Instr.typeAssert (.iface 207 v) 70 206 true).run Tryz.prog w = .ok (.tuple #[.int .i32 0,.bool false]) w:=by kernel_rfl
theorem Tryz.as33 (v:Value)(w:World):(Instr.typeAssert (.iface 207 v) 70 207 true).run Tryz.prog w = .ok (.tuple #[v,.bool true]) w:=by kernel_rfl
theorem Tryz.as34 (v:Value)(w:World):(Instr.typeAssert (.iface 207 v) 70 211 true).run Tryz.prog w = .ok (.tuple #[.agg #[.bool false,.slice none 0 0,.slice none 0 0],.bool false]) w:=by kernel_rfl
theorem Tryz.as40 (v:Value)(w:World):(Instr.typeAssert (.iface 211 v) 70 138 true).run Tryz.prog w = .ok (.tuple #[.int .i64 0,.bool false]) w:=by kernel_rfl
theorem Tryz.as41 (v:Value)(w:World):(Instr.typeAssert (.iface 211 v) 70 205 true).run Tryz.prog w = .ok (.tuple #[.agg #[],.bool false]) w:=by kernel_rfl
theorem Tryz.as42 (v:Value)(w:World):(Instr.typeAssert (.iface 211 v) 70 206 true).run Tryz.prog w = .ok (.tuple #[.int .i32 0,.bool false]) w:=by kernel_rfl
theorem Tryz.as43 (v:Value)(w:World):(Instr.typeAssert (.iface 211 v) 70 207 true).run Tryz.prog w = .ok (.tuple #[.int .i32 0,.bool false]) w:=by kernel_rfl
theorem Tryz.as44 (v:Value)(w:World):(Instr.typeAssert (.iface 211 v) 70 211 true).run Tryz.prog w = .ok (.tuple #[v,.bool true]) w:=by kernel_rfl
theorem Tryz.as50 (v:Value)(w:World):(Instr.typeAssert (.iface 189 v) 70 138 true).run Tryz.prog w = .ok (.tuple #[.int .i64 0,.bool false]) w:=by kernel_rfl
theorem Tryz.as51 (v:Value)(w:World):(Instr.typeAssert (.iface 189 v) 70 205 true).run Tryz.prog w = .ok (.tuple #[.agg #[],.bool false]) w:=by kernel_rfl
theorem Tryz.as52 (v:Value)(w:World):(Instr.typeAssert (.iface 189 v) 70 206 true).run Tryz.prog w = .ok (.tuple #[.int .i32 0,.bool false]) w:=by kernel_rfl
theorem Tryz.as53 (v:Value)(w:World):(Instr.typeAssert (.iface 189 v) 70 207 true).run Tryz.prog w = .ok (.tuple #[.int .i32 0,.bool false]) w:=by kernel_rfl
theorem Tryz.as54 (v:Value)(w:World):(Instr.typeAssert (.iface 189 v) 70 211 true).run Tryz.prog w = .ok (.tuple #[.agg #[.bool false,.slice none 0 0,.slice none 0 0],.bool false]) w:=by kernel_rfl
theorem Tryz.as55 (v:Value)(w:World):(Instr.typeAssert (.iface 189 v) 70 189 true).run Tryz.prog w = .ok (.tuple #[v,.bool true]) w:=by kernel_rfl
theorem Tryz.as60 (v:Value)(w:World):(Instr.typeAssert (.iface 213 v) 70 138 true).run Tryz.prog w = .ok (.tuple #[.int .i64 0,.bool false]) w:=by kernel_rfl
theorem Tryz.as61 (v:Value)(w:World):(Instr.typeAssert (.iface 213 v) 70 205 true).run Tryz.prog w = .ok (.tuple #[.agg #[],.bool false]) w:=by kernel_rfl
theorem Tryz.as62 (v:Value)(w:World):(Instr.typeAssert (.iface 213 v) 70 206 true).run Tryz.prog w = .ok (.tuple #[.int .i32 0,.bool false]) w:=by kernel_rfl
theorem Tryz.as63 (v:Value)(w:World):(Instr.typeAssert (.iface 213 v) 70 207 true).run Tryz.prog w = .ok (.tuple #[.int .i32 0,.bool false]) w:=by kernel_rfl
theorem Tryz.as64 (v:Value)(w:World):(Instr.typeAssert (.iface 213 v) 70 211 true).run Tryz.prog w = .ok (.tuple #[.agg #[.bool false,.slice none 0 0,.slice none 0 0],.bool false]) w:=by kernel_rfl
theorem Tryz.as65 (v:Value)(w:World):(Instr.typeAssert (.iface 213 v) 70 189 true).run Tryz.prog w = .ok (.tuple #[.slice none 0 0,.bool false]) w:=by kernel_rfl
theorem Tryz.as66 (v:Value)(w:World):(Instr.typeAssert (.iface 213 v) 70 213 true).run Tryz.prog w = .ok (.tuple #[v,.bool true]) w:=by kernel_rfl
theorem Tryz.as70 (v:Value)(w:World):(Instr.typeAssert (.iface 215 v) 70 138 true).run Tryz.prog w = .ok (.tuple #[.int .i64 0,.bool false]) w:=by kernel_rfl
theorem Tryz.as71 (v:Value)(w:World):(Instr.typeAssert (.iface 215 v) 70 205 true).run Tryz.prog w = .ok (.tuple #[.agg #[],.bool false]) w:=by kernel_rfl
theorem Tryz.as72 (v:Value)(w:World):(Instr.typeAssert (.iface 215 v) 70 206 true).run Tryz.prog w = .ok (.tuple #[.int .i32 0,.bool false]) w:=by kernel_rfl
theorem Tryz.as73 (v:Value)(w:World):(Instr.typeAssert (.iface 215 v) 70 207 true).run Tryz.prog w = .ok (.tuple #[.int .i32 0,.bool false]) w:=by kernel_rfl
theorem Tryz.as74 (v:Value)(w:World):(Instr.typeAssert (.iface 215 v) 70 211 true).run Tryz.prog w = .ok (.tuple #[.agg #[.bool false,.slice none 0 0,.slice none 0 0],.bool false]) w:=by kernel_rfl
theorem Tryz.as75 (v:Value)(w:World):(Instr.typeAssert (.iface 215 v) 70 189 true).run Tryz.prog w = .ok (.tuple #[.slice none 0 0,.bool false]) w:=by kernel_rfl
theorem Tryz.as76 (v:Value)(w:World):(Instr.typeAssert (.iface 215 v) 70 213 true).run Tryz.prog w = .ok (.tuple #[.slice none 0 0,.bool false]) w:=by kernel_rfl
theorem Tryz.as77 (v:Value)(w:World):(Instr.typeAssert (.iface 215 v) 70 215 true).run Tryz.prog w = .ok (.tuple #[v,.bool true]) w:=by kernel_rfl
theorem leaf_any (w:World)(T:TypeId)(x:Value)(h:leafT T) :
  Calls Tryz.prog 65 #[.iface T x] w fun e w'=>e = .returned (.int .i64 1)∧w'=w:=by
 rcases h with rfl |rfl |rfl |rfl |rfl
 ·have a0:=Tryz.as00
  have a1:=Tryz.as01
  have a2:=Tryz.as02
  have a3:=Tryz.as03
  have a4:=Tryz.as04
  go_enter Tryz.func65,Tryz.ntmps65
  go_wp2_with fail
  go_ret
  exact ⟨rfl,rfl⟩
 ·have a0:=Tryz.as10
  have a1:=Tryz.as11
  have a2:=Tryz.as12
  have a3:=Tryz.as13
  have a4:=Tryz.as14
  go_enter Tryz.func65,Tryz.ntmps65
  go_wp2_with fail
  go_ret
  exact ⟨rfl,rfl⟩
 ·have a0:=Tryz.as20
  have a1:=Tryz.as21
  have a2:=Tryz.as22
  have a3:=Tryz.as23
  have a4:=Tryz.as24
  go_enter Tryz.func65,Tryz.ntmps65
  go_wp2_with fail
  go_ret
  exact ⟨rfl,rfl⟩
 ·have a0:=Tryz.as30
  have a1:=Tryz.as31
  have a2:=Tryz.as32
  have a3:=Tryz.as33
  have a4:=Tryz.as34
  go_enter Tryz.func65,Tryz.ntmps65
  go_wp2_with fail
  go_ret
  exact ⟨rfl,rfl⟩
 ·have a0:=Tryz.as40
  have a1:=Tryz.as41
  have a2:=Tryz.as42
  have a3:=Tryz.as43
  have a4:=Tryz.as44
  go_enter Tryz.func65,Tryz.ntmps65
  go_wp2_with fail
  go_ret
  exact ⟨rfl,rfl⟩
def Yy (f:Nat):Prop:=∀ (w:World) (A:Nat→Prop) (v:Value) (z:Int),zQ f w A v z→Calls Tryz.prog 65 #[v] w fun e w'=>e = .returned (.int .i64 z)∧zd (fun _=>False) w w'
theorem zQ.drewN {f:Nat}{w:World}{A:Nat→Prop}{v:Value}{z:Int}(h:zQ f w A v z)(q:Nat):zQ f (w.drewN q) A v z:=zQ.keep ((zd.refl (fun _=>False) w).drewN q) (fun _ _ f=>f) f v z h
theorem KI (f:Nat)(hf:Yy f)(w:World)(A:Nat→Prop)(sv:Value)(xs:List Value)(zs:List Int)(hr:jB w A sv xs)(hx:xs.length≤1000)(hs:Sizes f w A xs zs) :
  Calls Tryz.prog 101 #[sv] w fun e w'=>e = .returned (.int .i64 (Pro.sumS 0 zs))∧zd (fun _=>False) w w':=by
 have HS:=zb hs
 have HF:=zb hf
 have hzl:=hs.1
 clear hs hf
 rcases hr with ⟨rfl,rfl⟩ |⟨g,cap,rfl,hA,hc,hg,hcell⟩
 ·have hz:zs=[]:=List.eq_nil_of_length_eq_zero (by simpa using hzl)
  subst hz
  go_enter Tryz.func101,Tryz.ntmps101
  go_wp2_with fail
  refine wp_loop_rounds 1 ?_
  rw [rounds_succ]
  go_wp2_with fail
  go_ret
  exact ⟨rfl,zd.refl _ _⟩
 ·have HC:=zb hcell
  clear hcell
  go_enter Tryz.func101,Tryz.ntmps101
  go_wp2_with fail
  go_loopw [3,8] (fun t i wr=>∃ (j:Nat),i = .int .i64 j∧j≤xs.length∧zd (fun _=>False) w wr∧0≤Pro.sumS 0 (zs.take j)∧Pro.sumS 0 (zs.take j)≤301∧t = .int .i64 (Pro.sumS 0 (zs.take j))) (fun _ i _=>xs.length-(intOf i).toNat)
  case atStart=>exact ⟨0,rfl,by omega,zd.refl _ _,by simp [Pro.sumS],by simp [Pro.sumS],by simp [Pro.sumS]⟩
  case round=>
   obtain ⟨j,rfl,hj,hO,ht0,ht1,rfl⟩:=hrel
   by_cases hlt:j<xs.length
   ·have hx1:=List.getElem?_eq_getElem hlt
    have hz1:zs[j]?=some (zs[j]'(by omega)):=List.getElem?_eq_getElem (by omega)
    have hcj:=(hO.cell (World.block_lt_of_cell? w _ (za HC j xs[j] hx1)) (fun f=>f)).trans (za HC j xs[j] hx1)
    have hsj:=zQ.keep hO (fun _ _ f=>f) f _ _ ((za HS).2 j xs[j] (zs[j]'(by omega)) hx1 hz1)
    have hbd:=zQ.bd f _ _ hsj
    have hst:zs.take (j+1)=zs.take j++[zs[j]'(by omega)]:=by rw [List.take_add_one,hz1];rfl
    have Hst:=zb hst
    have Hsj:=zb hsj
    generalize hZ:zs[j]'(by omega)=Z at *
    generalize hX:xs[j]=X at *
    clear hx1 hz1 hst hsj hZ hX
    go_wp2_with (go_at_call 65;refine (za HF _ A X Z (za Hsj)).mono ?_;rintro e w1 ⟨rfl,hO1⟩)
    have e1:Pro.sumS 0 (zs.take (j+1))=min (Pro.sumS 0 (zs.take j)+Z) 301:=by rw [za Hst,Pro.sumS_append]
    exact ⟨⟨j+1,by go_num,by omega,hO.trans hO1,by rw [e1];omega,by rw [e1];omega,by rw [e1,show (if 301<Pro.sumS 0 (zs.take j)+Z then (301:Int) else Pro.sumS 0 (zs.take j)+Z)=min (Pro.sumS 0 (zs.take j)+Z) 301 by split<;>omega]⟩,by simp [intOf];omega⟩
   ·have HE:Hid (zs.take j=zs):=by exact List.take_of_length_le (by omega)
    go_wp2_with fail
    go_ret
    rw [za HE]
    exact ⟨rfl,hO⟩
theorem sizes_bd {f:Nat}{w:World}{A:Nat→Prop}{xs:List Value}{zs:List Int}(h:Sizes f w A xs zs):0≤Pro.sumS 0 zs∧Pro.sumS 0 zs≤301:=by
 refine Pro.wk zs 0 (by omega) (by omega) ?_
 intro y hy
 obtain ⟨j,hj⟩:=jc hy
 have hjl:j<xs.length:=by
  by_cases hlt:j<zs.length
  ·have:=h.1;omega
  ·rw [List.getElem?_eq_none (by omega)] at hj;cases hj
 exact (zQ.bd f _ _ (h.2 j xs[j] y (List.getElem?_eq_getElem hjl) hj)).1
theorem J2 {x y X Y:Int}(h0:0≤x)(h1:x≤X)(h2:0≤y)(h3:y≤Y):0≤x*y∧x*y≤X*Y:=by
 refine ⟨Int.mul_nonneg h0 h2,?_⟩
 have a:=Int.mul_le_mul_of_nonneg_right h1 h2
 have b:=Int.mul_le_mul_of_nonneg_left h3 (show (0:Int)≤X by omega)
 omega
theorem Yz (f:Nat)(hf:Yy f)(w:World)(A:Nat→Prop)(p:Value)(l m z:Int)(hs:zQ f w A p z)(h0:0≤l)(h1:l≤100)(h2:-1≤m)(h3:m≤100)(h4:m = -1∨l≤m) :
  Calls Tryz.prog 102 #[.agg #[p,.int .i64 l,.int .i64 m]] w fun e w'=>e = .returned (.int .i64 (Pro.repS z l m))∧zd (fun _=>False) w w':=by
 have hbd:=zQ.bd f _ _ hs
 have HS:=zb hs
 have HF:=zb hf
 clear hs hf
 by_cases hm:m = -1
 ·have HR:Hid (Pro.repS z l m=max l 1*z+1):=by unfold Pro.repS;rw [if_pos hm];rfl
  have hmx:(if l<1 then (1:Int) else l)=max l 1:=by split<;>omega
  have hmm:=J2 (x:=max l 1) (y:=z) (X:=100) (Y:=301) (by omega) (by omega) hbd.1 hbd.2
  subst hm
  go_enter Tryz.func102,Tryz.ntmps102
  go_wp2_with (go_at_call 65;refine (za HF _ A p z (zQ.keep ((zd.refl (fun _=>False) w).alloc _) (fun _ _ f=>f) f _ _ (za HS))).mono ?_;rintro e w1 ⟨rfl,hO1⟩;have r1:w1.cell? ⟨w.heap.size,1,none⟩=some (.int .i64 l):=zf hO1 _ _ (zj w _ rfl _ _ 1 _ rfl) (fun f=>f);have r2:w1.cell? ⟨w.heap.size,2,none⟩=some (.int .i64 (-1)):=zf hO1 _ _ (zj w _ rfl _ _ 2 _ rfl) (fun f=>f))
  go_ret
  rw [za HR]
  exact ⟨rfl,((zd.refl _ _).alloc _).trans hO1⟩
 ·have HR:Hid (Pro.repS z l m=l*z+(m-l)*(z+1)):=by unfold Pro.repS;rw [if_neg hm];rfl
  have hm':(m == -1)=false:=by simp [hm]
  have hm1:=J2 (x:=l) (y:=z) (X:=100) (Y:=301) h0 h1 hbd.1 hbd.2
  have hm2:=J2 (x:=m-l) (y:=z+1) (X:=100) (Y:=302) (by omega) (by omega) (by omega) (by omega)
  go_enter Tryz.func102,Tryz.ntmps102
  go_wp2_with (go_at_call 65;refine (za HF _ A p z (zQ.keep ((zd.refl (fun _=>False) w).alloc _) (fun _ _ f=>f) f _ _ (za HS))).mono ?_;rintro e w1 ⟨rfl,hO1⟩;have r1:w1.cell? ⟨w.heap.size,1,none⟩=some (.int .i64 l):=zf hO1 _ _ (zj w _ rfl _ _ 1 _ rfl) (fun f=>f);have r2:w1.cell? ⟨w.heap.size,2,none⟩=some (.int .i64 m):=zf hO1 _ _ (zj w _ rfl _ _ 2 _ rfl) (fun f=>f))
  go_ret
  rw [za HR]
  exact ⟨rfl,((zd.refl _ _).alloc _).trans hO1⟩
theorem zQ.form {f:Nat}{w:World}{A:Nat→Prop}{v:Value}{z:Int}(h:zQ f w A v z):∃ T y,v = .iface T y:=by
 cases f with
 |zero=>exact h.elim
 |succ f=>
  rcases h with ⟨_,T,x,_,h⟩ |⟨sv,_,_,h,_⟩ |⟨sv,_,_,h,_⟩ |⟨p,l,m,_,h,_⟩
  ·exact ⟨_,_,h⟩
  ·exact ⟨_,_,h⟩
  ·exact ⟨_,_,h⟩
  ·exact ⟨_,_,h⟩
theorem VT (f:Nat)(hf:Yy f):Yy (f+1):=by
 intro w A v z h
 have hbd:=zQ.bd _ _ _ h
 rcases h with ⟨rfl,T,x,hl,rfl⟩ |⟨sv,xs,zs,rfl,h2,h0,h3,h4,h5,h6⟩ |⟨sv,xs,zs,rfl,h2,h0,h3,h4,h5⟩ |⟨p,l,m,z',rfl,h2,h3,h4,h5,h6,h7,h8⟩
 ·exact (leaf_any w T x hl).mono (by rintro e w1 ⟨rfl,rfl⟩;exact ⟨rfl,zd.refl _ _⟩)
 ·have hsum:=KI f hf w A sv xs zs h2 h0 ⟨h3,h4⟩
  have HSum:=zb hsum
  have hsb:0≤Pro.sumS 0 zs∧Pro.sumS 0 zs≤301:=sizes_bd ⟨h3,h4⟩
  obtain ⟨sa,sc,rfl⟩:∃ sa sc,sv = .slice sa xs.length sc:=by
   rcases h2 with ⟨rfl,rfl⟩ |⟨g,cap,rfl,_⟩
   ·exact ⟨_,_,rfl⟩
   ·exact ⟨_,_,rfl⟩
  clear hsum h2 h4 hf
  have a0:=Tryz.as50
  have a1:=Tryz.as51
  have a2:=Tryz.as52
  have a3:=Tryz.as53
  have a4:=Tryz.as54
  have a5:=Tryz.as55
  go_enter Tryz.func65,Tryz.ntmps65
  go_wp2_with (go_at_call 101;refine (za HSum).mono ?_;rintro e w1 ⟨rfl,hO1⟩)
  all_goals
   go_ret
   exact ⟨yZ (by omega),hO1⟩
 ·have hsum:=KI f hf w A sv xs zs h2 h0 ⟨h3,h4⟩
  have HSum:=zb hsum
  clear hsum h2 h4 hf
  have a0:=Tryz.as60
  have a1:=Tryz.as61
  have a2:=Tryz.as62
  have a3:=Tryz.as63
  have a4:=Tryz.as64
  have a5:=Tryz.as65
  have a6:=Tryz.as66
  go_enter Tryz.func65,Tryz.ntmps65
  go_wp2_with (go_at_call 101;refine (za HSum).mono ?_;rintro e w1 ⟨rfl,hO1⟩)
  go_ret
  rw [h5]
  exact ⟨rfl,hO1⟩
 ·obtain ⟨TT,px,rfl⟩:=zQ.form h2
  have HF:=zb hf
  have HS:=zb h2
  have hz:=zQ.bd f _ _ h2
  have hnn:=Pro.ZO (z:=z') hz.1 h3 h7
  clear h2 hf
  have a0:=Tryz.as70
  have a1:=Tryz.as71
  have a2:=Tryz.as72
  have a3:=Tryz.as73
  have a4:=Tryz.as74
  have a5:=Tryz.as75
  have a6:=Tryz.as76
  have a7:=Tryz.as77
  go_enter Tryz.func65,Tryz.ntmps65
  go_wp2_with (go_at_call 102;refine (Yz f (za HF) _ A (.iface TT px) l m z' (zQ.keep ((zd.refl (fun _=>False) w).alloc _) (fun _ _ f=>f) f _ _ (za HS)) h3 h4 h5 h6 h7).mono ?_;rintro e w1 ⟨rfl,hO1⟩)
  all_goals
   go_ret
   exact ⟨yZ (by omega),((zd.refl _ _).alloc _).trans hO1⟩
theorem Jc:∀ f,Yy f
 |0=>fun _ _ _ _ h=>h.elim
 |f+1=>VT f (Jc f)
theorem qT (f:Nat)(w:World)(A:Nat→Prop)(v:Value)(z:Int)(h:zQ f w A v z) :
  Calls Tryz.prog 47 #[v] w fun e w'=>e = .returned (.int .i64 (min (z+1) 301))∧zd (fun _=>False) w w':=by
 have hbd:=zQ.bd _ _ _ h
 have H:=zb h
 clear h
 go_enter Tryz.func47,Tryz.ntmps47
 go_wp2_with (go_at_call 65;refine (Jc f _ A v z (za H)).mono ?_;rintro e w1 ⟨rfl,hO1⟩)
 all_goals
  go_ret
  exact ⟨yZ (by omega),hO1⟩
end
end Go.Proofs.YtfnkbmglodopkaaGreatDoor
