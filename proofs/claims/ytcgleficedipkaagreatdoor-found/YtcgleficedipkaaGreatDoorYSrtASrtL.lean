/- The library's sort of a row of characters: it returns, and turns the row's cells alone. -/
import Derived.BigGuard
import Derived.BigCall
import Derived.CellFam
import Derived.Deep.Draws
import Derived.BigRegion
import Derived.Sort.Defs
import Derived.Shelf.Abstract
import Derived.Test.YtcgleficedipkaaGreatDoorYRefARefJ
import Derived.Shelf.SlSortCmp.WholeK
import Derived.Ground.SlsfProg
namespace Go.Proofs.YtcgleficedipkaaGreatDoor
open _root_.Go.Proofs.Tryz
variable (x:Int)(w:World)(n:Nat)
section
open Go.RowKit
theorem Za:Calls prog 228 #[.int .i32 x] w fun e w'=>e = .returned (.bool false)/\w'=w:=by
 go_enter func228,ntmps228;go_wp2_with fail;go_ret;exact ⟨by simp,rfl⟩
theorem zz (y:Int)(w:World):Calls prog 205 #[.int .i32 x,.int .i32 y] w fun e w'=>e = .returned (.bool (Sort.ltInt x y))/\w'=w:=by
 go_enter func205,ntmps205;go_wp2_with (go_at_call 228;refine (Za _ _).mono ?_;rintro e w' ⟨rfl,rfl⟩);go_ret;exact ⟨rfl,rfl⟩

def Cnt (w:World)(sb:Nat)(s:Int):Prop:=w.cell? ⟨sb,0,none⟩=some (.int .i64 s)/\w.frozen? ⟨sb,0,none⟩=false
theorem W9 {w A B:World}{k0:Nat}(hA:Q8 w A)(hB:ze (zt k0) A B)(h0:w.heap.size<=k0:=by omega):Q8 w B:=
 ⟨hB.os.trans hA.os,hB.tape.trans hA.tape,hB.output.trans hA.output,yZ hA.size hB.size,fun k hk _=>(hB.block k (yh hk hA.size) (fun e=>by unfold zt at e;omega)).trans (hA.block k hk (fun f=>f))⟩



end
section
open Go.RowKit Go.Shelf Go.Lib Go.Sort
def KA:Go.Shelf.Ren:=⟨fun |6=>194 |15=>169 |14=>227 |28=>208 |29=>209 |20=>256 |21=>257 |22=>258 |23=>259 |24=>260 |25=>261 |26=>262 |27=>263 |46=>287 |47=>230 |48=>231 |49=>288 |50=>289 |57=>301 |n=>n,fun |22=>159 |24=>265 |25=>350 |3=>3 |39=>324 |0=>0 |53=>361 |55=>363 |4=>4 |46=>355 |45=>354 |50=>32 |5=>5 |9=>9 |66=>375 |70=>379 |76=>402 |77=>299 |n=>n,fun |n=>n⟩
theorem wK:Go.Proofs.SlLaysF0.n6 prog KA:={
 mixed:=by kernel_rfl
 f6:=⟨Tryz.f194.name,by decide,func194.trans (congrArg some (by kernel_rfl))⟩
 f14:=⟨Tryz.f227.name,by decide,func227.trans (congrArg some (by kernel_rfl))⟩
 f15:=func169.trans (congrArg some (by kernel_rfl))
 f20:=⟨Tryz.f256.name,by decide,func256.trans (congrArg some (by kernel_rfl))⟩
 f21:=⟨Tryz.f257.name,by decide,func257.trans (congrArg some (by kernel_rfl))⟩
 f22:=⟨Tryz.f258.name,by decide,func258.trans (congrArg some (by kernel_rfl))⟩
 f23:=⟨Tryz.f259.name,by decide,func259.trans (congrArg some (by kernel_rfl))⟩
 f24:=⟨Tryz.f260.name,by decide,func260.trans (congrArg some (by kernel_rfl))⟩
 f25:=⟨Tryz.f261.name,by decide,func261.trans (congrArg some (by kernel_rfl))⟩
 f26:=⟨Tryz.f262.name,by decide,func262.trans (congrArg some (by kernel_rfl))⟩
 f27:=⟨Tryz.f263.name,by decide,func263.trans (congrArg some (by kernel_rfl))⟩
 f28:=func208.trans (congrArg some (by kernel_rfl))
 f29:=func209.trans (congrArg some (by kernel_rfl))
 f46:=⟨Tryz.f287.name,by decide,func287.trans (congrArg some (by kernel_rfl))⟩
 f47:=func230.trans (congrArg some (by kernel_rfl))
 f48:=func231.trans (congrArg some (by kernel_rfl))
 f49:=⟨Tryz.f288.name,by decide,func288.trans (congrArg some (by kernel_rfl))⟩
 f50:=⟨Tryz.f289.name,by decide,func289.trans (congrArg some (by kernel_rfl))⟩
 f57:=⟨Tryz.f301.name,by decide,func301.trans (congrArg some (by kernel_rfl))⟩
 t0:=underlying0
 a0:=Tryz.isAgg0
 z0:=Tryz.sizeOf0
 v0:=Tryz.zeroValue0
 t3:=underlying3
 a3:=Tryz.isAgg3
 z3:=Tryz.sizeOf3
 v3:=Tryz.zeroValue3
 t4:=underlying4
 a4:=Tryz.isAgg4
 z4:=Tryz.sizeOf4
 v4:=Tryz.zeroValue4
 t5:=underlying5
 a5:=Tryz.isAgg5
 z5:=Tryz.sizeOf5
 v5:=Tryz.zeroValue5
 t9:=underlying9
 a9:=Tryz.isAgg9
 z9:=Tryz.sizeOf9
 v9:=Tryz.zeroValue9
 t22:=underlying159
 a22:=Tryz.isAgg159
 z22:=Tryz.sizeOf159
 v22:=Tryz.zeroValue159
 t25:=underlying350
 a25:=Tryz.isAgg350
 z25:=Tryz.sizeOf350
 v25:=Tryz.zeroValue350
 t39:=underlying324
 a39:=Tryz.isAgg324
 z39:=Tryz.sizeOf324
 v39:=Tryz.zeroValue324
 t45:=underlying354
 a45:=Tryz.isAgg354
 z45:=Tryz.sizeOf354
 v45:=Tryz.zeroValue354
 t46:=underlying355
 a46:=Tryz.isAgg355
 z46:=Tryz.sizeOf355
 v46:=Tryz.zeroValue355
 t50:=underlying32
 a50:=Tryz.isAgg32
 z50:=Tryz.sizeOf32
 v50:=Tryz.zeroValue32
 t53:=underlying361
 a53:=Tryz.isAgg361
 z53:=Tryz.sizeOf361
 v53:=Tryz.zeroValue361
 t55:=underlying363
 a55:=Tryz.isAgg363
 z55:=Tryz.sizeOf363
 v55:=Tryz.zeroValue363
 t66:=underlying375
 a66:=Tryz.isAgg375
 z66:=Tryz.sizeOf375
 v66:=Tryz.zeroValue375
 t70:=underlying379
 a70:=Tryz.isAgg379
 z70:=Tryz.sizeOf379
 v70:=Tryz.zeroValue379
 t76:=underlying402
 a76:=Tryz.isAgg402
 z76:=Tryz.sizeOf402
 v76:=Tryz.zeroValue402
 t77:=underlying299
 a77:=Tryz.isAgg299
 z77:=Tryz.sizeOf299
 v77:=Tryz.zeroValue299 }
theorem VV (hn:n<4611686018427387904)(w:World):Calls prog 169 #[.int .u64 (n:Int)] w fun e w'=>e = .returned (.int .i64 (Lib.bitLen n:Nat))/\w'=w:=by
 have h:=Any.bits_Len (SlLaysF0.n15.bits { wK with }) (n:Int) w (by omega) (by omega);rw [vK] at h;exact h
theorem npowR (hn:n<4611686018427387904)(w:World):Calls prog 230 #[.int .i64 n] w fun e w'=>e = .returned (.int .u64 ((1 <<< Sort.bitsLen n:Nat):Int))/\w'=w:=AnyF.nextPowerOfTwo { wK with } n hn w
theorem pow_le (hn:1<=n):1 <<< Sort.bitsLen n<=2*n:=by
 have h1:¬n<2 ^ (Sort.bitsLen n-1):=fun h=>by
  have:=(bitsLen_le_iff n (Sort.bitsLen n-1)).2 h;have h0:Sort.bitsLen n≠0:=by unfold Sort.bitsLen;rw [if_neg (by omega)];omega
  omega
 have h0:Sort.bitsLen n≠0:=by unfold Sort.bitsLen;rw [if_neg (by omega)];omega
 rw [Nat.one_shiftLeft];have h2:2 ^ Sort.bitsLen n=2*2 ^ (Sort.bitsLen n-1):=by rw [<-Nat.pow_succ'];congr 1;omega
 omega
end
end Go.Proofs.YtcgleficedipkaaGreatDoor
