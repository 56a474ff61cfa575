/- The library's sort of a row of characters: it returns, and turns the row's cells alone. -/
import Derived.BigGuard
import Derived.BigCall
import Derived.CellFam
import Derived.Deep.Draws
import Derived.BigRegion
import Derived.Sort.Defs
import Derived.Shelf.Abstract
import Derived.Test.YtfnkbmglodopkaaGreatDoorYRefARefV
import Derived.Shelf.SlSortCmp.WholeK
import Derived.Ground.SlsfProg
import Derived.Laws.Bits64b
import Derived.Deep.Cut
import Derived.Deep.CutRange
import Derived.Deep.CutBlock
namespace Go.Proofs.YtfnkbmglodopkaaGreatDoor
section
open Go.RowKit
theorem Za (x:Int)(w:World):Calls Tryz.prog 222 #[.int .i32 x] w fun e w'=>e = .returned (.bool false)∧w'=w:=by
 go_enter Tryz.func222,Tryz.ntmps222
 go_wp2_with fail
 go_ret
 exact ⟨by simp,rfl⟩
theorem zz (x y:Int)(w:World):Calls Tryz.prog 187 #[.int .i32 x,.int .i32 y] w fun e w'=>e = .returned (.bool (Sort.ltInt x y))∧w'=w:=by
 go_enter Tryz.func187,Tryz.ntmps187
 go_wp2_with (go_at_call 222;refine (Za _ _).mono ?_;rintro e w' ⟨rfl,rfl⟩)
 go_ret
 exact ⟨rfl,rfl⟩

def Cnt (w:World)(sb:Nat)(s:Int):Prop:=w.cell? ⟨sb,0,none⟩=some (.int .i64 s)∧w.frozen? ⟨sb,0,none⟩=false
theorem W9 {w A B:World}{k0:Nat}(hA:ze (fun _=>False) w A)(hB:ze (zt k0) A B)(h0:w.heap.size≤k0:=by omega):ze (fun _=>False) w B:=
 ⟨hB.os.trans hA.os,hB.tape.trans hA.tape,hB.output.trans hA.output,Nat.le_trans hA.size hB.size,fun k hk _=>(hB.block k (Nat.lt_of_lt_of_le hk hA.size) (fun e=>by unfold zt at e;omega)).trans (hA.block k hk (fun f=>f))⟩



end
section
open Go.RowKit Go.Shelf Go.Lib Go.Sort
def KA:Go.Shelf.Ren:=⟨fun |6=>176 |15=>145 |14=>221 |28=>190 |29=>191 |20=>259 |21=>260 |22=>261 |23=>262 |24=>263 |25=>264 |26=>265 |27=>266 |46=>299 |47=>224 |48=>225 |49=>300 |50=>301 |57=>320 |n=>n,fun |22=>135 |24=>224 |25=>313 |3=>3 |39=>274 |0=>0 |53=>324 |55=>326 |4=>4 |46=>318 |45=>317 |50=>51 |5=>5 |9=>9 |66=>366 |70=>370 |76=>408 |77=>327 |n=>n,fun |n=>n⟩
theorem wK:Go.Proofs.SlLaysF0.n6 Tryz.prog KA:={
 mixed:=by kernel_rfl
 f6:=⟨Tryz.f176.name,by decide,Tryz.func176.trans (congrArg some (by kernel_rfl))⟩
 f14:=⟨Tryz.f221.name,by decide,Tryz.func221.trans (congrArg some (by kernel_rfl))⟩
 f15:=Tryz.func145.trans (congrArg some (by kernel_rfl))
 f20:=⟨Tryz.f259.name,by decide,Tryz.func259.trans (congrArg some (by kernel_rfl))⟩
 f21:=⟨Tryz.f260.name,by decide,Tryz.func260.trans (congrArg some (by kernel_rfl))⟩
 f22:=⟨Tryz.f261.name,by decide,Tryz.func261.trans (congrArg some (by kernel_rfl))⟩
 f23:=⟨Tryz.f262.name,by decide,Tryz.func262.trans (congrArg some (by kernel_rfl))⟩
 f24:=⟨Tryz.f263.name,by decide,Tryz.func263.trans (congrArg some (by kernel_rfl))⟩
 f25:=⟨Tryz.f264.name,by decide,Tryz.func264.trans (congrArg some (by kernel_rfl))⟩
 f26:=⟨Tryz.f265.name,by decide,Tryz.func265.trans (congrArg some (by kernel_rfl))⟩
 f27:=⟨Tryz.f266.name,by decide,Tryz.func266.trans (congrArg some (by kernel_rfl))⟩
 f28:=Tryz.func190.trans (congrArg some (by kernel_rfl))
 f29:=Tryz.func191.trans (congrArg some (by kernel_rfl))
 f46:=⟨Tryz.f299.name,by decide,Tryz.func299.trans (congrArg some (by kernel_rfl))⟩
 f47:=Tryz.func224.trans (congrArg some (by kernel_rfl))
 f48:=Tryz.func225.trans (congrArg some (by kernel_rfl))
 f49:=⟨Tryz.f300.name,by decide,Tryz.func300.trans (congrArg some (by kernel_rfl))⟩
 f50:=⟨Tryz.f301.name,by decide,Tryz.func301.trans (congrArg some (by kernel_rfl))⟩
 f57:=⟨Tryz.f320.name,by decide,Tryz.func320.trans (congrArg some (by kernel_rfl))⟩
 t0:=Tryz.underlying0
 a0:=Tryz.isAgg0
 z0:=Tryz.sizeOf0
 v0:=Tryz.zeroValue0
 t3:=Tryz.underlying3
 a3:=Tryz.isAgg3
 z3:=Tryz.sizeOf3
 v3:=Tryz.zeroValue3
 t4:=Tryz.underlying4
 a4:=Tryz.isAgg4
 z4:=Tryz.sizeOf4
 v4:=Tryz.zeroValue4
 t5:=Tryz.underlying5
 a5:=Tryz.isAgg5
 z5:=Tryz.sizeOf5
 v5:=Tryz.zeroValue5
 t9:=Tryz.underlying9
 a9:=Tryz.isAgg9
 z9:=Tryz.sizeOf9
 v9:=Tryz.zeroValue9
 t22:=Tryz.underlying135
 a22:=Tryz.isAgg135
 z22:=Tryz.sizeOf135
 v22:=Tryz.zeroValue135
 t25:=Tryz.underlying313
 a25:=Tryz.isAgg313
 z25:=Tryz.sizeOf313
 v25:=Tryz.zeroValue313
 t39:=Tryz.underlying274
 a39:=Tryz.isAgg274
 z39:=Tryz.sizeOf274
 v39:=Tryz.zeroValue274
 t45:=Tryz.underlying317
 a45:=Tryz.isAgg317
 z45:=Tryz.sizeOf317
 v45:=Tryz.zeroValue317
 t46:=Tryz.underlying318
 a46:=Tryz.isAgg318
 z46:=Tryz.sizeOf318
 v46:=Tryz.zeroValue318
 t50:=Tryz.underlying51
 a50:=Tryz.isAgg51
 z50:=Tryz.sizeOf51
 v50:=Tryz.zeroValue51
 t53:=Tryz.underlying324
 a53:=Tryz.isAgg324
 z53:=Tryz.sizeOf324
 v53:=Tryz.zeroValue324
 t55:=Tryz.underlying326
 a55:=Tryz.isAgg326
 z55:=Tryz.sizeOf326
 v55:=Tryz.zeroValue326
 t66:=Tryz.underlying366
 a66:=Tryz.isAgg366
 z66:=Tryz.sizeOf366
 v66:=Tryz.zeroValue366
 t70:=Tryz.underlying370
 a70:=Tryz.isAgg370
 z70:=Tryz.sizeOf370
 v70:=Tryz.zeroValue370
 t76:=Tryz.underlying408
 a76:=Tryz.isAgg408
 z76:=Tryz.sizeOf408
 v76:=Tryz.zeroValue408
 t77:=Tryz.underlying327
 a77:=Tryz.isAgg327
 z77:=Tryz.sizeOf327
 v77:=Tryz.zeroValue327 }
theorem VV (n:Nat)(hn:n<4611686018427387904)(w:World):Calls Tryz.prog 145 #[.int .u64 (n:Int)] w fun e w'=>e = .returned (.int .i64 (Lib.bitLen n:Nat))∧w'=w:=by
 have h:=Any.bits_Len (SlLaysF0.n15.bits { wK with }) (n:Int) w (by omega) (by omega)
 rw [Int.toNat_natCast] at h
 exact h
theorem npowR (n:Nat)(hn:n<4611686018427387904)(w:World):Calls Tryz.prog 224 #[.int .i64 n] w fun e w'=>e = .returned (.int .u64 ((1 <<< Sort.bitsLen n:Nat):Int))∧w'=w:=AnyF.nextPowerOfTwo { wK with } n hn w
theorem pow_le (n:Nat)(hn:1≤n):1 <<< Sort.bitsLen n≤2*n:=by
 have h1:¬n<2 ^ (Sort.bitsLen n-1):=fun h=>by
  have:=(bitsLen_le_iff n (Sort.bitsLen n-1)).2 h
  have h0:Sort.bitsLen n≠0:=by unfold Sort.bitsLen;rw [if_neg (by omega)];omega
  omega
 have h0:Sort.bitsLen n≠0:=by unfold Sort.bitsLen;rw [if_neg (by omega)];omega
 rw [Nat.one_shiftLeft]
 have h2:2 ^ Sort.bitsLen n=2*2 ^ (Sort.bitsLen n-1):=by rw [←Nat.pow_succ'];congr 1;omega
 omega
end
section
open Go.RowKit
def vQ (w:World)(sb:Nat)(X:Nat):Prop:=w.cell? ⟨sb,0,none⟩=some (.int .u64 (X:Int))∧w.frozen? ⟨sb,0,none⟩=false
theorem vQ.two {w:World}{sb X blk i j q:Nat}{u v:Value}(h:vQ w sb X)(hb:blk≠sb):vQ (((w.drewN q).setCell ⟨blk,i,none⟩ u).setCell ⟨blk,j,none⟩ v) sb X:=
 ⟨(World.cell?_setCell_other _ _ _ _ (by simp)).trans ((World.cell?_setCell_other _ _ _ _ (by simp)).trans h.1),(zk _ _ _ _).trans ((zk _ _ _ _).trans h.2)⟩
theorem vQ.two' {w:World}{sb X blk i j:Nat}{u v:Value}(h:vQ w sb X)(hb:blk≠sb):vQ (((w.setCell ⟨blk,i,none⟩ u).setCell ⟨blk,j,none⟩ v).drew) sb X:=vQ.two (q:=0) h hb

theorem insertN (w:World) :
  Calls Tryz.prog 181 #[.slice none 0 0,.int .i64 0,.int .i64 0] w fun e w'=>e = .returned (.tuple #[])∧ze (fun _=>False) w w':=by
 go_enter Tryz.func181,Tryz.ntmps181
 go_wp2_with fail
 go_loopw [6] (fun vi wr=>vi = .int .i64 1∧Hid (ze (fun _=>False) w wr)) (fun _ _=>0)
 case atStart=>exact ⟨by go_num,ze.refl _ _⟩
 case round=>
  obtain ⟨rfl,HS⟩:=hrel
  go_wp2
  go_end0
  exact ⟨rfl,zb HS⟩
theorem pdqN (lim:Int)(w:World) :
  Calls Tryz.prog 144 #[.slice none 0 0,.int .i64 0,.int .i64 0,.int .i64 lim] w fun e w'=>e = .returned (.tuple #[])∧ze (fun _=>False) w w':=by
 go_enter Tryz.func144,Tryz.ntmps144
 go_wp2_with fail
 go_loopw [1,2,3,8,9] (fun va vb vl v8 v9 wr=>va = .int .i64 0∧vb = .int .i64 0∧vl = .int .i64 lim∧v8 = .bool true∧v9 = .bool true∧Hid (ze (fun _=>False) w wr)) (fun _ _ _ _ _ _=>0)
 case atStart=>exact ⟨rfl,rfl,rfl,rfl,rfl,ze.refl _ _⟩
 case round=>
  obtain ⟨rfl,rfl,rfl,rfl,rfl,HS⟩:=hrel
  go_wp2_with (go_at_call 181;refine (insertN _).mono ?_;rintro e w1 ⟨rfl,hS1⟩;have HS:=zc ((zb HS).trans hS1);clear hS1)
  (try simp only [Exit.inBlock,Exit.then]);refine bodyPost_ret (results_none rfl _ _ _) rfl ?_
  exact ⟨rfl,zb HS⟩
theorem sortN (w:World) :
  Calls Tryz.prog 110 #[.slice none 0 0] w fun e w'=>e = .returned (.tuple #[])∧ze (fun _=>False) w w':=by
 have HL:=zc (VV 0 (by omega))
 have HP:=zc (pdqN)
 have wr:IntKind.u64.wrap 0=0:=by simp [IntKind.wrap,IntKind.bits,IntKind.signed]
 have wr2:IntKind.u64.wrap ((0:Nat):Int)=((0:Nat):Int):=by simp [IntKind.wrap,IntKind.bits,IntKind.signed]
 go_enter Tryz.func110,Tryz.ntmps110
 go_wp2_with (first |(go_at_call 145;refine (zb HL _).mono ?_;rintro e w' ⟨rfl,rfl⟩) |(go_at_call 144;refine (zb HP _ _).mono ?_;rintro e w1 ⟨rfl,hS⟩;have HS:=zc hS;clear hS))
 go_end0
 exact ⟨rfl,zb HS⟩
end
end Go.Proofs.YtfnkbmglodopkaaGreatDoor
