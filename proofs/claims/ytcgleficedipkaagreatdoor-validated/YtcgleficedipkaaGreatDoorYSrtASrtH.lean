/- The library's sort of a row of characters: it returns, and turns the row's cells alone. -/
import Derived.BigGuard
import Derived.BigCall
import Derived.CellFam
import Derived.Deep.Draws
import Derived.BigRegion
import Derived.Sort.Defs
import Derived.Shelf.Abstract
import Derived.Test.YtcgleficedipkaaGreatDoorYRefARefJ
import Derived.Shelf.SlSortCmp.WholeK
import Derived.Ground.SlsfProg
import Derived.Laws.Bits64b
namespace Go.Proofs.YtcgleficedipkaaGreatDoor
open Option renaming none->U,some->I
open Value renaming int->M,bool->C
open IntKind renaming i64->J,i32->Ug
open Bool renaming false->Z
open _root_.Go.Proofs.Tryz renaming prog->V
open Go renaming World->E,Value->Y,Calls->Uh
open Ending renaming returned->R
open Go.Sort renaming ltInt->Uj
open _root_.Go.Proofs.Tryz
variable (x:Int){w:World}(n:Nat){b X a i j:Nat}{u v:Value}
section
open Go.RowKit
theorem Xs (w:E):Uh V 228 #[M Ug x] w λe a=>e=R (C Z)/\a=w:=by go_enter func228,ntmps228;go_wp2_with fail;go_ret;exact⟨ov,rfl⟩
theorem zY (y:Int)(w:E):Uh V 205 #[M Ug x,M Ug y] w λe a=>e=R (C (Uj x y))/\a=w:=by go_enter func205,ntmps205;go_wp2_with(go_at_call 228;refine(Xs _ _).mono ?_;rintro e a ⟨rfl,rfl⟩);go_ret;exact⟨rfl,rfl⟩

def Cnt (w:E)(b:Nat)(s:Int):Prop:=w.cell? ⟨b,0,U⟩=I (M J s)/\w.frozen? ⟨b,0,U⟩=Z
theorem zdP {A B:World}{k0:Nat}(hA:ziE w A)(hB:zf (zt k0) A B)(h0:w.heap.size<=k0:=by omega):ziE w B:=
 ⟨hB.os.trans hA.os,hB.tape.trans hA.tape,hB.output.trans hA.output,zgN hA.size hB.size,fun k hk _=>(hB.block k (zgJ hk hA.size) (fun e=>by unfold zt at e;omega)).trans (hA.block k hk (fun f=>f))⟩
end
section
open Go.RowKit Go.Shelf Go.Lib Go.Sort
def zau:Go.Shelf.Ren:=⟨fun|6=>194|15=>169|14=>227|28=>208|29=>209|20=>256|21=>257|22=>258|23=>259|24=>260|25=>261|26=>262|27=>263|46=>287|47=>230|48=>231|49=>288|50=>289|57=>301|n=>n,fun|22=>159|24=>265|25=>350|3=>3|39=>324|0=>0|53=>361|55=>363|4=>4|46=>355|45=>354|50=>32|5=>5|9=>9|66=>375|70=>379|76=>402|77=>299|n=>n,fun|n=>n⟩
theorem Y5:Go.Proofs.SlLaysF0.n6 V zau:={
 mixed:=om
 f6:=⟨Tryz.f194.name,od,func194.trans (congrArg I om)⟩
 f14:=⟨Tryz.f227.name,od,func227.trans (congrArg I om)⟩
 f15:=func169.trans (congrArg I om)
 f20:=⟨Tryz.f256.name,od,func256.trans (congrArg I om)⟩
 f21:=⟨Tryz.f257.name,od,func257.trans (congrArg I om)⟩
 f22:=⟨Tryz.f258.name,od,func258.trans (congrArg I om)⟩
 f23:=⟨Tryz.f259.name,od,func259.trans (congrArg I om)⟩
 f24:=⟨Tryz.f260.name,od,func260.trans (congrArg I om)⟩
 f25:=⟨Tryz.f261.name,od,func261.trans (congrArg I om)⟩
 f26:=⟨Tryz.f262.name,od,func262.trans (congrArg I om)⟩
 f27:=⟨Tryz.f263.name,od,func263.trans (congrArg I om)⟩
 f28:=func208.trans (congrArg I om)
 f29:=func209.trans (congrArg I om)
 f46:=⟨Tryz.f287.name,od,func287.trans (congrArg I om)⟩
 f47:=func230.trans (congrArg I om)
 f48:=func231.trans (congrArg I om)
 f49:=⟨Tryz.f288.name,od,func288.trans (congrArg I om)⟩
 f50:=⟨Tryz.f289.name,od,func289.trans (congrArg I om)⟩
 f57:=⟨Tryz.f301.name,od,func301.trans (congrArg I om)⟩
 t0:=underlying0
 a0:=Tryz.isAgg0
 z0:=Tryz.sizeOf0
 v0:=Tryz.zeroValue0
 t3:=underlying3
 a3:=Tryz.isAgg3
 z3:=Tryz.sizeOf3
 v3:=Tryz.zeroValue3
 t4:=underlying4
 a4:=Tryz.isAgg4
 z4:=Tryz.sizeOf4
 v4:=Tryz.zeroValue4
 t5:=underlying5
 a5:=Tryz.isAgg5
 z5:=Tryz.sizeOf5
 v5:=Tryz.zeroValue5
 t9:=underlying9
 a9:=Tryz.isAgg9
 z9:=Tryz.sizeOf9
 v9:=Tryz.zeroValue9
 t22:=underlying159
 a22:=Tryz.isAgg159
 z22:=Tryz.sizeOf159
 v22:=Tryz.zeroValue159
 t25:=underlying350
 a25:=Tryz.isAgg350
 z25:=Tryz.sizeOf350
 v25:=Tryz.zeroValue350
 t39:=underlying324
 a39:=Tryz.isAgg324
 z39:=Tryz.sizeOf324
 v39:=Tryz.zeroValue324
 t45:=underlying354
 a45:=Tryz.isAgg354
 z45:=Tryz.sizeOf354
 v45:=Tryz.zeroValue354
 t46:=underlying355
 a46:=Tryz.isAgg355
 z46:=Tryz.sizeOf355
 v46:=Tryz.zeroValue355
 t50:=underlying32
 a50:=Tryz.isAgg32
 z50:=Tryz.sizeOf32
 v50:=Tryz.zeroValue32
 t53:=underlying361
 a53:=Tryz.isAgg361
 z53:=Tryz.sizeOf361
 v53:=Tryz.zeroValue361
 t55:=underlying363
 a55:=Tryz.isAgg363
 z55:=Tryz.sizeOf363
 v55:=Tryz.zeroValue363
 t66:=underlying375
 a66:=Tryz.isAgg375
 z66:=Tryz.sizeOf375
 v66:=Tryz.zeroValue375
 t70:=underlying379
 a70:=Tryz.isAgg379
 z70:=Tryz.sizeOf379
 v70:=Tryz.zeroValue379
 t76:=underlying402
 a76:=Tryz.isAgg402
 z76:=Tryz.sizeOf402
 v76:=Tryz.zeroValue402
 t77:=underlying299
 a77:=Tryz.isAgg299
 z77:=Tryz.sizeOf299
 v77:=Tryz.zeroValue299 }
theorem zch (b:n<4611686018427387904)(w:E):Uh V 169 #[M .u64 (n:Int)] w λe a=>e=R (M J (Lib.bitLen n:Nat))/\a=w:=by have h:=Any.bits_Len (SlLaysF0.n15.bits { Y5 with }) (n:Int) w oa oa;rw[zhm] at h;exact h
theorem npowR (a:n<4611686018427387904)(w:E):Uh V 230 #[M J n] w λe b=>e=R (M .u64 ((1 <<< Sort.bitsLen n:Nat):Int))/\b=w:=AnyF.nextPowerOfTwo { Y5 with } n a w
theorem pow_le (d:1<=n):1 <<< Sort.bitsLen n<=2*n:=by
 have b:¬n<2 ^ (Sort.bitsLen n-1):=λh=>by
  have:=(bitsLen_le_iff n (Sort.bitsLen n-1)).2 h;have a:Sort.bitsLen n≠0:=by unfold Sort.bitsLen;rw[iN oa];omega
  omega
 have a:Sort.bitsLen n≠0:=by unfold Sort.bitsLen;rw[iN oa];omega
 rw[Nat.one_shiftLeft];have c:2 ^ Sort.bitsLen n=2*2 ^ (Sort.bitsLen n-1):=by rw[<-Nat.pow_succ'];congr 1;omega
 omega
end
section
open Go.RowKit
def Yt (w:E)(b:Nat)(X:Nat):Prop:=w.cell? ⟨b,0,U⟩=I (M .u64 (X:Int))/\w.frozen? ⟨b,0,U⟩=Z
theorem Yt.two {q:Nat}{u v:Y}(h:Yt w b X)(c:a≠b):Yt (((w.drewN q).setCell ⟨a,i,U⟩ u).setCell ⟨a,j,U⟩ v) b X:=
 ⟨(zgI _ _ _ _ ov).trans ((zgI _ _ _ _ ov).trans h.1),(zk _ _ _ _).trans ((zk _ _ _ _).trans h.2)⟩
theorem Yt.two' (h:Yt w b X)(c:a≠b):Yt (((w.setCell ⟨a,i,U⟩ u).setCell ⟨a,j,U⟩ v).drew) b X:=Yt.two (q:=0) h c
end
