/- The library's sort of a row of characters: the whole. -/
import Derived.Test.YtcgleficedipkaaGreatDoorYSrtASrtH
import Derived.Deep.Cut
import Derived.Deep.CutRange
import Derived.Deep.CutBlock
namespace Go.Proofs.YtcgleficedipkaaGreatDoor
open Option renaming none->U
open Value renaming int->M,slice->K,bool->C,tuple->Ue
open IntKind renaming i64->J
open Bool renaming true->G
open Go renaming World->E,Calls->Uh
open Go.RowKit renaming Hid->H
open Ending renaming returned->R
section
open Go.RowKit

theorem insertN (w:E):Uh Tryz.prog 199 #[K U 0 0,M J 0,M J 0] w λe c=>e=R (Ue #[])/\ziE w c:=by
 go_enter Tryz.func199,Tryz.ntmps199;go_wp2_with fail;go_loopw[6] (λb wr=>b=M J 1/\H (ziE w wr)) (λ_ _=>0)
 .exact⟨by go_num,zf.refl _ _⟩
 obtain⟨rfl,a⟩:=hrel;go_wp2
 go_end0
 exact⟨rfl,a⟩
theorem pdqN (c:Int)(w:E):Uh Tryz.prog 168 #[K U 0 0,M J 0,M J 0,M J c] w λe j=>e=R (Ue #[])/\ziE w j:=by
 go_enter Tryz.func168,Tryz.ntmps168;go_wp2_with fail;go_loopw[1,2,3,8,9] (λg h i d f wr=>g=M J 0/\h=M J 0/\i=M J c/\d=C G/\f=C G/\H (ziE w wr)) (λ_ _ _ _ _ _=>0);exact⟨rfl,rfl,rfl,rfl,rfl,zf.refl _ _⟩;obtain⟨rfl,rfl,rfl,rfl,rfl,a⟩:=hrel;go_wp2_with(go_at_call 199;refine(insertN _).mono ?_;rintro e k ⟨rfl,b⟩;have a:=ze (a.trans b);clear b)
 (try simp only[Exit.inBlock,Exit.then]);refine bodyPost_ret (results_none rfl _ _ _) rfl ?_;exact⟨rfl,a⟩
theorem sortN (w:E):Uh Tryz.prog 124 #[K U 0 0] w λe b=>e=R (Ue #[])/\ziE w b:=by
 have c:=ze (zch 0 oa);have d:=ze (pdqN);have wr:IntKind.u64.wrap 0=0:=by simp[IntKind.wrap,IntKind.bits,IntKind.signed]
 have h:IntKind.u64.wrap ((0:Nat):Int)=((0:Nat):Int):=by simp[IntKind.wrap,IntKind.bits,IntKind.signed]
 go_enter Tryz.func124,Tryz.ntmps124;go_wp2_with(first|(go_at_call 169;refine(zb c _).mono ?_;rintro e b ⟨rfl,rfl⟩)|(go_at_call 168;refine(zb d _ _).mono ?_;rintro e g ⟨rfl,a⟩;have f:=ze a;clear a))
 go_end0
 exact⟨rfl,f⟩
end
