/- The closed facts of Validated's row over the whole program, one by one. -/
import Derived.Test.YtcgleficedipkaaGreatDoorYBaseSemD
import Derived.Test.YtcgleficedipkaaGreatDoorRows
import Derived.JoinedOf
import Derived.KernelRfl
namespace Go.Proofs.YtcgleficedipkaaGreatDoor
open Bool renaming true->G
section
theorem zcN:(Rows.validatedRow.inPlace == Tryz.prog.inPlace 4)=G:=om
theorem Vv:(Rows.validatedRow.unfollowed == Tryz.prog.unfollowed 4)=G:=om
theorem zaF:(Rows.validatedRow.recurses == Tryz.prog.recurses 4)=G:=om
theorem zgB:(Rows.validatedRow.named == Tryz.prog.varsNamed 4)=G:=om
theorem jvd_laid:laidOutB Tryz.prog=G:=om
theorem jvd_maps:mapsRowed Tryz.prog=G:=om
theorem zgC:Tryz.prog.mayEnter=G:=om
theorem zgD:Tryz.prog.stopsHeard=G:=om
theorem zd0:(Rows.validatedRow.lifted == Tryz.prog.liftsFinal)=G:=om
theorem and_ofVd {a b:Bool}(h:a=G)(k:b=G):(a && b)=G:=by rw[h,k];rfl
theorem closedVd:joinedFacts Tryz.prog 4 Tryz.f4 Rows.validatedSpec Rows.validatedRow=true:=by
 unfold joinedFacts
 repeat' (with_reducible refine and_ofVd ?_ ?_)
 all_goals first |with_reducible exact zcN |with_reducible exact Vv |with_reducible exact zaF |with_reducible exact zgB |with_reducible exact jvd_laid |with_reducible exact jvd_maps |with_reducible exact zgC |with_reducible exact zgD |with_reducible exact zd0 |(as_aux_lemma=>kernel_rfl)
end
