/- For every pattern, every list of texts, every two numbers of states and every two lists of places the statement 'linealkeep.Unseen' answers true: two finders of one pattern, for other numbers of states, emptied at other places, answer alike, text by text. Its conditions: those of the given card alone (the listed package-level variables are as the program's text lays them; nothing handed in is longer than can be laid). -/
import Derived.Test.YtfnkbmglodopkaaGreatDoorZUnC
namespace Go.Proofs.YtfnkbmglodopkaaGreatDoor
section
open Go.ChangeShapes Go.WideShapes Go.ChangeAt Go.RowKit
theorem un_fn : Tryz.prog.funcNamed "lineal/linealkeep.Unseen" = some 13 := by kernel_rfl
theorem un_s0 : Tryz.prog.wantsStandIn 9 = false := by kernel_rfl
theorem un_s1 : Tryz.prog.wantsStandIn 64 = false := by kernel_rfl
theorem un_s2 : Tryz.prog.wantsStandIn 3 = false := by kernel_rfl
theorem un_s3 : Tryz.prog.wantsStandIn 28 = false := by kernel_rfl
theorem cardU_holds : Rows.UnseenCardSaid :=
 Claim7.holds_tied_plain_at .later [] Rows.unseenCard.laidKinds true Rows.unseenCard.stood.harness true
   unseen_holds (fun _ h => by cases h) (by as_aux_lemma => kernel_rfl) (fun _ h => by cases h) unseen_row_tie rfl ⟨rfl, rfl⟩ (by as_aux_lemma => kernel_rfl) rfl
   (fun f fn hf hfn => by
     obtain rfl : f = 13 := Option.some.inj (un_fn.symm.trans hf) |>.symm
     obtain rfl : fn = Tryz.f13 := (Option.some.inj (Tryz.func13.symm.trans hfn)).symm
     exact ⟨by as_aux_lemma => kernel_rfl, fun j t ht => by
       rw [Tryz.params13] at ht
       rcases j with _ | _ | _ | _ | _ | _ | j
       · obtain rfl : t = 9 := by simpa using ht.symm
         exact un_s0
       · obtain rfl : t = 64 := by simpa using ht.symm
         exact un_s1
       · obtain rfl : t = 3 := by simpa using ht.symm
         exact un_s2
       · obtain rfl : t = 3 := by simpa using ht.symm
         exact un_s2
       · obtain rfl : t = 28 := by simpa using ht.symm
         exact un_s3
       · obtain rfl : t = 28 := by simpa using ht.symm
         exact un_s3
       · simp at ht⟩)
   (by as_aux_lemma => kernel_rfl)
#print axioms cardU_holds
end
end Go.Proofs.YtfnkbmglodopkaaGreatDoor
