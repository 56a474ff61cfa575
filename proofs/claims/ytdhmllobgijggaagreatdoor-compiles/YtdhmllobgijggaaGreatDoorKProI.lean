/- The program's words of signs: is a character among some of ASCII? -/
import Derived.Test.YtdhmllobgijggaaGreatDoorKProFH
import Derived.Lib.Bytealg
import Derived.Laws.Runes
import Derived.Laws.RangeString
import Derived.WalkMore
import Derived.LoopN
namespace Go.Proofs.YtdhmllobgijggaaGreatDoor
open Go.RowKit

set_option maxHeartbeats 2000000 in
set_option maxRecDepth 1000000 in
theorem indexByte_any (s : ByteArray) (c : Int) (w : World) :
    Calls Tryz.prog 137 #[.string s, .int .u8 c] w fun e w' => e = .returned (.int .i64 (firstIdx s c.toNat.toUInt8)) ∧ w' = w := by
  rw [Lib.firstIdx_eq]
  go_enter Tryz.func137, Tryz.ntmps137
  go_wp2
  rw [run_callFunc_extern Tryz.func144 (by kernel_rfl) (by kernel_rfl) (by kernel_rfl) (e := Extern.BytealgIndexByte.indexByte) (by kernel_rfl), Lib.run_indexByteString]
  simp only [Result.andThen]
  rw [Oper.upon_value]
  go_wp2
  go_ret
  exact ⟨rfl, rfl⟩

set_option maxHeartbeats 2000000 in
set_option maxRecDepth 1000000 in
theorem indexRune_none (s : ByteArray) (r : Int) (w : World) (h1 : r < 0) :
    Calls Tryz.prog 129 #[.string s, .int .i32 r] w fun e w' => e = .returned (.int .i64 (-1)) ∧ w' = w := by
  go_enter Tryz.func129, Tryz.ntmps129
  go_wp2
  go_ret
  exact ⟨rfl, rfl⟩

set_option maxHeartbeats 2000000 in
set_option maxRecDepth 1000000 in
theorem indexRune_ascii (s : ByteArray) (r : Int) (w : World) (h0 : 0 ≤ r) (h1 : r < 128) :
    Calls Tryz.prog 129 #[.string s, .int .i32 r] w fun e w' => e = .returned (.int .i64 (firstIdx s r.toNat.toUInt8)) ∧ w' = w := by
  go_enter Tryz.func129, Tryz.ntmps129
  go_wp2_with (go_at_call 137; refine (indexByte_any _ _ _).mono ?_; rintro e wq ⟨rfl, hwq⟩; have hwr := hwq.symm; subst hwr; clear hwq)
  go_ret
  exact ⟨rfl, rfl⟩

set_option maxHeartbeats 2000000 in
set_option maxRecDepth 1000000 in
theorem indexRune_high (s : ByteArray) (r : Int) (w : World) (h0 : 128 ≤ r) (h1 : r ≤ 1114111) (h2 : r ≠ 65533) (hs : ∀ b ∈ s.data.toList, b.toNat < 128) (_hz : s.size ≤ 20) :
    Calls Tryz.prog 129 #[.string s, .int .i32 r] w fun e w' => e = .returned (.int .i64 (-1)) ∧ Only (fun _ => False) w w' := by
  by_cases hv : (0 ≤ r ∧ r < 55296) ∨ (57343 < r ∧ r ≤ 1114111)
  · have hval : Utf8.valid r = true := by rw [validRune_eq]; unfold validRune; exact decide_eq_true hv
    obtain ⟨e1, e2, e3⟩ := encode_facts r hval h0
    have e3 : 128 ≤ byteAt (Utf8.encode r) ((Utf8.encode r).size - 1) := by
      have hh : (Utf8.encode r).size - 1 < (Utf8.encode r).size := by omega
      rw [byteAt_in _ _ hh]
      have := e3 hh
      omega
    have e4 := byteAt_hi (Utf8.encode r) ((Utf8.encode r).size - 1)
    generalize hR : Utf8.encode r = rs at *
    have hx2 : ∀ wx, (Instr.index 9 (.string rs) (.int .i64 ((rs.size : Int) - 1))).run Tryz.prog wx = .ok (.int .u8 (byteAt rs (rs.size - 1))) wx := fun wx => pro_index rs _ (by omega) _ (by omega) wx
    by_cases hlen : rs.size - 1 < s.size
    · have hx1 : ∀ wx, (Instr.index 9 (.string s) (.int .i64 ((rs.size : Int) - 1))).run Tryz.prog wx = .ok (.int .u8 (byteAt s (rs.size - 1))) wx := fun wx => pro_index s _ hlen _ (by omega) wx
      have e5 : byteAt s (rs.size - 1) < 128 := by
        rw [byteAt_in s _ hlen]
        have := hs (s[rs.size - 1]) (by exact Array.getElem_mem_toList (xs := s.data) hlen)
        omega
      have hne : (byteAt s (rs.size - 1) != byteAt rs (rs.size - 1)) = true := by simp; omega
      have hfi : ∀ a e, firstIdx (s.extract a e) (byteAt rs (rs.size - 1)).toNat.toUInt8 = -1 := fun a e => firstIdx_ascii s a e _ hs (by simp; omega)
      have hwr : IntKind.i64.wrap ((rs.size : Int) - 1 + 1) = (rs.size : Int) := by rw [wrap_small _ (by omega) (by omega)]; omega
      have Hs := hide hs
      clear hs hval
      go_enter Tryz.func129, Tryz.ntmps129
      rcases hv with ⟨hv1, hv2⟩ | ⟨hv1, hv2⟩
      all_goals
        go_wp2_with go_in
        go_step3
        go_wp2
        refine wp_loop_rounds 1 ?_
        rw [rounds_succ]
        go_wp2
        go_step3
        go_wp2
        go_quiet (fail)
        go_wp2
        go_quiet ((go_at_call 137; exact (indexByte_any _ _ _).mono (by rintro e w'' ⟨rfl, rfl⟩; exact ⟨rfl, _, rfl⟩)))
        go_wp2
        rw [Exit.noGoto_ret]
        go_wp2
        rw [Exit.noGoto_ret]
        go_wp2
        go_ret
        exact ⟨rfl, (Only.refl _ _).drewN _⟩
    · have Hs := hide hs
      clear hs hval
      go_enter Tryz.func129, Tryz.ntmps129
      rcases hv with ⟨hv1, hv2⟩ | ⟨hv1, hv2⟩
      all_goals
        go_wp2_with go_in
        go_step3
        go_wp2
        refine wp_loop_rounds 1 ?_
        rw [rounds_succ]
        go_wp2
        rw [Exit.noGoto_ret]
        go_wp2
        go_ret
        exact ⟨rfl, Only.refl _ _⟩
  · go_enter Tryz.func129, Tryz.ntmps129
    go_wp2
    all_goals first
      | (exfalso; omega)
      | (go_ret; exact ⟨rfl, Only.refl _ _⟩)
end Go.Proofs.YtdhmllobgijggaaGreatDoor
