/- The program's iterator over the characters of a text. The program's iterator made, and the length of a character. -/
import Derived.Test.YtdhmllobgijggaaGreatDoorKEqM
import Derived.Test.YtdhmllobgijggaaGreatDoorKRanA
import Derived.RangeFuncBound
import Derived.RangeFuncLeaves
import Derived.Shelf.Abstract
import Derived.OwnWalkIn
import Derived.TacticsInMore
import Derived.LoopNIn
import Derived.LoopIn
namespace Go.Proofs.YtdhmllobgijggaaGreatDoor
open Go.RowKit Go.Shelf
attribute [local go_sem] Oper.semAt_some

namespace Pro
/-- The characters from a byte on, as the machine reads them: place and number. -/
def letM (s : ByteArray) : Nat → Nat → List (Int × Int)
  | 0, _ => []
  | f + 1, p => match readM s p with
    | none => []
    | some (n, c) => ((p : Int), c) :: letM s f n
end Pro

theorem MacAt.keepT {w w' : World} {b : Nat} {s : ByteArray} {nx p : Nat} {ch : Int} (h : MacAt w b s nx p ch) (k : KeepT w w') : MacAt w' b s nx p ch := by
  have e := k.same b ⟨s, h.c0⟩
  exact ⟨(World.cell?_of_block (w := w) (a := ⟨b, 0, none⟩) e).trans h.c0, (World.cell?_of_block (w := w) (a := ⟨b, 1, none⟩) e).trans h.c1, (World.cell?_of_block (w := w) (a := ⟨b, 2, none⟩) e).trans h.c2, (World.cell?_of_block (w := w) (a := ⟨b, 3, none⟩) e).trans h.c3,
    (World.frozen?_of_block (w := w) (a := ⟨b, 1, none⟩) e).trans h.f1, (World.frozen?_of_block (w := w) (a := ⟨b, 2, none⟩) e).trans h.f2, (World.frozen?_of_block (w := w) (a := ⟨b, 3, none⟩) e).trans h.f3⟩

def macN (w : World) (b : Nat) : Nat := match w.cell? ⟨b, 1, none⟩ with
  | some (.int _ n) => n.toNat
  | _ => 0
theorem mac_num {w : World} {b : Nat} {s : ByteArray} {nx p : Nat} {ch : Int} (h : MacAt w b s nx p ch) : macN w b = nx := by unfold macN; rw [h.c1]; simp

theorem readM_in {s : ByteArray} {p n : Nat} {c : Int} (h : Pro.readM s p = some (n, c)) : p < n ∧ n ≤ s.size ∧ 0 ≤ c ∧ c ≤ 1114111 := by
  by_cases hp : p < s.size
  · rw [Eqv.read_one hp] at h
    cases h1 : Ref.oneF s p with
    | none => rw [h1] at h; cases h
    | some nc =>
      obtain ⟨m, d⟩ := nc
      rw [h1] at h
      simp only [Eqv.ahead, Option.some.injEq, Prod.mk.injEq] at h
      obtain ⟨rfl, rfl⟩ := h
      have := Ref.oneF_bd h1
      exact ⟨by omega, by omega, by omega, by omega⟩
  · unfold Pro.readM at h; rw [if_neg hp] at h; cases h

theorem letM_eq (s : ByteArray) : ∀ (f p : Nat), Pro.letM s f p = Eqv.letF s f p
  | 0, _ => rfl
  | f + 1, p => by
    unfold Pro.letM Eqv.letF
    by_cases hp : p < s.size
    · rw [if_pos hp, Eqv.read_one hp]
      cases h1 : Ref.oneF s p with
      | none => rfl
      | some nc =>
        obtain ⟨m, d⟩ := nc
        simp only [Eqv.ahead]
        rw [letM_eq s f (p + m)]
    · rw [if_neg hp]
      unfold Pro.readM
      rw [if_neg hp]

theorem read_yes {b : Nat} {s : ByteArray} {nx p q : Nat} {ch c : Int} {w : World} (h : MacAt w b s nx p ch) (hs : s.size ≤ 400) (hn : nx ≤ s.size) (hr : Pro.readM s nx = some (q, c)) :
    Calls Tryz.prog 88 #[.pointer (some ⟨b, 0, none⟩)] w fun x w' => x = .returned (.bool true) ∧ MacAt w' b s q nx c ∧ Only (Mine b) w w' := by
  refine (read_any b s nx p ch w h hs hn).mono ?_
  rintro e w1 ⟨hO1, h1⟩
  rcases h1 with ⟨q1, c1, e1, rfl, hM1⟩ | ⟨e1, _⟩
  · rw [hr] at e1
    obtain ⟨rfl, rfl⟩ := Prod.mk.inj (Option.some.inj e1)
    exact ⟨rfl, hM1, hO1⟩
  · rw [hr] at e1; cases e1
theorem read_no {b : Nat} {s : ByteArray} {nx p : Nat} {ch : Int} {w : World} (h : MacAt w b s nx p ch) (hs : s.size ≤ 400) (hn : nx ≤ s.size) (hr : Pro.readM s nx = none) :
    Calls Tryz.prog 88 #[.pointer (some ⟨b, 0, none⟩)] w fun x w' => x = .returned (.bool false) ∧ Only (Mine b) w w' := by
  refine (read_any b s nx p ch w h hs hn).mono ?_
  rintro e w1 ⟨hO1, h1⟩
  rcases h1 with ⟨q1, c1, e1, rfl, hM1⟩ | ⟨_, rfl⟩
  · rw [hr] at e1; cases e1
  · exact ⟨rfl, hO1⟩

set_option maxHeartbeats 4000000 in
set_option maxRecDepth 1000000 in
theorem each_seq (s : ByteArray) (hs : s.size ≤ 400) (kb : Nat) (w0 : World) (hkb : w0.cell? ⟨kb, 0, none⟩ = some (.string s)) (n : Nat) (hn1 : 1 ≤ n) :
    SeqT Fence.wide n Tryz.prog 87 #[.pointer (some ⟨kb, 0, none⟩)] (fun x : Int × Int => #[.int .i64 x.1, .int .i32 x.2]) (Pro.letM s (s.size + 1) 0) w0 := by
  intro l J W hO hJ hY h0
  have hk := (hO.cell (p := ⟨kb, 0, none⟩) (World.block_lt_of_cell? w0 _ hkb) (fun f => f)).trans hkb
  refine callsIn_of_wp Tryz.func87 rfl trivial ?_ rfl
  simp only [Tryz.ntmps87, List.size_toArray, List.length_cons, List.length_nil, Nat.reduceAdd, Nat.reduceSub, Array.replicate_succ, Array.replicate_zero, List.push_toArray, List.append_toArray, List.nil_append, List.cons_append]
  have hm0 : MacAt (W.alloc (.cells #[.string s, .int .i64 0, .int .i64 0, .int .i32 0] 193)) W.heap.size s 0 0 0 := ⟨new_cell W _ rfl _ _ 0 _ rfl, new_cell W _ rfl _ _ 1 _ rfl, new_cell W _ rfl _ _ 2 _ rfl, new_cell W _ rfl _ _ 3 _ rfl, new_frozen W _ rfl _ _ 1, new_frozen W _ rfl _ _ 2, new_frozen W _ rfl _ _ 3⟩
  have HJ := hide hJ
  have HY := hide hY
  clear hJ hY
  gi_wp2
  gi_loopw [6] (fun _ wr => ∃ (pre : List (Int × Int)) (f p p' : Nat) (ch : Int), MacAt wr W.heap.size s p p' ch ∧ p ≤ s.size ∧ Hid (s.size < p + f) ∧ Hid (pre ++ Pro.letM s f p = Pro.letM s (s.size + 1) 0) ∧ Hid (J pre wr)) (fun _ wr => s.size + 1 - macN wr W.heap.size)
  case atStart => exact ⟨[], s.size + 1, 0, 0, 0, hm0, by omega, (by show _ < _; omega), rfl, unhide HJ _ _ _ h0 ((Only.refl _ W).alloc _)⟩
  case round =>
    obtain ⟨pre, f, p, p', ch, hM, hp, hf, hx, hj⟩ := hrel
    obtain ⟨f, rfl⟩ : ∃ f', f = f' + 1 := ⟨f - 1, by have := unhide hf; omega⟩
    have HM := hide hM
    have hms := mac_num hM
    clear hM
    cases hr : Pro.readM s p with
    | none =>
      have HE : Hid (pre = Pro.letM s (s.size + 1) 0) := by
        have := unhide hx
        simp only [Pro.letM] at this
        rw [hr, List.append_nil] at this
        exact this
      gi_wp2_with (refine ⟨trivial, ?_⟩; gi_at_call 88; refine (callsIn_wide.2 (read_no (unhide HM) hs hp hr)).mono ?_; rintro e w1 ⟨rfl, hO1⟩)
      refine ⟨fun _ h => (by cases h), ?_⟩
      have hJ1 := unhide HJ pre _ w1 (unhide hj) (hO1.mono (fun k _ hk => ⟨by unfold Mine at hk; omega, by unfold Mine at hk; rw [hk]; exact ⟨s, (unhide HM).c0⟩⟩))
      gi_wp2
      go_end0
      exact ⟨⟨_, rfl⟩, by rw [← unhide HE]; exact hJ1⟩
    | some qc =>
      obtain ⟨q, c⟩ := qc
      have HX : Hid (pre ++ [((p : Int), c)] ++ Pro.letM s f q = Pro.letM s (s.size + 1) 0) := by
        have e : Pro.letM s (f + 1) p = ((p : Int), c) :: Pro.letM s f q := by simp only [Pro.letM]; rw [hr]
        have := unhide hx
        rw [e] at this
        show _ = _
        rw [← this]; simp
      have hin := readM_in hr
      gi_wp2_with (refine ⟨trivial, ?_⟩; gi_at_call 88; refine (callsIn_wide.2 (read_yes (unhide HM) hs hp hr)).mono ?_; rintro e w1 ⟨rfl, hM1, hO1⟩; have hJ1 := unhide HJ pre _ w1 (unhide hj) (hO1.mono (fun k _ hk => ⟨by unfold Mine at hk; omega, by unfold Mine at hk; rw [hk]; exact ⟨s, (unhide HM).c0⟩⟩)); obtain ⟨fn, tmps, assign, body, hy, hR⟩ := unhide HY pre ((p : Int), c) w1 hJ1 ⟨Pro.letM s f q, unhide HX⟩; dsimp only at hy; have HM1 := hide hM1; obtain ⟨d0, d1, d2, d3, g1, g2, g3⟩ := hM1)
      refine hR.mono ?_
      rintro e W3 ⟨rfl, hJ3, hk3⟩
      have hM3 := (unhide HM1).keepT hk3
      have hn3 := mac_num hM3
      gi_wp2
      exact ⟨⟨pre ++ [((p : Int), c)], f, q, p, c, hM3, by omega, (by show _ < _; have : _ < _ := unhide hf; omega), HX, hJ3⟩, by rw [hn3, hms]; omega⟩
end Go.Proofs.YtdhmllobgijggaaGreatDoor
namespace Go.Proofs.YtdhmllobgijggaaGreatDoor
open Go.RowKit Go.Shelf

set_option maxHeartbeats 800000 in
theorem each_any (s : ByteArray) (w : World) :
    Calls Tryz.prog 68 #[.string s] w fun x w' => x = .returned (.func (.func 87) #[] #[.pointer (some ⟨w.heap.size, 0, none⟩)]) ∧ w' = w.alloc (.cells #[.string s] 9) := by
  go_enter Tryz.func68, Tryz.ntmps68
  go_wp2_with fail
  go_ret
  exact ⟨rfl, rfl⟩

namespace Pro
def runeN (c : Int) : Int := if c ≤ 127 then 1 else if c ≤ 2047 then 2 else if c ≤ 65535 then 3 else 4
end Pro

set_option maxHeartbeats 800000 in
theorem runeLen_any (c : Int) (w : World) (h0 : 0 ≤ c) (h1 : c ≤ 1114111) (h2 : ¬ (55296 ≤ c ∧ c ≤ 57343)) :
    Calls Tryz.prog 69 #[.int .i32 c] w fun x w' => x = .returned (.int .i64 (Pro.runeN c)) ∧ w' = w := by
  by_cases a1 : c ≤ 127
  · have HR : Hid (Pro.runeN c = 1) := by unfold Pro.runeN; rw [if_pos a1]; rfl
    go_enter Tryz.func69, Tryz.ntmps69
    go_wp2_with fail
    go_ret
    rw [unhide HR]; exact ⟨rfl, rfl⟩
  · by_cases a2 : c ≤ 2047
    · have HR : Hid (Pro.runeN c = 2) := by unfold Pro.runeN; rw [if_neg a1, if_pos a2]; rfl
      go_enter Tryz.func69, Tryz.ntmps69
      go_wp2_with fail
      go_ret
      rw [unhide HR]; exact ⟨rfl, rfl⟩
    · by_cases a3 : c ≤ 65535
      · have HR : Hid (Pro.runeN c = 3) := by unfold Pro.runeN; rw [if_neg a1, if_neg a2, if_pos a3]; rfl
        by_cases a4 : 55296 ≤ c
        · have a5 : ¬ c ≤ 57343 := fun h => h2 ⟨a4, h⟩
          clear h2
          go_enter Tryz.func69, Tryz.ntmps69
          go_wp2_with fail
          go_ret
          rw [unhide HR]; exact ⟨rfl, rfl⟩
        · clear h2
          go_enter Tryz.func69, Tryz.ntmps69
          go_wp2_with fail
          go_ret
          rw [unhide HR]; exact ⟨rfl, rfl⟩
      · have HR : Hid (Pro.runeN c = 4) := by unfold Pro.runeN; rw [if_neg a1, if_neg a2, if_neg a3]; rfl
        clear h2
        go_enter Tryz.func69, Tryz.ntmps69
        go_wp2_with fail
        go_ret
        rw [unhide HR]; exact ⟨rfl, rfl⟩

/-- A character's length is that of its bytes. -/
theorem one_len {s : ByteArray} {p n : Nat} {c : Int} (h : Ref.oneF s p = some (n, c)) : Pro.runeN c = (n : Int) := by
  obtain ⟨h1, h2, h3, h4, _⟩ := Ref.oneF_bd h
  have hb0 := (byteAt_nonneg s p).2 (by omega)
  have hb1 := byteAt_hi s p
  have cases4 : n = 1 ∨ n = 2 ∨ n = 3 ∨ n = 4 := by omega
  have hk : Ref.headN (byteAt s p) = (n : Int) := by rw [Ref.headK_cast, ← h4]
  unfold Ref.headN at hk
  by_cases b1 : byteAt s p < 128
  · rw [Ref.oneF_ascii hb0 b1] at h
    obtain ⟨rfl, rfl⟩ := Prod.mk.inj (Option.some.inj h)
    unfold Pro.runeN; rw [if_pos (by omega)]; rfl
  · rw [if_neg (by omega)] at hk
    by_cases b2 : 192 ≤ byteAt s p ∧ byteAt s p < 224
    · obtain ⟨y, nn⟩ := Eqv.one_two b2
      by_cases hc : Eqv.cont (byteAt s (p + 1))
      · rw [y hc] at h
        split at h
        · cases h
        · rename_i hb
          rw [Eqv.bad_iff] at hb
          obtain ⟨rfl, rfl⟩ := Prod.mk.inj (Option.some.inj h)
          have l2 : Ref.leastV ((2 : Nat) : Int) = 128 := rfl
          rw [l2] at hb
          unfold Eqv.cont at hc
          unfold Pro.runeN; rw [if_neg (by omega), if_pos (by omega)]; rfl
      · rw [nn hc] at h; cases h
    · by_cases b3 : 224 ≤ byteAt s p ∧ byteAt s p < 240
      · obtain ⟨y, nn⟩ := Eqv.one_three b3
        by_cases hc : Eqv.cont (byteAt s (p + 1)) ∧ Eqv.cont (byteAt s (p + 2))
        · rw [y hc] at h
          split at h
          · cases h
          · rename_i hb
            rw [Eqv.bad_iff] at hb
            obtain ⟨rfl, rfl⟩ := Prod.mk.inj (Option.some.inj h)
            have l2 : Ref.leastV ((3 : Nat) : Int) = 2048 := rfl
            rw [l2] at hb
            unfold Eqv.cont at hc
            unfold Pro.runeN; rw [if_neg (by omega), if_neg (by omega), if_pos (by omega)]; rfl
        · rw [nn hc] at h; cases h
      · by_cases b4 : 240 ≤ byteAt s p ∧ byteAt s p < 248
        · obtain ⟨y, nn⟩ := Eqv.one_four b4
          by_cases hc : Eqv.cont (byteAt s (p + 1)) ∧ Eqv.cont (byteAt s (p + 2)) ∧ Eqv.cont (byteAt s (p + 3))
          · rw [y hc] at h
            split at h
            · cases h
            · rename_i hb
              rw [Eqv.bad_iff] at hb
              obtain ⟨rfl, rfl⟩ := Prod.mk.inj (Option.some.inj h)
              have l2 : Ref.leastV ((4 : Nat) : Int) = 65536 := rfl
              rw [l2] at hb
              unfold Eqv.cont at hc
              unfold Pro.runeN; rw [if_neg (by omega), if_neg (by omega), if_neg (by omega)]; rfl
          · rw [nn hc] at h; cases h
        · rw [if_neg b2, if_neg b3, if_neg b4] at hk; omega
end Go.Proofs.YtdhmllobgijggaaGreatDoor
