/- To which places one can come without taking a character. Is a place among some? The program's Ends. The program's view of a text beside the reference's. -/
import Derived.Test.YtfnkbmglodopkaaGreatDoorZPrgIPrgD
import Derived.Deep.RegionHeld3
import Derived.Test.YtfnkbmglodopkaaGreatDoorZChCChE
namespace Go.Proofs.YtfnkbmglodopkaaGreatDoor
section
open Go.RowKit
open Sm (Stp Tree)
set_option maxHeartbeats 4000000
set_option maxRecDepth 100000
namespace Prg
theorem visL_mem {rs : List Nat} {p q : Nat} : q ∈ visL rs p ↔ q ∈ rs ∨ q = p := by
 unfold visL
 split
 · rename_i h
   exact ⟨.inl, fun e => e.elim id (fun e => e ▸ h)⟩
 · simp
theorem visL_get {rs : List Nat} {p j : Nat} (h : j < rs.length) : (visL rs p)[j]? = rs[j]? := by
 unfold visL
 split
 · rfl
 · rw [List.getElem?_append_left h]
theorem visL_len (rs : List Nat) (p : Nat) : rs.length ≤ (visL rs p).length := by
 unfold visL
 split
 · exact Nat.le_refl _
 · simp
def epsB (N : List Stp) (H : Int → Bool) (a t : Nat) : Prop := ∃ s, N[a]? = some s ∧ ((s.kind = 2 ∧ H s.asr = true ∧ t = s.next) ∨ (s.kind = 3 ∧ (t = s.next ∨ t = s.other)))
def GE (N : List Stp) (H : Int → Bool) (a b : Nat) : Prop := Sm.Goes (fun _ _ => False) (fun x _ => H x = true) N a 0 b 0
theorem GE.refl (N : List Stp) (H : Int → Bool) (a : Nat) : GE N H a a := Sm.Goes.refl _ _ _
theorem GE.step {N : List Stp} {H : Int → Bool} {a b c : Nat} (h : GE N H a b) (e : epsB N H b c) : GE N H a c := by
 refine Sm.Goes.trans h (Sm.Goes.one ?_)
 obtain ⟨s, hs, h1 | h1⟩ := e
 · exact ⟨s, hs, .inr (.inl ⟨h1.1, h1.2.1, h1.2.2, rfl⟩)⟩
 · exact ⟨s, hs, .inr (.inr ⟨h1.1, h1.2, rfl⟩)⟩
end Prg
namespace Prg
def Inv (N : List Stp) (H : Int → Bool) (bs : List Nat) (n : Nat) (rs : List Nat) : Prop := (∀ p ∈ bs, p ∈ rs) ∧ (∀ q ∈ rs, ∃ p ∈ bs, GE N H p q) ∧ ∀ (j : Nat) a, j < n → rs[j]? = some a → ∀ t, epsB N H a t → t ∈ rs
theorem Inv.visit {N : List Stp} {H : Int → Bool} {bs rs : List Nat} {n a t : Nat} (h : Inv N H bs n rs) (ha : rs[n]? = some a) (e : epsB N H a t) : Inv N H bs n (visL rs t) ∧ (visL rs t)[n]? = some a ∧ t ∈ visL rs t := by
 have hn : n < rs.length := (List.getElem?_eq_some_iff.1 ha).1
 refine ⟨⟨fun p hp => visL_mem.2 (.inl (h.1 p hp)), fun q hq => ?_, fun j b hj hb u hu => ?_⟩, by rw [visL_get hn]; exact ha, visL_mem.2 (.inr rfl)⟩
 · rcases visL_mem.1 hq with hq | rfl
   · exact h.2.1 q hq
   · obtain ⟨p, hp, g⟩ := h.2.1 a (List.mem_of_getElem? ha)
     exact ⟨p, hp, g.step e⟩
 · rw [visL_get (by omega)] at hb
   exact visL_mem.2 (.inl (h.2.2 j b hj hb u hu))
theorem Inv.next {N : List Stp} {H : Int → Bool} {bs rs : List Nat} {n a : Nat} (h : Inv N H bs n rs) (ha : rs[n]? = some a) (e : ∀ t, epsB N H a t → t ∈ rs) : Inv N H bs (n + 1) rs :=
 ⟨h.1, h.2.1, fun j b hj hb u hu => by
   by_cases ej : j = n
   · subst ej
     cases ha.symm.trans hb
     exact e u hu
   · exact h.2.2 j b (by omega) hb u hu⟩
theorem eps_test {N : List Stp} {H : Int → Bool} {a : Nat} {s : Stp} (hs : N[a]? = some s) (hk : s.kind = 2) (t : Nat) : epsB N H a t ↔ H s.asr = true ∧ t = s.next := by
 constructor
 · rintro ⟨s', hs', h⟩
   cases hs.symm.trans hs'
   rcases h with h | h
   · exact h.2
   · omega
 · rintro ⟨h1, h2⟩
   exact ⟨s, hs, .inl ⟨hk, h1, h2⟩⟩
theorem eps_fork {N : List Stp} {H : Int → Bool} {a : Nat} {s : Stp} (hs : N[a]? = some s) (hk : s.kind = 3) (t : Nat) : epsB N H a t ↔ t = s.next ∨ t = s.other := by
 constructor
 · rintro ⟨s', hs', h⟩
   cases hs.symm.trans hs'
   rcases h with h | h
   · omega
   · exact h.2
 · exact fun h => ⟨s, hs, .inr ⟨hk, h⟩⟩
theorem eps_none {N : List Stp} {H : Int → Bool} {a : Nat} {s : Stp} (hs : N[a]? = some s) (h2 : s.kind ≠ 2) (h3 : s.kind ≠ 3) (t : Nat) : ¬ epsB N H a t := by
 rintro ⟨s', hs', h⟩
 cases hs.symm.trans hs'
 rcases h with h | h
 · exact h2 h.1
 · exact h3 h.1
end Prg
theorem own_get {w : World} {base m n c : Nat} {a : Option Addr} {rs : List Nat} (h : w.ownsRow base 3 1 (.slice a n c) m (natCells rs)) (hm : m = rs.length) : n = m ∧ ∀ k, (hk : k < rs.length) → ∃ g, a = some ⟨g, 0, none⟩ ∧ m ≤ c ∧ w.cell? ⟨g, k, none⟩ = some (.int .i64 (rs[k] : Nat)) := by
 have hc := @World.ownsRow.cells w base 3 1 _ m _ h
 rcases h.2 with ⟨e, h0⟩ | ⟨g, cap, cur, e, hb, hg, hn, _⟩
 · simp at e
   exact ⟨by omega, fun k hk => by omega⟩
 · simp at e
   obtain ⟨rfl, rfl, rfl⟩ := e
   refine ⟨rfl, fun k hk => ⟨g, rfl, hn, ?_⟩⟩
   have := hc (g := g) rfl k (.int .i64 (rs[k] : Nat)) (by unfold natCells; rw [List.getElem?_map, List.getElem?_eq_getElem hk]; rfl)
   have e : (⟨g, 0, none⟩ : Addr).add k = ⟨g, k, none⟩ := by unfold Addr.add; split <;> simp_all
   rw [e] at this
   exact this
theorem Only.under {P : Nat → Prop} {a b c : World} (h : Only (fun _ => False) a b) (k : Only P b c) (hp : ∀ j, j < a.heap.size → ¬ P j) : Only (fun _ => False) a c :=
 ⟨k.os.trans h.os, k.tape.trans h.tape, k.output.trans h.output, Nat.le_trans h.size k.size, fun j hj _ => (k.block j (Nat.lt_of_lt_of_le hj h.size) (hp j hj)).trans (h.block j hj (fun f => f))⟩
theorem SpotAt.keepP {P : Nat → Prop} {W W' : World} {b : Nat} {x y z u : Bool} (h : SpotAt W b x y z u) (k : Only P W W') (hn : ¬ P b) : SpotAt W' b x y z u := by
 have hb : b < W.heap.size := World.block_lt_of_cell? W ⟨b, 0, none⟩ h.k0
 exact ⟨cell_kept k _ _ h.k0 hn, cell_kept k _ _ h.k1 hn, cell_kept k _ _ h.k2 hn, cell_kept k _ _ h.k3 hn, frozen_kept k _ hb h.f0 hn, frozen_kept k _ hb h.f1 hn, frozen_kept k _ hb h.f2 hn, frozen_kept k _ hb h.f3 hn⟩
structure Rgo (w wr : World) (n : Nat) (x0 x1 x2 x3 : Bool) (ms : List Bool) (rs : List Nat) : Prop where
 rch : Rch wr (w.heap.size + 1 + 1 + 1 + 1) (w.heap.size + 1 + 1 + 1) (w.heap.size + 1) (w.heap.size + 1 + 1) n ms rs
 on : Only (fun _ => False) w wr
 sp : SpotAt wr w.heap.size x0 x1 x2 x3
theorem Rgo.keep {w wr w' : World} {n : Nat} {x0 x1 x2 x3 : Bool} {ms : List Bool} {rs : List Nat} (h : Rgo w wr n x0 x1 x2 x3 ms rs) (k : Only (fun _ => False) wr w') : Rgo w w' n x0 x1 x2 x3 ms rs := ⟨h.rch.keep k, h.on.trans k, h.sp.keep k⟩
theorem visit_go {w wr : World} {n p : Nat} {x0 x1 x2 x3 : Bool} {ms : List Bool} {rs : List Nat} (h : Rgo w wr n x0 x1 x2 x3 ms rs) (hp : p < n) (hn : n ≤ 300) :
   Calls Tryz.prog 115 #[.int .i64 (p : Nat), .pointer (some ⟨w.heap.size + 1 + 1 + 1, 0, none⟩), .pointer (some ⟨w.heap.size + 1, 0, none⟩)] wr fun x w' => x = .returned (.tuple #[]) ∧ ∃ ms', Rgo w w' n x0 x1 x2 x3 ms' (Prg.visL rs p) := by
 refine (visit_any _ _ _ _ n p ms rs wr h.rch hp hn).mono ?_
 rintro e w' ⟨rfl, ⟨ms', h1⟩, h2⟩
 exact ⟨rfl, ms', h1, h.on.under h2 (fun j hj e => by unfold Vis at e; omega), h.sp.keepP h2 (fun e => by unfold Vis at e; omega)⟩
theorem Rgo.start (w : World) (n : Nat) (x0 x1 x2 x3 : Bool) (T : TypeId) : Rgo w ((((w.alloc (.cells #[.bool x0, .bool x1, .bool x2, .bool x3] T)).alloc (.cells #[.slice none 0 0] 28)).alloc (.cells (madeCells #[.bool false] n) 4)).alloc (.cells #[.slice (some ⟨w.heap.size + 1 + 1, 0, none⟩) n n] 56)) n x0 x1 x2 x3 (List.replicate n false) [] := by
 have k1 : ∀ (W : World) (o : Obj), Only (fun _ => False) W (W.alloc o) := fun W o => (Only.refl _ _).alloc o
 refine ⟨⟨?_, ⟨.slice none 0 0, ?_, World.ownsRow_nil _ _ _ _⟩, ?_, ?_, by simp, fun p hp => ?_, ?_, by simp, by omega, by omega, by omega, by omega, by omega, by omega, by simp⟩, ?_, ?_⟩
 · exact new_cell _ _ (by simp) _ _ 0 _ rfl
 · exact cell_kept ((k1 _ _).trans (k1 _ _)) _ _ (new_cell _ _ (by simp) _ _ 0 _ rfl) (fun f => f)
 · exact frozen_kept ((k1 _ _).trans (k1 _ _)) _ (by simp) (new_frozen _ _ (by simp) _ _ 0) (fun f => f)
 · have h := OwnB.made ((w.alloc (.cells #[.bool x0, .bool x1, .bool x2, .bool x3] T)).alloc (.cells #[.slice none 0 0] 28)) n
   rw [show ((w.alloc (.cells #[.bool x0, .bool x1, .bool x2, .bool x3] T)).alloc (.cells #[.slice none 0 0] 28)).heap.size = w.heap.size + 1 + 1 by simp] at h
   exact h.keep (k1 _ _) (fun f => f)
 · rw [List.getElem?_replicate, if_pos hp]; simp
 · rw [List.countP_replicate]; simp
 · exact (((k1 _ _).trans (k1 _ _)).trans (k1 _ _)).trans (k1 _ _)
 · exact ((SpotAt.new w _ rfl _ _ _ _ _).keep (((k1 _ _).trans (k1 _ _)).trans (k1 _ _)))
theorem reach_any (pb st : Nat) (N : List Stp) (W : Int → Bool) (bv : Value) (bs : List Nat) (x0 x1 x2 x3 : Bool) (A : Nat → Prop) (w : World) (hP : ProgAt w A pb N st W) (hB : IntSl w bv bs) (hb : ∀ a ∈ bs, a < N.length) (hl : bs.length ≤ 301) :
   Calls Tryz.prog 75 #[.pointer (some ⟨pb, 0, none⟩), bv, .agg #[.bool x0, .bool x1, .bool x2, .bool x3]] w fun x w' => ∃ rv rs, x = .returned rv ∧ w'.ownsRow w.heap.size 3 1 rv rs.length (natCells rs) ∧ Only (fun _ => False) w w' ∧ rs.length ≤ N.length ∧ (∀ a ∈ rs, a < N.length) ∧ (∀ p ∈ bs, p ∈ rs) ∧ (∀ q ∈ rs, ∃ p ∈ bs, Prg.GE N (Prg.holdB x0 x1 x2 x3) p q) ∧ ∀ a ∈ rs, ∀ t, Prg.epsB N (Prg.holdB x0 x1 x2 x3) a t → t ∈ rs := by
 obtain ⟨va, vc, rfl⟩ := hB.slice
 obtain ⟨gs, cs, hst, hA, hcs, hrow⟩ := hP.c0
 have hNl := hP.len
 have hmk := make_bools N.length (by omega)
 have HB := hide hB
 have HP := hide hP
 have HW := hide hrow
 have HBN := hide hb
 clear hB hP hrow hb
 have hst1 : ∀ o1 o2, ((w.alloc o1).alloc o2).cell? ⟨pb, 0, none⟩ = some (.slice (some ⟨gs, 0, none⟩) N.length cs) := fun o1 o2 => cell_kept (((Only.refl (fun _ => False) w).alloc o1).alloc o2) _ _ hst (fun f => f)
 go_enter Tryz.func75, Tryz.ntmps75
 go_wp2_with fail
 have HR := hide (Rgo.start w N.length x0 x1 x2 x3 160)
 generalize hW0 : ((((w.alloc (.cells #[.bool x0, .bool x1, .bool x2, .bool x3] 160)).alloc (.cells #[.slice none 0 0] 28)).alloc (.cells (madeCells #[.bool false] N.length) 4)).alloc (.cells #[.slice (some ⟨w.heap.size + 1 + 1, 0, none⟩) N.length N.length] 56)) = W0 at HR ⊢
 clear hW0 hmk hst1
 have eg : ∀ args w, (callFunc 115 args).run Tryz.prog w = .ok (.enter 115 args) w := enters_of Tryz.func115 (by kernel_rfl) rfl
 go_loopw [23] (fun k wr => ∃ (n : Nat) (ms : List Bool) (rs : List Nat), k = .int .i64 n ∧ n ≤ bs.length ∧ Hid (Rgo w wr N.length x0 x1 x2 x3 ms rs) ∧ Hid ((∀ q ∈ rs, q ∈ bs) ∧ ∀ p ∈ bs.take n, p ∈ rs)) (fun k _ => bs.length - (intOf k).toNat)
 case atStart => exact ⟨0, _, [], rfl, by omega, HR, by simp, by simp⟩
 case round =>
   obtain ⟨n, ms, rs, rfl, hn, HG, HI⟩ := hrel
   by_cases hlt : n < bs.length
   · obtain ⟨g, rfl, hcap, hc1⟩ := (unhide HB).get hlt
     have hc2 := cell_kept (unhide HG).on _ _ hc1 (fun f => f)
     clear hc1
     have hbn := (unhide HBN) bs[n] (List.getElem_mem hlt)
     have HI2 : Hid ((∀ q ∈ Prg.visL rs bs[n], q ∈ bs) ∧ ∀ p ∈ bs.take (n + 1), p ∈ Prg.visL rs bs[n]) := by
       refine ⟨fun q hq => ?_, fun p hp => ?_⟩
       · rcases Prg.visL_mem.1 hq with h | rfl
         · exact (unhide HI).1 q h
         · exact List.getElem_mem hlt
       · rw [List.take_add_one, List.getElem?_eq_getElem hlt] at hp
         rcases List.mem_append.1 hp with h | h
         · exact Prg.visL_mem.2 (.inl ((unhide HI).2 p h))
         · exact Prg.visL_mem.2 (.inr (by simpa using h))
     generalize bs[n] = a at *
     go_wp2_with (go_at_fn 115; refine (visit_go (unhide HG) hbn hNl).mono ?_; rintro e w1 ⟨rfl, ms1, hG1⟩; have HG1 := hide hG1; clear hG1)
     exact ⟨⟨n + 1, ms1, _, by go_num, by omega, HG1, HI2⟩, by simp [intOf]; omega⟩
   · obtain rfl : n = bs.length := by omega
     rw [List.take_length] at HI
     go_wp2_with fail
     have HI0 : Hid (Prg.Inv N (Prg.holdB x0 x1 x2 x3) bs 0 rs) := ⟨(unhide HI).2, fun q hq => ⟨q, (unhide HI).1 q hq, Prg.GE.refl _ _ _⟩, fun j a hj => by omega⟩
     clear HI
     go_loopw [12] (fun k wq => ∃ (n : Nat) (ms : List Bool) (rs : List Nat), k = .int .i64 n ∧ n ≤ rs.length ∧ Hid (Rgo w wq N.length x0 x1 x2 x3 ms rs) ∧ Hid (Prg.Inv N (Prg.holdB x0 x1 x2 x3) bs n rs)) (fun k _ => N.length - (intOf k).toNat)
     case atStart => exact ⟨0, ms, rs, rfl, by omega, HG, HI0⟩
     case round =>
       clear HG HI0
       obtain ⟨n, ms2, rs2, rfl, hn2, HG2, HI2⟩ := hrel
       have hlen2 := (unhide HG2).rch.len
       obtain ⟨rv, hrv, hown⟩ := (unhide HG2).rch.r0
       obtain ⟨ra, rn, rc, rfl⟩ := own_slice hown
       obtain ⟨rfl, hgets⟩ := own_get hown rfl
       by_cases hlt2 : n < rs2.length
       · obtain ⟨gr, rfl, hrc, hcr⟩ := hgets n hlt2
         have hra : rs2[n] < N.length := (unhide HG2).rch.lt _ (List.getElem_mem hlt2)
         have hget : N[rs2[n]]? = some N[rs2[n]] := List.getElem?_eq_getElem hra
         have HA : Hid (rs2[n]? = some rs2[n]) := List.getElem?_eq_getElem hlt2
         obtain ⟨s0, _, s2, s3, s4⟩ := unhide HW _ _ hget
         have hfit := (unhide HP).fit _ _ hget
         have HS3 := hide s3
         have HS4 := hide s4
         have e0 := cell_kept (unhide HG2).on _ _ s0 (fun f => f)
         have e2 := cell_kept (unhide HG2).on _ _ s2 (fun f => f)
         have e3 := cell_kept (unhide HG2).on _ _ s3 (fun f => f)
         have ep := cell_kept (unhide HG2).on _ _ hst (fun f => f)
         have HGT := hide hget
         clear s0 s2 s3 s4 hget hgets hown
         generalize N[rs2[n]] = s at *
         generalize rs2[n] = a at *
         obtain ⟨hf1, hf2⟩ := hfit
         have b1 : (0 : Int) ≤ (n : Int) := by omega
         have b2 : (n : Int) < (rs2.length : Int) := by omega
         have b3 : (0 : Int) ≤ (a : Int) := by omega
         have b4 : (a : Int) < (N.length : Int) := by omega
         by_cases hk2 : s.kind = 2
         · have hb2 : ((s.kind : Int) == 2) = true := by simp; omega
           obtain ⟨k0, k1, k2, k3, _, _, _, _⟩ := (unhide HG2).sp
           have HZ : Hid (∀ W', Only (fun _ => False) wr W' → Calls Tryz.prog 116 #[.agg #[.bool x0, .bool x1, .bool x2, .bool x3], .int .i64 s.asr] W' fun e w' => e = .returned (.bool (Prg.holdB x0 x1 x2 x3 s.asr)) ∧ Only (fun _ => False) wr w' ∧ w'.cell? ⟨w.heap.size, 0, none⟩ = some (.bool x0) ∧ w'.cell? ⟨w.heap.size, 1, none⟩ = some (.bool x1) ∧ w'.cell? ⟨w.heap.size, 2, none⟩ = some (.bool x2) ∧ w'.cell? ⟨w.heap.size, 3, none⟩ = some (.bool x3) ∧ w'.cell? ⟨gs, a * 5 + 2, none⟩ = some (.int .i64 s.asr)) := fun W' hW => by
             refine (holds_any x0 x1 x2 x3 s.asr W').mono ?_
             rintro e w' ⟨rfl, hO⟩
             have k := hW.trans hO
             exact ⟨rfl, k, cell_kept k _ _ k0 (fun f => f), cell_kept k _ _ k1 (fun f => f), cell_kept k _ _ k2 (fun f => f), cell_kept k _ _ k3 (fun f => f), cell_kept k _ _ e2 (fun f => f)⟩
           have HE := hide (fun t => Prg.eps_test (H := Prg.holdB x0 x1 x2 x3) (unhide HGT) hk2 t)
           clear hk2
           cases hH : Prg.holdB x0 x1 x2 x3 s.asr
           · have HI3 : Hid (Prg.Inv N (Prg.holdB x0 x1 x2 x3) bs (n + 1) rs2) := (unhide HI2).next (unhide HA) (fun t ht => by have := ((unhide HE t).1 ht).1; rw [hH] at this; cases this)
             rw [hH] at HZ
             clear hH
             go_wp2_with fail
             go_quiet (fail)
             go_wp2_with fail
             go_region_held3 (fun w' => w'.cell? ⟨w.heap.size, 0, none⟩ = some (.bool x0) ∧ w'.cell? ⟨w.heap.size, 1, none⟩ = some (.bool x1) ∧ w'.cell? ⟨w.heap.size, 2, none⟩ = some (.bool x2) ∧ w'.cell? ⟨w.heap.size, 3, none⟩ = some (.bool x3) ∧ w'.cell? ⟨gs, a * 5 + 2, none⟩ = some (.int .i64 s.asr)) (go_keep)
               (first | (go_at_call 116; refine (unhide HZ _ (by first | exact Only.refl _ _ | exact (Only.refl _ _).drewN _ | exact ((Only.refl _ _).drewN _).drewN _)).mono ?_; rintro e w1 ⟨rfl, hO1, y0, y1, y2, y3, y4⟩; have HG3 := hide ((unhide HG2).keep hO1); clear hO1))
             go_wp2_with fail
             exact ⟨⟨n + 1, ms2, rs2, by go_num, by omega, HG3, HI3⟩, by simp [intOf]; omega⟩
           · obtain ⟨i1, i2, i3⟩ := (unhide HI2).visit (unhide HA) ((unhide HE s.next).2 ⟨hH, rfl⟩)
             have HI3 : Hid (Prg.Inv N (Prg.holdB x0 x1 x2 x3) bs (n + 1) (Prg.visL rs2 s.next)) := i1.next i2 (fun t ht => by rw [((unhide HE t).1 ht).2]; exact i3)
             have hvl := Prg.visL_len rs2 s.next
             rw [hH] at HZ
             clear hH i1 i2 i3
             go_wp2_with fail
             go_quiet (fail)
             go_wp2_with fail
             go_region_held3 (fun w' => w'.cell? ⟨w.heap.size, 0, none⟩ = some (.bool x0) ∧ w'.cell? ⟨w.heap.size, 1, none⟩ = some (.bool x1) ∧ w'.cell? ⟨w.heap.size, 2, none⟩ = some (.bool x2) ∧ w'.cell? ⟨w.heap.size, 3, none⟩ = some (.bool x3) ∧ w'.cell? ⟨gs, a * 5 + 2, none⟩ = some (.int .i64 s.asr)) (go_keep)
               (first | (go_at_call 116; refine (unhide HZ _ (by first | exact Only.refl _ _ | exact (Only.refl _ _).drewN _ | exact ((Only.refl _ _).drewN _).drewN _)).mono ?_; rintro e w1 ⟨rfl, hO1, y0, y1, y2, y3, y4⟩; have z3 := cell_kept hO1 _ _ e3 (fun f => f); have HG3 := hide ((unhide HG2).keep hO1); clear hO1))
             go_wp2_with (go_at_fn 115; refine (visit_go ((unhide HG3).keep (by first | exact Only.refl _ _ | exact (Only.refl _ _).drewN _)) hf1 hNl).mono ?_; rintro e w2 ⟨rfl, ms3, hG4⟩; have HG4 := hide hG4; clear hG4)
             exact ⟨⟨n + 1, ms3, _, by go_num, by omega, HG4, HI3⟩, by simp [intOf]; omega⟩
         · by_cases hk3 : s.kind = 3
           · have hb2 : ((s.kind : Int) == 2) = false := by simp; omega
             have hb3 : ((s.kind : Int) == 3) = true := by simp; omega
             have HE := hide (fun t => Prg.eps_fork (H := Prg.holdB x0 x1 x2 x3) (unhide HGT) hk3 t)
             clear hk2 hk3
             obtain ⟨i1, i2, i3⟩ := (unhide HI2).visit (unhide HA) ((unhide HE s.next).2 (.inl rfl))
             obtain ⟨j1, j2, j3⟩ := i1.visit i2 ((unhide HE s.other).2 (.inr rfl))
             have HI3 : Hid (Prg.Inv N (Prg.holdB x0 x1 x2 x3) bs (n + 1) (Prg.visL (Prg.visL rs2 s.next) s.other)) := j1.next j2 (fun t ht => by
               rcases (unhide HE t).1 ht with rfl | rfl
               · exact Prg.visL_mem.2 (.inl i3)
               · exact j3)
             have hvl := Prg.visL_len rs2 s.next
             have hvl2 := Prg.visL_len (Prg.visL rs2 s.next) s.other
             clear i1 i2 i3 j1 j2 j3
             go_wp2_with fail
             go_quiet (fail)
             go_wp2_with (first
               | (go_at_fn 115; refine (visit_go ((unhide HG2).keep (by first | exact Only.refl _ _ | exact (Only.refl _ _).drewN _)) hf1 hNl).mono ?_; rintro e w1 ⟨rfl, ms3, hG3⟩; have z4 := cell_kept hG3.on _ _ (unhide HS4) (fun f => f); have HG3 := hide hG3; clear hG3 HG2)
               | (go_at_fn 115; refine (visit_go ((unhide HG3).keep (by first | exact Only.refl _ _ | exact (Only.refl _ _).drewN _)) hf2 hNl).mono ?_; rintro e w2 ⟨rfl, ms4, hG4⟩; have HG4 := hide hG4; clear hG4))
             exact ⟨⟨n + 1, ms4, _, by go_num, by omega, HG4, HI3⟩, by simp [intOf]; omega⟩
           · have hb2 : ((s.kind : Int) == 2) = false := by simp; omega
             have hb3 : ((s.kind : Int) == 3) = false := by simp; omega
             have HI3 : Hid (Prg.Inv N (Prg.holdB x0 x1 x2 x3) bs (n + 1) rs2) := (unhide HI2).next (unhide HA) (fun t ht => absurd ht (Prg.eps_none (unhide HGT) hk2 hk3 t))
             clear hk2 hk3
             go_wp2_with fail
             go_quiet (fail)
             go_wp2_with fail
             exact ⟨⟨n + 1, ms2, rs2, by go_num, by omega, (unhide HG2).keep ((Only.refl _ _).drewN _), HI3⟩, by simp [intOf]; omega⟩
       · obtain rfl : n = rs2.length := by omega
         have HF := hide hown
         clear hgets hown
         go_wp2_with fail
         go_ret
         refine ⟨_, rs2, rfl, ownsRow_base (unhide HF) (by omega), (unhide HG2).on, hlen2, (unhide HG2).rch.lt, (unhide HI2).1, (unhide HI2).2.1, fun a ha t ht => ?_⟩
         obtain ⟨j, hj⟩ := mem_index ha
         exact (unhide HI2).2.2 j a (List.getElem?_eq_some_iff.1 hj).1 hj t ht
theorem IntSl.of {w : World} {base : Nat} {v : Value} {rs : List Nat} (h : w.ownsRow base 3 1 v rs.length (natCells rs)) : IntSl w v rs := by
 obtain ⟨a, n, c, rfl⟩ := own_slice h
 obtain ⟨rfl, hg⟩ := own_get h rfl
 by_cases h0 : rs = []
 · subst h0
   rcases h.2 with ⟨e, _⟩ | ⟨g, cap, cur, e, _, _, hn, _⟩
   · exact .inl ⟨e, rfl⟩
   · exact .inr ⟨g, cap, e, hn, fun j a hj => by simp at hj⟩
 · have hl : 0 < rs.length := List.length_pos_iff.2 h0
   obtain ⟨g, rfl, hc, _⟩ := hg 0 hl
   refine .inr ⟨g, c, rfl, hc, fun j a hj => ?_⟩
   obtain ⟨hjl, rfl⟩ := List.getElem?_eq_some_iff.1 hj
   obtain ⟨g', e, _, h2⟩ := hg j hjl
   cases e
   exact h2
theorem index_any (rv : Value) (rs : List Nat) (v : Nat) (w : World) (h : IntSl w rv rs) (hl : rs.length ≤ 1000) :
   Calls Tryz.prog 118 #[rv, .int .i64 (v : Nat)] w fun x w' => ∃ k : Int, x = .returned (.int .i64 k) ∧ (0 ≤ k ↔ v ∈ rs) ∧ Only (fun _ => False) w w' := by
 obtain ⟨va, vc, rfl⟩ := h.slice
 have HB := hide h
 clear h
 go_enter Tryz.func118, Tryz.ntmps118
 go_wp2_with fail
 go_loopw [8] (fun k wr => ∃ n : Nat, k = .int .i64 n ∧ n ≤ rs.length ∧ Hid (Only (fun _ => False) w wr) ∧ Hid (v ∉ rs.take n)) (fun k _ => rs.length - (intOf k).toNat)
 case atStart => exact ⟨0, rfl, by omega, Only.refl _ _, by show ¬ v ∈ rs.take 0; simp⟩
 case round =>
   obtain ⟨n, rfl, hn, HK, HN⟩ := hrel
   by_cases hlt : n < rs.length
   · obtain ⟨g, rfl, hcap, hc1⟩ := (unhide HB).get hlt
     have hc2 := cell_kept (unhide HK) _ _ hc1 (fun f => f)
     clear hc1
     have b1 : (0 : Int) ≤ (n : Int) := by omega
     have b2 : (n : Int) < (rs.length : Int) := by omega
     have HM : Hid (rs[n] ∈ rs) := List.getElem_mem hlt
     have HN1 : Hid (v ≠ rs[n] → v ∉ rs.take (n + 1)) := fun hne hm => by
       rw [List.take_add_one, List.getElem?_eq_getElem hlt] at hm
       rcases List.mem_append.1 hm with h | h
       · exact unhide HN h
       · exact hne (by simpa using h)
     generalize rs[n] = a at *
     by_cases hva : v = a
     · have hb : ((v : Int) == (a : Int)) = true := by simp [hva]
       have HV : Hid (v ∈ rs) := by show v ∈ rs; rw [hva]; exact unhide HM
       clear hva
       go_wp2_with fail
       go_ret
       exact ⟨n, rfl, ⟨fun _ => unhide HV, fun _ => by omega⟩, unhide HK⟩
     · have hb : ((v : Int) == (a : Int)) = false := by simp; omega
       have HN2 := hide (unhide HN1 hva)
       clear hva
       go_wp2_with fail
       exact ⟨⟨n + 1, by go_num, by omega, HK, unhide HN2⟩, by simp [intOf]; omega⟩
   · obtain rfl : n = rs.length := by omega
     rw [List.take_length] at HN
     go_wp2_with fail
     go_ret
     exact ⟨-1, rfl, ⟨fun h => by omega, fun h => absurd h (unhide HN)⟩, unhide HK⟩
theorem has_place (rv : Value) (rs : List Nat) (v : Nat) (w : World) (h : IntSl w rv rs) (hl : rs.length ≤ 1000) :
   Calls Tryz.prog 77 #[rv, .int .i64 (v : Nat)] w fun x w' => x = .returned (.bool (decide (v ∈ rs))) ∧ Only (fun _ => False) w w' := by
 have HZ := hide (index_any rv rs v w h hl)
 obtain ⟨va, vc, rfl⟩ := h.slice
 clear h
 by_cases hv : v ∈ rs
 · rw [decide_eq_true hv]
   go_enter Tryz.func77, Tryz.ntmps77
   go_wp2_with (go_at_call 118; refine (unhide HZ).mono ?_; rintro e w1 ⟨k, rfl, hk, hO1⟩; have hk0 : 0 ≤ k := hk.2 hv; clear hk; have HO1 := hide hO1; clear hO1)
   go_ret
   exact ⟨rfl, unhide HO1⟩
 · rw [decide_eq_false hv]
   go_enter Tryz.func77, Tryz.ntmps77
   go_wp2_with (go_at_call 118; refine (unhide HZ).mono ?_; rintro e w1 ⟨k, rfl, hk, hO1⟩; have hk0 : ¬ 0 ≤ k := fun h => hv (hk.1 h); clear hk; have HO1 := hide hO1; clear hO1)
   go_ret
   refine ⟨?_, unhide HO1⟩
   show Ending.returned (.bool (decide (0 ≤ k))) = _
   rw [decide_eq_false (by omega)]
namespace Prg
def lfP (L : List (Int × Int)) (T : Tree) (k : Nat) : Prop := k < L.length ∧ Cs.leafP T (Pro.letAt L k) = true
def holdAt (W : Int → Bool) (L : List (Int × Int)) (k : Nat) (a : Int) : Bool := holdB (decide (k = 0)) (decide (k = L.length)) (befB W L k) (aftB W L k) a
def ahP (W : Int → Bool) (L : List (Int × Int)) (a : Int) (k : Nat) : Prop := holdAt W L k a = true
abbrev GoP (W : Int → Bool) (L : List (Int × Int)) (N : List Stp) (p i q j : Nat) : Prop := Sm.Goes (lfP L) (ahP W L) N p i q j
def Beg (W : Int → Bool) (L : List (Int × Int)) (N : List Stp) (st i m : Nat) (bs : List Nat) : Prop := (∀ p ∈ bs, p < N.length) ∧ ∀ q, (∃ p ∈ bs, GoP W L N p m q m) ↔ GoP W L N st i q m
def Done (W : Int → Bool) (L : List (Int × Int)) (N : List Stp) (st i m : Nat) (js : List Nat) : Prop := js.Pairwise (· < ·) ∧ ∀ j, j ∈ js ↔ j < m ∧ GoP W L N st i 0 j
theorem Beg.first {W : Int → Bool} {L : List (Int × Int)} {N : List Stp} {st i : Nat} (hs : st < N.length) : Beg W L N st i i [st] :=
 ⟨fun p hp => by simp at hp; omega, fun q => ⟨fun ⟨p, hp, g⟩ => by obtain rfl := List.mem_singleton.1 hp; exact g, fun g => ⟨st, List.mem_singleton.2 rfl, g⟩⟩⟩
theorem Done.first {W : Int → Bool} {L : List (Int × Int)} {N : List Stp} {st i : Nat} : Done W L N st i i [] :=
 ⟨List.Pairwise.nil, fun j => ⟨fun h => (by cases h), fun h => (by have := h.2.le; omega)⟩⟩
theorem eps_at {W : Int → Bool} {L : List (Int × Int)} {N : List Stp} {m a b : Nat} : Sm.eps (ahP W L) N a m b ↔ epsB N (holdAt W L m) a b := Iff.rfl
theorem GE_at {W : Int → Bool} {L : List (Int × Int)} {N : List Stp} {m a b : Nat} (h : GE N (holdAt W L m) a b) : GoP W L N a m b m := by
 obtain ⟨k, h⟩ := h
 suffices H : ∀ (k a b i j : Nat), Sm.Run (fun _ _ => False) (fun x _ => holdAt W L m x = true) N k a i b j → GoP W L N a m b m from H k a b 0 0 h
 intro k
 induction k with
 | zero => rintro a b i j ⟨rfl, _⟩; exact Sm.Goes.refl _ _ _
 | succ k ih =>
   rintro a b i j ⟨p', i', ⟨s, hs, h1⟩, h2⟩
   refine Sm.Goes.head ?_ (ih _ _ _ _ h2)
   rcases h1 with ⟨_, f, _⟩ | ⟨k1, k2, k3, _⟩ | ⟨k1, k2, _⟩
   · exact f.elim
   · exact ⟨s, hs, .inr (.inl ⟨k1, k2, k3, rfl⟩)⟩
   · exact ⟨s, hs, .inr (.inr ⟨k1, k2, rfl⟩)⟩
theorem reach_all {W : Int → Bool} {L : List (Int × Int)} {N : List Stp} {m : Nat} {bs rs : List Nat} (h1 : ∀ p ∈ bs, p ∈ rs) (h2 : ∀ q ∈ rs, ∃ p ∈ bs, GE N (holdAt W L m) p q) (h3 : ∀ a ∈ rs, ∀ t, epsB N (holdAt W L m) a t → t ∈ rs) (q : Nat) : q ∈ rs ↔ ∃ p ∈ bs, GoP W L N p m q m :=
 Sm.closed_goes h1 (fun q hq => by obtain ⟨p, hp, g⟩ := h2 q hq; exact ⟨p, hp, GE_at g⟩) (fun a ha b hb => h3 a ha b (eps_at.1 hb)) q
theorem take_all {L : List (Int × Int)} {N : List Stp} {m : Nat} {rs : List Nat} (hm : m < L.length) (b : Nat) : b ∈ takeL N (Pro.letAt L m) rs ↔ ∃ a ∈ rs, Sm.tkr (lfP L) N a m b := by
 rw [takeL_mem]
 constructor
 · rintro ⟨a, ha, s, hs, hp, rfl⟩
   unfold setP at hp
   rw [Bool.and_eq_true, decide_eq_true_eq] at hp
   exact ⟨a, ha, s, hs, hp.1, ⟨hm, hp.2⟩, rfl⟩
 · rintro ⟨a, ha, s, hs, hk, hl, rfl⟩
   exact ⟨a, ha, s, hs, by unfold setP; rw [hl.2, decide_eq_true hk]; rfl, rfl⟩
theorem Beg.next {W : Int → Bool} {L : List (Int × Int)} {N : List Stp} {st i m : Nat} {bs rs : List Nat} (h : Beg W L N st i m bs) (him : i ≤ m) (hm : m < L.length) (hr : ∀ q, q ∈ rs ↔ ∃ p ∈ bs, GoP W L N p m q m) (hf : ∀ (k : Nat) s, N[k]? = some s → s.next < N.length ∧ s.other < N.length) : Beg W L N st i (m + 1) (takeL N (Pro.letAt L m) rs) :=
 ⟨fun b hb => by obtain ⟨a, _, s, hs, _, rfl⟩ := takeL_mem.1 hb; exact (hf a s hs).1, fun q => Sm.next_goes him h.2 hr (take_all hm) q⟩
theorem Done.next {W : Int → Bool} {L : List (Int × Int)} {N : List Stp} {st i m : Nat} {bs rs js : List Nat} (hd : Done W L N st i m js) (h : Beg W L N st i m bs) (hr : ∀ q, q ∈ rs ↔ ∃ p ∈ bs, GoP W L N p m q m) : (0 ∈ rs → Done W L N st i (m + 1) (js ++ [m])) ∧ (0 ∉ rs → Done W L N st i (m + 1) js) := by
 have e : 0 ∈ rs ↔ GoP W L N st i 0 m := (hr 0).trans (h.2 0)
 constructor
 · intro h0
   refine ⟨List.pairwise_append.2 ⟨hd.1, by simp, fun a ha b hb => ?_⟩, fun j => ?_⟩
   · simp at hb
     subst hb
     exact ((hd.2 a).1 ha).1
   · rw [List.mem_append, hd.2 j]
     constructor
     · rintro (⟨h1, h2⟩ | h1)
       · exact ⟨by omega, h2⟩
       · simp at h1; subst h1; exact ⟨by omega, e.1 h0⟩
     · rintro ⟨h1, h2⟩
       by_cases ej : j = m
       · right; simp [ej]
       · left; exact ⟨by omega, h2⟩
 · intro h0
   refine ⟨hd.1, fun j => ?_⟩
   rw [hd.2 j]
   constructor
   · rintro ⟨h1, h2⟩; exact ⟨by omega, h2⟩
   · rintro ⟨h1, h2⟩
     refine ⟨?_, h2⟩
     by_cases ej : j = m
     · subst ej; exact absurd (e.2 h2) h0
     · omega
theorem Done.all {W : Int → Bool} {L : List (Int × Int)} {N : List Stp} {st i : Nat} {js : List Nat} (hd : Done W L N st i (L.length + 1) js) : EndsIs L.length (GoP W L N st i 0) js := ⟨hd.1, fun j => by rw [hd.2 j]; constructor <;> rintro ⟨h1, h2⟩ <;> exact ⟨by omega, h2⟩⟩
theorem Done.none {W : Int → Bool} {L : List (Int × Int)} {N : List Stp} {st i m : Nat} {js : List Nat} (hd : Done W L N st i m js) (h : Beg W L N st i m []) (him : i ≤ m) (hm : m ≤ L.length) : EndsIs L.length (GoP W L N st i 0) js := by
 have hn : ∀ q, ¬ GoP W L N st i q m := fun q g => by obtain ⟨p, hp, _⟩ := (h.2 q).2 g; cases hp
 refine ⟨hd.1, fun j => ?_⟩
 rw [hd.2 j]
 constructor
 · rintro ⟨h1, h2⟩; exact ⟨by omega, h2⟩
 · rintro ⟨h1, h2⟩
   refine ⟨?_, h2⟩
   by_cases e : j < m
   · exact e
   · obtain ⟨d, rfl⟩ : ∃ d, j = m + d := ⟨j - m, by omega⟩
     exact absurd h2 (Sm.goes_none him hn d 0)
end Prg
theorem pends_any (pb st i : Nat) (N : List Stp) (W : Int → Bool) (L : List (Int × Int)) (v : Value) (A : Nat → Prop) (w : World) (hP : ProgAt w A pb N st W) (hL : LetSl w v L) (hi : i ≤ L.length) (hl : L.length ≤ 400) :
   Calls Tryz.prog 51 #[.pointer (some ⟨pb, 0, none⟩), v, .int .i64 (i : Nat)] w fun x w' => ∃ sv js, x = .returned sv ∧ w'.ownsRow w.heap.size 3 1 sv js.length (natCells js) ∧ EndsIs L.length (Prg.GoP W L N st i 0) js ∧ Only (fun _ => False) w w' := by
 obtain ⟨i0, hi0, hz0, hz1, hz2⟩ := info_parts Tryz.infoInt
 obtain ⟨va, vc, rfl⟩ := hL.slice
 have hst := hP.c1
 have hNl := hP.len
 have HP := hide hP
 have HL := hide hL
 clear hP hL
 go_enter Tryz.func51, Tryz.ntmps51
 go_wp2_with fail
 have HO0 : Hid (Only (fun _ => False) w (w.alloc (.cells #[.int .i64 (st : Nat)] 3))) := (Only.refl _ _).alloc _
 have HB0 : Hid (IntSl (w.alloc (.cells #[.int .i64 (st : Nat)] 3)) (.slice (some ⟨w.heap.size, 0, none⟩) 1 1) [st]) := .inr ⟨w.heap.size, 1, rfl, by simp, fun j a hj => by
   have hj0 : j = 0 := by have := (List.getElem?_eq_some_iff.1 hj).1; simp at this; omega
   subst hj0
   simp at hj
   subst hj
   exact new_cell _ _ rfl _ _ 0 _ rfl⟩
 generalize (w.alloc (.cells #[.int .i64 (st : Nat)] 3)) = W0 at HO0 HB0 ⊢
 go_loopw [7, 8, 9] (fun ev bv k wr => ∃ (m : Nat) (bs js : List Nat), k = .int .i64 m ∧ i ≤ m ∧ m ≤ L.length ∧ bs.length ≤ 300 ∧ js.length ≤ m ∧ Hid (Only (fun _ => False) w wr) ∧ Hid (wr.ownsRow w.heap.size 3 1 ev js.length (natCells js)) ∧ Hid (IntSl wr bv bs) ∧ Hid (Prg.Beg W L N st i m bs) ∧ Hid (Prg.Done W L N st i m js)) (fun _ _ k _ => L.length + 1 - (intOf k).toNat)
 case atStart => exact ⟨i, [st], [], rfl, by omega, by omega, by simp, by simp, HO0, World.ownsRow_nil _ _ _ _, HB0, Prg.Beg.first (unhide HP).stl, Prg.Done.first⟩
 case round =>
   clear HO0 HB0
   obtain ⟨m, bs, js, rfl, him, hmL, hbl, hjl, HK, HE, HB, HG, HD⟩ := hrel
   obtain ⟨ea, en, ec, rfl⟩ := own_slice (unhide HE)
   obtain ⟨ba, bc, rfl⟩ := (unhide HB).slice
   by_cases hb0 : bs.length = 0
   · have hbi : ¬ (0 : Int) < (bs.length : Int) := by omega
     have HX : Hid (EndsIs L.length (Prg.GoP W L N st i 0) js) := (unhide HD).none (by rw [List.eq_nil_of_length_eq_zero hb0] at HG; exact unhide HG) him hmL
     clear hb0
     go_wp2_with fail
     go_ret
     exact ⟨_, rfl, js, unhide HE, unhide HX, unhide HK⟩
   · have hbi : (0 : Int) < (bs.length : Int) := by omega
     clear hb0
     have HA := hide (around_any pb st m N W L _ A wr ((unhide HP).keep (unhide HK) (fun _ _ f => f)) ((unhide HL).keep (unhide HK)) hmL hl)
     go_wp2_with (first
       | (go_at_call 76; refine (unhide HA).mono ?_; rintro e w1 ⟨rfl, hO1⟩; have HK1 := hide ((unhide HK).trans hO1); have HE1 := hide (ownsRow_keep (unhide HE) hO1 (fun _ _ f => f)); have HB1 := hide ((unhide HB).keep hO1); clear hO1 HK HE HB HA)
       | (go_at_call 75; refine (reach_any pb st N W _ bs _ _ _ _ A w1 ((unhide HP).keep (unhide HK1) (fun _ _ f => f)) (unhide HB1) (unhide HG).1 (by omega)).mono ?_; rintro e w2 ⟨rv, rs, rfl, ho2, hO2, hr1, hr2, hr3, hr4, hr5⟩; obtain ⟨ra, rn, rc, rfl⟩ := own_slice ho2; have HR2 := hide (IntSl.of ho2); have HK2 := hide ((unhide HK1).trans hO2); have HE2 := hide (ownsRow_keep (unhide HE1) hO2 (fun _ _ f => f)); have HQ := hide (Prg.reach_all (W := W) (L := L) (m := m) hr3 hr4 hr5); have HRL := hide hr2; have HRO := hide ho2; have HEB : Hid (∀ j, (Value.slice ea en ec).ownBlock = some j → j < w1.heap.size) := (fun j hj => (ownsRow_block (unhide HE1) j hj).2); clear ho2 hO2 hr2 hr3 hr4 hr5 HK1 HE1 HB1)
       | (go_at_call 77; refine unhide ?_))
     refine hide ?_
     have hH : Calls Tryz.prog 77 #[.slice ra rn rc, .int .i64 0] w2 fun x w' => x = .returned (.bool (decide (0 ∈ rs))) ∧ Only (fun _ => False) w2 w' := has_place _ rs 0 w2 (unhide HR2) (by omega)
     have HDN := hide ((unhide HD).next (unhide HG) (unhide HQ))
     by_cases h00 : 0 ∈ rs
     · rw [decide_eq_true h00] at hH
       have HD1 := hide ((unhide HDN).1 h00)
       clear HDN h00
       refine hH.mono ?_
       rintro e w3 ⟨rfl, hO3⟩
       have HK3 := hide ((unhide HK2).trans hO3)
       have HE3 := hide (ownsRow_keep (unhide HE2) hO3 (fun _ _ f => f))
       have HR3 := hide (ownsRow_keep (unhide HRO) hO3 (fun _ _ f => f))
       have hsz3 := (unhide HK3).size
       clear hO3 hH HK2 HE2 HR2 HRO
       by_cases hmm : m = L.length
       · have hmb : ((m : Int) == (L.length : Int)) = true := by simp; omega
         have HX : Hid (EndsIs L.length (Prg.GoP W L N st i 0) (js ++ [m])) := Prg.Done.all (by rw [← hmm]; exact unhide HD1)
         clear hmm
         go_wp2_with (at_builtin; refine wpList_append_own _ rfl _ _ 28 rfl w.heap.size 3 i0 (.int .i64 0) 1 8 Tryz.underlying28 hi0 hz0 hz1 hz2 rfl (by decide) _ _ _ rfl (World.ownsRow.alloc (unhide HE3) _) _ 1 1 [.int .i64 (m : Nat)] rfl rfl (cell_one_new _ _ _) (fun x hx => by simp at hx; subst hx; rfl) (by unfold maxLen; omega) (by omega) (by simp; omega) ?_; intro v' w4 hown' hgrow hnil; obtain ⟨xa, xn, xc, rfl⟩ := own_slice hown'; have HG4 := hide hgrow; have HN4 := hide hown'; clear hown' hgrow hnil)
         go_ret
         have hK4 : Only (fun _ => False) w w4 := ((unhide HK3).alloc _).grown (unhide HG4) (fun j hj => Or.inr (ownsRow_block (unhide HE3) j hj).1)
         have HE4 : Hid (w4.ownsRow w.heap.size 3 1 (.slice xa xn xc) (js ++ [m]).length (natCells (js ++ [m]))) := by show World.ownsRow _ _ _ _ _ _ _; unfold natCells; rw [List.length_append, List.map_append]; exact unhide HN4
         exact ⟨_, js ++ [m], rfl, unhide HE4, unhide HX, hK4⟩
       · have hmb : ((m : Int) == (L.length : Int)) = false := by simp; omega
         have hml : m < L.length := by omega
         obtain ⟨g, cap, x0, hv, hcap, d1, d2⟩ := (unhide HL).get hml
         simp at hv
         obtain ⟨rfl, rfl⟩ := hv
         have b1 : (0 : Int) ≤ (m : Int) := by omega
         have b2 : (m : Int) < (L.length : Int) := by omega
         have HG1 := hide ((unhide HG).next him hml (unhide HQ) (unhide HP).fit)
         have htl := Prg.takeL_len N (Pro.letAt L m) rs
         have HDD := hide d2
         clear hmm d1 d2
         go_wp2_with (first
           | (at_builtin; refine wpList_append_own _ rfl _ _ 28 rfl w.heap.size 3 i0 (.int .i64 0) 1 8 Tryz.underlying28 hi0 hz0 hz1 hz2 rfl (by decide) _ _ _ rfl (World.ownsRow.alloc (unhide HE3) _) _ 1 1 [.int .i64 (m : Nat)] rfl rfl (cell_one_new _ _ _) (fun x hx => by simp at hx; subst hx; rfl) (by unfold maxLen; omega) (by omega) (by simp; omega) ?_; intro v' w4 hown' hgrow hnil; obtain ⟨xa, xn, xc, rfl⟩ := own_slice hown'; have HG4 := hide hgrow; have HN4 := hide hown'; clear hown' hgrow hnil; have hK4 : Only (fun _ => False) w w4 := ((unhide HK3).alloc _).grown (unhide HG4) (fun j hj => Or.inr (ownsRow_block (unhide HE3) j hj).1); have d3 := cell_kept hK4 _ _ (unhide HDD) (fun f => f); have HK4 := hide hK4; clear hK4)
           | (go_at_call 78; refine unhide ?_))
         refine hide ?_
         have HE4 : Hid (w4.ownsRow w.heap.size 3 1 (.slice xa xn xc) (js ++ [m]).length (natCells (js ++ [m]))) := by show World.ownsRow _ _ _ _ _ _ _; unfold natCells; rw [List.length_append, List.map_append]; exact unhide HN4
         have hR4 : w4.ownsRow w1.heap.size 3 1 (.slice ra rn rc) rs.length (natCells rs) := ownsRow_keep (P := fun g => (Value.slice ea en ec).ownBlock = some g) (World.ownsRow.alloc (unhide HR3) _) ((Only.refl _ _).grown (unhide HG4) (fun j hj => Or.inl hj)) (fun g hg e => by have h1 := (ownsRow_block (unhide HR3) g hg).1; have h2 := unhide HEB g e; omega)
         refine (ptake_any pb st N W _ rs (Pro.letAt L m) A w4 ((unhide HP).keep (unhide HK4) (fun _ _ f => f)) (IntSl.of hR4) (unhide HRL) (by omega)).mono ?_
         rintro e w5 ⟨tv, rfl, ho5, hO5⟩
         have HK5 := hide ((unhide HK4).trans hO5)
         have HE5 := hide (ownsRow_keep (unhide HE4) hO5 (fun _ _ f => f))
         have HB5 := hide (IntSl.of ho5)
         clear ho5 hO5 hR4
         go_wp2_with fail
         exact ⟨⟨m + 1, _, js ++ [m], by go_num, by omega, by omega, by omega, by simp; omega, HK5, HE5, HB5, HG1, HD1⟩, by simp [intOf]; omega⟩
     · rw [decide_eq_false h00] at hH
       have HD1 := hide ((unhide HDN).2 h00)
       clear HDN h00
       refine hH.mono ?_
       rintro e w3 ⟨rfl, hO3⟩
       have HK3 := hide ((unhide HK2).trans hO3)
       have HE3 := hide (ownsRow_keep (unhide HE2) hO3 (fun _ _ f => f))
       have HR3 := hide ((unhide HR2).keep hO3)
       clear hO3 hH HK2 HE2 HR2
       by_cases hmm : m = L.length
       · have hmb : ((m : Int) == (L.length : Int)) = true := by simp; omega
         have HX : Hid (EndsIs L.length (Prg.GoP W L N st i 0) js) := Prg.Done.all (by rw [← hmm]; exact unhide HD1)
         clear hmm
         go_wp2_with fail
         go_ret
         exact ⟨_, js, rfl, unhide HE3, unhide HX, unhide HK3⟩
       · have hmb : ((m : Int) == (L.length : Int)) = false := by simp; omega
         have hml : m < L.length := by omega
         obtain ⟨g, cap, x0, hv, hcap, d1, d2⟩ := (unhide HL).get hml
         simp at hv
         obtain ⟨rfl, rfl⟩ := hv
         have d3 := cell_kept (unhide HK3) _ _ d2 (fun f => f)
         have b1 : (0 : Int) ≤ (m : Int) := by omega
         have b2 : (m : Int) < (L.length : Int) := by omega
         have HT := hide (ptake_any pb st N W _ rs (Pro.letAt L m) A w3 ((unhide HP).keep (unhide HK3) (fun _ _ f => f)) (unhide HR3) (unhide HRL) (by omega))
         have HG1 := hide ((unhide HG).next him hml (unhide HQ) (unhide HP).fit)
         have htl := Prg.takeL_len N (Pro.letAt L m) rs
         clear hmm d1 d2
         go_wp2_with (go_at_call 78; refine (unhide HT).mono ?_; rintro e w4 ⟨tv, rfl, ho4, hO4⟩; have HK4 := hide ((unhide HK3).trans hO4); have HE4 := hide (ownsRow_keep (unhide HE3) hO4 (fun _ _ f => f)); have HB4 := hide (IntSl.of ho4); clear ho4 hO4)
         exact ⟨⟨m + 1, _, js, by go_num, by omega, by omega, by omega, by omega, HK4, HE4, HB4, HG1, HD1⟩, by simp [intOf]; omega⟩
namespace Eqv
theorem chars_map (s : ByteArray) : ∀ (f p : Nat) (acc : List (Int × Int)), s.size < p + f → p ≤ s.size → (Ref.charsF s f p acc).1 = acc ++ (Pro.letM s f p).map (fun x => (x.2, x.1))
 | 0, p, acc, h, hp => by omega
 | f + 1, p, acc, h, hp => by
   by_cases hlt : p < s.size
   · have hr := read_one hlt
     cases h1 : Ref.oneF s p with
     | none =>
       rw [h1] at hr
       rw [Ref.charsF_bad hlt h1]
       simp only [Pro.letM]
       rw [hr]
       simp [ahead]
     | some nc =>
       obtain ⟨m, d⟩ := nc
       rw [h1] at hr
       have hb := Ref.oneF_bd h1
       have e : Pro.letM s (f + 1) p = ((p : Int), d) :: Pro.letM s f (p + m) := by
         simp only [Pro.letM]; rw [hr]; rfl
       rw [e, Ref.charsF_good hlt h1, chars_map s f (p + m) _ (by omega) (by omega)]
       simp
   · rw [Ref.charsF_end hlt]
     simp only [Pro.letM]
     rw [show Pro.readM s p = none by unfold Pro.readM; rw [if_neg hlt]]
     simp
theorem letM_ch (s : ByteArray) : ∀ (f p : Nat), ∀ x ∈ Pro.letM s f p, Cs.isCh x.2 = true
 | 0, _, x, hx => by simp [Pro.letM] at hx
 | f + 1, p, x, hx => by
   by_cases hlt : p < s.size
   · have hr := read_one hlt
     cases h1 : Ref.oneF s p with
     | none =>
       rw [h1] at hr
       simp only [Pro.letM] at hx
       rw [hr] at hx
       simp [ahead] at hx
     | some nc =>
       obtain ⟨m, d⟩ := nc
       rw [h1] at hr
       have hb := Ref.oneF_bd h1
       have e : Pro.letM s (f + 1) p = ((p : Int), d) :: Pro.letM s f (p + m) := by
         simp only [Pro.letM]; rw [hr]; rfl
       rw [e] at hx
       rcases List.mem_cons.1 hx with rfl | hx
       · rw [Cs.isCh_iff]; simp only; omega
       · exact letM_ch s f (p + m) x hx
   · simp only [Pro.letM] at hx
     rw [show Pro.readM s p = none by unfold Pro.readM; rw [if_neg hlt]] at hx
     simp at hx
end Eqv
namespace Prg
structure SameTx (L tx : List (Int × Int)) : Prop where
 map : tx = L.map (fun x => (x.2, x.1))
 ch : ∀ x ∈ L, Cs.isCh x.2 = true
theorem SameTx.of (s : ByteArray) : SameTx (Pro.letM s (s.size + 1) 0) (Ref.charsR s).1 := ⟨by
 have := Eqv.chars_map s (s.size + 1) 0 [] (by omega) (by omega)
 simpa [Ref.charsR] using this, Eqv.letM_ch s _ _⟩
variable {L tx : List (Int × Int)}
theorem SameTx.len (h : SameTx L tx) : tx.length = L.length := by rw [h.map]; simp
end Prg
end
end Go.Proofs.YtfnkbmglodopkaaGreatDoor
