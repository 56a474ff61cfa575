/- The program's Compile and Size, over its reader. -/
import Derived.Test.YtdhmllobgijggaaGreatDoorKErrCD
namespace Go.Proofs.YtdhmllobgijggaaGreatDoor
open Go.RowKit

/-- What the package-level variables hold when a call begins. -/
structure Start (w : World) (a : Nat → Addr) : Prop where
  sents : Sents w a
  rows : SentRows w a
  et : w.cell? ⟨8, 0, none⟩ = some (.iface 197 (.agg #[.pointer (some ⟨10, 88, none⟩)]))
  size : 10 ≤ w.heap.size

theorem Start.keep {w w' : World} {a : Nat → Addr} (h : Start w a) (k : Only (fun _ => False) w w') : Start w' a :=
  ⟨h.sents.keep k (fun _ _ f => f), h.rows.keep k, cell_kept k _ _ h.et (fun f => f), Nat.le_trans h.size k.size⟩

set_option maxHeartbeats 2000000 in
set_option maxRecDepth 1000000 in
theorem fplace_any (g : Nat) (p : Int) (w : World) (hE : w.cell? ⟨8, 0, none⟩ = some (.iface 197 (.agg #[.pointer (some ⟨10, 88, none⟩)]))) (h1 : w.cell? ⟨g, 1, none⟩ = some (.int .i64 p)) :
    Calls Tryz.prog 32 #[.iface 136 (.pointer (some ⟨g, 0, none⟩))] w fun e w' => e = .returned (.int .i64 p) ∧ Only (fun _ => False) w w' := by
  have hgl : g < w.heap.size := World.block_lt_of_cell? w ⟨g, 1, none⟩ h1
  have HA := hide (as_set ⟨g, 0, none⟩ ⟨w.heap.size, 0, none⟩ (.pointer none) (w.alloc (.cells #[.pointer none] 136)) (cell_kept ((Only.refl (fun _ => False) w).alloc _) _ _ hE (fun f => f)) (new_cell w _ rfl _ _ 0 _ rfl) (new_frozen w _ rfl _ _ 0))
  have HP : Hid (∀ w1, Only (Mine w.heap.size) (w.alloc (.cells #[.pointer none] 136)) w1 → w1.cell? ⟨g, 1, none⟩ = some (.int .i64 p)) := fun w1 hO =>
    cell_kept hO _ _ (cell_kept ((Only.refl (fun _ => False) w).alloc _) _ _ h1 (fun f => f)) (fun e => by have : g = w.heap.size := e; omega)
  clear hE
  go_enter Tryz.func32, Tryz.ntmps32
  go_wp2_with (go_at_call 52; refine (unhide HA).mono ?_; rintro e w1 ⟨rfl, hc, hO⟩; have h1w := (unhide HP) w1 hO)
  go_ret
  exact ⟨rfl, ((Only.refl (fun _ => False) w).alloc _).later hO (fun i hi => by unfold Mine at hi; omega)⟩

/-- What the reader tells where a pattern is wrong. -/
def PatBad (s : ByteArray) (a : Nat → Addr) (k : Nat) (p : Int) (w : World) : Prop :=
  Calls Tryz.prog 30 #[.string s] w fun x w' => ∃ v, x = .returned (.tuple #[.nilIface, v]) ∧ FaultAt w' w.heap.size v (sentV a k) p ∧ Only (fun _ => False) w w'
/-- What the reader tells where a pattern is right. -/
def PatGood (s : ByteArray) (v : Int) (w : World) : Prop :=
  Calls Tryz.prog 30 #[.string s] w fun x w' => (∃ T y F, x = .returned (.tuple #[.iface T y, .nilIface]) ∧ SizeAt F w' (fun g => w.heap.size ≤ g) (.iface T y) v) ∧ Only (fun _ => False) w w'

set_option maxHeartbeats 2000000 in
set_option maxRecDepth 1000000 in
theorem compile_no (s : ByteArray) (w : World) (a : Nat → Addr) (k : Nat) (p : Int) (hS : Start w a) (k1 : 1 ≤ k) (k2 : k ≤ 8) (hp : PatBad s a k p w) :
    Calls Tryz.prog 16 #[.string s] w fun x w' => x = .returned (.tuple #[.pointer none, .int .i64 k, .int .i64 p]) ∧ Only (fun _ => False) w w' := by
  have HS := hide hS
  have HP := hide hp
  clear hS hp
  go_enter Tryz.func16, Tryz.ntmps16
  go_wp2_with (first | (go_at_call 30; refine (unhide HP).mono ?_; rintro e w1 ⟨v, rfl, hv, hO1⟩; have HV := hide hv; obtain ⟨g, hg, rfl, f0, f1⟩ := hv; have H0 := hide f0; have H1 := hide f1; clear f0 f1 HV) | (go_at_call 31; refine (fnumber_any g k a _ ((unhide HS).keep hO1).sents ((unhide HS).keep hO1).rows k1 k2 (unhide H0)).mono ?_; rintro e wq ⟨rfl, hwq⟩; have hwr := hwq.symm; subst hwr; clear hwq) | (go_at_call 32; refine (fplace_any g p _ ((unhide HS).keep hO1).et (unhide H1)).mono ?_; rintro e w2 ⟨rfl, hO2⟩))
  go_ret3
  exact ⟨rfl, hO1.trans hO2⟩

set_option maxHeartbeats 2000000 in
set_option maxRecDepth 1000000 in
theorem compile_yes (s : ByteArray) (w : World) (v : Int) (hp : PatGood s v w) :
    Calls Tryz.prog 16 #[.string s] w fun x w' => ∃ g T y F, x = .returned (.tuple #[.pointer (some ⟨g, 0, none⟩), .int .i64 0, .int .i64 0]) ∧ w.heap.size ≤ g ∧ w'.cell? ⟨g, 0, none⟩ = some (.iface T y) ∧ SizeAt F w' (fun h => w.heap.size ≤ h) (.iface T y) v ∧ Only (fun _ => False) w w' := by
  have HP := hide hp
  clear hp
  go_enter Tryz.func16, Tryz.ntmps16
  go_wp2_with (go_at_call 30; refine (unhide HP).mono ?_; rintro e w1 ⟨⟨T, y, F, rfl, hv⟩, hO1⟩; have HV := hide hv; clear hv)
  go_ret3
  exact ⟨_, T, y, F, rfl, hO1.size, new_cell _ _ rfl _ _ 0 _ rfl, SizeAt.keep ((Only.refl (fun _ => False) _).alloc _) (fun _ _ f => f) F _ _ (unhide HV), hO1.alloc _⟩

set_option maxHeartbeats 2000000 in
set_option maxRecDepth 1000000 in
theorem size_any (g F : Nat) (T : TypeId) (y : Value) (w : World) (A : Nat → Prop) (v : Int) (h0 : w.cell? ⟨g, 0, none⟩ = some (.iface T y)) (hv : SizeAt F w A (.iface T y) v) :
    Calls Tryz.prog 7 #[.pointer (some ⟨g, 0, none⟩)] w fun x w' => x = .returned (.int .i64 (min (v + 1) 301)) ∧ Only (fun _ => False) w w' := by
  have HV := hide hv
  clear hv
  go_enter Tryz.func7, Tryz.ntmps7
  go_wp2_with (go_at_call 14; refine (patternSize_any F _ A _ v (unhide HV)).mono ?_; rintro e w3 ⟨rfl, hO3⟩)
  go_ret
  exact ⟨rfl, hO3⟩
end Go.Proofs.YtdhmllobgijggaaGreatDoor
