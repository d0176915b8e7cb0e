/-
  The document's example; a step of a base told as one line.
-/
import Derived.Test.YtnjghgbaffkafaaBaE
namespace Go.Proofs.Ytnjghgbaffkafaa
open Go.RowKit

/-- Blocks behind an elder world's alone have changed. -/
theorem Apart.later {w w1 w2 : World} {b : Nat} (h : Apart (fun k => w.heap.size ≤ k) w w1) (hb : w.heap.size ≤ b) (k : Apart (fun k => k = b) w1 w2) : Apart (fun k => w.heap.size ≤ k) w w2 :=
  h.trans k (fun i _ e => by rw [show i = b from e]; exact hb)
theorem Apart.same {w w1 w2 : World} (h : Apart (fun k => w.heap.size ≤ k) w w1) (k : Apart (fun _ => False) w1 w2) : Apart (fun k => w.heap.size ≤ k) w w2 :=
  h.trans k (fun _ _ e => e.elim)
theorem Apart.first {w w1 : World} (k : Apart (fun _ => False) w w1) : Apart (fun k => w.heap.size ≤ k) w w1 := k.mono (fun _ _ e => e.elim)
theorem Apart.none {w w1 : World} (h : Apart (fun k => w.heap.size ≤ k) w w1) : Apart (fun _ => False) w w1 := h.mono (fun _ hi e => absurd hi (Nat.not_lt.2 e))
set_option maxHeartbeats 1000000 in
theorem wakes_any (w : World) : Calls Try.prog 16 #[] w fun e w' => e = .returned (.bool true) ∧ Apart (fun _ => False) w w' := by
  have C0 := mkHid (bs_new (W := 10) (k := 2) (by omega) (by omega) (by omega) (by omega) w)
  go_enter Try.func16, Try.ntmps16
  go_wp2_with fail
  refine C0.out.mono ?_
  rintro e w1 ⟨rfl, h1, a1⟩
  obtain ⟨b, HB⟩ : ∃ b, Hid (w.heap.size = b) := ⟨_, mkHid rfl⟩
  rw [HB.out] at h1 ⊢
  have A1 := mkHid a1.first
  have C1 := mkHid (bs_add h1 0 5 0 5 0 (by decide) (by decide) (by decide))
  clear h1 a1
  go_wp2_with fail
  refine C1.out.mono ?_
  rintro e w2 ⟨rfl, h2, a2⟩
  have A2 := mkHid (A1.out.later (Nat.le_of_eq HB.out) a2)
  have C2 := mkHid (bs_add h2 10 9 1 9 4 (by decide) (by decide) (by decide))
  clear h2 a2
  go_wp2_with fail
  refine C2.out.mono ?_
  rintro e w3 ⟨rfl, h3, a3⟩
  have A3 := mkHid (A2.out.later (Nat.le_of_eq HB.out) a3)
  have C3 := mkHid (bs_add h3 25 9 2 9 0 (by decide) (by decide) (by decide))
  clear h3 a3
  go_wp2_with fail
  refine C3.out.mono ?_
  rintro e w4 ⟨rfl, h4, a4⟩
  have A4 := mkHid (A3.out.later (Nat.le_of_eq HB.out) a4)
  clear h4 a4
  go_wp2
  go_ret
  exact ⟨rfl, A4.out.none⟩
end Go.Proofs.Ytnjghgbaffkafaa
