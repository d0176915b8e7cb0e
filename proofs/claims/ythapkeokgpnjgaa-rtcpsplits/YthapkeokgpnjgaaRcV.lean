/-
  What wakes hands back.
-/
import Derived.Test.YthapkeokgpnjgaaRcQ
namespace Go.Proofs.Ythapkeokgpnjgaa
open Go.RowKit

/-- The part that wakes makes, its message. -/
def wkP : Pt := ⟨11, 205, ⟨#[]⟩⟩
def wkS : ByteArray := ⟨#[139, 205, 0, 0]⟩
theorem wk_ok : allOk [wkP] = true := by decide
theorem wk_j : jE [wkP] = 0 := jE_is (by simp) wk_ok (by decide)
theorem wk_s : jS [wkP] = wkS := by rw [jS_is wk_j]; rfl
theorem wk_back : rE wkS = 0 ∧ rL wkS = [wkP] := by rw [← wk_s]; exact back wk_j
theorem wk_list : wkS.toList = [139, 205, 0, 0] := by rw [ByteArray.toList_eq]; rfl
theorem wk_pa (w : World) : PA (w.alloc (.cells #[.int .i64 11, .int .i64 205, .string ⟨#[]⟩] 40)).heap.size (w.alloc (.cells #[.int .i64 11, .int .i64 205, .string ⟨#[]⟩] 40)) (some ⟨w.heap.size, 0, none⟩) [wkP] := by
  refine ⟨by unfold maxLen; decide, .inr ⟨w.heap.size, 0, rfl, by simp, fun i p hi => ?_⟩⟩
  cases i with
  | succ i => simp at hi
  | zero =>
    simp at hi
    subst hi
    obtain ⟨c0, c1, c2, _⟩ := cells3 (heap_alloc_new w (.cells #[.int .i64 11, .int .i64 205, .string ⟨#[]⟩] 40))
    exact ⟨c0, c1, c2, by unfold maxLen; decide⟩
set_option maxRecDepth 100000 in
set_option maxHeartbeats 400000 in
theorem wakes_any (w : World) : Calls Try.prog 9 #[] w fun e w' => e = .returned (.bool true) ∧ Below w.heap.size w w' := by
  have HJ := mkHid (join_any (some ⟨w.heap.size, 0, none⟩) 1 [wkP] (by decide) _ (wk_pa w))
  rw [wk_j, wk_s] at HJ
  have HD := mkHid (fun w => split_any wkS (by decide) w)
  have B0 := mkHid ((Below.refl w.heap.size w).alloc (Nat.le_refl _) (.cells #[.int .i64 11, .int .i64 205, .string ⟨#[]⟩] 40))
  have hwl := wk_list
  go_enter Try.func9, Try.ntmps9
  go_wp2_with fail
  refine (HJ.out).mono ?_
  rintro e w1 ⟨rfl, b1⟩
  have B1 := mkHid (B0.out.trans (b1.mono B0.out.size))
  clear b1
  go_wp2_with fail
  refine (HD.out _).mono ?_
  unfold SplitPost
  rw [wk_back.1, wk_back.2]
  rintro e w2 ⟨⟨a, cap, rfl, hp⟩, b2⟩
  have B2 := mkHid (B1.out.trans (b2.mono B1.out.size))
  obtain ⟨b, off, p, rfl, hbl, hp1, hc⟩ := hp.at 0 (by simp)
  simp at hp1
  subst hp1
  obtain ⟨c0, c1, c2, _⟩ := hc
  clear hp b2
  simp only [Nat.zero_mul, Nat.add_zero, wkP] at c0 c1 c2
  go_wp2
  go_ret
  exact ⟨rfl, B2.out⟩
end Go.Proofs.Ythapkeokgpnjgaa
