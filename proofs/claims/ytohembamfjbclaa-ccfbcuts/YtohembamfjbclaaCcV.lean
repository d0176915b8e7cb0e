/-
  What wakes hands back.
-/
import Derived.Test.YtohembamfjbclaaCcE
import Derived.Test.YtohembamfjbclaaCcF
namespace Go.Proofs.Ytohembamfjbclaa
open Go.RowKit

/-- The source that wakes makes, its body. -/
def wkB : Bk := ⟨2, 3, [⟨true, 3, 5⟩]⟩
def wkS : ByteArray := ⟨#[0, 0, 0, 1, 0, 0, 0, 2, 0, 3, 0, 1, 224, 5, 0, 0, 0, 0, 0, 9]⟩
theorem wk_j : encE [wkB] = 0 := encE_is (by decide) (by decide)
set_option maxRecDepth 100000 in
theorem wk_s : encS 1 [wkB] 9 = wkS := by rw [encS_is wk_j]; rfl
theorem wk_back : decE wkS = 0 ∧ decL wkS = [wkB] ∧ decSd wkS = 1 ∧ decSt wkS = 9 := by
  rw [← wk_s]; exact back wk_j (fun b hb => by simp at hb; subst hb; decide) (by decide) (by decide) (by decide) (by decide)
theorem wk_list : wkS.toList = [0, 0, 0, 1, 0, 0, 0, 2, 0, 3, 0, 1, 224, 5, 0, 0, 0, 0, 0, 9] := by rw [ByteArray.toList_eq]; rfl
def wkW (w : World) : World := (w.alloc (.cells #[.bool true, .int .i64 3, .int .i64 5] 47)).alloc (.cells #[.int .u32 2, .int .i64 3, .slice (some ⟨w.heap.size, 0, none⟩) 1 1] 44)
theorem wk_ba (w : World) : BA (wkW w).heap.size (wkW w) (some ⟨w.heap.size + 1, 0, none⟩) [wkB] := by
  have z : (wkW w).heap.size = w.heap.size + 1 + 1 := by simp [wkW]
  refine ⟨by unfold maxLen; decide, .inr ⟨w.heap.size + 1, 0, rfl, by omega, fun i p hi => ?_⟩⟩
  cases i with
  | succ i => simp at hi
  | zero =>
    simp at hi
    subst hi
    have n1 := heap_alloc_new (w.alloc (.cells #[.bool true, .int .i64 3, .int .i64 5] 47)) (.cells #[.int .u32 2, .int .i64 3, .slice (some ⟨w.heap.size, 0, none⟩) 1 1] 44)
    rw [World.size_alloc] at n1
    obtain ⟨⟨c0, c1, c2⟩, _⟩ := cells3' n1
    obtain ⟨⟨d0, d1, d2⟩, _⟩ := cells3' (((Apart.refl (fun _ => False) _).alloc (.cells #[.int .u32 2, .int .i64 3, .slice (some ⟨w.heap.size, 0, none⟩) 1 1] 44)).heap (heap_alloc_new w (.cells #[.bool true, .int .i64 3, .int .i64 5] 47)) (fun h => h))
    refine ⟨c0, c1, ⟨some ⟨w.heap.size, 0, none⟩, 1, c2, by unfold maxLen; decide, .inr ⟨w.heap.size, 0, rfl, by omega, fun i m hi => ?_⟩⟩, by decide, by decide⟩
    cases i with
    | succ i => simp [wkB] at hi
    | zero =>
      simp [wkB] at hi
      subst hi
      exact ⟨d0, d1, d2⟩
theorem wk_b (w : World) : Below w.heap.size w (wkW w) := ((Below.refl w.heap.size w).alloc (Nat.le_refl _) _).alloc (by simp) _
set_option maxRecDepth 100000 in
set_option maxHeartbeats 1000000 in
theorem wakes_any (w : World) : Calls Try.prog 9 #[] w fun e w' => e = .returned (.bool true) ∧ Below w.heap.size w w' := by
  have HJ := mkHid (enc_any 1 9 (some ⟨w.heap.size + 1, 0, none⟩) 1 [wkB] _ (wk_ba w) (by decide) (by decide) (by decide) (by decide))
  have B0 := mkHid (wk_b w)
  rw [wk_j, wk_s] at HJ
  unfold rv wkW at HJ
  unfold wkW at B0
  have HD := mkHid (fun w => dec_any wkS (by decide) w)
  have hwl := wk_list
  have hws : wkS.size = 20 := rfl
  go_enter Try.func9, Try.ntmps9
  go_wp2_with fail
  refine (HJ.out).mono ?_
  rintro e w1 ⟨rfl, b1⟩
  have B1 := mkHid (B0.out.trans (b1.mono B0.out.size))
  clear b1
  go_wp2_with fail
  refine (HD.out _).mono ?_
  unfold DecPost
  rw [wk_back.1, wk_back.2.1, wk_back.2.2.1, wk_back.2.2.2]
  rintro e w2 ⟨⟨a, cap, rfl, hp⟩, b2⟩
  have B2 := mkHid (B1.out.trans (b2.mono B1.out.size))
  have hp' := hp.on ((Below.refl w2.heap.size w2).alloc (Nat.le_refl _) (.cells #[.int .u32 1, .slice a 1 cap, .int .u32 9] 25))
  obtain ⟨b, off, k, rfl, hbl, hk, d0, d1, ⟨ma, mc, d2, hma⟩, _⟩ := hp'.at 0 (by simp)
  simp at hk
  subst hk
  obtain ⟨b', off', m, rfl, hbl', hm, f0, f1, f2⟩ := hma.at 0 (by simp [wkB])
  simp [wkB] at hm
  subst hm
  have B3 := mkHid (B2.out.alloc B2.out.size (.cells #[.int .u32 1, .slice (some ⟨b, off, none⟩) 1 cap, .int .u32 9] 25))
  clear hp hp' hma b2 hbl hbl'
  simp only [Nat.zero_mul, Nat.add_zero, wkB, List.length_cons, List.length_nil, Nat.zero_add] at d0 d1 d2 f0 f1 f2
  unfold rv
  go_wp2
  go_ret
  exact ⟨rfl, B3.out⟩
end Go.Proofs.Ytohembamfjbclaa
