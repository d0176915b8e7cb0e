/-
  What wakes hands back.
-/
import Derived.Test.YtcbehpocnnkkeaaTwO
import Derived.Test.YtcbehpocnnkkeaaTwQ
namespace Go.Proofs.Ytcbehpocnnkkeaa
open Go.RowKit

/-- The report that wakes makes. -/
def wkR : Rp := ⟨0, 0, 5, -1, 0, [1, 1, 2], [4, 5, -6]⟩
theorem wk_good : goodR wkR = true := by decide
theorem wk_back : decE (encS wkR) = 0 ∧ decR (encS wkR) = wkR := by
  rw [(encE_yes wk_good).2]
  exact dec_enc wk_good (by decide) (by decide) (by decide) (by decide)
theorem wk_size : (encS wkR).size ≤ 1000000 := by
  rw [(encE_yes wk_good).2]
  have := enc_size wk_good
  omega
def wkW (w : World) : World := (w.alloc (.cells #[.int .i64 1, .int .i64 1, .int .i64 2] 3)).alloc (.cells #[.int .i64 4, .int .i64 5, .int .i64 (-6)] 3)
theorem row3 {w : World} {b : Nat} {x y z : Int} (h : w.heap[b]? = some (.cells #[.int .i64 x, .int .i64 y, .int .i64 z] 3 (0, 0))) : IA w.heap.size w (some ⟨b, 0, none⟩) 3 [x, y, z] := by
  refine ⟨by simp, by unfold maxLen; omega, .inr ⟨b, 0, rfl, lt_of_heap h, fun i v hi => ?_⟩⟩
  rw [Nat.zero_add, cell_of_row w b i _ 3 _ h]
  match i, hi with
  | 0, hi => simp at hi; subst hi; rfl
  | 1, hi => simp at hi; subst hi; rfl
  | 2, hi => simp at hi; subst hi; rfl
  | i + 3, hi => simp at hi
theorem wk_w (w : World) : IA (wkW w).heap.size (wkW w) (some ⟨w.heap.size, 0, none⟩) 3 wkR.st ∧ IA (wkW w).heap.size (wkW w) (some ⟨w.heap.size + 1, 0, none⟩) 3 wkR.dl ∧ Below w.heap.size w (wkW w) := by
  refine ⟨row3 (((Apart.refl (fun _ => False) _).alloc _).heap (heap_alloc_new w _) (fun h => h)), row3 ?_, (((Apart.refl (fun _ => False) w).alloc _).alloc _).belowZ⟩
  have := heap_alloc_new (w.alloc (.cells #[.int .i64 1, .int .i64 1, .int .i64 2] 3)) (.cells #[.int .i64 4, .int .i64 5, .int .i64 (-6)] 3)
  rw [World.size_alloc] at this
  exact this
set_option maxRecDepth 100000 in
set_option maxHeartbeats 1000000 in
theorem wakes_any (w : World) : Calls Try.prog 9 #[] w fun e w' => e = .returned (.bool true) ∧ Below w.heap.size w w' := by
  obtain ⟨k0, k1, k2⟩ := wk_w w
  obtain ⟨S, HS⟩ : ∃ S, Hid (encS wkR = S) := ⟨_, rfl⟩
  have HJ := mkHid (enc_at (r := wkR) (c := 3) (c' := 3) k0 k1 (by decide) (by decide) (by decide) (by decide) HS.out (encE_yes wk_good).1)
  have B0 := mkHid k2
  have hz := wk_size
  obtain ⟨d1, d2⟩ := wk_back
  rw [HS.out] at hz d1 d2
  have HD := mkHid (dec_at S hz d2 d1)
  unfold rv wkW at HJ
  unfold wkW at B0
  clear k0 k1 k2 hz d1 d2
  go_enter Try.func9, Try.ntmps9
  go_wp2_with fail
  refine (HJ.out).mono ?_
  rintro e w1 ⟨rfl, b1⟩
  have B1 := mkHid (B0.out.trans (b1.mono B0.out.size))
  clear b1
  go_wp2_with fail
  refine (HD.out _).mono ?_
  rintro e w2 ⟨⟨a, c, a', c', rfl, hi, hj⟩, b2⟩
  have B2 := mkHid (B1.out.trans (b2.mono B1.out.size))
  have K2 := mkHid (ck_new hi hj (Apart.refl (fun _ => False) w2))
  have GD := mkHid (good_any wkR a c a' c' _ K2.out.i K2.out.j)
  have B3 := mkHid (B2.out.trans (K2.out.k.belowF w.heap.size B2.out.size))
  rw [wk_good] at GD
  obtain ⟨c0, c1, c2, c3, c4, c5, c6⟩ := K2.out.d.c
  obtain ⟨b', off, y, rfl, hbl, hy, e0⟩ := K2.out.j.at 2 (by decide)
  obtain rfl : y = -6 := by simp [wkR] at hy; exact hy.symm
  unfold rv at GD ⊢
  simp only [wkR, List.length_cons, List.length_nil, Nat.zero_add, Nat.reduceAdd] at GD c0 c1 c2 c3 c4 c5 c6 B3 e0 ⊢
  clear hi hj b2 hbl hy K2
  go_wp2_with fail
  refine (GD.out).mono ?_
  rintro e w3 ⟨rfl, a3⟩
  have B4 := mkHid (B3.out.trans (a3.belowF w.heap.size B3.out.size))
  clear a3
  go_wp2
  go_ret
  exact ⟨rfl, B4.out⟩
end Go.Proofs.Ytcbehpocnnkkeaa
