/-
  What wakes hands back.
-/
import Derived.Test.YtmnpghelglohlaaNkO
namespace Go.Proofs.Ytmnpghelglohlaa
open Go.RowKit

/-- The list that wakes makes. -/
def wkR : Nk := ⟨1, 2, [5, 6, 21]⟩
theorem wk_good : isL wkR.lo = true := by decide
theorem wk_bytes : packS (nkB wkR) = ⟨#[0, 0, 0, 1, 0, 0, 0, 2, 0, 5, 128, 1]⟩ := by decide
theorem wk_back : decE ⟨#[0, 0, 0, 1, 0, 0, 0, 2, 0, 5, 128, 1]⟩ = 0 ∧ decR ⟨#[0, 0, 0, 1, 0, 0, 0, 2, 0, 5, 128, 1]⟩ = wkR := by
  rw [← wk_bytes]
  exact dec_enc wk_good (by decide) (by decide) (by decide) (by decide)
theorem row3 {w : World} {b : Nat} {x y z : Int} (h : w.heap[b]? = some (.cells #[.int .i64 x, .int .i64 y, .int .i64 z] 3 (0, 0))) : IA w.heap.size w (some ⟨b, 0, none⟩) 3 [x, y, z] := by
  refine ⟨by simp, by unfold maxLen; omega, .inr ⟨b, 0, rfl, lt_of_heap h, fun i v hi => ?_⟩⟩
  rw [Nat.zero_add, cell_of_row w b i _ 3 _ h]
  match i, hi with
  | 0, hi => simp at hi; subst hi; rfl
  | 1, hi => simp at hi; subst hi; rfl
  | 2, hi => simp at hi; subst hi; rfl
  | i + 3, hi => simp at hi
set_option maxRecDepth 100000 in
set_option maxHeartbeats 1000000 in
theorem wakes_any (w : World) : Calls Try.prog 8 #[] w fun e w' => e = .returned (.bool true) ∧ Below w.heap.size w w' := by
  have k0 := row3 (heap_alloc_new w (.cells #[.int .i64 5, .int .i64 6, .int .i64 21] 3))
  have B0 := mkHid ((((Apart.refl (fun _ => False) w).alloc (.cells #[.int .i64 5, .int .i64 6, .int .i64 21] 3))).belowZ)
  have HJ := mkHid (show Calls Try.prog 10 #[.agg #[.int .u32 1, .int .u32 2, .slice (some ⟨w.heap.size, 0, none⟩) 3 3]] (w.alloc (.cells #[.int .i64 5, .int .i64 6, .int .i64 21] 3)) (fun e w' => e = .returned (.tuple #[.string ⟨#[0, 0, 0, 1, 0, 0, 0, 2, 0, 5, 128, 1]⟩, .int .i64 0]) ∧ Below (w.alloc (.cells #[.int .i64 5, .int .i64 6, .int .i64 21] 3)).heap.size (w.alloc (.cells #[.int .i64 5, .int .i64 6, .int .i64 21] 3)) w') from enc_at (r := wkR) (c := 3) k0 (by decide) (by decide) (by decide) (by decide) ((encE_yes wk_good).2.trans wk_bytes) (encE_yes wk_good).1)
  have HD := mkHid (dec_at ⟨#[0, 0, 0, 1, 0, 0, 0, 2, 0, 5, 128, 1]⟩ (by decide) wk_back.2 wk_back.1)
  have hx : ((({ data := #[0, 0, 0, 1, 0, 0, 0, 2, 0, 5, 128, 1] } : ByteArray).extract 8 12).toList == [0, 5, 128, 1]) = true := by decide +kernel
  clear k0
  go_enter Try.func8, Try.ntmps8
  go_wp2_with fail
  refine (HJ.out).mono ?_
  rintro e w1 ⟨rfl, b1⟩
  have B1 := mkHid (B0.out.trans (b1.mono B0.out.size))
  clear b1
  go_wp2_with fail
  refine (HD.out _).mono ?_
  rintro e w2 ⟨⟨a, c, rfl, hi⟩, b2⟩
  have B2 := mkHid (B1.out.trans (b2.mono B1.out.size))
  have K2 := mkHid (ck_new hi (Apart.refl (fun _ => False) w2))
  have B3 := mkHid (B2.out.trans (K2.out.k.belowF w.heap.size B2.out.size))
  obtain ⟨c0, c1, c2⟩ := K2.out.d.c
  unfold nv
  simp only [wkR, List.length_cons, List.length_nil, Nat.zero_add, Nat.reduceAdd] at c0 c1 c2 B3 ⊢
  clear hi b2 K2
  go_wp2
  go_ret
  exact ⟨rfl, B3.out⟩
end Go.Proofs.Ytmnpghelglohlaa
