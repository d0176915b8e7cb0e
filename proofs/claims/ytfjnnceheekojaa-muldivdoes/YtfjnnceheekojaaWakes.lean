/-
  wakes: the examples of the document.
-/
import Derived.Test.YtfjnnceheekojaaRoot
import Derived.Test.YtfjnnceheekojaaPlainD
namespace Go.Proofs.Ytfjnnceheekojaa
open Go.RowKit

theorem wf64 {x : Int} (h : (Lit.int .i64 x).wf = true) : -9223372036854775808 ≤ x ∧ x ≤ 9223372036854775807 := by
  simp [Lit.wf, IntKind.min, IntKind.max, IntKind.signed, IntKind.bits] at h
  exact ⟨by omega, by omega⟩
theorem wf32 {x : Int} (h : (Lit.int .i32 x).wf = true) : -2147483648 ≤ x ∧ x ≤ 2147483647 := by
  simp [Lit.wf, IntKind.min, IntKind.max, IntKind.signed, IntKind.bits] at h
  exact ⟨by omega, by omega⟩
theorem wake1 (w : World) : Calls Try.prog 10 #[.int .i64 7, .int .i64 1, .int .i64 2, .int .i64 1] w fun e w' => e = .returned (.int .i64 3) ∧ Below w.heap.size w w' :=
  (do_any 7 1 2 1 (by decide) (by decide) (by decide) (by decide) (by decide) (by decide) w).mono fun _ _ h => h
theorem wake2 (w : World) : Calls Try.prog 10 #[.int .i64 7, .int .i64 1, .int .i64 2, .int .i64 2] w fun e w' => e = .returned (.int .i64 4) ∧ Below w.heap.size w w' :=
  (do_any 7 1 2 2 (by decide) (by decide) (by decide) (by decide) (by decide) (by decide) w).mono fun _ _ h => h
theorem wake3 (w : World) : Calls Try.prog 10 #[.int .i64 (-7), .int .i64 1, .int .i64 2, .int .i64 2] w fun e w' => e = .returned (.int .i64 (-3)) ∧ Below w.heap.size w w' :=
  (do_any (-7) 1 2 2 (by decide) (by decide) (by decide) (by decide) (by decide) (by decide) w).mono fun _ _ h => h
theorem wake4 (w : World) : Calls Try.prog 10 #[.int .i64 4611686018427387904, .int .i64 8, .int .i64 1, .int .i64 1] w fun e w' => e = .returned (.int .i64 9223372036854775807) ∧ Below w.heap.size w w' :=
  (do_any 4611686018427387904 8 1 1 (by decide) (by decide) (by decide) (by decide) (by decide) (by decide) w).mono fun _ _ h => h
theorem wake5 (w : World) : Calls Try.prog 13 #[.int .i64 17] w fun e w' => e = .returned (.int .i64 4) ∧ w' = w := by
  refine (root_any 17 (by decide) (by decide) w).mono ?_
  rintro e w' ⟨⟨r, hr, rfl⟩, rfl⟩
  have : r = 4 := root_unique hr ⟨by decide, by decide, by decide⟩
  subst this
  exact ⟨rfl, rfl⟩

set_option maxHeartbeats 400000 in
theorem wakes_any (w : World) : Calls Try.prog 12 #[] w fun e w' => e = .returned (.bool true) ∧ Below w.heap.size w w' := by
  go_enter Try.func12, Try.ntmps12
  go_wp2_with fail
  refine (wake1 _).mono ?_
  rintro e w1 ⟨rfl, hb1⟩
  go_wp2_with fail
  refine (carry hb1 (wake2 _)).mono ?_
  rintro e w2 ⟨rfl, hb2⟩
  go_wp2_with fail
  refine (carry hb2 (wake3 _)).mono ?_
  rintro e w3 ⟨rfl, hb3⟩
  go_wp2_with fail
  refine (carry hb3 (wake4 _)).mono ?_
  rintro e w4 ⟨rfl, hb4⟩
  go_wp2_with fail
  refine (wake5 _).mono ?_
  rintro e w5 ⟨rfl, rfl⟩
  go_wp2
  go_ret
  exact ⟨rfl, hb4⟩
end Go.Proofs.Ytfjnnceheekojaa
