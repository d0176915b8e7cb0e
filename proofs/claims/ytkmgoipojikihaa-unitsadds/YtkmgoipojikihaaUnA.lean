/-
  What the functions of package units hand back for every input: bytes, ticks, rates, stamps; the law's wakes.
-/
import Derived.Test.YtkmgoipojikihaaQuot
import Derived.Test.YtkmgoipojikihaaPlainD
import Derived.WalkKit
import Derived.WalkSpells
import Derived.WalkLawsBesides
import Derived.Handy
namespace Go.Proofs.Ytkmgoipojikihaa
open Go.RowKit

theorem carried_any (x y : Int) (x1 : -9223372036854775808 ≤ x) (x2 : x ≤ 9223372036854775807) (y1 : -9223372036854775808 ≤ y) (y2 : y ≤ 9223372036854775807) (w : World) :
    Calls Try.prog 19 #[.int .i64 x, .int .i64 y] w fun e w' => e = .returned (.int .i64 (mdV x y 8000000 1)) ∧ Below w.heap.size w w' := by
  have C := mkHid (do_any x y 8000000 1 x1 x2 y1 y2 (by omega) (by omega))
  go_enter Try.func19, Try.ntmps19
  go_wp2_with fail
  refine (C.out _).mono ?_
  rintro e w1 ⟨rfl, hb1⟩
  go_wp2
  go_ret
  exact ⟨rfl, hb1⟩
theorem time_any (x y : Int) (x1 : -9223372036854775808 ≤ x) (x2 : x ≤ 9223372036854775807) (y1 : -9223372036854775808 ≤ y) (y2 : y ≤ 9223372036854775807) (w : World) :
    Calls Try.prog 21 #[.int .i64 x, .int .i64 y] w fun e w' => e = .returned (.int .i64 (mdV x 8000000 y 3)) ∧ Below w.heap.size w w' := by
  have C := mkHid (do_any x 8000000 y 3 x1 x2 (by omega) (by omega) y1 y2)
  go_enter Try.func21, Try.ntmps21
  go_wp2_with fail
  refine (C.out _).mono ?_
  rintro e w1 ⟨rfl, hb1⟩
  go_wp2
  go_ret
  exact ⟨rfl, hb1⟩
theorem speed_any (x y : Int) (x1 : -9223372036854775808 ≤ x) (x2 : x ≤ 9223372036854775807) (y1 : -9223372036854775808 ≤ y) (y2 : y ≤ 9223372036854775807) (w : World) :
    Calls Try.prog 22 #[.int .i64 x, .int .i64 y] w fun e w' => e = .returned (.int .i64 (mdV x 8000000 y 1)) ∧ Below w.heap.size w w' := by
  have C := mkHid (do_any x 8000000 y 1 x1 x2 (by omega) (by omega) y1 y2)
  go_enter Try.func22, Try.ntmps22
  go_wp2_with fail
  refine (C.out _).mono ?_
  rintro e w1 ⟨rfl, hb1⟩
  go_wp2
  go_ret
  exact ⟨rfl, hb1⟩
theorem count_any (x : Int) (x1 : -9223372036854775808 ≤ x) (x2 : x ≤ 9223372036854775807) (w : World) :
    Calls Try.prog 23 #[.int .i64 x] w fun e w' => e = .returned (.int .i64 (mdV x 65536 1000000 1)) ∧ Below w.heap.size w w' := by
  have C := mkHid (do_any x 65536 1000000 1 x1 x2 (by omega) (by omega) (by omega) (by omega))
  go_enter Try.func23, Try.ntmps23
  go_wp2_with fail
  refine (C.out _).mono ?_
  rintro e w1 ⟨rfl, hb1⟩
  go_wp2
  go_ret
  exact ⟨rfl, hb1⟩
theorem span_any (x : Int) (x1 : -9223372036854775808 ≤ x) (x2 : x ≤ 9223372036854775807) (w : World) :
    Calls Try.prog 26 #[.int .i64 x] w fun e w' => e = .returned (.int .i64 (mdV x 1000000 65536 3)) ∧ Below w.heap.size w w' := by
  have C := mkHid (do_any x 1000000 65536 3 x1 x2 (by omega) (by omega) (by omega) (by omega))
  go_enter Try.func26, Try.ntmps26
  go_wp2_with fail
  refine (C.out _).mono ?_
  rintro e w1 ⟨rfl, hb1⟩
  go_wp2
  go_ret
  exact ⟨rfl, hb1⟩
theorem bytes_any (x y : Int) (x1 : -9223372036854775808 ≤ x) (x2 : x ≤ 9223372036854775807) (y1 : -9223372036854775808 ≤ y) (y2 : y ≤ 9223372036854775807) (w : World) :
    Calls Try.prog 8 #[.int .i64 x, .int .i64 y] w fun e w' => e = .returned (.int .i64 (mdV x y 8000000 1)) ∧ Below w.heap.size w w' := by
  have C := mkHid (carried_any x y x1 x2 y1 y2)
  go_enter Try.func8, Try.ntmps8
  go_wp2_with fail
  refine (C.out _).mono ?_
  rintro e w1 ⟨rfl, hb1⟩
  go_wp2
  go_ret
  exact ⟨rfl, hb1⟩
theorem ticks_any (x y : Int) (x1 : -9223372036854775808 ≤ x) (x2 : x ≤ 9223372036854775807) (y1 : -9223372036854775808 ≤ y) (y2 : y ≤ 9223372036854775807) (w : World) :
    Calls Try.prog 10 #[.int .i64 x, .int .i64 y] w fun e w' => e = .returned (.int .i64 (mdV y 8000000 x 3)) ∧ Below w.heap.size w w' := by
  have C := mkHid (time_any y x y1 y2 x1 x2)
  go_enter Try.func10, Try.ntmps10
  go_wp2_with fail
  refine (C.out _).mono ?_
  rintro e w1 ⟨rfl, hb1⟩
  go_wp2
  go_ret
  exact ⟨rfl, hb1⟩
theorem rate_any (x y : Int) (x1 : -9223372036854775808 ≤ x) (x2 : x ≤ 9223372036854775807) (y1 : -9223372036854775808 ≤ y) (y2 : y ≤ 9223372036854775807) (w : World) :
    Calls Try.prog 12 #[.int .i64 x, .int .i64 y] w fun e w' => e = .returned (.int .i64 (mdV x 8000000 y 1)) ∧ Below w.heap.size w w' := by
  have C := mkHid (speed_any x y x1 x2 y1 y2)
  go_enter Try.func12, Try.ntmps12
  go_wp2_with fail
  refine (C.out _).mono ?_
  rintro e w1 ⟨rfl, hb1⟩
  go_wp2
  go_ret
  exact ⟨rfl, hb1⟩
theorem stamp_any (x : Int) (x1 : -9223372036854775808 ≤ x) (x2 : x ≤ 9223372036854775807) (w : World) :
    Calls Try.prog 15 #[.int .i64 x] w fun e w' => e = .returned (.int .u32 (mdV x 65536 1000000 1 % 4294967296)) ∧ Below w.heap.size w w' := by
  have C := mkHid (count_any x x1 x2)
  go_enter Try.func15, Try.ntmps15
  go_wp2_with fail
  refine (C.out _).mono ?_
  rintro e w1 ⟨rfl, hb1⟩
  go_wp2
  go_ret
  exact ⟨rfl, hb1⟩

set_option maxHeartbeats 1000000 in
theorem wakes_any (w : World) : Calls Try.prog 14 #[] w fun e w' => e = .returned (.bool true) ∧ Below w.heap.size w w' := by
  have C0 := mkHid (bytes_any 8000000 1000 (by omega) (by omega) (by omega) (by omega))
  rw [show mdV 8000000 1000 8000000 1 = 1000 from by decide] at C0
  have C1 := mkHid (ticks_any 8000000 1500 (by omega) (by omega) (by omega) (by omega))
  rw [show mdV 1500 8000000 8000000 3 = 1500 from by decide] at C1
  have C2 := mkHid (rate_any 1000 1000 (by omega) (by omega) (by omega) (by omega))
  rw [show mdV 1000 8000000 1000 1 = 8000000 from by decide] at C2
  have C3 := mkHid (stamp_any 1000000 (by omega) (by omega))
  rw [show mdV 1000000 65536 1000000 1 % 4294967296 = 65536 from by decide] at C3
  go_enter Try.func14, Try.ntmps14
  go_wp2_with fail
  refine ((C0.out _)).mono ?_
  rintro e w0 ⟨rfl, hb0⟩
  go_wp2_with fail
  refine ((carry hb0 (C1.out _))).mono ?_
  rintro e w1 ⟨rfl, hb1⟩
  go_wp2_with fail
  refine ((carry hb1 (C2.out _))).mono ?_
  rintro e w2 ⟨rfl, hb2⟩
  go_wp2_with fail
  refine ((carry hb2 (C3.out _))).mono ?_
  rintro e w3 ⟨rfl, hb3⟩
  go_wp2
  go_ret
  exact ⟨rfl, hb3⟩
end Go.Proofs.Ytkmgoipojikihaa
