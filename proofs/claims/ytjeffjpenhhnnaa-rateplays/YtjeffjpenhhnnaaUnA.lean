/-
  What the functions of package units hand back for every input: bytes, ticks, rates, stamps; the law's wakes.
-/
import Derived.Test.YtjeffjpenhhnnaaQuot
import Derived.Test.YtjeffjpenhhnnaaPlainD
import Derived.WalkKit
import Derived.WalkSpells
import Derived.WalkLawsBesides
import Derived.Handy
namespace Go.Proofs.Ytjeffjpenhhnnaa
open Go.RowKit

theorem speed_any (x y : Int) (x1 : -9223372036854775808 ≤ x) (x2 : x ≤ 9223372036854775807) (y1 : -9223372036854775808 ≤ y) (y2 : y ≤ 9223372036854775807) (w : World) :
    Calls Try.prog 38 #[.int .i64 x, .int .i64 y] w fun e w' => e = .returned (.int .i64 (mdV x 8000000 y 1)) ∧ Below w.heap.size w w' := by
  have C := mkHid (do_any x 8000000 y 1 x1 x2 (by omega) (by omega) y1 y2)
  go_enter Try.func38, Try.ntmps38
  go_wp2_with fail
  refine (C.out _).mono ?_
  rintro e w1 ⟨rfl, hb1⟩
  go_wp2
  go_ret
  exact ⟨rfl, hb1⟩
theorem rate_any (x y : Int) (x1 : -9223372036854775808 ≤ x) (x2 : x ≤ 9223372036854775807) (y1 : -9223372036854775808 ≤ y) (y2 : y ≤ 9223372036854775807) (w : World) :
    Calls Try.prog 29 #[.int .i64 x, .int .i64 y] w fun e w' => e = .returned (.int .i64 (mdV x 8000000 y 1)) ∧ Below w.heap.size w w' := by
  have C := mkHid (speed_any x y x1 x2 y1 y2)
  go_enter Try.func29, Try.ntmps29
  go_wp2_with fail
  refine (C.out _).mono ?_
  rintro e w1 ⟨rfl, hb1⟩
  go_wp2
  go_ret
  exact ⟨rfl, hb1⟩
end Go.Proofs.Ytjeffjpenhhnnaa
