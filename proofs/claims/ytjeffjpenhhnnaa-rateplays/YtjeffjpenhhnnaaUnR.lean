/-
  What the reference's functions of layer 4 hand back for every input.
-/
import Derived.Test.YtjeffjpenhhnnaaUnA
import Derived.Test.YtjeffjpenhhnnaaDid
import Derived.BigQuiet
namespace Go.Proofs.Ytjeffjpenhhnnaa
open Go.RowKit

theorem field_any (x y : Value) (w : World) : (Instr.field 74 (.agg #[x, y]) 0).run Try.prog w = .ok x w := by kernel_rfl
theorem rdo_any (a b c how : Int) (a1 : -9223372036854775808 ≤ a) (a2 : a ≤ 9223372036854775807) (b1 : -9223372036854775808 ≤ b) (b2 : b ≤ 9223372036854775807) (c1 : -9223372036854775808 ≤ c) (c2 : c ≤ 9223372036854775807) (w : World) :
    Calls Try.prog 39 #[.int .i64 a, .int .i64 b, .int .i64 c, .int .i64 how] w fun e w' => e = .returned (.int .i64 (mdV a b c how)) ∧ Below w.heap.size w w' := by
  have C := mkHid (did_any a b c how a1 a2 b1 b2 c1 c2)
  have ff := field_any
  go_enter Try.func39, Try.ntmps39
  go_wp2_with fail
  refine (C.out _).mono ?_
  rintro e w1 ⟨rfl, hb1⟩
  go_wp2
  go_ret
  exact ⟨rfl, hb1⟩
theorem rrate_any (x y : Int) (x1 : -9223372036854775808 ≤ x) (x2 : x ≤ 9223372036854775807) (y1 : -9223372036854775808 ≤ y) (y2 : y ≤ 9223372036854775807) (w : World) :
    Calls Try.prog 31 #[.int .i64 x, .int .i64 y] w fun e w' => e = .returned (.int .i64 (mdV x 8000000 y 1)) ∧ Below w.heap.size w w' := by
  have C := mkHid (rdo_any x 8000000 y 1 x1 x2 (by omega) (by omega) y1 y2)
  go_enter Try.func31, Try.ntmps31
  go_wp2_with fail
  refine (C.out _).mono ?_
  rintro e w1 ⟨rfl, hb1⟩
  go_wp2
  go_ret
  exact ⟨rfl, hb1⟩

end Go.Proofs.Ytjeffjpenhhnnaa
