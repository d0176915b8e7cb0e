/-
  Remainders, as the laws take them.
-/
import Derived.Test.YtnjghgbaffkafaaBaF
import Derived.Deep.LoopGhost
namespace Go.Proofs.Ytnjghgbaffkafaa
open Go.RowKit

def modH (k n : Int) : Int := k.tmod n % n
theorem modH_in (k n : Int) (h : 1 ≤ n) : 0 ≤ modH k n ∧ modH k n < n := ⟨Int.emod_nonneg _ (by omega), Int.emod_lt_of_pos _ (by omega)⟩
set_option maxHeartbeats 400000 in
theorem mod64_any (k n : Int) (h1 : 1 ≤ n) (h2 : n ≤ 4611686018427387904) (w : World) : Calls Try.prog 18 #[.int .i64 k, .int .i64 n] w fun e w' => e = .returned (.int .i64 (modH k n)) ∧ w' = w := by
  have a1 := Int.lt_tmod_of_pos k (show 0 < n by omega)
  have a2 := Int.tmod_lt_of_pos k (show 0 < n by omega)
  have hn0 : ¬ n = 0 := by omega
  have hn1 : ¬ n < 1 := by omega
  have hn2 : ¬ n = -1 := by omega
  have e1 : IntKind.i64.wrap (k.tmod n) = k.tmod n := by rw [IntKind.wrap_i64]; omega
  have e2 : IntKind.i64.wrap (k.tmod n + n) = k.tmod n + n := by rw [IntKind.wrap_i64]; omega
  go_enter Try.func18, Try.ntmps18
  go_wp2
  go_ret
  exact ⟨ret_i rfl, rfl⟩
set_option maxHeartbeats 400000 in
theorem mod_any (k n : Int) (h1 : 1 ≤ n) (h2 : n ≤ 4611686018427387904) (w : World) : Calls Try.prog 17 #[.int .i64 k, .int .i64 n] w fun e w' => e = .returned (.int .i64 (modH k n)) ∧ w' = w := by
  have a1 := Int.lt_tmod_of_pos k (show 0 < n by omega)
  have a2 := Int.tmod_lt_of_pos k (show 0 < n by omega)
  have hn0 : ¬ n = 0 := by omega
  have hn1 : ¬ n < 1 := by omega
  have hn2 : ¬ n = -1 := by omega
  have e1 : IntKind.i64.wrap (k.tmod n) = k.tmod n := by rw [IntKind.wrap_i64]; omega
  have e2 : IntKind.i64.wrap (k.tmod n + n) = k.tmod n + n := by rw [IntKind.wrap_i64]; omega
  go_enter Try.func17, Try.ntmps17
  go_wp2
  go_ret
  exact ⟨ret_i rfl, rfl⟩
end Go.Proofs.Ytnjghgbaffkafaa
