/-
  Plain arithmetic, second part: what a quotient of two halves is when held; roots.
-/
import Derived.Test.YtjeffjpenhhnnaaPlain
namespace Go.Proofs.Ytjeffjpenhhnnaa
open Go.RowKit
/-- A size with its sign. -/
def sg (below : Bool) (q : Int) : Int := if below then -q else q
/-- One more, or not. -/
def one (m : Bool) : Int := if m then 1 else 0
theorem mdS_eq (a b c how : Int) : mdS a b c how = sg (mdNeg a b c) (ab a * ab b / ab c + one (mdAway (mdNeg a b c) (ab a * ab b % ab c) (ab c) how)) := rfl
theorem sat_fit_in (z : Int) (h1 : -9223372036854775808 ≤ z) (h2 : z ≤ 9223372036854775807) : z = satH z ∧ true = fitH z := by
  refine ⟨(satH_in z h1 h2).symm, ?_⟩
  unfold fitH; symm; apply decide_eq_true; omega
theorem sat_fit_hi (z : Int) (h : 9223372036854775808 ≤ z) : 9223372036854775807 = satH z ∧ false = fitH z := by
  refine ⟨?_, ?_⟩
  · unfold satH; rw [if_neg (by omega), if_pos (by omega)]
  · unfold fitH; symm; apply decide_eq_false; omega
theorem sat_fit_lo (z : Int) (h : z < -9223372036854775808) : -9223372036854775808 = satH z ∧ false = fitH z := by
  refine ⟨?_, ?_⟩
  · unfold satH; rw [if_pos (by omega)]
  · unfold fitH; symm; apply decide_eq_false; omega
theorem neg_word (d : Int) (h0 : 0 ≤ d) (h1 : d ≤ 9223372036854775808) : wrap64 (IntKind.u64.wrap (-d)) = -d := by
  rw [IntKind.wrap_u64]; unfold wrap64; omega
/-- Two halves divided, half by half. -/
theorem halves (p c : Int) (c0 : 0 < c) : p / 18446744073709551616 / c * 18446744073709551616 + (p / 18446744073709551616 % c * 18446744073709551616 + p % 18446744073709551616) / c = p / c ∧
    (p / 18446744073709551616 % c * 18446744073709551616 + p % 18446744073709551616) % c = p % c := by
  have e1 := Int.mul_ediv_add_emod (p / 18446744073709551616) c
  have e2 := Int.mul_ediv_add_emod (p / 18446744073709551616 % c * 18446744073709551616 + p % 18446744073709551616) c
  have l0 := Int.emod_nonneg (p / 18446744073709551616 % c * 18446744073709551616 + p % 18446744073709551616) (Int.ne_of_gt c0)
  have l1 := Int.emod_lt_of_pos (p / 18446744073709551616 % c * 18446744073709551616 + p % 18446744073709551616) c0
  generalize hx : p / 18446744073709551616 / c = x at *
  generalize hy : (p / 18446744073709551616 % c * 18446744073709551616 + p % 18446744073709551616) / c = y at *
  generalize hz : (p / 18446744073709551616 % c * 18446744073709551616 + p % 18446744073709551616) % c = z at *
  have e : p = z + (x * 18446744073709551616 + y) * c := by
    rw [Int.add_mul, Int.mul_right_comm, Int.mul_comm x c, Int.mul_comm y c]
    omega
  refine ⟨?_, ?_⟩
  · conv => rhs; rw [e]
    rw [Int.add_mul_ediv_right _ _ (Int.ne_of_gt c0), Int.ediv_eq_zero_of_lt l0 l1, Int.zero_add]
  · conv => rhs; rw [e]
    rw [Int.add_mul_emod_self_right, Int.emod_eq_of_lt l0 l1]
theorem halvesQ (p c : Int) (c0 : 0 < c) : p / 18446744073709551616 / c = p / c / 18446744073709551616 ∧ (p / 18446744073709551616 % c * 18446744073709551616 + p % 18446744073709551616) / c = p / c % 18446744073709551616 ∧
    (p / 18446744073709551616 % c * 18446744073709551616 + p % 18446744073709551616) % c = p % c := by
  obtain ⟨h1, h2⟩ := halves p c c0
  have r0 := Int.emod_nonneg (p / 18446744073709551616) (Int.ne_of_gt c0)
  have r1 := Int.emod_lt_of_pos (p / 18446744073709551616) c0
  have k0 : 0 ≤ (p / 18446744073709551616 % c * 18446744073709551616 + p % 18446744073709551616) / c := Int.ediv_nonneg (by omega) (by omega)
  have k1 : (p / 18446744073709551616 % c * 18446744073709551616 + p % 18446744073709551616) / c < 18446744073709551616 := Int.ediv_lt_of_lt_mul c0 (by omega)
  refine ⟨by omega, by omega, h2⟩
theorem quo_le (p c : Int) (h0 : 0 ≤ p) (c0 : 0 < c) : 0 ≤ p / c ∧ p / c ≤ p := ⟨Int.ediv_nonneg h0 (by omega), Int.ediv_le_self c h0⟩
theorem split_q (q : Int) : q / 18446744073709551616 * 18446744073709551616 + q % 18446744073709551616 = q := by omega
theorem prod_bd (a b : Int) (a1 : -9223372036854775808 ≤ a) (a2 : a ≤ 9223372036854775807) (b1 : -9223372036854775808 ≤ b) (b2 : b ≤ 9223372036854775807) :
    0 ≤ ab a * ab b ∧ ab a * ab b ≤ 85070591730234615865843651857942052864 := by
  have h1 := ab_nonneg a; have h2 := ab_nonneg b; have h3 := ab_le a a1 a2; have h4 := ab_le b b1 b2
  exact ⟨Int.mul_nonneg h1 h2, Int.mul_le_mul h3 h4 h2 (by decide)⟩
end Go.Proofs.Ytjeffjpenhhnnaa
