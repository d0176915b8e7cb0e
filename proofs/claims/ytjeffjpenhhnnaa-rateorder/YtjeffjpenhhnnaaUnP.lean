/-
  Plain arithmetic for the proofs over package units. No program in sight; no condition but those that each theorem names.
-/
import Derived.Test.YtjeffjpenhhnnaaPlainD
namespace Go.Proofs.Ytjeffjpenhhnnaa
open Go.RowKit

/-- A product divided by a number above 0, rounded down, or up. -/
theorem mdV_d (a b c : Int) (hc : 0 < c) : mdV a b c 1 = satH (a * b / c) := by
  rw [(mdV_ok a b c 1 (by omega) (by omega) (by omega)).1, mdS_down a b c (by omega), ab_eq c hc]
  unfold mdN; rw [if_neg (by omega)]
theorem mdV_u (a b c : Int) (hc : 0 < c) : mdV a b c 3 = satH (-(-(a * b) / c)) := by
  rw [(mdV_ok a b c 3 (by omega) (by omega) (by omega)).1, mdS_up a b c (by omega), ab_eq c hc]
  unfold mdN; rw [if_neg (by omega)]

theorem prodS (a b m n : Int) (a0 : 0 ≤ a) (a1 : a ≤ m) (b0 : 0 ≤ b) (b1 : b ≤ n) : 0 ≤ a * b ∧ a * b ≤ m * n :=
  ⟨Int.mul_nonneg a0 b0, Int.le_trans (Int.mul_le_mul_of_nonneg_right a1 b0) (Int.mul_le_mul_of_nonneg_left b1 (by omega))⟩

/-- The bytes of a rate in a time, where both are small. -/
theorem by_small (a b : Int) (a0 : 0 ≤ a) (a1 : a ≤ 8589934592) (b0 : 0 ≤ b) (b1 : b ≤ 8589934592) : mdV a b 8000000 1 = a * b / 8000000 := by
  have := prodS a b _ _ a0 a1 b0 b1
  rw [mdV_d a b _ (by omega)]
  generalize a * b = p at *
  exact satH_in _ (by omega) (by omega)

/-- The bytes of two spans, and of both together. -/
theorem adds (x y z : Int) (x0 : 0 ≤ x) (x1 : x ≤ 4294967295) (y0 : 0 ≤ y) (y1 : y ≤ 4294967295) (z0 : 0 ≤ z) (z1 : z ≤ 4294967295) :
    ∃ p q r : Int, mdV x y 8000000 1 = p ∧ mdV x z 8000000 1 = q ∧ mdV x (y + z) 8000000 1 = r ∧ 0 ≤ p ∧ p ≤ 1152921504606846976 ∧ 0 ≤ q ∧ q ≤ 1152921504606846976 ∧ p + q ≤ r ∧ r ≤ p + q + 1 := by
  refine ⟨_, _, _, rfl, rfl, rfl, ?_⟩
  have h1 := prodS x y _ _ x0 x1 y0 y1
  have h2 := prodS x z _ _ x0 x1 z0 z1
  rw [by_small x y (by omega) (by omega) (by omega) (by omega), by_small x z (by omega) (by omega) (by omega) (by omega), by_small x (y + z) (by omega) (by omega) (by omega) (by omega), Int.mul_add]
  generalize x * y = p at *
  generalize x * z = q at *
  omega

/-- The ticks of bytes at a rate; the bytes of these ticks, and of one less. -/
theorem backs (r b : Int) (r0 : 1 ≤ r) (r1 : r ≤ 4294967296) (b0 : 1 ≤ b) (b1 : b ≤ 65536) :
    ∃ n p q : Int, mdV b 8000000 r 3 = n ∧ 1 ≤ n ∧ n ≤ 9223372036854775807 ∧ mdV r n 8000000 1 = p ∧ mdV r (n - 1) 8000000 1 = q ∧ b ≤ p ∧ q < b := by
  have e : mdV b 8000000 r 3 = -(-(b * 8000000) / r) := by
    rw [mdV_u _ _ _ (by omega)]
    apply satH_in
    · have := Int.mul_ediv_self_le (x := -(b * 8000000)) (k := r) (by omega)
      have : -(b * 8000000) / r ≤ 0 := by
        by_cases h : -(b * 8000000) / r ≤ 0
        · exact h
        · have := Int.mul_pos (show (0 : Int) < r by omega) (show 0 < -(b * 8000000) / r by omega)
          omega
      omega
    · have := Int.lt_mul_ediv_self_add (x := -(b * 8000000)) (k := r) (by omega)
      have : -(b * 8000000) ≤ -(b * 8000000) / r := by
        have h1 : -(b * 8000000) ≤ 0 := by omega
        have := Int.ediv_le_ediv (a := -(b * 8000000) * r) (b := -(b * 8000000)) (c := r) (by omega) (by
          have := Int.mul_nonneg (show (0 : Int) ≤ b * 8000000 by omega) (show 0 ≤ r - 1 by omega)
          rw [Int.mul_sub, Int.mul_one] at this
          rw [Int.neg_mul]; omega)
        rwa [Int.mul_ediv_cancel _ (show r ≠ 0 by omega)] at this
      omega
  have d1 := Int.mul_ediv_self_le (x := -(b * 8000000)) (k := r) (by omega)
  have d2 := Int.lt_mul_ediv_self_add (x := -(b * 8000000)) (k := r) (by omega)
  rw [e]
  generalize hq : -(b * 8000000) / r = q at *
  have q1 : q ≤ -1 := by
    by_cases h : q ≤ -1
    · exact h
    · have := Int.mul_nonneg (show (0 : Int) ≤ r by omega) (show 0 ≤ q by omega)
      omega
  have q2 : -524288000000 ≤ q := by
    by_cases h : -524288000000 ≤ q
    · exact h
    · have := Int.mul_le_mul_of_nonneg_left (show q ≤ -524288000001 by omega) (show (0 : Int) ≤ r - 1 by omega)
      rw [Int.sub_mul, Int.one_mul] at this
      omega
  have s1 := Int.mul_neg r q
  have s2 : r * (-q - 1) = -(r * q) - r := by rw [Int.mul_sub, Int.mul_neg, Int.mul_one]
  have hn := Int.mul_nonneg (show (0 : Int) ≤ r by omega) (show 0 ≤ -q by omega)
  have hm := Int.mul_nonneg (show (0 : Int) ≤ r by omega) (show 0 ≤ -q - 1 by omega)
  refine ⟨_, _, _, rfl, by omega, by omega, rfl, rfl, ?_⟩
  rw [mdV_d r (-q) _ (by omega), mdV_d r (-q - 1) _ (by omega)]
  rw [s1] at hn ⊢
  rw [s2] at hm ⊢
  generalize r * q = p at *
  rw [satH_in _ (by omega) (by omega), satH_in _ (by omega) (by omega)]
  omega

/-- The rate of a rate's bytes. -/
theorem goes (r t : Int) (r0 : 1 ≤ r) (r1 : r ≤ 4294967296) (t0 : 1 ≤ t) (t1 : t ≤ 4294967296) :
    ∃ p q : Int, mdV r t 8000000 1 = p ∧ -9223372036854775808 ≤ p ∧ p ≤ 9223372036854775807 ∧ mdV p 8000000 t 1 = q ∧ q ≤ r := by
  have h := prodS r t _ _ (by omega) r1 (by omega) t1
  refine ⟨_, _, by_small r t (by omega) (by omega) (by omega) (by omega), ?_, ?_, rfl, ?_⟩
  · generalize r * t = p at *; omega
  · generalize r * t = p at *; omega
  · rw [mdV_d _ _ _ (by omega)]
    have : r * t / 8000000 * 8000000 / t ≤ r := by
      have := Int.ediv_le_ediv (a := r * t / 8000000 * 8000000) (b := r * t) (c := t) (by omega) (by generalize r * t = p; omega)
      rwa [Int.mul_ediv_cancel _ (show t ≠ 0 by omega)] at this
    unfold satH; repeat' split <;> omega
end Go.Proofs.Ytjeffjpenhhnnaa
