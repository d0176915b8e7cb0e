/-
  Plain arithmetic for the reference's quotient.
-/
import Derived.Test.YtjeffjpenhhnnaaPlainB
namespace Go.Proofs.Ytjeffjpenhhnnaa
open Go.RowKit
theorem rtimes (x y : Int) (x1 : 0 ≤ x) (x2 : x < 18446744073709551616) (y1 : 0 ≤ y) (y2 : y < 18446744073709551616) :
    (((x / 4294967296 * (y / 4294967296) % 18446744073709551616 +
                    (x / 4294967296 * (y % 4294967296) % 18446744073709551616 +
                          x % 4294967296 * (y % 4294967296) % 18446744073709551616 / 4294967296) % 18446744073709551616 / 4294967296) % 18446744073709551616 +
                (x % 4294967296 * (y / 4294967296) % 18446744073709551616 +
                      (x / 4294967296 * (y % 4294967296) % 18446744073709551616 +
                            x % 4294967296 * (y % 4294967296) % 18446744073709551616 / 4294967296) % 18446744073709551616 % 4294967296) % 18446744073709551616 / 4294967296) % 18446744073709551616) = x * y / 18446744073709551616 ∧
    (((x % 4294967296 * (y / 4294967296) % 18446744073709551616 +
                        (x / 4294967296 * (y % 4294967296) % 18446744073709551616 +
                              x % 4294967296 * (y % 4294967296) % 18446744073709551616 / 4294967296) % 18446744073709551616 % 4294967296) % 18446744073709551616 * 4294967296 % 18446744073709551616 +
                x % 4294967296 * (y % 4294967296) % 18446744073709551616 % 4294967296) % 18446744073709551616) = x * y % 18446744073709551616 := by
  have ha := half_le (x / 4294967296) (y / 4294967296) (by omega) (by omega) (by omega) (by omega)
  have hb := half_le (x / 4294967296) (y % 4294967296) (by omega) (by omega) (by omega) (by omega)
  have hc := half_le (x % 4294967296) (y / 4294967296) (by omega) (by omega) (by omega) (by omega)
  have hd := half_le (x % 4294967296) (y % 4294967296) (by omega) (by omega) (by omega) (by omega)
  rw [mul_split x y]
  generalize (x / 4294967296) * (y / 4294967296) = a at *
  generalize (x / 4294967296) * (y % 4294967296) = b at *
  generalize (x % 4294967296) * (y / 4294967296) = c at *
  generalize (x % 4294967296) * (y % 4294967296) = d at *
  omega
/-- What lies behind k rounds. -/
structure PartInv (W c : Int) (k : Nat) (T R Q l : Int) : Prop where
  eq : W * 2 ^ k = T * 340282366920938463463374607431768211456 + R
  r0 : 0 ≤ R
  r1 : R < 340282366920938463463374607431768211456
  t : T = Q * c + l
  l0 : 0 ≤ l
  l1 : l < c
  q0 : 0 ≤ Q

theorem part_words (R : Int) :
    IntKind.u64.wrap (IntKind.u64.wrap (R / 18446744073709551616 * 2) + R % 18446744073709551616 / 9223372036854775808) = R * 2 % 340282366920938463463374607431768211456 / 18446744073709551616 ∧
    IntKind.u64.wrap (R % 18446744073709551616 * 2) = R * 2 % 340282366920938463463374607431768211456 % 18446744073709551616 := by
  simp only [IntKind.wrap_u64]; omega
theorem part_q1 (Q : Int) : IntKind.u64.wrap (IntKind.u64.wrap (Q % 18446744073709551616 * 2) + 1) = (Q * 2 + 1) % 18446744073709551616 := by
  simp only [IntKind.wrap_u64]; omega
theorem part_q0 (Q : Int) : IntKind.u64.wrap (Q % 18446744073709551616 * 2) = (Q * 2) % 18446744073709551616 := by
  simp only [IntKind.wrap_u64]; omega
theorem part_o (Q d : Int) (q0 : 0 ≤ Q) (d0 : 0 ≤ d) (d1 : d ≤ 1) : (decide (18446744073709551616 ≤ Q) || Q % 18446744073709551616 / 9223372036854775808 == 1) = decide (18446744073709551616 ≤ Q * 2 + d) := by
  by_cases h : 18446744073709551616 ≤ Q * 2 + d
  · rw [decide_eq_true h]
    by_cases k : 18446744073709551616 ≤ Q
    · rw [decide_eq_true k]; rfl
    · have : Q % 18446744073709551616 / 9223372036854775808 = 1 := by omega
      rw [this]; simp
  · have h1 : ¬ 18446744073709551616 ≤ Q := by omega
    have h2 : ¬ Q % 18446744073709551616 / 9223372036854775808 = 1 := by omega
    rw [decide_eq_false h, decide_eq_false h1]
    simpa using h2
theorem part_t (Q d : Int) (d0 : 0 ≤ d) (h : ¬ Q < 18446744073709551616) : true = decide (18446744073709551616 ≤ Q * 2 + d) := by
  rw [decide_eq_true (by omega)]
theorem part_next1 {W c : Int} {k : Nat} {T R Q l : Int} (I : PartInv W c k T R Q l) (h : c ≤ l * 2 + R / 18446744073709551616 / 9223372036854775808) :
    PartInv W c (k + 1) (T * 2 + R / 18446744073709551616 / 9223372036854775808) (R * 2 % 340282366920938463463374607431768211456) (Q * 2 + 1) (l * 2 + R / 18446744073709551616 / 9223372036854775808 - c) := by
  obtain ⟨e, r0, r1, t, l0, l1, q0⟩ := I
  refine ⟨?_, by omega, by omega, ?_, by omega, by omega, by omega⟩
  · rw [Int.pow_succ, ← Int.mul_assoc, e]; omega
  · rw [Int.add_mul, Int.mul_right_comm]; omega
theorem part_next0 {W c : Int} {k : Nat} {T R Q l : Int} (I : PartInv W c k T R Q l) (h : l * 2 + R / 18446744073709551616 / 9223372036854775808 < c) :
    PartInv W c (k + 1) (T * 2 + R / 18446744073709551616 / 9223372036854775808) (R * 2 % 340282366920938463463374607431768211456) (Q * 2) (l * 2 + R / 18446744073709551616 / 9223372036854775808) := by
  obtain ⟨e, r0, r1, t, l0, l1, q0⟩ := I
  refine ⟨?_, by omega, by omega, ?_, by omega, by omega, by omega⟩
  · rw [Int.pow_succ, ← Int.mul_assoc, e]; omega
  · rw [Int.mul_right_comm]; omega
theorem part_start (W c : Int) (h0 : 0 ≤ W) (h1 : W < 340282366920938463463374607431768211456) (c0 : 0 < c) : PartInv W c 0 0 W 0 0 := ⟨by simp, h0, h1, by simp, by omega, c0, by omega⟩
theorem part_end {W c T R Q l : Int} (I : PartInv W c 128 T R Q l) : Q = W / c ∧ l = W % c := by
  obtain ⟨e, r0, r1, t, l0, l1, q0⟩ := I
  have e' : W * 340282366920938463463374607431768211456 = T * 340282366920938463463374607431768211456 + R := e
  have hW : W = l + Q * c := by omega
  have hc : c ≠ 0 := by omega
  refine ⟨?_, ?_⟩
  · rw [hW, Int.add_mul_ediv_right _ _ hc, Int.ediv_eq_zero_of_lt l0 l1, Int.zero_add]
  · rw [hW, Int.add_mul_emod_self_right, Int.emod_eq_of_lt l0 l1]
end Go.Proofs.Ytjeffjpenhhnnaa
