/-
  Plain arithmetic for the proofs over package sat: numbers held between the least and the greatest int64, sums by two halves, products by two halves. No program in sight; no condition but those that each theorem names.
-/
import Derived.WalkKit
namespace Go.Proofs.Ytnjghgbaffkafaa.Sat
open Go.RowKit

/-- A number held between the least and the greatest int64. -/
def satH (z : Int) : Int := if z < -9223372036854775808 then -9223372036854775808 else if 9223372036854775807 < z then 9223372036854775807 else z

theorem satH_bd (z : Int) : -9223372036854775808 ≤ satH z ∧ satH z ≤ 9223372036854775807 := by unfold satH; split <;> (try split) <;> omega
theorem satH_in (z : Int) (h1 : -9223372036854775808 ≤ z) (h2 : z ≤ 9223372036854775807) : satH z = z := by unfold satH; rw [if_neg (by omega), if_neg (by omega)]

theorem held_eq (hi lo : Int) (h1 : 0 ≤ lo) (h2 : lo < 18446744073709551616) (h : (hi == wrap64 lo / 9223372036854775808) = true) : wrap64 lo = satH (hi * 18446744073709551616 + lo) := by
  simp only [beq_iff_eq] at h
  unfold wrap64 at h ⊢
  rw [satH_in _ (by omega) (by omega)]; omega
theorem held_lo (hi lo : Int) (h1 : 0 ≤ lo) (h2 : lo < 18446744073709551616) (h : (hi == wrap64 lo / 9223372036854775808) = false) (h0 : hi < 0) : (-9223372036854775808 : Int) = satH (hi * 18446744073709551616 + lo) := by
  simp only [beq_eq_false_iff_ne, ne_eq] at h
  unfold wrap64 at h
  unfold satH; rw [if_pos (by omega)]
theorem held_hi (hi lo : Int) (h1 : 0 ≤ lo) (h2 : lo < 18446744073709551616) (h : (hi == wrap64 lo / 9223372036854775808) = false) (h0 : 0 ≤ hi) : (9223372036854775807 : Int) = satH (hi * 18446744073709551616 + lo) := by
  simp only [beq_eq_false_iff_ne, ne_eq] at h
  unfold wrap64 at h
  unfold satH; rw [if_neg (by omega), if_pos (by omega)]

/-- The upper half of the sum of the first k numbers, and the lower one. -/
def ssum (zs : List Int) (k : Nat) : Int := (zs.take k).sum
def shi (zs : List Int) (k : Nat) : Int := ssum zs k / 18446744073709551616
def slo (zs : List Int) (k : Nat) : Int := ssum zs k % 18446744073709551616
/-- A list of int64. -/
def I64s (zs : List Int) : Prop := ∀ z ∈ zs, -9223372036854775808 ≤ z ∧ z ≤ 9223372036854775807

theorem ssum_zero (zs : List Int) : ssum zs 0 = 0 := by simp [ssum]
theorem ssum_succ (zs : List Int) (k : Nat) (h : k < zs.length) : ssum zs (k + 1) = ssum zs k + zs.getD k 0 := by
  unfold ssum
  rw [List.take_succ_eq_append_getElem h, List.sum_append]; simp [h]
theorem getD_bd (zs : List Int) (hz : I64s zs) (k : Nat) : -9223372036854775808 ≤ zs.getD k 0 ∧ zs.getD k 0 ≤ 9223372036854775807 := by
  by_cases h : k < zs.length
  · simpa [h] using hz zs[k] (List.getElem_mem h)
  · simp [h]
theorem ssum_bd (zs : List Int) (hz : I64s zs) (k : Nat) (hk : k ≤ zs.length) : -9223372036854775808 * (k : Int) ≤ ssum zs k ∧ ssum zs k ≤ 9223372036854775807 * (k : Int) := by
  induction k with
  | zero => simp [ssum]
  | succ k ih =>
    have := ih (by omega)
    rw [ssum_succ zs k (by omega)]
    have := getD_bd zs hz k
    omega
theorem slo_bd (zs : List Int) (k : Nat) : 0 ≤ slo zs k ∧ slo zs k < 18446744073709551616 := by unfold slo; omega
theorem shi_bd (zs : List Int) (hz : I64s zs) (k : Nat) (hk : k ≤ zs.length) (hm : zs.length ≤ maxLen) : -4611686018427387904 ≤ shi zs k ∧ shi zs k ≤ 4611686018427387904 := by
  have := ssum_bd zs hz k hk
  unfold maxLen at hm
  unfold shi; omega
theorem s_zero (zs : List Int) : shi zs 0 = 0 ∧ slo zs 0 = 0 := by simp [shi, slo, ssum_zero]
theorem slo_succ (zs : List Int) (k : Nat) (h : k < zs.length) : slo zs (k + 1) = (slo zs k + zs.getD k 0 % 18446744073709551616) % 18446744073709551616 := by
  unfold slo; rw [ssum_succ zs k h]; omega
theorem shi_succ (zs : List Int) (hz : I64s zs) (k : Nat) (h : k < zs.length) : shi zs (k + 1) = shi zs k + (zs.getD k 0 / 9223372036854775808 + (slo zs k + zs.getD k 0 % 18446744073709551616) / 18446744073709551616) := by
  have := getD_bd zs hz k
  unfold slo shi; rw [ssum_succ zs k h]; omega
theorem s_join (zs : List Int) (k : Nat) : shi zs k * 18446744073709551616 + slo zs k = ssum zs k := by unfold shi slo; omega

/-- The product of two int64 lies within 2^126. -/
theorem mul_bd (a b : Int) (a1 : -9223372036854775808 ≤ a) (a2 : a ≤ 9223372036854775807) (b1 : -9223372036854775808 ≤ b) (b2 : b ≤ 9223372036854775807) :
    -85070591730234615865843651857942052864 ≤ a * b ∧ a * b ≤ 85070591730234615865843651857942052864 := by
  have p1 : 0 ≤ (9223372036854775808 - a) * (9223372036854775808 + b) := Int.mul_nonneg (by omega) (by omega)
  have p2 : 0 ≤ (9223372036854775808 + a) * (9223372036854775808 - b) := Int.mul_nonneg (by omega) (by omega)
  have p3 : 0 ≤ (9223372036854775808 - a) * (9223372036854775808 - b) := Int.mul_nonneg (by omega) (by omega)
  have p4 : 0 ≤ (9223372036854775808 + a) * (9223372036854775808 + b) := Int.mul_nonneg (by omega) (by omega)
  simp only [Int.sub_mul, Int.mul_sub, Int.add_mul, Int.mul_add] at p1 p2 p3 p4
  omega

/-- Unsigned product of two words, in halves of 32 bits. -/
theorem half_le (a b : Int) (a0 : 0 ≤ a) (a1 : a < 4294967296) (b0 : 0 ≤ b) (b1 : b < 4294967296) : 0 ≤ a * b ∧ a * b ≤ 18446744065119617025 := by
  have p0 : 0 ≤ a * b := Int.mul_nonneg a0 b0
  have p1 : 0 ≤ (4294967295 - a) * b := Int.mul_nonneg (by omega) b0
  simp only [Int.sub_mul] at p1
  omega
theorem u64_and32 (n : Int) : bits .and .u64 n 4294967295 = n % 4294967296 := by
  have hm : (BitVec.ofInt 64 4294967295).toNat = 2 ^ 32 - 1 := by decide
  have key : (BitVec.ofInt 64 n &&& BitVec.ofInt 64 4294967295).toNat = (n % ((2 ^ 64 : Nat) : Int)).toNat % 2 ^ 32 := by
    rw [BitVec.toNat_and, BitVec.toNat_ofInt, hm, Nat.and_two_pow_sub_one_eq_mod]
  show IntKind.u64.wrap ((BitVec.ofInt 64 n &&& BitVec.ofInt 64 4294967295).toNat : Nat) = n % 4294967296
  rw [key, IntKind.wrap_u64]
  omega
theorem i64_and32 (n : Int) : bits .and .i64 n 4294967295 = n % 4294967296 := by
  have hm : (BitVec.ofInt 64 4294967295).toNat = 2 ^ 32 - 1 := by decide
  have key : (BitVec.ofInt 64 n &&& BitVec.ofInt 64 4294967295).toNat = (n % ((2 ^ 64 : Nat) : Int)).toNat % 2 ^ 32 := by
    rw [BitVec.toNat_and, BitVec.toNat_ofInt, hm, Nat.and_two_pow_sub_one_eq_mod]
  show IntKind.i64.wrap ((BitVec.ofInt 64 n &&& BitVec.ofInt 64 4294967295).toNat : Nat) = n % 4294967296
  rw [key, IntKind.wrap_i64]
  omega
theorem i64_not_any (b : Int) (h1 : -9223372036854775808 ≤ b) (h2 : b ≤ 9223372036854775807) : bits .xor .i64 (-1) b = -1 - b := by
  show IntKind.i64.wrap ((BitVec.ofInt 64 (-1) ^^^ BitVec.ofInt 64 b).toNat : Int) = _
  have e : BitVec.ofInt 64 (-1) = BitVec.allOnes 64 := by decide
  rw [e, BitVec.allOnes_xor, BitVec.toNat_not, BitVec.toNat_ofInt, IntKind.wrap_i64]
  omega

theorem mul_split (x y : Int) : x * y = (x / 4294967296) * (y / 4294967296) * 18446744073709551616 + ((x / 4294967296) * (y % 4294967296) + (x % 4294967296) * (y / 4294967296)) * 4294967296 + (x % 4294967296) * (y % 4294967296) := by
  have ex : x = x / 4294967296 * 4294967296 + x % 4294967296 := by omega
  have ey : y = y / 4294967296 * 4294967296 + y % 4294967296 := by omega
  generalize x / 4294967296 = p at *
  generalize x % 4294967296 = q at *
  generalize y / 4294967296 = r at *
  generalize y % 4294967296 = s at *
  subst ex; subst ey
  have e1 : p * 4294967296 * (r * 4294967296) = p * r * 18446744073709551616 := by rw [← Int.mul_assoc, Int.mul_right_comm p 4294967296 r, Int.mul_assoc]; rfl
  have e2 : p * 4294967296 * s = p * s * 4294967296 := Int.mul_right_comm _ _ _
  have e3 : q * (r * 4294967296) = q * r * 4294967296 := (Int.mul_assoc _ _ _).symm
  rw [Int.add_mul, Int.mul_add, Int.mul_add, e1, e2, e3, Int.add_mul]
  omega
theorem mul_hi (x y : Int) (x1 : 0 ≤ x) (x2 : x < 18446744073709551616) (y1 : 0 ≤ y) (y2 : y < 18446744073709551616) :
    (((x / 4294967296 * (y / 4294967296)) % 18446744073709551616 +
                  ((x / 4294967296 * (y % 4294967296)) % 18446744073709551616 +
                        ((x % 4294967296) * (y % 4294967296)) % 18446744073709551616 / 4294967296) % 18446744073709551616 / 4294967296) % 18446744073709551616 +
              (((x / 4294967296 * (y % 4294967296)) % 18446744073709551616 + ((x % 4294967296) * (y % 4294967296)) % 18446744073709551616 / 4294967296) % 18446744073709551616 % 4294967296 +
                    ((x % 4294967296) * (y / 4294967296)) % 18446744073709551616) % 18446744073709551616 / 4294967296) % 18446744073709551616 = x * y / 18446744073709551616 := by
  have ha := half_le (x / 4294967296) (y / 4294967296) (by omega) (by omega) (by omega) (by omega)
  have hb := half_le (x / 4294967296) (y % 4294967296) (by omega) (by omega) (by omega) (by omega)
  have hc := half_le (x % 4294967296) (y / 4294967296) (by omega) (by omega) (by omega) (by omega)
  have hd := half_le (x % 4294967296) (y % 4294967296) (by omega) (by omega) (by omega) (by omega)
  rw [mul_split x y]
  generalize (x / 4294967296) * (y / 4294967296) = a at *
  generalize (x / 4294967296) * (y % 4294967296) = b at *
  generalize (x % 4294967296) * (y / 4294967296) = c at *
  generalize (x % 4294967296) * (y % 4294967296) = d at *
  omega
theorem uw_neg (a : Int) (a1 : -9223372036854775808 ≤ a) (h : a < 0) : IntKind.u64.wrap a = a + 18446744073709551616 := by rw [IntKind.wrap_u64]; omega
theorem prod_nn (a b : Int) (a1 : -9223372036854775808 ≤ a) (a2 : a ≤ 9223372036854775807) (b1 : -9223372036854775808 ≤ b) (b2 : b ≤ 9223372036854775807) (ha : a < 0) (hb : b < 0) :
    wrap64 (wrap64 (wrap64 (IntKind.u64.wrap a * IntKind.u64.wrap b / 18446744073709551616) - b) - a) = a * b / 18446744073709551616 ∧ IntKind.u64.wrap a * IntKind.u64.wrap b % 18446744073709551616 = a * b % 18446744073709551616 := by
  have hp := mul_bd a b a1 a2 b1 b2
  rw [uw_neg a a1 ha, uw_neg b b1 hb, Int.add_mul, Int.mul_add, Int.mul_add]
  generalize a * b = p at *
  unfold wrap64; omega
theorem prod_np (a b : Int) (a1 : -9223372036854775808 ≤ a) (a2 : a ≤ 9223372036854775807) (b1 : -9223372036854775808 ≤ b) (b2 : b ≤ 9223372036854775807) (ha : a < 0) :
    wrap64 (wrap64 (IntKind.u64.wrap a * b / 18446744073709551616) - b) = a * b / 18446744073709551616 ∧ IntKind.u64.wrap a * b % 18446744073709551616 = a * b % 18446744073709551616 := by
  have hp := mul_bd a b a1 a2 b1 b2
  rw [uw_neg a a1 ha, Int.add_mul]
  generalize a * b = p at *
  unfold wrap64; omega
theorem prod_pn (a b : Int) (a1 : -9223372036854775808 ≤ a) (a2 : a ≤ 9223372036854775807) (b1 : -9223372036854775808 ≤ b) (b2 : b ≤ 9223372036854775807) (hb : b < 0) :
    wrap64 (wrap64 (a * IntKind.u64.wrap b / 18446744073709551616) - a) = a * b / 18446744073709551616 ∧ a * IntKind.u64.wrap b % 18446744073709551616 = a * b % 18446744073709551616 := by
  have hp := mul_bd a b a1 a2 b1 b2
  rw [uw_neg b b1 hb, Int.mul_add]
  generalize a * b = p at *
  unfold wrap64; omega
theorem prod_pp (a b : Int) (a1 : -9223372036854775808 ≤ a) (a2 : a ≤ 9223372036854775807) (b1 : -9223372036854775808 ≤ b) (b2 : b ≤ 9223372036854775807) :
    wrap64 (a * b / 18446744073709551616) = a * b / 18446744073709551616 := by
  have hp := mul_bd a b a1 a2 b1 b2
  generalize a * b = p at *
  unfold wrap64; omega
theorem mul_join (p : Int) : p / 18446744073709551616 * 18446744073709551616 + p % 18446744073709551616 = p := by omega
theorem sum2 (a b : Int) : ssum [a, b] 2 = a + b := by simp [ssum]
theorem sum3 (a b c : Int) : ssum [a, b, c] 3 = a + b + c := by simp [ssum]; omega
/-- The absolute value, held. -/
def satA (a : Int) : Int := satH (if a < 0 then -a else a)
theorem satA_neg (a : Int) (a1 : -9223372036854775808 ≤ a) (a2 : a ≤ 9223372036854775807) (h : a < satH (-a)) : satH (-a) = satA a := by
  unfold satA
  by_cases h0 : a < 0
  · rw [if_pos h0]
  · rw [satH_in _ (by omega) (by omega)] at h; omega
theorem satA_pos (a : Int) (a1 : -9223372036854775808 ≤ a) (a2 : a ≤ 9223372036854775807) (h : satH (-a) ≤ a) : a = satA a := by
  unfold satA
  by_cases h0 : a < 0
  · by_cases h1 : a = -9223372036854775808
    · subst h1; simp [satH] at h
    · rw [satH_in _ (by omega) (by omega)] at h; omega
  · rw [if_neg h0, satH_in _ (by omega) (by omega)]
theorem satA_lt (a : Int) (h : a < 0) : satH (-a) = satA a := by unfold satA; rw [if_pos h]
theorem satA_ge (a : Int) (a2 : a ≤ 9223372036854775807) (h : 0 ≤ a) : a = satA a := by unfold satA; rw [if_neg (by omega), satH_in _ (by omega) (by omega)]
end Go.Proofs.Ytnjghgbaffkafaa.Sat
