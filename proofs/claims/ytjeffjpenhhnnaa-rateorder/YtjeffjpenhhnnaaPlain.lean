/-
  Plain arithmetic for the proofs over package muldiv: the product of two words, the quotient of two words by one (as math/bits has it), bits set by 'or'. No program in sight.
-/
import Derived.WalkKit
namespace Go.Proofs.Ytjeffjpenhhnnaa
open Go.RowKit

theorem half_le (a b : Int) (a0 : 0 ≤ a) (a1 : a < 4294967296) (b0 : 0 ≤ b) (b1 : b < 4294967296) : 0 ≤ a * b ∧ a * b ≤ 18446744065119617025 := by
  have p0 : 0 ≤ a * b := Int.mul_nonneg a0 b0
  have p1 : 0 ≤ (4294967295 - a) * b := Int.mul_nonneg (by omega) b0
  simp only [Int.sub_mul] at p1
  omega
theorem u64_and32 (n : Int) : bits .and .u64 n 4294967295 = n % 4294967296 := by
  have hm : (BitVec.ofInt 64 4294967295).toNat = 2 ^ 32 - 1 := by decide
  have key : (BitVec.ofInt 64 n &&& BitVec.ofInt 64 4294967295).toNat = (n % ((2 ^ 64 : Nat) : Int)).toNat % 2 ^ 32 := by
    rw [BitVec.toNat_and, BitVec.toNat_ofInt, hm, Nat.and_two_pow_sub_one_eq_mod]
  show IntKind.u64.wrap ((BitVec.ofInt 64 n &&& BitVec.ofInt 64 4294967295).toNat : Nat) = n % 4294967296
  rw [key, IntKind.wrap_u64]
  omega
theorem mul_split (x y : Int) : x * y = (x / 4294967296) * (y / 4294967296) * 18446744073709551616 + ((x / 4294967296) * (y % 4294967296) + (x % 4294967296) * (y / 4294967296)) * 4294967296 + (x % 4294967296) * (y % 4294967296) := by
  have ex : x = x / 4294967296 * 4294967296 + x % 4294967296 := by omega
  have ey : y = y / 4294967296 * 4294967296 + y % 4294967296 := by omega
  generalize x / 4294967296 = p at *
  generalize x % 4294967296 = q at *
  generalize y / 4294967296 = r at *
  generalize y % 4294967296 = s at *
  subst ex; subst ey
  have e1 : p * 4294967296 * (r * 4294967296) = p * r * 18446744073709551616 := by rw [← Int.mul_assoc, Int.mul_right_comm p 4294967296 r, Int.mul_assoc]; rfl
  have e2 : p * 4294967296 * s = p * s * 4294967296 := Int.mul_right_comm _ _ _
  have e3 : q * (r * 4294967296) = q * r * 4294967296 := (Int.mul_assoc _ _ _).symm
  rw [Int.add_mul, Int.mul_add, Int.mul_add, e1, e2, e3, Int.add_mul]
  omega
theorem mul_hi (x y : Int) (x1 : 0 ≤ x) (x2 : x < 18446744073709551616) (y1 : 0 ≤ y) (y2 : y < 18446744073709551616) :
    (((x / 4294967296 * (y / 4294967296)) % 18446744073709551616 +
                  ((x / 4294967296 * (y % 4294967296)) % 18446744073709551616 +
                        ((x % 4294967296) * (y % 4294967296)) % 18446744073709551616 / 4294967296) % 18446744073709551616 / 4294967296) % 18446744073709551616 +
              (((x / 4294967296 * (y % 4294967296)) % 18446744073709551616 + ((x % 4294967296) * (y % 4294967296)) % 18446744073709551616 / 4294967296) % 18446744073709551616 % 4294967296 +
                    ((x % 4294967296) * (y / 4294967296)) % 18446744073709551616) % 18446744073709551616 / 4294967296) % 18446744073709551616 = x * y / 18446744073709551616 := by
  have ha := half_le (x / 4294967296) (y / 4294967296) (by omega) (by omega) (by omega) (by omega)
  have hb := half_le (x / 4294967296) (y % 4294967296) (by omega) (by omega) (by omega) (by omega)
  have hc := half_le (x % 4294967296) (y / 4294967296) (by omega) (by omega) (by omega) (by omega)
  have hd := half_le (x % 4294967296) (y % 4294967296) (by omega) (by omega) (by omega) (by omega)
  rw [mul_split x y]
  generalize (x / 4294967296) * (y / 4294967296) = a at *
  generalize (x / 4294967296) * (y % 4294967296) = b at *
  generalize (x % 4294967296) * (y / 4294967296) = c at *
  generalize (x % 4294967296) * (y % 4294967296) = d at *
  omega

/-- Bits that do not meet: 'or' is the sum. -/
theorem u64_or (a b i : Nat) (hb : b < 2 ^ i) (h : 2 ^ i * a + b < 18446744073709551616) : bits .or .u64 ((2 ^ i * a : Nat) : Int) (b : Int) = ((2 ^ i * a + b : Nat) : Int) := by
  have e : (BitVec.ofInt 64 ((2 ^ i * a : Nat) : Int) ||| BitVec.ofInt 64 (b : Int)).toNat = 2 ^ i * a + b := by
    rw [BitVec.toNat_or, BitVec.toNat_ofInt, BitVec.toNat_ofInt, Nat.two_pow_add_eq_or_of_lt hb a]
    congr 1 <;> omega
  show IntKind.u64.wrap ((BitVec.ofInt 64 ((2 ^ i * a : Nat) : Int) ||| BitVec.ofInt 64 (b : Int)).toNat : Nat) = _
  rw [e, IntKind.wrap_u64]
  omega
theorem pow_cast (n : Nat) : ((2 ^ n : Nat) : Int) = (2 : Int) ^ n := by rw [Int.natCast_pow]; rfl

/-- Two words moved up by s bits: the upper one. -/
theorem up_hi (hi lo s : Int) (p : Int) (hp : p = 2 ^ s.toNat) (s0 : 0 ≤ s) (s1 : s ≤ 63) (h0 : 0 ≤ hi) (h1 : hi * p < 18446744073709551616 - p) (l0 : 0 ≤ lo) (l1 : lo < 18446744073709551616) :
    bits .or .u64 (IntKind.u64.wrap (hi * 2 ^ s.toNat)) (lo / 2 ^ (64 - s).toNat) = (hi * 18446744073709551616 + lo) * p / 18446744073709551616 := by
  subst hp
  obtain ⟨S, rfl⟩ := Int.eq_ofNat_of_zero_le s0
  obtain ⟨H, rfl⟩ := Int.eq_ofNat_of_zero_le h0
  obtain ⟨L, rfl⟩ := Int.eq_ofNat_of_zero_le l0
  have e1 : (64 - (S : Int)).toNat = 64 - S := by omega
  have e2 : ((S : Int)).toNat = S := by omega
  rw [e2, ← pow_cast] at h1
  rw [e1, e2, ← pow_cast, ← pow_cast]
  have hs : 2 ^ S * 2 ^ (64 - S) = 18446744073709551616 := by rw [← Nat.pow_add, show S + (64 - S) = 64 by omega]
  have hd : L / 2 ^ (64 - S) < 2 ^ S := by
    apply Nat.div_lt_of_lt_mul
    rw [Nat.mul_comm, hs]; omega
  have hL : L * 2 ^ S / 18446744073709551616 = L / 2 ^ (64 - S) := by
    rw [← hs, Nat.mul_comm L, Nat.mul_div_mul_left _ _ (Nat.two_pow_pos S)]
  have hc : (H : Int) * ((2 ^ S : Nat) : Int) = ((2 ^ S * H : Nat) : Int) := by rw [Int.natCast_mul, Int.mul_comm]
  have hl : (L : Int) / ((2 ^ (64 - S) : Nat) : Int) = ((L / 2 ^ (64 - S) : Nat) : Int) := by rw [Int.natCast_ediv]
  rw [hc] at h1
  have hw : IntKind.u64.wrap ((H : Int) * ((2 ^ S : Nat) : Int)) = ((2 ^ S * H : Nat) : Int) := by rw [hc, IntKind.wrap_u64]; omega
  rw [hw, hl, u64_or H _ S hd (by omega), Int.add_mul]
  have hc2 : (H : Int) * 18446744073709551616 * ((2 ^ S : Nat) : Int) = ((2 ^ S * H : Nat) : Int) * 18446744073709551616 := by rw [Int.mul_right_comm, hc]
  have hc3 : (L : Int) * ((2 ^ S : Nat) : Int) = ((L * 2 ^ S : Nat) : Int) := by rw [Int.natCast_mul]
  rw [hc2, hc3]
  omega
theorem up_lo (hi lo p : Int) : IntKind.u64.wrap (lo * p) = (hi * 18446744073709551616 + lo) * p % 18446744073709551616 := by
  rw [IntKind.wrap_u64, Int.add_mul, Int.mul_right_comm]
  omega

/-- One digit of a quotient: U below Y, V one digit, Q what is tried. -/
structure Digit (U V Y Q R : Int) : Prop where
  q0 : 0 ≤ Q
  q1 : Q ≤ 4294967297
  r0 : 0 ≤ R
  r1 : R < 4294967296
  eq : U = Q * (Y / 4294967296) + R
  le : (U * 4294967296 + V) / Y ≤ Q
/-- What is divided, and by what. -/
structure Digits (U V Y : Int) : Prop where
  u0 : 0 ≤ U
  u1 : U < Y
  v0 : 0 ≤ V
  v1 : V < 4294967296
  y0 : 9223372036854775808 ≤ Y
  y1 : Y < 18446744073709551616
theorem y_split (Q Y : Int) : Q * Y = Q * (Y / 4294967296) * 4294967296 + Q * (Y % 4294967296) := by
  have e : Y = Y / 4294967296 * 4294967296 + Y % 4294967296 := by omega
  conv => lhs; rw [e, Int.mul_add, ← Int.mul_assoc]
theorem dg_start {U V Y : Int} (D : Digits U V Y) : Digit U V Y (U / (Y / 4294967296)) (U % (Y / 4294967296)) := by
  obtain ⟨u0, u1, v0, v1, y0, y1⟩ := D
  have hy : 0 < Y / 4294967296 := by omega
  have e : U = U / (Y / 4294967296) * (Y / 4294967296) + U % (Y / 4294967296) := by rw [Int.mul_comm]; exact (Int.mul_ediv_add_emod U _).symm
  have r0 := Int.emod_nonneg U (Int.ne_of_gt hy)
  have r1 := Int.emod_lt_of_pos U hy
  have q0 : 0 ≤ U / (Y / 4294967296) := Int.ediv_nonneg u0 (by omega)
  refine ⟨q0, ?_, r0, by omega, e, ?_⟩
  · have : U / (Y / 4294967296) < 4294967298 := Int.ediv_lt_of_lt_mul hy (by omega)
    omega
  · have hs := y_split (U / (Y / 4294967296) + 1) Y
    rw [Int.add_mul (U / (Y / 4294967296)) 1 (Y / 4294967296), Int.one_mul] at hs
    have h0 : 0 ≤ (U / (Y / 4294967296) + 1) * (Y % 4294967296) := Int.mul_nonneg (by omega) (by omega)
    have : (U * 4294967296 + V) / Y < U / (Y / 4294967296) + 1 := Int.ediv_lt_of_lt_mul (by omega) (by omega)
    omega
theorem dg_wrap {U V Y : Int} (D : Digits U V Y) : IntKind.u64.wrap (U.tdiv (Y / 4294967296)) = U / (Y / 4294967296) ∧ IntKind.u64.wrap (U - IntKind.u64.wrap (U / (Y / 4294967296) * (Y / 4294967296))) = U % (Y / 4294967296) := by
  have G := dg_start D
  obtain ⟨q0, q1, r0, r1, e, _⟩ := G
  obtain ⟨u0, u1, v0, v1, y0, y1⟩ := D
  rw [Int.tdiv_eq_ediv_of_nonneg u0]
  simp only [IntKind.wrap_u64]
  generalize U / (Y / 4294967296) * (Y / 4294967296) = m at *
  omega
theorem dg_exit {U V Y Q R : Int} (D : Digits U V Y) (G : (U * 4294967296 + V) / Y ≤ Q) (e : U = Q * (Y / 4294967296) + R) (h : Q * (Y % 4294967296) ≤ 4294967296 * R + V) : Q = (U * 4294967296 + V) / Y := by
  have hs := y_split Q Y
  have := D.y0
  have : Q ≤ (U * 4294967296 + V) / Y := (Int.le_ediv_iff_mul_le (by omega)).2 (by omega)
  omega
theorem dg_dec {U V Y Q R : Int} (D : Digits U V Y) (G : Digit U V Y Q R) (h : 4294967296 ≤ Q ∨ 4294967296 * R + V < Q * (Y % 4294967296)) : (U * 4294967296 + V) / Y ≤ Q - 1 ∧ 1 ≤ Q := by
  obtain ⟨u0, u1, v0, v1, y0, y1⟩ := D
  obtain ⟨q0, q1, r0, r1, e, le⟩ := G
  rcases h with h | h
  · have : (U * 4294967296 + V) / Y < 4294967296 := Int.ediv_lt_of_lt_mul (by omega) (by omega)
    omega
  · have hs := y_split Q Y
    have : (U * 4294967296 + V) / Y < Q := Int.ediv_lt_of_lt_mul (by omega) (by omega)
    refine ⟨by omega, ?_⟩
    rcases (by omega : Q = 0 ∨ 1 ≤ Q) with h0 | h0
    · subst h0; simp at h; omega
    · exact h0
theorem dg_next {U V Y Q R : Int} (D : Digits U V Y) (G : Digit U V Y Q R) (h : 4294967296 ≤ Q ∨ 4294967296 * R + V < Q * (Y % 4294967296)) (hr : R + Y / 4294967296 < 4294967296) : Digit U V Y (Q - 1) (R + Y / 4294967296) := by
  have hd := dg_dec D G h
  have := D.y0
  refine ⟨by omega, by have := G.q1; omega, by have := G.r0; omega, hr, ?_, hd.1⟩
  rw [Int.sub_mul, Int.one_mul]; have := G.eq; omega
theorem dg_break {U V Y Q R : Int} (D : Digits U V Y) (G : Digit U V Y Q R) (h : 4294967296 ≤ Q ∨ 4294967296 * R + V < Q * (Y % 4294967296)) (hr : 4294967296 ≤ R + Y / 4294967296) : Q - 1 = (U * 4294967296 + V) / Y := by
  have hd := dg_dec D G h
  obtain ⟨q0, q1, r0, r1, e, le⟩ := G
  refine dg_exit D hd.1 (R := R + Y / 4294967296) (by rw [Int.sub_mul, Int.one_mul]; omega) ?_
  have b1 : (Q - 1) * (Y % 4294967296) ≤ 4294967296 * 4294967295 := Int.mul_le_mul (by omega) (by omega) (by omega) (by omega)
  have := D.v0
  omega
/-- What is left behind a digit. -/
def left (U V Y : Int) : Int := (U * 4294967296 + V) % Y
theorem left_eq {U V Y Q : Int} (D : Digits U V Y) (hq : Q = (U * 4294967296 + V) / Y) :
    IntKind.u64.wrap (IntKind.u64.wrap (IntKind.u64.wrap (U * 4294967296) + V) - IntKind.u64.wrap (Q * Y)) = left U V Y ∧ U * 4294967296 + V = Q * Y + left U V Y ∧ 0 ≤ left U V Y ∧ left U V Y < Y := by
  have hy : 0 < Y := by have := D.y0; omega
  have e : U * 4294967296 + V = Q * Y + left U V Y := by unfold left; subst hq; have := Int.mul_ediv_add_emod (U * 4294967296 + V) Y; rw [Int.mul_comm Y] at this; exact this.symm
  have l0 : 0 ≤ left U V Y := Int.emod_nonneg _ (Int.ne_of_gt hy)
  have l1 : left U V Y < Y := Int.emod_lt_of_pos _ hy
  have := D.y1
  refine ⟨?_, e, l0, l1⟩
  generalize left U V Y = l at *
  simp only [IntKind.wrap_u64]
  generalize Q * Y = m at *
  omega
/-- The two digits together. -/
theorem two_digits (M Y Q1 Q0 l1 l0 : Int) (hy : 0 < Y) (e1 : M / 18446744073709551616 * 4294967296 + M % 18446744073709551616 / 4294967296 = Q1 * Y + l1) (e0 : l1 * 4294967296 + M % 18446744073709551616 % 4294967296 = Q0 * Y + l0) (a0 : 0 ≤ l0) (a1 : l0 < Y) :
    Q1 * 4294967296 + Q0 = M / Y ∧ l0 = M % Y := by
  have e : M = (Q1 * 4294967296 + Q0) * Y + l0 := by
    rw [Int.add_mul, Int.mul_right_comm]; omega
  refine ⟨?_, ?_⟩
  · rw [e, Int.add_comm (_ * Y) l0, Int.add_mul_ediv_right _ _ (Int.ne_of_gt hy), Int.ediv_eq_zero_of_lt a0 a1, Int.zero_add]
  · rw [e, Int.add_comm (_ * Y) l0, Int.add_mul_emod_self_right, Int.emod_eq_of_lt a0 a1]
theorem down_quo (n y p : Int) (hp : 0 < p) : n * p / (y * p) = n / y := Int.mul_ediv_mul_of_pos_left n y hp
theorem up_rem (n y p : Int) (hp : 0 < p) : n * p % (y * p) = n % y * p := by
  rw [Int.emod_def, Int.emod_def, down_quo n y p hp, Int.sub_mul, Int.mul_right_comm]
theorem down_rem (n y p : Int) (hp : 0 < p) : n * p % (y * p) / p = n % y := by
  rw [up_rem n y p hp, Int.mul_ediv_cancel _ (Int.ne_of_gt hp)]
theorem div_close (hi lo y p M Y Q1 Q0 U : Int) (hp : 0 < p) (hM : (hi * 18446744073709551616 + lo) * p = M) (hY : y * p = Y) (h0 : 0 ≤ hi) (h1 : hi < y) (l0 : 0 ≤ lo) (l1 : lo < 18446744073709551616)
    (D : Digits U (M % 4294967296) Y) (e1 : M / 18446744073709551616 * 4294967296 + M % 18446744073709551616 / 4294967296 = Q1 * Y + U) (hq : Q0 = (U * 4294967296 + M % 4294967296) / Y) :
    IntKind.u64.wrap (IntKind.u64.wrap (Q1 * 4294967296) + Q0) = (hi * 18446744073709551616 + lo) / y ∧
    IntKind.u64.wrap (IntKind.u64.wrap (IntKind.u64.wrap (U * 4294967296) + M % 4294967296) - IntKind.u64.wrap (Q0 * Y)) / p = (hi * 18446744073709551616 + lo) % y := by
  obtain ⟨e, f, f0, f1⟩ := left_eq D hq
  have hy : 0 < Y := by have := D.y0; omega
  have t := two_digits M Y Q1 Q0 U (left U (M % 4294967296) Y) hy e1 (by omega) f0 f1
  have b0 : 0 ≤ (hi * 18446744073709551616 + lo) / y := Int.ediv_nonneg (by omega) (by omega)
  have b1 : (hi * 18446744073709551616 + lo) / y < 18446744073709551616 := Int.ediv_lt_of_lt_mul (by omega) (by omega)
  have d1 := down_quo (hi * 18446744073709551616 + lo) y p hp
  have d2 := down_rem (hi * 18446744073709551616 + lo) y p hp
  rw [hM, hY] at d1 d2
  rw [e, t.2, d2, ← d1, ← t.1]
  rw [← d1, ← t.1] at b0 b1
  refine ⟨?_, rfl⟩
  simp only [IntKind.wrap_u64]
  omega
/-- The ways of one round. -/
theorem dg_ways (V Y Q R : Int) : ((4294967296 ≤ Q ∨ 4294967296 * R + V < Q * (Y % 4294967296)) ∧ 4294967296 ≤ Q ∧ R + Y / 4294967296 < 4294967296) ∨
    ((4294967296 ≤ Q ∨ 4294967296 * R + V < Q * (Y % 4294967296)) ∧ (¬ 4294967296 ≤ Q ∧ 4294967296 * R + V < Q * (Y % 4294967296)) ∧ R + Y / 4294967296 < 4294967296) ∨
    ((4294967296 ≤ Q ∨ 4294967296 * R + V < Q * (Y % 4294967296)) ∧ 4294967296 ≤ Q ∧ 4294967296 ≤ R + Y / 4294967296) ∨
    ((4294967296 ≤ Q ∨ 4294967296 * R + V < Q * (Y % 4294967296)) ∧ (¬ 4294967296 ≤ Q ∧ 4294967296 * R + V < Q * (Y % 4294967296)) ∧ 4294967296 ≤ R + Y / 4294967296) ∨
    (¬ 4294967296 ≤ Q ∧ Q * (Y % 4294967296) ≤ 4294967296 * R + V) := by
  generalize Q * (Y % 4294967296) = m
  omega
theorem dg_small {Q Y : Int} (q0 : 0 ≤ Q) (h : ¬ 4294967296 ≤ Q) : IntKind.u64.wrap (Q * (Y % 4294967296)) = Q * (Y % 4294967296) := by
  have := half_le Q (Y % 4294967296) q0 (by omega) (by omega) (by omega)
  rw [IntKind.wrap_u64]; omega

/-- How far a number is from 0. -/
def ab (a : Int) : Int := if a < 0 then -a else a
theorem ab_nonneg (a : Int) : 0 ≤ ab a := by unfold ab; split <;> omega
theorem ab_le (a : Int) (h1 : -9223372036854775808 ≤ a) (h2 : a ≤ 9223372036854775807) : ab a ≤ 9223372036854775808 := by unfold ab; split <;> omega
theorem ab_pos (a : Int) (h : a ≠ 0) : 0 < ab a := by unfold ab; split <;> omega
theorem size_neg (a : Int) (h1 : -9223372036854775808 ≤ a) (h : a < 0) : IntKind.u64.wrap (-IntKind.u64.wrap a) = ab a := by
  unfold ab; rw [if_pos h]; simp only [IntKind.wrap_u64]; omega
theorem size_pos (a : Int) (h : 0 ≤ a) : a = ab a := by unfold ab; rw [if_neg (by omega)]
/-- A number held between the least and the greatest int64. -/
def satH (z : Int) : Int := if z < -9223372036854775808 then -9223372036854775808 else if 9223372036854775807 < z then 9223372036854775807 else z
def fitH (z : Int) : Bool := decide (-9223372036854775808 ≤ z ∧ z ≤ 9223372036854775807)
theorem satH_in (z : Int) (h1 : -9223372036854775808 ≤ z) (h2 : z ≤ 9223372036854775807) : satH z = z := by unfold satH; rw [if_neg (by omega), if_neg (by omega)]
/-- Does a quotient go one further from 0? -/
def mdAway (below : Bool) (r c how : Int) : Bool :=
  if how = 1 then below && decide (0 < r) else if how = 3 then !below && decide (0 < r) else if below then decide (c - r < r) else decide (c - r ≤ r)
/-- Is the quotient below 0? -/
def mdNeg (a b c : Int) : Bool := ((decide (a < 0) != decide (b < 0)) != decide (c < 0))
/-- The size of the quotient, rounded. -/
def mdQ (a b c how : Int) : Int := ab a * ab b / ab c + (if mdAway (mdNeg a b c) (ab a * ab b % ab c) (ab c) how then 1 else 0)
def mdS (a b c how : Int) : Int := if mdNeg a b c then -mdQ a b c how else mdQ a b c how
/-- What Do answers, and Fits. -/
def mdV (a b c how : Int) : Int := if c = 0 ∨ how < 1 ∨ 3 < how then 0 else satH (mdS a b c how)
def mdF (a b c how : Int) : Bool := if c = 0 ∨ how < 1 ∨ 3 < how then false else fitH (mdS a b c how)
end Go.Proofs.Ytjeffjpenhhnnaa
