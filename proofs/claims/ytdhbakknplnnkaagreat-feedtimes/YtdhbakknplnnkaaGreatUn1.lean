/-
  Plain arithmetic for the proofs over package muldiv: the product of two words, the quotient of two words by one (as math/bits has it), bits set by 'or'. No program in sight.
-/
import Derived.WalkKit
import Derived.Test.YtdhbakknplnnkaaGreatRows
import Derived.WalkSpells
import Derived.WalkLawsBesides
import Derived.Handy
import Derived.Deep.QuietTactic
import Derived.BigQuiet
import Derived.WalkMore
import Derived.ScopeJumps
namespace Go.Proofs.YtdhbakknplnnkaaGreat.Un
open Go.RowKit

theorem half_le (a b : Int) (a0 : 0 ≤ a) (a1 : a < 4294967296) (b0 : 0 ≤ b) (b1 : b < 4294967296) : 0 ≤ a * b ∧ a * b ≤ 18446744065119617025 := by
  have p0 : 0 ≤ a * b := Int.mul_nonneg a0 b0
  have p1 : 0 ≤ (4294967295 - a) * b := Int.mul_nonneg (by omega) b0
  simp only [Int.sub_mul] at p1
  omega
theorem u64_and32 (n : Int) : bits .and .u64 n 4294967295 = n % 4294967296 := by
  have hm : (BitVec.ofInt 64 4294967295).toNat = 2 ^ 32 - 1 := by decide
  have key : (BitVec.ofInt 64 n &&& BitVec.ofInt 64 4294967295).toNat = (n % ((2 ^ 64 : Nat) : Int)).toNat % 2 ^ 32 := by
    rw [BitVec.toNat_and, BitVec.toNat_ofInt, hm, Nat.and_two_pow_sub_one_eq_mod]
  show IntKind.u64.wrap ((BitVec.ofInt 64 n &&& BitVec.ofInt 64 4294967295).toNat : Nat) = n % 4294967296
  rw [key, IntKind.wrap_u64]
  omega
theorem mul_split (x y : Int) : x * y = (x / 4294967296) * (y / 4294967296) * 18446744073709551616 + ((x / 4294967296) * (y % 4294967296) + (x % 4294967296) * (y / 4294967296)) * 4294967296 + (x % 4294967296) * (y % 4294967296) := by
  have ex : x = x / 4294967296 * 4294967296 + x % 4294967296 := by omega
  have ey : y = y / 4294967296 * 4294967296 + y % 4294967296 := by omega
  generalize x / 4294967296 = p at *
  generalize x % 4294967296 = q at *
  generalize y / 4294967296 = r at *
  generalize y % 4294967296 = s at *
  subst ex; subst ey
  have e1 : p * 4294967296 * (r * 4294967296) = p * r * 18446744073709551616 := by rw [← Int.mul_assoc, Int.mul_right_comm p 4294967296 r, Int.mul_assoc]; rfl
  have e2 : p * 4294967296 * s = p * s * 4294967296 := Int.mul_right_comm _ _ _
  have e3 : q * (r * 4294967296) = q * r * 4294967296 := (Int.mul_assoc _ _ _).symm
  rw [Int.add_mul, Int.mul_add, Int.mul_add, e1, e2, e3, Int.add_mul]
  omega
theorem mul_hi (x y : Int) (x1 : 0 ≤ x) (x2 : x < 18446744073709551616) (y1 : 0 ≤ y) (y2 : y < 18446744073709551616) :
    (((x / 4294967296 * (y / 4294967296)) % 18446744073709551616 +
                  ((x / 4294967296 * (y % 4294967296)) % 18446744073709551616 +
                        ((x % 4294967296) * (y % 4294967296)) % 18446744073709551616 / 4294967296) % 18446744073709551616 / 4294967296) % 18446744073709551616 +
              (((x / 4294967296 * (y % 4294967296)) % 18446744073709551616 + ((x % 4294967296) * (y % 4294967296)) % 18446744073709551616 / 4294967296) % 18446744073709551616 % 4294967296 +
                    ((x % 4294967296) * (y / 4294967296)) % 18446744073709551616) % 18446744073709551616 / 4294967296) % 18446744073709551616 = x * y / 18446744073709551616 := by
  have ha := half_le (x / 4294967296) (y / 4294967296) (by omega) (by omega) (by omega) (by omega)
  have hb := half_le (x / 4294967296) (y % 4294967296) (by omega) (by omega) (by omega) (by omega)
  have hc := half_le (x % 4294967296) (y / 4294967296) (by omega) (by omega) (by omega) (by omega)
  have hd := half_le (x % 4294967296) (y % 4294967296) (by omega) (by omega) (by omega) (by omega)
  rw [mul_split x y]
  generalize (x / 4294967296) * (y / 4294967296) = a at *
  generalize (x / 4294967296) * (y % 4294967296) = b at *
  generalize (x % 4294967296) * (y / 4294967296) = c at *
  generalize (x % 4294967296) * (y % 4294967296) = d at *
  omega

/-- Bits that do not meet: 'or' is the sum. -/
theorem u64_or (a b i : Nat) (hb : b < 2 ^ i) (h : 2 ^ i * a + b < 18446744073709551616) : bits .or .u64 ((2 ^ i * a : Nat) : Int) (b : Int) = ((2 ^ i * a + b : Nat) : Int) := by
  have e : (BitVec.ofInt 64 ((2 ^ i * a : Nat) : Int) ||| BitVec.ofInt 64 (b : Int)).toNat = 2 ^ i * a + b := by
    rw [BitVec.toNat_or, BitVec.toNat_ofInt, BitVec.toNat_ofInt, Nat.two_pow_add_eq_or_of_lt hb a]
    congr 1 <;> omega
  show IntKind.u64.wrap ((BitVec.ofInt 64 ((2 ^ i * a : Nat) : Int) ||| BitVec.ofInt 64 (b : Int)).toNat : Nat) = _
  rw [e, IntKind.wrap_u64]
  omega
theorem pow_cast (n : Nat) : ((2 ^ n : Nat) : Int) = (2 : Int) ^ n := by rw [Int.natCast_pow]; rfl

/-- Two words moved up by s bits: the upper one. -/
theorem up_hi (hi lo s : Int) (p : Int) (hp : p = 2 ^ s.toNat) (s0 : 0 ≤ s) (s1 : s ≤ 63) (h0 : 0 ≤ hi) (h1 : hi * p < 18446744073709551616 - p) (l0 : 0 ≤ lo) (l1 : lo < 18446744073709551616) :
    bits .or .u64 (IntKind.u64.wrap (hi * 2 ^ s.toNat)) (lo / 2 ^ (64 - s).toNat) = (hi * 18446744073709551616 + lo) * p / 18446744073709551616 := by
  subst hp
  obtain ⟨S, rfl⟩ := Int.eq_ofNat_of_zero_le s0
  obtain ⟨H, rfl⟩ := Int.eq_ofNat_of_zero_le h0
  obtain ⟨L, rfl⟩ := Int.eq_ofNat_of_zero_le l0
  have e1 : (64 - (S : Int)).toNat = 64 - S := by omega
  have e2 : ((S : Int)).toNat = S := by omega
  rw [e2, ← pow_cast] at h1
  rw [e1, e2, ← pow_cast, ← pow_cast]
  have hs : 2 ^ S * 2 ^ (64 - S) = 18446744073709551616 := by rw [← Nat.pow_add, show S + (64 - S) = 64 by omega]
  have hd : L / 2 ^ (64 - S) < 2 ^ S := by
    apply Nat.div_lt_of_lt_mul
    rw [Nat.mul_comm, hs]; omega
  have hL : L * 2 ^ S / 18446744073709551616 = L / 2 ^ (64 - S) := by
    rw [← hs, Nat.mul_comm L, Nat.mul_div_mul_left _ _ (Nat.two_pow_pos S)]
  have hc : (H : Int) * ((2 ^ S : Nat) : Int) = ((2 ^ S * H : Nat) : Int) := by rw [Int.natCast_mul, Int.mul_comm]
  have hl : (L : Int) / ((2 ^ (64 - S) : Nat) : Int) = ((L / 2 ^ (64 - S) : Nat) : Int) := by rw [Int.natCast_ediv]
  rw [hc] at h1
  have hw : IntKind.u64.wrap ((H : Int) * ((2 ^ S : Nat) : Int)) = ((2 ^ S * H : Nat) : Int) := by rw [hc, IntKind.wrap_u64]; omega
  rw [hw, hl, u64_or H _ S hd (by omega), Int.add_mul]
  have hc2 : (H : Int) * 18446744073709551616 * ((2 ^ S : Nat) : Int) = ((2 ^ S * H : Nat) : Int) * 18446744073709551616 := by rw [Int.mul_right_comm, hc]
  have hc3 : (L : Int) * ((2 ^ S : Nat) : Int) = ((L * 2 ^ S : Nat) : Int) := by rw [Int.natCast_mul]
  rw [hc2, hc3]
  omega
theorem up_lo (hi lo p : Int) : IntKind.u64.wrap (lo * p) = (hi * 18446744073709551616 + lo) * p % 18446744073709551616 := by
  rw [IntKind.wrap_u64, Int.add_mul, Int.mul_right_comm]
  omega

/-- One digit of a quotient: U below Y, V one digit, Q what is tried. -/
structure Digit (U V Y Q R : Int) : Prop where
  q0 : 0 ≤ Q
  q1 : Q ≤ 4294967297
  r0 : 0 ≤ R
  r1 : R < 4294967296
  eq : U = Q * (Y / 4294967296) + R
  le : (U * 4294967296 + V) / Y ≤ Q
/-- What is divided, and by what. -/
structure Digits (U V Y : Int) : Prop where
  u0 : 0 ≤ U
  u1 : U < Y
  v0 : 0 ≤ V
  v1 : V < 4294967296
  y0 : 9223372036854775808 ≤ Y
  y1 : Y < 18446744073709551616
theorem y_split (Q Y : Int) : Q * Y = Q * (Y / 4294967296) * 4294967296 + Q * (Y % 4294967296) := by
  have e : Y = Y / 4294967296 * 4294967296 + Y % 4294967296 := by omega
  conv => lhs; rw [e, Int.mul_add, ← Int.mul_assoc]
theorem dg_start {U V Y : Int} (D : Digits U V Y) : Digit U V Y (U / (Y / 4294967296)) (U % (Y / 4294967296)) := by
  obtain ⟨u0, u1, v0, v1, y0, y1⟩ := D
  have hy : 0 < Y / 4294967296 := by omega
  have e : U = U / (Y / 4294967296) * (Y / 4294967296) + U % (Y / 4294967296) := by rw [Int.mul_comm]; exact (Int.mul_ediv_add_emod U _).symm
  have r0 := Int.emod_nonneg U (Int.ne_of_gt hy)
  have r1 := Int.emod_lt_of_pos U hy
  have q0 : 0 ≤ U / (Y / 4294967296) := Int.ediv_nonneg u0 (by omega)
  refine ⟨q0, ?_, r0, by omega, e, ?_⟩
  · have : U / (Y / 4294967296) < 4294967298 := Int.ediv_lt_of_lt_mul hy (by omega)
    omega
  · have hs := y_split (U / (Y / 4294967296) + 1) Y
    rw [Int.add_mul (U / (Y / 4294967296)) 1 (Y / 4294967296), Int.one_mul] at hs
    have h0 : 0 ≤ (U / (Y / 4294967296) + 1) * (Y % 4294967296) := Int.mul_nonneg (by omega) (by omega)
    have : (U * 4294967296 + V) / Y < U / (Y / 4294967296) + 1 := Int.ediv_lt_of_lt_mul (by omega) (by omega)
    omega
theorem dg_wrap {U V Y : Int} (D : Digits U V Y) : IntKind.u64.wrap (U.tdiv (Y / 4294967296)) = U / (Y / 4294967296) ∧ IntKind.u64.wrap (U - IntKind.u64.wrap (U / (Y / 4294967296) * (Y / 4294967296))) = U % (Y / 4294967296) := by
  have G := dg_start D
  obtain ⟨q0, q1, r0, r1, e, _⟩ := G
  obtain ⟨u0, u1, v0, v1, y0, y1⟩ := D
  rw [Int.tdiv_eq_ediv_of_nonneg u0]
  simp only [IntKind.wrap_u64]
  generalize U / (Y / 4294967296) * (Y / 4294967296) = m at *
  omega
theorem dg_exit {U V Y Q R : Int} (D : Digits U V Y) (G : (U * 4294967296 + V) / Y ≤ Q) (e : U = Q * (Y / 4294967296) + R) (h : Q * (Y % 4294967296) ≤ 4294967296 * R + V) : Q = (U * 4294967296 + V) / Y := by
  have hs := y_split Q Y
  have := D.y0
  have : Q ≤ (U * 4294967296 + V) / Y := (Int.le_ediv_iff_mul_le (by omega)).2 (by omega)
  omega
theorem dg_dec {U V Y Q R : Int} (D : Digits U V Y) (G : Digit U V Y Q R) (h : 4294967296 ≤ Q ∨ 4294967296 * R + V < Q * (Y % 4294967296)) : (U * 4294967296 + V) / Y ≤ Q - 1 ∧ 1 ≤ Q := by
  obtain ⟨u0, u1, v0, v1, y0, y1⟩ := D
  obtain ⟨q0, q1, r0, r1, e, le⟩ := G
  rcases h with h | h
  · have : (U * 4294967296 + V) / Y < 4294967296 := Int.ediv_lt_of_lt_mul (by omega) (by omega)
    omega
  · have hs := y_split Q Y
    have : (U * 4294967296 + V) / Y < Q := Int.ediv_lt_of_lt_mul (by omega) (by omega)
    refine ⟨by omega, ?_⟩
    rcases (by omega : Q = 0 ∨ 1 ≤ Q) with h0 | h0
    · subst h0; simp at h; omega
    · exact h0
theorem dg_next {U V Y Q R : Int} (D : Digits U V Y) (G : Digit U V Y Q R) (h : 4294967296 ≤ Q ∨ 4294967296 * R + V < Q * (Y % 4294967296)) (hr : R + Y / 4294967296 < 4294967296) : Digit U V Y (Q - 1) (R + Y / 4294967296) := by
  have hd := dg_dec D G h
  have := D.y0
  refine ⟨by omega, by have := G.q1; omega, by have := G.r0; omega, hr, ?_, hd.1⟩
  rw [Int.sub_mul, Int.one_mul]; have := G.eq; omega
theorem dg_break {U V Y Q R : Int} (D : Digits U V Y) (G : Digit U V Y Q R) (h : 4294967296 ≤ Q ∨ 4294967296 * R + V < Q * (Y % 4294967296)) (hr : 4294967296 ≤ R + Y / 4294967296) : Q - 1 = (U * 4294967296 + V) / Y := by
  have hd := dg_dec D G h
  obtain ⟨q0, q1, r0, r1, e, le⟩ := G
  refine dg_exit D hd.1 (R := R + Y / 4294967296) (by rw [Int.sub_mul, Int.one_mul]; omega) ?_
  have b1 : (Q - 1) * (Y % 4294967296) ≤ 4294967296 * 4294967295 := Int.mul_le_mul (by omega) (by omega) (by omega) (by omega)
  have := D.v0
  omega
/-- What is left behind a digit. -/
def left (U V Y : Int) : Int := (U * 4294967296 + V) % Y
theorem left_eq {U V Y Q : Int} (D : Digits U V Y) (hq : Q = (U * 4294967296 + V) / Y) :
    IntKind.u64.wrap (IntKind.u64.wrap (IntKind.u64.wrap (U * 4294967296) + V) - IntKind.u64.wrap (Q * Y)) = left U V Y ∧ U * 4294967296 + V = Q * Y + left U V Y ∧ 0 ≤ left U V Y ∧ left U V Y < Y := by
  have hy : 0 < Y := by have := D.y0; omega
  have e : U * 4294967296 + V = Q * Y + left U V Y := by unfold left; subst hq; have := Int.mul_ediv_add_emod (U * 4294967296 + V) Y; rw [Int.mul_comm Y] at this; exact this.symm
  have l0 : 0 ≤ left U V Y := Int.emod_nonneg _ (Int.ne_of_gt hy)
  have l1 : left U V Y < Y := Int.emod_lt_of_pos _ hy
  have := D.y1
  refine ⟨?_, e, l0, l1⟩
  generalize left U V Y = l at *
  simp only [IntKind.wrap_u64]
  generalize Q * Y = m at *
  omega
/-- The two digits together. -/
theorem two_digits (M Y Q1 Q0 l1 l0 : Int) (hy : 0 < Y) (e1 : M / 18446744073709551616 * 4294967296 + M % 18446744073709551616 / 4294967296 = Q1 * Y + l1) (e0 : l1 * 4294967296 + M % 18446744073709551616 % 4294967296 = Q0 * Y + l0) (a0 : 0 ≤ l0) (a1 : l0 < Y) :
    Q1 * 4294967296 + Q0 = M / Y ∧ l0 = M % Y := by
  have e : M = (Q1 * 4294967296 + Q0) * Y + l0 := by
    rw [Int.add_mul, Int.mul_right_comm]; omega
  refine ⟨?_, ?_⟩
  · rw [e, Int.add_comm (_ * Y) l0, Int.add_mul_ediv_right _ _ (Int.ne_of_gt hy), Int.ediv_eq_zero_of_lt a0 a1, Int.zero_add]
  · rw [e, Int.add_comm (_ * Y) l0, Int.add_mul_emod_self_right, Int.emod_eq_of_lt a0 a1]
theorem down_quo (n y p : Int) (hp : 0 < p) : n * p / (y * p) = n / y := Int.mul_ediv_mul_of_pos_left n y hp
theorem up_rem (n y p : Int) (hp : 0 < p) : n * p % (y * p) = n % y * p := by
  rw [Int.emod_def, Int.emod_def, down_quo n y p hp, Int.sub_mul, Int.mul_right_comm]
theorem down_rem (n y p : Int) (hp : 0 < p) : n * p % (y * p) / p = n % y := by
  rw [up_rem n y p hp, Int.mul_ediv_cancel _ (Int.ne_of_gt hp)]
theorem div_close (hi lo y p M Y Q1 Q0 U : Int) (hp : 0 < p) (hM : (hi * 18446744073709551616 + lo) * p = M) (hY : y * p = Y) (h0 : 0 ≤ hi) (h1 : hi < y) (l0 : 0 ≤ lo) (l1 : lo < 18446744073709551616)
    (D : Digits U (M % 4294967296) Y) (e1 : M / 18446744073709551616 * 4294967296 + M % 18446744073709551616 / 4294967296 = Q1 * Y + U) (hq : Q0 = (U * 4294967296 + M % 4294967296) / Y) :
    IntKind.u64.wrap (IntKind.u64.wrap (Q1 * 4294967296) + Q0) = (hi * 18446744073709551616 + lo) / y ∧
    IntKind.u64.wrap (IntKind.u64.wrap (IntKind.u64.wrap (U * 4294967296) + M % 4294967296) - IntKind.u64.wrap (Q0 * Y)) / p = (hi * 18446744073709551616 + lo) % y := by
  obtain ⟨e, f, f0, f1⟩ := left_eq D hq
  have hy : 0 < Y := by have := D.y0; omega
  have t := two_digits M Y Q1 Q0 U (left U (M % 4294967296) Y) hy e1 (by omega) f0 f1
  have b0 : 0 ≤ (hi * 18446744073709551616 + lo) / y := Int.ediv_nonneg (by omega) (by omega)
  have b1 : (hi * 18446744073709551616 + lo) / y < 18446744073709551616 := Int.ediv_lt_of_lt_mul (by omega) (by omega)
  have d1 := down_quo (hi * 18446744073709551616 + lo) y p hp
  have d2 := down_rem (hi * 18446744073709551616 + lo) y p hp
  rw [hM, hY] at d1 d2
  rw [e, t.2, d2, ← d1, ← t.1]
  rw [← d1, ← t.1] at b0 b1
  refine ⟨?_, rfl⟩
  simp only [IntKind.wrap_u64]
  omega
/-- The ways of one round. -/
theorem dg_ways (V Y Q R : Int) : ((4294967296 ≤ Q ∨ 4294967296 * R + V < Q * (Y % 4294967296)) ∧ 4294967296 ≤ Q ∧ R + Y / 4294967296 < 4294967296) ∨
    ((4294967296 ≤ Q ∨ 4294967296 * R + V < Q * (Y % 4294967296)) ∧ (¬ 4294967296 ≤ Q ∧ 4294967296 * R + V < Q * (Y % 4294967296)) ∧ R + Y / 4294967296 < 4294967296) ∨
    ((4294967296 ≤ Q ∨ 4294967296 * R + V < Q * (Y % 4294967296)) ∧ 4294967296 ≤ Q ∧ 4294967296 ≤ R + Y / 4294967296) ∨
    ((4294967296 ≤ Q ∨ 4294967296 * R + V < Q * (Y % 4294967296)) ∧ (¬ 4294967296 ≤ Q ∧ 4294967296 * R + V < Q * (Y % 4294967296)) ∧ 4294967296 ≤ R + Y / 4294967296) ∨
    (¬ 4294967296 ≤ Q ∧ Q * (Y % 4294967296) ≤ 4294967296 * R + V) := by
  generalize Q * (Y % 4294967296) = m
  omega
theorem dg_small {Q Y : Int} (q0 : 0 ≤ Q) (h : ¬ 4294967296 ≤ Q) : IntKind.u64.wrap (Q * (Y % 4294967296)) = Q * (Y % 4294967296) := by
  have := half_le Q (Y % 4294967296) q0 (by omega) (by omega) (by omega)
  rw [IntKind.wrap_u64]; omega

/-- How far a number is from 0. -/
def ab (a : Int) : Int := if a < 0 then -a else a
theorem ab_nonneg (a : Int) : 0 ≤ ab a := by unfold ab; split <;> omega
theorem ab_le (a : Int) (h1 : -9223372036854775808 ≤ a) (h2 : a ≤ 9223372036854775807) : ab a ≤ 9223372036854775808 := by unfold ab; split <;> omega
theorem ab_pos (a : Int) (h : a ≠ 0) : 0 < ab a := by unfold ab; split <;> omega
theorem size_neg (a : Int) (h1 : -9223372036854775808 ≤ a) (h : a < 0) : IntKind.u64.wrap (-IntKind.u64.wrap a) = ab a := by
  unfold ab; rw [if_pos h]; simp only [IntKind.wrap_u64]; omega
theorem size_pos (a : Int) (h : 0 ≤ a) : a = ab a := by unfold ab; rw [if_neg (by omega)]
/-- A number held between the least and the greatest int64. -/
def satH (z : Int) : Int := if z < -9223372036854775808 then -9223372036854775808 else if 9223372036854775807 < z then 9223372036854775807 else z
def fitH (z : Int) : Bool := decide (-9223372036854775808 ≤ z ∧ z ≤ 9223372036854775807)
theorem satH_in (z : Int) (h1 : -9223372036854775808 ≤ z) (h2 : z ≤ 9223372036854775807) : satH z = z := by unfold satH; rw [if_neg (by omega), if_neg (by omega)]
/-- Does a quotient go one further from 0? -/
def mdAway (below : Bool) (r c how : Int) : Bool :=
  if how = 1 then below && decide (0 < r) else if how = 3 then !below && decide (0 < r) else if below then decide (c - r < r) else decide (c - r ≤ r)
/-- Is the quotient below 0? -/
def mdNeg (a b c : Int) : Bool := ((decide (a < 0) != decide (b < 0)) != decide (c < 0))
/-- The size of the quotient, rounded. -/
def mdQ (a b c how : Int) : Int := ab a * ab b / ab c + (if mdAway (mdNeg a b c) (ab a * ab b % ab c) (ab c) how then 1 else 0)
def mdS (a b c how : Int) : Int := if mdNeg a b c then -mdQ a b c how else mdQ a b c how
/-- What Do answers, and Fits. -/
def mdV (a b c how : Int) : Int := if c = 0 ∨ how < 1 ∨ 3 < how then 0 else satH (mdS a b c how)
def mdF (a b c how : Int) : Bool := if c = 0 ∨ how < 1 ∨ 3 < how then false else fitH (mdS a b c how)
end Go.Proofs.YtdhbakknplnnkaaGreat.Un
namespace Go.Proofs.YtdhbakknplnnkaaGreat.Un
open Go.RowKit
theorem ret_int {k : IntKind} {a b : Int} (h : a = b) : Ending.returned (.int k a) = .returned (.int k b) := by rw [h]
theorem mkHid {p : Prop} (h : p) : Hid p := h
theorem len_close (b : Nat) (B : Int) (x y : Int) (hB : B = b) (hb : b ≤ 56) (hy : y.toNat = x.toNat / 2 ^ b) (h1 : 1 ≤ y) (h2 : y < 256) : wrap64 (B + wrap64 (bitLen y.toNat : Int)) = (bitLen x.toNat : Int) := by
  have e := bitLen_shift x.toNat b (by omega)
  rw [← hy] at e
  have := bitLen_le8 y.toNat (by omega)
  rw [e, hB]; unfold wrap64; omega
theorem len_close0 (x : Int) (h0 : 0 ≤ x) (h2 : x < 256) : wrap64 (wrap64 (bitLen x.toNat : Int)) = (bitLen x.toNat : Int) := by
  have := bitLen_le8 x.toNat (by omega)
  unfold wrap64; omega
set_option maxRecDepth 100000 in
set_option maxHeartbeats 400000 in
theorem len64_any (x : Int) (h0 : 0 ≤ x) (h1 : x < 18446744073709551616) (w : World) :
    Calls Tryz.prog 150 #[.int .u64 x] w fun e w' => e = .returned (.int .i64 (bitLen x.toNat)) ∧ w' = w := by
  go_enter Tryz.func150, Tryz.ntmps150
  go_wp2
  all_goals go_ret
  all_goals refine ⟨?_, rfl⟩
  all_goals rw [len8tab_get]
  · exact ret_int (len_close 56 _ x _ rfl (by omega) (by omega) (by omega) (by omega))
  · exact ret_int (len_close 48 _ x _ rfl (by omega) (by omega) (by omega) (by omega))
  · exact ret_int (len_close 40 _ x _ rfl (by omega) (by omega) (by omega) (by omega))
  · exact ret_int (len_close 32 _ x _ rfl (by omega) (by omega) (by omega) (by omega))
  · exact ret_int (len_close 24 _ x _ rfl (by omega) (by omega) (by omega) (by omega))
  · exact ret_int (len_close 16 _ x _ rfl (by omega) (by omega) (by omega) (by omega))
  · exact ret_int (len_close 8 _ x _ rfl (by omega) (by omega) (by omega) (by omega))
  · exact ret_int (len_close0 x h0 (by omega))

/-- How many zeros lead. -/
def lzN (y : Int) : Int := 64 - bitLen y.toNat
theorem lzN_bd (y : Int) (h1 : 1 ≤ y) (h2 : y < 18446744073709551616) : 0 ≤ lzN y ∧ lzN y ≤ 63 ∧ 9223372036854775808 ≤ y * 2 ^ (lzN y).toNat ∧ y * 2 ^ (lzN y).toNat < 18446744073709551616 := by
  obtain ⟨s1, s2⟩ := bitLen_spec y.toNat
  have s2 := s2 (by omega)
  unfold lzN
  generalize bitLen y.toNat = L at *
  have hL1 : 1 ≤ L := by
    rcases Nat.eq_zero_or_pos L with h | h
    · subst h; simp at s1; omega
    · exact h
  have hL : L ≤ 64 := by
    rcases Nat.lt_or_ge 64 L with h | h
    · have : 2 ^ 64 ≤ 2 ^ (L - 1) := Nat.pow_le_pow_right (by decide) (by omega)
      omega
    · exact h
  have e1 : (64 - (L : Int)).toNat = 64 - L := by omega
  have p : 0 < 2 ^ (64 - L) := Nat.two_pow_pos _
  have m1 := Nat.mul_lt_mul_of_pos_right s1 p
  have m2 := Nat.mul_le_mul_right (2 ^ (64 - L)) s2
  rw [← Nat.pow_add] at m1 m2
  rw [show L + (64 - L) = 64 by omega] at m1
  rw [show L - 1 + (64 - L) = 63 by omega] at m2
  rw [e1]
  have c : y * 2 ^ (64 - L) = ((y.toNat * 2 ^ (64 - L) : Nat) : Int) := by
    rw [Int.natCast_mul, Int.natCast_pow, Int.toNat_of_nonneg (by omega)]; rfl
  rw [c]
  omega
set_option maxHeartbeats 400000 in
theorem lz64_any (x : Int) (h0 : 1 ≤ x) (h1 : x < 18446744073709551616) (w : World) :
    Calls Tryz.prog 149 #[.int .u64 x] w fun e w' => e = .returned (.int .i64 (lzN x)) ∧ w' = w := by
  have hb := lzN_bd x h0 h1
  go_enter Tryz.func149, Tryz.ntmps149
  go_wp2_with (go_at_call 150; refine (len64_any _ (by omega) h1 _).mono ?_; rintro e w1 ⟨rfl, rfl⟩)
  go_ret
  refine ⟨ret_int ?_, rfl⟩
  unfold lzN at *; unfold wrap64; omega

theorem ret_pair {a b a' b' : Int} (h : a = a') (k : b = b') : Ending.returned (.tuple #[.int .u64 a, .int .u64 b]) = .returned (.tuple #[.int .u64 a', .int .u64 b']) := by rw [h, k]
set_option maxHeartbeats 1000000 in
theorem div64_big (hi lo y : Int) (a0 : 1 ≤ hi) (a1 : hi < y) (b0 : 0 ≤ lo) (b1 : lo < 18446744073709551616) (c1 : y < 18446744073709551616) (w : World) :
    Calls Tryz.prog 147 #[.int .u64 hi, .int .u64 lo, .int .u64 y] w fun e w' => e = .returned (.tuple #[.int .u64 ((hi * 18446744073709551616 + lo) / y), .int .u64 ((hi * 18446744073709551616 + lo) % y)]) ∧ w' = w := by
  obtain ⟨s0, s1, s2, s3⟩ := lzN_bd y (by omega) c1
  have HL := lz64_any y (by omega) c1
  generalize lzN y = s at *
  have hp : 0 < (2 : Int) ^ s.toNat := Int.pow_pos (by decide)
  have hh : hi * 2 ^ s.toNat < 18446744073709551616 - 2 ^ s.toNat := by
    have := Int.mul_le_mul_of_nonneg_right (show hi + 1 ≤ y by omega) (Int.le_of_lt hp)
    rw [Int.add_mul, Int.one_mul] at this; omega
  have eor := mkHid (up_hi hi lo s _ rfl s0 s1 (by omega) hh b0 b1)
  have elo := mkHid (up_lo hi lo (2 ^ s.toNat))
  have HD : Hid (Digits ((hi * 18446744073709551616 + lo) * 2 ^ s.toNat / 18446744073709551616) ((hi * 18446744073709551616 + lo) * 2 ^ s.toNat % 18446744073709551616 / 4294967296) (y * 2 ^ s.toNat)) := by
    have hM : 0 ≤ (hi * 18446744073709551616 + lo) * 2 ^ s.toNat := Int.mul_nonneg (by omega) (by omega)
    have hU : (hi * 18446744073709551616 + lo) * 2 ^ s.toNat < y * 2 ^ s.toNat * 18446744073709551616 := by
      rw [Int.mul_right_comm]
      exact Int.mul_lt_mul_of_pos_right (by omega) hp
    refine ⟨by omega, ?_, by omega, by omega, s2, s3⟩
    exact Int.ediv_lt_of_lt_mul (by omega) hU
  go_enter Tryz.func147, Tryz.ntmps147
  go_wp2_with (go_at_call 149; refine (HL _).mono ?_; rintro e w1 ⟨rfl, rfl⟩)
  simp only [eor.out, elo.out, u64_and32]
  generalize hMe : (hi * 18446744073709551616 + lo) * 2 ^ s.toNat = M at *
  generalize hYe : y * 2 ^ s.toNat = Y at *
  have D := HD.out
  simp only [(dg_wrap D).1, (dg_wrap D).2]
  go_loopw [15, 16] (fun q r wr => ∃ Q R : Int, q = .int .u64 Q ∧ r = .int .u64 R ∧ wr = w1 ∧ Digit (M / 18446744073709551616) (M % 18446744073709551616 / 4294967296) Y Q R) (fun q _ _ => (intOf q).toNat)
  case atStart => exact ⟨_, _, rfl, rfl, rfl, dg_start D⟩
  case round =>
    obtain ⟨Q, R, rfl, rfl, rfl, G⟩ := hrel
    have G' := mkHid G
    have D' := mkHid D
    obtain ⟨q0, q1, r0, r1, ge, gl⟩ := G
    obtain ⟨u0, u1, v0, v1, y0, y1⟩ := D
    clear ge gl u1
    rcases dg_ways (M % 18446744073709551616 / 4294967296) Y Q R with ⟨hc, h1, hr⟩ | ⟨hc, ⟨h1, h2⟩, hr⟩ | ⟨hc, h1, hr⟩ | ⟨hc, ⟨h1, h2⟩, hr⟩ | ⟨h1, h2⟩
    · have hd := (dg_dec D'.out G'.out hc).2
      have HC := mkHid hc
      clear hc
      go_wp2
      go_roundw
      case rel => exact ⟨_, _, rfl, rfl, trivial, dg_next D'.out G'.out HC.out hr⟩
      case measure => simp [intOf]; omega
    · have hd := (dg_dec D'.out G'.out hc).2
      have HC := mkHid hc
      clear hc
      have hm := dg_small (Y := Y) q0 h1
      go_wp2
      go_roundw
      case rel => exact ⟨_, _, rfl, rfl, trivial, dg_next D'.out G'.out HC.out hr⟩
      case measure => simp [intOf]; omega
    have HQ := mkHid (dg_break D'.out G'.out hc hr)
    have hd := (dg_dec D'.out G'.out hc).2
    clear hc
    rotate_left
    have HQ := mkHid (dg_break D'.out G'.out hc hr)
    have hd := (dg_dec D'.out G'.out hc).2
    clear hc
    have hm := dg_small (Y := Y) q0 h1
    rotate_left
    have HQ := mkHid (dg_exit D'.out G'.out.le G'.out.eq h2)
    have hm := dg_small (Y := Y) q0 h1
    all_goals go_wp2
    all_goals (
      simp only [HQ.out]
      obtain ⟨eL, eM, l0, l1⟩ := left_eq D'.out rfl
      simp only [eL]
      have EM := mkHid eM
      clear eM eL HQ G' D' h1
      generalize left (M / 18446744073709551616) (M % 18446744073709551616 / 4294967296) Y = U2 at *
      generalize (M / 18446744073709551616 * 4294967296 + M % 18446744073709551616 / 4294967296) / Y = Q1 at *
      have D : Digits U2 (M % 4294967296) Y := ⟨l0, l1, by omega, by omega, y0, y1⟩
      simp only [(dg_wrap D).1, (dg_wrap D).2]
      clear q0 q1 r0 r1
      go_loopw [18, 16] (fun q r wr2 => ∃ Q R : Int, q = .int .u64 Q ∧ r = .int .u64 R ∧ wr2 = wr ∧ Digit U2 (M % 4294967296) Y Q R) (fun q _ _ => (intOf q).toNat)
      case atStart => exact ⟨_, _, rfl, rfl, rfl, dg_start D⟩
      case round =>
        obtain ⟨Q, R, rfl, rfl, rfl, G⟩ := hrel
        have G' := mkHid G
        have D' := mkHid D
        obtain ⟨q0, q1, r0, r1, ge, gl⟩ := G
        obtain ⟨u0, u1, v0, v1, y0, y1⟩ := D
        clear ge gl u1
        rcases dg_ways (M % 4294967296) Y Q R with ⟨hc, h1, hr⟩ | ⟨hc, ⟨h1, h2⟩, hr⟩ | ⟨hc, h1, hr⟩ | ⟨hc, ⟨h1, h2⟩, hr⟩ | ⟨h1, h2⟩
        · have hd := (dg_dec D'.out G'.out hc).2
          have HC := mkHid hc
          clear hc
          go_wp2
          go_roundw
          case rel => exact ⟨_, _, rfl, rfl, trivial, dg_next D'.out G'.out HC.out hr⟩
          case measure => simp [intOf]; omega
        · have hd := (dg_dec D'.out G'.out hc).2
          have HC := mkHid hc
          clear hc
          have hm := dg_small (Y := Y) q0 h1
          go_wp2
          go_roundw
          case rel => exact ⟨_, _, rfl, rfl, trivial, dg_next D'.out G'.out HC.out hr⟩
          case measure => simp [intOf]; omega
        have HQ := mkHid (dg_break D'.out G'.out hc hr)
        have hd := (dg_dec D'.out G'.out hc).2
        clear hc
        rotate_left
        have HQ := mkHid (dg_break D'.out G'.out hc hr)
        have hd := (dg_dec D'.out G'.out hc).2
        clear hc
        have hm := dg_small (Y := Y) q0 h1
        rotate_left
        have HQ := mkHid (dg_exit D'.out G'.out.le G'.out.eq h2)
        have hm := dg_small (Y := Y) q0 h1
        all_goals go_wp2
        all_goals (
          go_ret2
          simp only [HQ.out]
          refine ⟨?_, trivial⟩
          have c := div_close hi lo y (2 ^ s.toNat) M Y Q1 _ U2 hp hMe hYe (by omega) a1 b0 b1 D'.out EM.out rfl
          exact ret_pair c.1 c.2))
end Go.Proofs.YtdhbakknplnnkaaGreat.Un
namespace Go.Proofs.YtdhbakknplnnkaaGreat.Un
open Go.RowKit

/-- A call's Below, carried on from an elder world. -/
theorem carry {P : Program} {f : Nat} {args : Array Value} {w w0 : World} {Q : Ending → Prop} (hb : Below w0.heap.size w0 w) (h : Calls P f args w fun e w' => Q e ∧ Below w.heap.size w w') :
    Calls P f args w fun e w' => Q e ∧ Below w0.heap.size w0 w' :=
  h.mono fun _ _ ⟨hq, hk⟩ => ⟨hq, hb.trans (hk.mono hb.size)⟩
theorem below_drewN {B : Nat} {w w1 : World} (h : Below B w w1) (n : Nat) : Below B w (w1.drewN n) := ⟨h.os, h.tape, h.output, h.size, h.block⟩

theorem setCell_drewN (w : World) (n : Nat) (a : Addr) (v : Value) : (w.drewN n).setCell a v = (w.setCell a v).drewN n := rfl

set_option maxHeartbeats 400000 in
theorem div64_small (lo y : Int) (a1 : 0 < y) (b0 : 0 ≤ lo) (b1 : lo < 18446744073709551616) (c1 : y < 18446744073709551616) (w : World) :
    Calls Tryz.prog 147 #[.int .u64 0, .int .u64 lo, .int .u64 y] w fun e w' => e = .returned (.tuple #[.int .u64 (lo / y), .int .u64 (lo % y)]) ∧ ∃ n, w' = w.drewN n := by
  have hne : ¬ y = 0 := by omega
  go_enter Tryz.func147, Tryz.ntmps147
  go_wp2
  go_quiet (fail)
  go_wp2
  go_ret2
  exact ⟨rfl, _, rfl⟩
theorem div64_any (hi lo y : Int) (a0 : 0 ≤ hi) (a1 : hi < y) (b0 : 0 ≤ lo) (b1 : lo < 18446744073709551616) (c1 : y < 18446744073709551616) (w : World) :
    Calls Tryz.prog 147 #[.int .u64 hi, .int .u64 lo, .int .u64 y] w fun e w' => e = .returned (.tuple #[.int .u64 ((hi * 18446744073709551616 + lo) / y), .int .u64 ((hi * 18446744073709551616 + lo) % y)]) ∧ ∃ n, w' = w.drewN n := by
  rcases (by omega : hi = 0 ∨ 1 ≤ hi) with h | h
  · subst h
    rw [Int.zero_mul, Int.zero_add]
    exact div64_small lo y (by omega) b0 b1 c1 w
  · exact (div64_big hi lo y h a1 b0 b1 c1 w).mono fun _ _ ⟨h1, h2⟩ => ⟨h1, 0, h2⟩

set_option maxHeartbeats 400000 in
theorem divide_any (p0 p1 c : Int) (a0 : 0 ≤ p0) (a1 : p0 < 18446744073709551616) (b0 : 0 ≤ p1) (b1 : p1 < 18446744073709551616) (c0 : 0 < c) (c1 : c < 18446744073709551616) (w : World) :
    Calls Tryz.prog 141 #[.agg #[.int .u64 p0, .int .u64 p1], .int .u64 c] w fun e w' => e = .returned (.tuple #[.agg #[.int .u64 (p0 / c), .int .u64 ((p0 % c * 18446744073709551616 + p1) / c)], .int .u64 ((p0 % c * 18446744073709551616 + p1) % c)]) ∧ Below w.heap.size w w' := by
  have r0 := Int.emod_nonneg p0 (Int.ne_of_gt c0)
  have r1 := Int.emod_lt_of_pos p0 c0
  have D1 := mkHid (fun w => div64_any 0 p0 c (by omega) (by omega) a0 a1 c1 w)
  have D2 := mkHid (fun w => div64_any (p0 % c) p1 c r0 r1 b0 b1 c1 w)
  go_enter Tryz.func141, Tryz.ntmps141
  go_wp2
  refine wp_scope_jumps 0 (fun a' w' => ∃ (n : Nat) (u7 u8 u9 u10 u11 u12 u13 u14 u15 u16 u17 u18 u19 u20 u21 : Value), a' = { tmps := #[.agg #[.int .u64 p0, .int .u64 p1], .int .u64 c, .pointer (some { block := w.heap.size, off := 0 }), undef, .pointer (some { block := w.heap.size + 1, off := 0 }), .int .u64 (p0 % c), .int .i64 1, u7, u8, u9, u10, u11, u12, u13, u14, u15, u16, u17, u18, u19, u20, u21, undef, undef], defers := [] } ∧
    w' = ((w.alloc (.cells #[.int .u64 p0, .int .u64 p1] 204)).alloc (.cells #[.int .u64 (p0 / c), .int .u64 0] 204)).drewN n) (fun _ _ => 0) rfl ?_ ?_
  · go_wp2
    go_step3
    go_wp2_with (go_at_call 147; refine (D1.out _).mono ?_; rintro e w1 ⟨rfl, n1, rfl⟩)
    go_step3
    refine ⟨rfl, n1, _, _, _, _, _, _, _, _, _, _, _, _, _, _, _, rfl, ?_⟩
    rw [setCell_drewN, World.setCell_alloc_at _ _ _ _ _ (by simp)]
    rfl
  · rintro a' w' ⟨n, u7, u8, u9, u10, u11, u12, u13, u14, u15, u16, u17, u18, u19, u20, u21, rfl, rfl⟩
    go_wp2_with (go_at_call 147; refine (D2.out _).mono ?_; rintro e w1 ⟨rfl, n1, rfl⟩)
    simp only [Exit.jump]
    show bodyPost _ _ _ _ _ _
    go_returns
    refine ⟨rfl, ?_⟩
    simp only [setCell_drewN]
    exact below_drewN (by go_grown) _

theorem add64 (x y c : Int) (hx : 0 ≤ x) (hy : 0 ≤ y) (hc0 : 0 ≤ c) (hc : c ≤ 1) (w : World) : (callFunc 148 #[.int .u64 x, .int .u64 y, .int .u64 c]).run Tryz.prog w =
    .ok (.value (.tuple #[.int .u64 ((x + y + c) % 18446744073709551616), .int .u64 ((x + y + c) / 18446744073709551616)])) w := by
  rw [run_callFunc_extern Tryz.func148 (by kernel_rfl) (by kernel_rfl) (by kernel_rfl) (e := add64Entry) (by kernel_rfl), run_add64 x y c hx hy hc0 hc]
  rfl
theorem add64_10 (x : Int) (hx : 0 ≤ x) (w : World) : (callFunc 148 #[.int .u64 x, .int .u64 1, .int .u64 0]).run Tryz.prog w =
    .ok (.value (.tuple #[.int .u64 ((x + 1) % 18446744073709551616), .int .u64 ((x + 1) / 18446744073709551616)])) w := by
  simpa using add64 x 1 0 hx (by decide) (Int.le_refl 0) (by decide) w

set_option maxHeartbeats 400000 in
theorem mul64_any (x y : Int) (x1 : 0 ≤ x) (x2 : x < 18446744073709551616) (y1 : 0 ≤ y) (y2 : y < 18446744073709551616) (w : World) :
    Calls Tryz.prog 107 #[.int .u64 x, .int .u64 y] w fun e w' => e = .returned (.tuple #[.int .u64 (x * y / 18446744073709551616), .int .u64 (x * y % 18446744073709551616)]) ∧ w' = w := by
  go_enter Tryz.func107, Tryz.ntmps107
  go_wp2
  go_ret2
  refine ⟨?_, rfl⟩
  simp only [u64_and32, IntKind.wrap_u64]
  rw [mul_hi x y x1 x2 y1 y2]
  rfl

set_option maxHeartbeats 400000 in
theorem multiply_any (x y : Int) (x1 : 0 ≤ x) (x2 : x < 18446744073709551616) (y1 : 0 ≤ y) (y2 : y < 18446744073709551616) (w : World) :
    Calls Tryz.prog 142 #[.int .u64 x, .int .u64 y] w fun e w' => e = .returned (.agg #[.int .u64 (x * y / 18446744073709551616), .int .u64 (x * y % 18446744073709551616)]) ∧ Below w.heap.size w w' := by
  go_enter Tryz.func142, Tryz.ntmps142
  go_wp2_with (go_at_call 107; refine (mul64_any _ _ x1 x2 y1 y2 _).mono ?_; rintro e w1 ⟨rfl, rfl⟩)
  go_returns
  exact ⟨rfl, by go_grown⟩

set_option maxHeartbeats 400000 in
theorem size_any (a : Int) (a1 : -9223372036854775808 ≤ a) (a2 : a ≤ 9223372036854775807) (w : World) :
    Calls Tryz.prog 140 #[.int .i64 a] w fun e w' => e = .returned (.int .u64 (ab a)) ∧ w' = w := by
  by_cases h : a < 0
  · go_enter Tryz.func140, Tryz.ntmps140
    go_wp2
    go_ret
    exact ⟨ret_int (size_neg a a1 h), rfl⟩
  · go_enter Tryz.func140, Tryz.ntmps140
    go_wp2
    go_ret
    exact ⟨ret_int (size_pos a (by omega)), rfl⟩

set_option maxHeartbeats 400000 in
theorem plusOne_any (d0 d1 : Int) (h0 : 0 ≤ d0) (h1 : d0 < 18446744073709551615) (k0 : 0 ≤ d1) (k1 : d1 < 18446744073709551616) (w : World) :
    Calls Tryz.prog 144 #[.agg #[.int .u64 d0, .int .u64 d1]] w fun e w' => e = .returned (.agg #[.int .u64 ((d0 * 18446744073709551616 + d1 + 1) / 18446744073709551616), .int .u64 ((d0 * 18446744073709551616 + d1 + 1) % 18446744073709551616)]) ∧ ∃ o1 o2, w' = (w.alloc o1).alloc o2 := by
  have e1 : d0 + (d1 + 1) / 18446744073709551616 = (d0 * 18446744073709551616 + d1 + 1) / 18446744073709551616 := by omega
  have e2 : (d1 + 1) % 18446744073709551616 = (d0 * 18446744073709551616 + d1 + 1) % 18446744073709551616 := by omega
  have E := mkHid (And.intro e1 e2)
  clear e1 e2
  go_enter Tryz.func144, Tryz.ntmps144
  go_wp2_with (simp only [add64_10 _ k0])
  go_returns
  exact ⟨by rw [← E.out.1, ← E.out.2], _, _, rfl⟩

theorem ret_bool {a b : Bool} (h : a = b) : Ending.returned (.bool a) = .returned (.bool b) := by rw [h]
set_option maxHeartbeats 400000 in
theorem roundsAway_any (below : Bool) (r c how : Int) (r0 : 0 ≤ r) (r1 : r < c) (c1 : c < 18446744073709551616) (w : World) :
    Calls Tryz.prog 143 #[.bool below, .int .u64 r, .int .u64 c, .int .i64 how] w fun e w' => e = .returned (.bool (mdAway below r c how)) ∧ w' = w := by
  cases below <;> go_each [how = 1, how = 3] => (
    go_enter Tryz.func143, Tryz.ntmps143
    go_wp2
    go_ret
    exact ⟨ret_bool (by simp [mdAway, *]), rfl⟩)
end Go.Proofs.YtdhbakknplnnkaaGreat.Un
namespace Go.Proofs.YtdhbakknplnnkaaGreat.Un
open Go.RowKit
/-- A size with its sign. -/
def sg (below : Bool) (q : Int) : Int := if below then -q else q
/-- One more, or not. -/
def one (m : Bool) : Int := if m then 1 else 0
theorem mdS_eq (a b c how : Int) : mdS a b c how = sg (mdNeg a b c) (ab a * ab b / ab c + one (mdAway (mdNeg a b c) (ab a * ab b % ab c) (ab c) how)) := rfl
theorem sat_fit_in (z : Int) (h1 : -9223372036854775808 ≤ z) (h2 : z ≤ 9223372036854775807) : z = satH z ∧ true = fitH z := by
  refine ⟨(satH_in z h1 h2).symm, ?_⟩
  unfold fitH; symm; apply decide_eq_true; omega
theorem sat_fit_hi (z : Int) (h : 9223372036854775808 ≤ z) : 9223372036854775807 = satH z ∧ false = fitH z := by
  refine ⟨?_, ?_⟩
  · unfold satH; rw [if_neg (by omega), if_pos (by omega)]
  · unfold fitH; symm; apply decide_eq_false; omega
theorem sat_fit_lo (z : Int) (h : z < -9223372036854775808) : -9223372036854775808 = satH z ∧ false = fitH z := by
  refine ⟨?_, ?_⟩
  · unfold satH; rw [if_pos (by omega)]
  · unfold fitH; symm; apply decide_eq_false; omega
theorem neg_word (d : Int) (h0 : 0 ≤ d) (h1 : d ≤ 9223372036854775808) : wrap64 (IntKind.u64.wrap (-d)) = -d := by
  rw [IntKind.wrap_u64]; unfold wrap64; omega
/-- Two halves divided, half by half. -/
theorem halves (p c : Int) (c0 : 0 < c) : p / 18446744073709551616 / c * 18446744073709551616 + (p / 18446744073709551616 % c * 18446744073709551616 + p % 18446744073709551616) / c = p / c ∧
    (p / 18446744073709551616 % c * 18446744073709551616 + p % 18446744073709551616) % c = p % c := by
  have e1 := Int.mul_ediv_add_emod (p / 18446744073709551616) c
  have e2 := Int.mul_ediv_add_emod (p / 18446744073709551616 % c * 18446744073709551616 + p % 18446744073709551616) c
  have l0 := Int.emod_nonneg (p / 18446744073709551616 % c * 18446744073709551616 + p % 18446744073709551616) (Int.ne_of_gt c0)
  have l1 := Int.emod_lt_of_pos (p / 18446744073709551616 % c * 18446744073709551616 + p % 18446744073709551616) c0
  generalize hx : p / 18446744073709551616 / c = x at *
  generalize hy : (p / 18446744073709551616 % c * 18446744073709551616 + p % 18446744073709551616) / c = y at *
  generalize hz : (p / 18446744073709551616 % c * 18446744073709551616 + p % 18446744073709551616) % c = z at *
  have e : p = z + (x * 18446744073709551616 + y) * c := by
    rw [Int.add_mul, Int.mul_right_comm, Int.mul_comm x c, Int.mul_comm y c]
    omega
  refine ⟨?_, ?_⟩
  · conv => rhs; rw [e]
    rw [Int.add_mul_ediv_right _ _ (Int.ne_of_gt c0), Int.ediv_eq_zero_of_lt l0 l1, Int.zero_add]
  · conv => rhs; rw [e]
    rw [Int.add_mul_emod_self_right, Int.emod_eq_of_lt l0 l1]
theorem halvesQ (p c : Int) (c0 : 0 < c) : p / 18446744073709551616 / c = p / c / 18446744073709551616 ∧ (p / 18446744073709551616 % c * 18446744073709551616 + p % 18446744073709551616) / c = p / c % 18446744073709551616 ∧
    (p / 18446744073709551616 % c * 18446744073709551616 + p % 18446744073709551616) % c = p % c := by
  obtain ⟨h1, h2⟩ := halves p c c0
  have r0 := Int.emod_nonneg (p / 18446744073709551616) (Int.ne_of_gt c0)
  have r1 := Int.emod_lt_of_pos (p / 18446744073709551616) c0
  have k0 : 0 ≤ (p / 18446744073709551616 % c * 18446744073709551616 + p % 18446744073709551616) / c := Int.ediv_nonneg (by omega) (by omega)
  have k1 : (p / 18446744073709551616 % c * 18446744073709551616 + p % 18446744073709551616) / c < 18446744073709551616 := Int.ediv_lt_of_lt_mul c0 (by omega)
  refine ⟨by omega, by omega, h2⟩
theorem quo_le (p c : Int) (h0 : 0 ≤ p) (c0 : 0 < c) : 0 ≤ p / c ∧ p / c ≤ p := ⟨Int.ediv_nonneg h0 (by omega), Int.ediv_le_self c h0⟩
theorem split_q (q : Int) : q / 18446744073709551616 * 18446744073709551616 + q % 18446744073709551616 = q := by omega
theorem prod_bd (a b : Int) (a1 : -9223372036854775808 ≤ a) (a2 : a ≤ 9223372036854775807) (b1 : -9223372036854775808 ≤ b) (b2 : b ≤ 9223372036854775807) :
    0 ≤ ab a * ab b ∧ ab a * ab b ≤ 85070591730234615865843651857942052864 := by
  have h1 := ab_nonneg a; have h2 := ab_nonneg b; have h3 := ab_le a a1 a2; have h4 := ab_le b b1 b2
  exact ⟨Int.mul_nonneg h1 h2, Int.mul_le_mul h3 h4 h2 (by decide)⟩
end Go.Proofs.YtdhbakknplnnkaaGreat.Un
namespace Go.Proofs.YtdhbakknplnnkaaGreat.Un
open Go.RowKit
theorem up1 {w0 w : World} (h : Below w0.heap.size w0 w) (o : Obj) : Below w0.heap.size w0 (w.alloc o) := h.alloc h.size _
theorem ret_tup {a a' : Int} {b b' : Bool} (h : a = a' ∧ b = b') : Ending.returned (.tuple #[.int .i64 a, .bool b]) = .returned (.tuple #[.int .i64 a', .bool b']) := by rw [h.1, h.2]
set_option maxHeartbeats 400000 in
theorem hold_any (d0 d1 : Int) (below : Bool) (h0 : 0 ≤ d0) (k0 : 0 ≤ d1) (k1 : d1 < 18446744073709551616) (w : World) :
    Calls Tryz.prog 145 #[.agg #[.int .u64 d0, .int .u64 d1], .bool below] w fun e w' => e = .returned (.tuple #[.int .i64 (satH (if below then -(d0 * 18446744073709551616 + d1) else d0 * 18446744073709551616 + d1)), .bool (fitH (if below then -(d0 * 18446744073709551616 + d1) else d0 * 18446744073709551616 + d1))]) ∧ Below w.heap.size w w' := by
  cases below
  · go_enter Tryz.func145, Tryz.ntmps145
    go_wp2
    all_goals go_ret2
    all_goals refine ⟨ret_tup ?_, by go_grown⟩
    · exact sat_fit_in d1 (by omega) (by omega)
    · exact sat_fit_hi d1 (by omega)
    · exact sat_fit_hi _ (by omega)
  · go_enter Tryz.func145, Tryz.ntmps145
    go_wp2
    all_goals go_ret2
    all_goals refine ⟨ret_tup ?_, by go_grown⟩
    · rw [neg_word d1 k0 (by assumption)]
      exact sat_fit_in (-d1) (by omega) (by omega)
    · exact sat_fit_lo _ (by omega)
    · exact sat_fit_lo _ (by omega)

theorem divideP (p c : Int) (h0 : 0 ≤ p) (h1 : p ≤ 85070591730234615865843651857942052864) (c0 : 0 < c) (c1 : c < 18446744073709551616) (w : World) :
    Calls Tryz.prog 141 #[.agg #[.int .u64 (p / 18446744073709551616), .int .u64 (p % 18446744073709551616)], .int .u64 c] w fun e w' => e = .returned (.tuple #[.agg #[.int .u64 (p / c / 18446744073709551616), .int .u64 (p / c % 18446744073709551616)], .int .u64 (p % c)]) ∧ Below w.heap.size w w' := by
  obtain ⟨e1, e2, e3⟩ := halvesQ p c c0
  rw [← e1, ← e2, ← e3]
  exact divide_any _ _ c (by omega) (by omega) (by omega) (by omega) c0 c1 w
theorem plusOneP (q : Int) (h0 : 0 ≤ q) (h1 : q ≤ 85070591730234615865843651857942052864) (w : World) :
    Calls Tryz.prog 144 #[.agg #[.int .u64 (q / 18446744073709551616), .int .u64 (q % 18446744073709551616)]] w fun e w' => e = .returned (.agg #[.int .u64 ((q + 1) / 18446744073709551616), .int .u64 ((q + 1) % 18446744073709551616)]) ∧ ∃ o1 o2, w' = (w.alloc o1).alloc o2 := by
  have h := plusOne_any (q / 18446744073709551616) (q % 18446744073709551616) (by omega) (by omega) (by omega) (by omega) w
  rw [split_q q] at h
  exact h
theorem holdP (q : Int) (below : Bool) (h0 : 0 ≤ q) (w : World) :
    Calls Tryz.prog 145 #[.agg #[.int .u64 (q / 18446744073709551616), .int .u64 (q % 18446744073709551616)], .bool below] w fun e w' => e = .returned (.tuple #[.int .i64 (satH (sg below q)), .bool (fitH (sg below q))]) ∧ Below w.heap.size w w' := by
  have h := hold_any (q / 18446744073709551616) (q % 18446744073709551616) below (by omega) (by omega) (by omega) w
  rw [split_q q] at h
  exact h

set_option maxHeartbeats 1000000 in
theorem quotient_any (a b c how : Int) (a1 : -9223372036854775808 ≤ a) (a2 : a ≤ 9223372036854775807) (b1 : -9223372036854775808 ≤ b) (b2 : b ≤ 9223372036854775807) (c1 : -9223372036854775808 ≤ c) (c2 : c ≤ 9223372036854775807) (w : World) :
    Calls Tryz.prog 136 #[.int .i64 a, .int .i64 b, .int .i64 c, .int .i64 how] w fun e w' => e = .returned (.tuple #[.int .i64 (mdV a b c how), .bool (mdF a b c how)]) ∧ Below w.heap.size w w' := by
  by_cases hbad : c = 0 ∨ how < 1 ∨ 3 < how
  · have HV : Hid (mdV a b c how = 0 ∧ mdF a b c how = false) := ⟨by unfold mdV; rw [if_pos hbad], by unfold mdF; rw [if_pos hbad]⟩
    go_enter Tryz.func136, Tryz.ntmps136
    go_wp2_with fail
    all_goals go_ret2
    all_goals exact ⟨ret_tup ⟨HV.out.1.symm, HV.out.2.symm⟩, by go_grown⟩
  · have HV : Hid (mdV a b c how = satH (mdS a b c how) ∧ mdF a b c how = fitH (mdS a b c how)) := ⟨by unfold mdV; rw [if_neg hbad], by unfold mdF; rw [if_neg hbad]⟩
    have hc : ¬ c = 0 := fun h => hbad (.inl h)
    have hh1 : 1 ≤ how := by omega
    have hh2 : how ≤ 3 := by omega
    clear hbad
    have hp := prod_bd a b a1 a2 b1 b2
    have hA := ab_nonneg a; have hB := ab_nonneg b; have hC := ab_pos c hc
    have hA2 := ab_le a a1 a2; have hB2 := ab_le b b1 b2; have hC2 := ab_le c c1 c2
    have hq := quo_le (ab a * ab b) (ab c) hp.1 hC
    have SA := mkHid (fun w => size_any a a1 a2 w)
    have SB := mkHid (fun w => size_any b b1 b2 w)
    have SC := mkHid (fun w => size_any c c1 c2 w)
    have MU := mkHid (fun w => multiply_any (ab a) (ab b) (by omega) (by omega) (by omega) (by omega) w)
    have DI := mkHid (fun w => divideP (ab a * ab b) (ab c) hp.1 hp.2 hC (by omega) w)
    have RA := mkHid (fun w => roundsAway_any (mdNeg a b c) (ab a * ab b % ab c) (ab c) how (Int.emod_nonneg _ (Int.ne_of_gt hC)) (Int.emod_lt_of_pos _ hC) (by omega) w)
    have PO := mkHid (fun w => plusOneP (ab a * ab b / ab c) hq.1 (by omega) w)
    have HO0 := mkHid (fun w => holdP (ab a * ab b / ab c) (mdNeg a b c) hq.1 w)
    have HO1 := mkHid (fun w => holdP (ab a * ab b / ab c + 1) (mdNeg a b c) (by omega) w)
    have HQQ := mkHid (mdS_eq a b c how)
    clear hp hA hB hA2 hB2 hC2 hq
    go_enter Tryz.func136, Tryz.ntmps136
    go_wp2_with fail
    · rename_i hx
      rcases hx with (hx | hx) | hx
      · exact absurd (by simpa using hx) hc
      · omega
      · omega
    refine (SC.out _).mono ?_
    rintro e w1 ⟨rfl, rfl⟩
    go_wp2_with fail
    refine (SA.out _).mono ?_
    rintro e w2 ⟨rfl, rfl⟩
    go_wp2_with fail
    refine (SB.out _).mono ?_
    rintro e w3 ⟨rfl, rfl⟩
    go_wp2_with fail
    refine (MU.out _).mono ?_
    rintro e w4 ⟨rfl, hb4⟩
    go_wp2_with fail
    refine (carry hb4 (DI.out _)).mono ?_
    rintro e w5 ⟨rfl, hb5⟩
    go_wp2_with fail
    refine (RA.out _).mono ?_
    rintro e w6 ⟨rfl, rfl⟩
    generalize hm : mdAway (mdNeg a b c) (ab a * ab b % ab c) (ab c) how = m at *
    cases m
    · go_wp2_with fail
      refine (carry (up1 hb5 _) (HO0.out _)).mono ?_
      rintro e w7 ⟨rfl, hb7⟩
      go_wp2
      go_ret2
      refine ⟨ret_tup ?_, hb7⟩
      rw [HV.out.1, HV.out.2, HQQ.out]
      exact ⟨by simp [one], by simp [one]⟩
    · go_wp2_with fail
      refine (PO.out _).mono ?_
      rintro e w6 ⟨rfl, o1, o2, rfl⟩
      go_wp2_with fail
      refine (carry (up1 (up1 (up1 hb5 _) _) _) (HO1.out _)).mono ?_
      rintro e w7 ⟨rfl, hb7⟩
      go_wp2
      go_ret2
      refine ⟨ret_tup ?_, hb7⟩
      rw [HV.out.1, HV.out.2, HQQ.out]
      exact ⟨rfl, rfl⟩

set_option maxHeartbeats 400000 in
theorem do_any (a b c how : Int) (a1 : -9223372036854775808 ≤ a) (a2 : a ≤ 9223372036854775807) (b1 : -9223372036854775808 ≤ b) (b2 : b ≤ 9223372036854775807) (c1 : -9223372036854775808 ≤ c) (c2 : c ≤ 9223372036854775807) (w : World) :
    Calls Tryz.prog 132 #[.int .i64 a, .int .i64 b, .int .i64 c, .int .i64 how] w fun e w' => e = .returned (.int .i64 (mdV a b c how)) ∧ Below w.heap.size w w' := by
  go_enter Tryz.func132, Tryz.ntmps132
  go_wp2_with (go_at_call 136; refine (quotient_any a b c how a1 a2 b1 b2 c1 c2 _).mono ?_; rintro e w1 ⟨rfl, hb1⟩)
  go_ret
  exact ⟨rfl, hb1⟩
end Go.Proofs.YtdhbakknplnnkaaGreat.Un
namespace Go.Proofs.YtdhbakknplnnkaaGreat.Un
open Go.RowKit

/-- The dividend, its divisor turned to above 0. -/
def mdN (a b c : Int) : Int := if c < 0 then -(a * b) else a * b
theorem mdN_eq (a b c : Int) : mdN a b c = sg (mdNeg a b c) (ab a * ab b) := by
  unfold mdN sg mdNeg ab
  by_cases ha : a < 0 <;> by_cases hb : b < 0 <;> by_cases hc : c < 0 <;> simp [ha, hb, hc, Int.neg_mul, Int.mul_neg]
theorem ab_eq (c : Int) (h : 0 < c) : ab c = c := by unfold ab; rw [if_neg (by omega)]
theorem away0 (neg : Bool) (c how : Int) (c0 : 0 < c) : mdAway neg 0 c how = false := by
  unfold mdAway; cases neg <;> simp <;> omega
theorem div_mul_zero (x c : Int) (c0 : 0 < c) : c * x / c = x ∧ c * x % c = 0 := ⟨Int.mul_ediv_cancel_left x (Int.ne_of_gt c0), Int.mul_emod_right c x⟩
/-- A quotient without a rest. -/
theorem mdS_exact (a b c how m : Int) (hc : c ≠ 0) (h : a * b = c * m) : mdS a b c how = m := by
  have hC := ab_pos c hc
  have hn : mdN a b c = ab c * m := by
    unfold mdN ab
    by_cases h0 : c < 0
    · rw [if_pos h0, if_pos h0, h, Int.neg_mul]
    · rw [if_neg h0, if_neg h0, h]
  rw [mdN_eq] at hn
  rw [mdS_eq]
  cases hneg : mdNeg a b c
  · rw [hneg] at hn
    have hP : ab a * ab b = ab c * m := hn
    rw [hP, (div_mul_zero m (ab c) hC).1, (div_mul_zero m (ab c) hC).2, away0 _ _ _ hC]
    show m + 0 = m
    omega
  · rw [hneg] at hn
    have hP : ab a * ab b = ab c * (-m) := by
      have : -(ab a * ab b) = ab c * m := hn
      rw [Int.mul_neg]; omega
    rw [hP, (div_mul_zero (-m) (ab c) hC).1, (div_mul_zero (-m) (ab c) hC).2, away0 _ _ _ hC]
    show -(-m + 0) = m
    omega
theorem div_unique (n c q r : Int) (e : n = r + q * c) (r0 : 0 ≤ r) (r1 : r < c) : n / c = q := by
  rw [e, Int.add_mul_ediv_right _ _ (by omega), Int.ediv_eq_zero_of_lt r0 r1, Int.zero_add]
/-- Rounded down: the floor. -/
theorem mdS_down (a b c : Int) (hc : c ≠ 0) : mdS a b c 1 = mdN a b c / ab c := by
  have hC := ab_pos c hc
  have e := Int.mul_ediv_add_emod (ab a * ab b) (ab c)
  have l0 := Int.emod_nonneg (ab a * ab b) (Int.ne_of_gt hC)
  have l1 := Int.emod_lt_of_pos (ab a * ab b) hC
  rw [mdS_eq, mdN_eq]
  generalize ab a * ab b = P at *
  generalize hQ : P / ab c = Q at *
  generalize hl : P % ab c = l at *
  cases mdNeg a b c
  · show Q + one (mdAway false l (ab c) 1) = P / ab c
    rw [show mdAway false l (ab c) 1 = false by simp [mdAway], hQ]
    show Q + 0 = Q
    omega
  · show -(Q + one (mdAway true l (ab c) 1)) = -P / ab c
    by_cases h : 0 < l
    · rw [show mdAway true l (ab c) 1 = true by simp [mdAway, h]]
      symm
      apply div_unique _ _ (-(Q + 1)) (ab c - l)
      · rw [Int.neg_mul, Int.add_mul, Int.mul_comm Q]; omega
      · omega
      · omega
    · rw [show mdAway true l (ab c) 1 = false by simp [mdAway, h]]
      symm
      apply div_unique _ _ (-(Q + 0)) 0
      · rw [Int.neg_mul, Int.add_mul, Int.mul_comm Q]; omega
      · omega
      · omega
/-- Rounded up: the floor of the opposite, turned. -/
theorem mdS_up (a b c : Int) (hc : c ≠ 0) : mdS a b c 3 = -(-mdN a b c / ab c) := by
  have hC := ab_pos c hc
  have e := Int.mul_ediv_add_emod (ab a * ab b) (ab c)
  have l0 := Int.emod_nonneg (ab a * ab b) (Int.ne_of_gt hC)
  have l1 := Int.emod_lt_of_pos (ab a * ab b) hC
  rw [mdS_eq, mdN_eq]
  generalize ab a * ab b = P at *
  generalize hQ : P / ab c = Q at *
  generalize hl : P % ab c = l at *
  cases mdNeg a b c
  · show Q + one (mdAway false l (ab c) 3) = -(-P / ab c)
    by_cases h : 0 < l
    · rw [show mdAway false l (ab c) 3 = true by simp [mdAway, h]]
      have : -P / ab c = -(Q + 1) := by
        apply div_unique _ _ _ (ab c - l)
        · rw [Int.neg_mul, Int.add_mul, Int.mul_comm Q]; omega
        · omega
        · omega
      rw [this]; show Q + 1 = _; omega
    · rw [show mdAway false l (ab c) 3 = false by simp [mdAway, h]]
      have : -P / ab c = -Q := by
        apply div_unique _ _ _ 0
        · rw [Int.neg_mul, Int.mul_comm Q]; omega
        · omega
        · omega
      rw [this]; show Q + 0 = _; omega
  · show -(Q + one (mdAway true l (ab c) 3)) = -(-(-P) / ab c)
    rw [show mdAway true l (ab c) 3 = false by simp [mdAway], Int.neg_neg, hQ]
    show -(Q + 0) = -Q
    omega
/-- Down, near and up. -/
theorem mdS_order (a b c : Int) (hc : c ≠ 0) : mdS a b c 1 ≤ mdS a b c 2 ∧ mdS a b c 2 ≤ mdS a b c 3 ∧ mdS a b c 3 ≤ mdS a b c 1 + 1 := by
  have hC := ab_pos c hc
  have l0 := Int.emod_nonneg (ab a * ab b) (Int.ne_of_gt hC)
  have l1 := Int.emod_lt_of_pos (ab a * ab b) hC
  rw [mdS_eq, mdS_eq, mdS_eq]
  generalize ab a * ab b / ab c = Q at *
  generalize ab a * ab b % ab c = l at *
  cases mdNeg a b c
  · show Q + one (mdAway false l (ab c) 1) ≤ Q + one (mdAway false l (ab c) 2) ∧ Q + one (mdAway false l (ab c) 2) ≤ Q + one (mdAway false l (ab c) 3) ∧ Q + one (mdAway false l (ab c) 3) ≤ Q + one (mdAway false l (ab c) 1) + 1
    by_cases h : 0 < l <;> by_cases k : ab c - l ≤ l <;> simp [mdAway, one, h, k] <;> omega
  · show -(Q + one (mdAway true l (ab c) 1)) ≤ -(Q + one (mdAway true l (ab c) 2)) ∧ -(Q + one (mdAway true l (ab c) 2)) ≤ -(Q + one (mdAway true l (ab c) 3)) ∧ -(Q + one (mdAway true l (ab c) 3)) ≤ -(Q + one (mdAway true l (ab c) 1)) + 1
    by_cases h : 0 < l <;> by_cases k : ab c - l < l <;> simp [mdAway, one, h, k] <;> omega
theorem satH_mono (x y : Int) (h : x ≤ y) : satH x ≤ satH y := by unfold satH; repeat' split <;> omega
theorem satH_bd (z : Int) : -9223372036854775808 ≤ satH z ∧ satH z ≤ 9223372036854775807 := by unfold satH; repeat' split <;> omega
theorem satH_step (x y : Int) (h : x ≤ y) (h1 : y ≤ x + 1) : satH y = satH x ∨ satH y - 1 = satH x := by unfold satH; repeat' split <;> omega
theorem mdV_ok (a b c how : Int) (hc : c ≠ 0) (h1 : 1 ≤ how) (h2 : how ≤ 3) : mdV a b c how = satH (mdS a b c how) ∧ mdF a b c how = fitH (mdS a b c how) := by
  have h : ¬ (c = 0 ∨ how < 1 ∨ 3 < how) := by omega
  exact ⟨by unfold mdV; rw [if_neg h], by unfold mdF; rw [if_neg h]⟩
theorem mdV_zero (a b how : Int) : mdV a b 0 how = 0 ∧ mdF a b 0 how = false := ⟨by unfold mdV; rw [if_pos (.inl rfl)], by unfold mdF; rw [if_pos (.inl rfl)]⟩
theorem mdV_bd (a b c how : Int) : -9223372036854775808 ≤ mdV a b c how ∧ mdV a b c how ≤ 9223372036854775807 := by
  unfold mdV
  split
  · omega
  · exact satH_bd _
theorem mdV_order (a b c : Int) : mdV a b c 1 ≤ mdV a b c 2 ∧ mdV a b c 2 ≤ mdV a b c 3 ∧ (mdV a b c 3 = mdV a b c 1 ∨ mdV a b c 3 - 1 = mdV a b c 1) := by
  by_cases hc : c = 0
  · subst hc
    rw [(mdV_zero a b 1).1, (mdV_zero a b 2).1, (mdV_zero a b 3).1]; omega
  · have ⟨h1, h2, h3⟩ := mdS_order a b c hc
    rw [(mdV_ok a b c 1 hc (by omega) (by omega)).1, (mdV_ok a b c 2 hc (by omega) (by omega)).1, (mdV_ok a b c 3 hc (by omega) (by omega)).1]
    exact ⟨satH_mono _ _ h1, satH_mono _ _ h2, satH_step _ _ (by omega) h3⟩
theorem mdV_exact (a b c how m : Int) (hc : c ≠ 0) (h1 : 1 ≤ how) (h2 : how ≤ 3) (h : a * b = c * m) (m1 : -9223372036854775808 ≤ m) (m2 : m ≤ 9223372036854775807) : mdV a b c how = m := by
  rw [(mdV_ok a b c how hc h1 h2).1, mdS_exact a b c how m hc h, satH_in m m1 m2]
theorem mdV_comm (a b c how : Int) : mdV a b c how = mdV b a c how := by
  have hn : mdNeg a b c = mdNeg b a c := by unfold mdNeg; rw [bne_comm (a := decide (a < 0))]
  unfold mdV
  rw [mdS_eq, mdS_eq, hn, Int.mul_comm (ab a)]
theorem nat_abs (c : Int) (h : c < 0) : ab c = -c := by unfold ab; rw [if_pos h]
/-- Of small numbers: the quotient rounded down, that of the opposite rounded up, what is left, the nearest. -/
theorem turns (x y z : Int) (hz : z ≠ 0) (x1 : -2147483648 ≤ x) (x2 : x ≤ 2147483647) (y1 : -2147483648 ≤ y) (y2 : y ≤ 2147483647) (z1 : -2147483648 ≤ z) (z2 : z ≤ 2147483647) :
    mdV x y z 1 = -mdV (-x) y z 3 ∧ (0 < z → 0 ≤ x * y - mdV x y z 1 * z ∧ x * y - mdV x y z 1 * z < z) ∧ (z < 0 → 0 ≤ -(x * y - mdV x y z 1 * z) ∧ -(x * y - mdV x y z 1 * z) < -z) ∧
    mdF x y z 2 = true ∧ -4611686018427387904 ≤ mdV x y z 1 ∧ mdV x y z 1 ≤ 4611686018427387904 ∧ -4611686018427387904 ≤ x * y ∧ x * y ≤ 4611686018427387904 ∧ -4611686020574871552 ≤ mdV x y z 1 * z ∧ mdV x y z 1 * z ≤ 4611686020574871552 := by
  have hC := ab_pos z hz
  have p1 : 0 ≤ (2147483648 - x) * (2147483648 + y) := Int.mul_nonneg (by omega) (by omega)
  have p2 : 0 ≤ (2147483648 + x) * (2147483648 - y) := Int.mul_nonneg (by omega) (by omega)
  have p3 : 0 ≤ (2147483648 - x) * (2147483648 - y) := Int.mul_nonneg (by omega) (by omega)
  have p4 : 0 ≤ (2147483648 + x) * (2147483648 + y) := Int.mul_nonneg (by omega) (by omega)
  simp only [Int.sub_mul, Int.mul_sub, Int.add_mul, Int.mul_add] at p1 p2 p3 p4
  have hxy : -4611686018427387904 ≤ x * y ∧ x * y ≤ 4611686018427387904 := by omega
  have hN : -4611686018427387904 ≤ mdN x y z ∧ mdN x y z ≤ 4611686018427387904 := by unfold mdN; split <;> omega
  have hN' : mdN (-x) y z = -mdN x y z := by unfold mdN; rw [Int.neg_mul]; split <;> omega
  have hd := mdS_down x y z hz
  have hu := mdS_up (-x) y z hz
  rw [hN', Int.neg_neg] at hu
  have ho := mdS_order x y z hz
  have e := Int.mul_ediv_add_emod (mdN x y z) (ab z)
  have l0 := Int.emod_nonneg (mdN x y z) (Int.ne_of_gt hC)
  have l1 := Int.emod_lt_of_pos (mdN x y z) hC
  have q1 : mdN x y z / ab z ≤ 4611686018427387904 := by
    rcases Int.lt_or_le 4611686018427387904 (mdN x y z / ab z) with h | h
    · have := Int.mul_le_mul_of_nonneg_right (show (1 : Int) ≤ ab z by omega) (show 0 ≤ mdN x y z / ab z by omega)
      omega
    · exact h
  have q2 : -4611686018427387904 ≤ mdN x y z / ab z := by
    rcases Int.lt_or_le (mdN x y z / ab z) (-4611686018427387904) with h | h
    · have := Int.mul_le_mul_of_nonneg_right (show (1 : Int) ≤ ab z by omega) (show 0 ≤ -(mdN x y z / ab z) - 1 by omega)
      rw [Int.one_mul, Int.mul_sub, Int.mul_neg, Int.mul_one] at this
      omega
    · exact h
  rw [(mdV_ok x y z 1 hz (by omega) (by omega)).1, (mdV_ok (-x) y z 3 hz (by omega) (by omega)).1, (mdV_ok x y z 2 hz (by omega) (by omega)).2, hu, hd, satH_in (mdN x y z / ab z) (by omega) (by omega), satH_in (-(mdN x y z / ab z)) (by omega) (by omega)]
  have hz2 : ab z ≤ 2147483648 := by unfold ab; split <;> omega
  have ez : 0 < z → mdN x y z / ab z * z = ab z * (mdN x y z / ab z) := fun h => by rw [ab_eq z h, Int.mul_comm]
  have ez' : z < 0 → mdN x y z / ab z * z = -(ab z * (mdN x y z / ab z)) := fun h => by rw [nat_abs z h, Int.mul_comm, Int.neg_mul, Int.neg_neg]
  have en : 0 < z → mdN x y z = x * y := fun h => by unfold mdN; rw [if_neg (by omega)]
  have en' : z < 0 → mdN x y z = -(x * y) := fun h => by unfold mdN; rw [if_pos h]
  have ea : 0 < z → ab z = z := fun h => ab_eq z h
  have ea' : z < 0 → ab z = -z := fun h => nat_abs z h
  have hf : fitH (mdS x y z 2) = true := by unfold fitH; apply decide_eq_true; omega
  rw [hf]
  generalize mdN x y z / ab z * z = m at *
  generalize ab z * (mdN x y z / ab z) = m2 at *
  refine ⟨by omega, fun h => ?_, fun h => ?_, rfl, q2, q1, hxy.1, hxy.2, ?_, ?_⟩
  · have := ez h; have := en h; have := ea h; omega
  · have := ez' h; have := en' h; have := ea' h; omega
  · rcases (by omega : 0 < z ∨ z < 0) with h | h
    · have := ez h; have := en h; omega
    · have := ez' h; have := en' h; omega
  · rcases (by omega : 0 < z ∨ z < 0) with h | h
    · have := ez h; have := en h; omega
    · have := ez' h; have := en' h; omega
end Go.Proofs.YtdhbakknplnnkaaGreat.Un
namespace Go.Proofs.YtdhbakknplnnkaaGreat.Un
open Go.RowKit
theorem rtimes (x y : Int) (x1 : 0 ≤ x) (x2 : x < 18446744073709551616) (y1 : 0 ≤ y) (y2 : y < 18446744073709551616) :
    (((x / 4294967296 * (y / 4294967296) % 18446744073709551616 +
                    (x / 4294967296 * (y % 4294967296) % 18446744073709551616 +
                          x % 4294967296 * (y % 4294967296) % 18446744073709551616 / 4294967296) % 18446744073709551616 / 4294967296) % 18446744073709551616 +
                (x % 4294967296 * (y / 4294967296) % 18446744073709551616 +
                      (x / 4294967296 * (y % 4294967296) % 18446744073709551616 +
                            x % 4294967296 * (y % 4294967296) % 18446744073709551616 / 4294967296) % 18446744073709551616 % 4294967296) % 18446744073709551616 / 4294967296) % 18446744073709551616) = x * y / 18446744073709551616 ∧
    (((x % 4294967296 * (y / 4294967296) % 18446744073709551616 +
                        (x / 4294967296 * (y % 4294967296) % 18446744073709551616 +
                              x % 4294967296 * (y % 4294967296) % 18446744073709551616 / 4294967296) % 18446744073709551616 % 4294967296) % 18446744073709551616 * 4294967296 % 18446744073709551616 +
                x % 4294967296 * (y % 4294967296) % 18446744073709551616 % 4294967296) % 18446744073709551616) = x * y % 18446744073709551616 := by
  have ha := half_le (x / 4294967296) (y / 4294967296) (by omega) (by omega) (by omega) (by omega)
  have hb := half_le (x / 4294967296) (y % 4294967296) (by omega) (by omega) (by omega) (by omega)
  have hc := half_le (x % 4294967296) (y / 4294967296) (by omega) (by omega) (by omega) (by omega)
  have hd := half_le (x % 4294967296) (y % 4294967296) (by omega) (by omega) (by omega) (by omega)
  rw [mul_split x y]
  generalize (x / 4294967296) * (y / 4294967296) = a at *
  generalize (x / 4294967296) * (y % 4294967296) = b at *
  generalize (x % 4294967296) * (y / 4294967296) = c at *
  generalize (x % 4294967296) * (y % 4294967296) = d at *
  omega
/-- What lies behind k rounds. -/
structure PartInv (W c : Int) (k : Nat) (T R Q l : Int) : Prop where
  eq : W * 2 ^ k = T * 340282366920938463463374607431768211456 + R
  r0 : 0 ≤ R
  r1 : R < 340282366920938463463374607431768211456
  t : T = Q * c + l
  l0 : 0 ≤ l
  l1 : l < c
  q0 : 0 ≤ Q

theorem part_words (R : Int) :
    IntKind.u64.wrap (IntKind.u64.wrap (R / 18446744073709551616 * 2) + R % 18446744073709551616 / 9223372036854775808) = R * 2 % 340282366920938463463374607431768211456 / 18446744073709551616 ∧
    IntKind.u64.wrap (R % 18446744073709551616 * 2) = R * 2 % 340282366920938463463374607431768211456 % 18446744073709551616 := by
  simp only [IntKind.wrap_u64]; omega
theorem part_q1 (Q : Int) : IntKind.u64.wrap (IntKind.u64.wrap (Q % 18446744073709551616 * 2) + 1) = (Q * 2 + 1) % 18446744073709551616 := by
  simp only [IntKind.wrap_u64]; omega
theorem part_q0 (Q : Int) : IntKind.u64.wrap (Q % 18446744073709551616 * 2) = (Q * 2) % 18446744073709551616 := by
  simp only [IntKind.wrap_u64]; omega
theorem part_o (Q d : Int) (q0 : 0 ≤ Q) (d0 : 0 ≤ d) (d1 : d ≤ 1) : (decide (18446744073709551616 ≤ Q) || Q % 18446744073709551616 / 9223372036854775808 == 1) = decide (18446744073709551616 ≤ Q * 2 + d) := by
  by_cases h : 18446744073709551616 ≤ Q * 2 + d
  · rw [decide_eq_true h]
    by_cases k : 18446744073709551616 ≤ Q
    · rw [decide_eq_true k]; rfl
    · have : Q % 18446744073709551616 / 9223372036854775808 = 1 := by omega
      rw [this]; simp
  · have h1 : ¬ 18446744073709551616 ≤ Q := by omega
    have h2 : ¬ Q % 18446744073709551616 / 9223372036854775808 = 1 := by omega
    rw [decide_eq_false h, decide_eq_false h1]
    simpa using h2
theorem part_t (Q d : Int) (d0 : 0 ≤ d) (h : ¬ Q < 18446744073709551616) : true = decide (18446744073709551616 ≤ Q * 2 + d) := by
  rw [decide_eq_true (by omega)]
theorem part_next1 {W c : Int} {k : Nat} {T R Q l : Int} (I : PartInv W c k T R Q l) (h : c ≤ l * 2 + R / 18446744073709551616 / 9223372036854775808) :
    PartInv W c (k + 1) (T * 2 + R / 18446744073709551616 / 9223372036854775808) (R * 2 % 340282366920938463463374607431768211456) (Q * 2 + 1) (l * 2 + R / 18446744073709551616 / 9223372036854775808 - c) := by
  obtain ⟨e, r0, r1, t, l0, l1, q0⟩ := I
  refine ⟨?_, by omega, by omega, ?_, by omega, by omega, by omega⟩
  · rw [Int.pow_succ, ← Int.mul_assoc, e]; omega
  · rw [Int.add_mul, Int.mul_right_comm]; omega
theorem part_next0 {W c : Int} {k : Nat} {T R Q l : Int} (I : PartInv W c k T R Q l) (h : l * 2 + R / 18446744073709551616 / 9223372036854775808 < c) :
    PartInv W c (k + 1) (T * 2 + R / 18446744073709551616 / 9223372036854775808) (R * 2 % 340282366920938463463374607431768211456) (Q * 2) (l * 2 + R / 18446744073709551616 / 9223372036854775808) := by
  obtain ⟨e, r0, r1, t, l0, l1, q0⟩ := I
  refine ⟨?_, by omega, by omega, ?_, by omega, by omega, by omega⟩
  · rw [Int.pow_succ, ← Int.mul_assoc, e]; omega
  · rw [Int.mul_right_comm]; omega
theorem part_start (W c : Int) (h0 : 0 ≤ W) (h1 : W < 340282366920938463463374607431768211456) (c0 : 0 < c) : PartInv W c 0 0 W 0 0 := ⟨by simp, h0, h1, by simp, by omega, c0, by omega⟩
theorem part_end {W c T R Q l : Int} (I : PartInv W c 128 T R Q l) : Q = W / c ∧ l = W % c := by
  obtain ⟨e, r0, r1, t, l0, l1, q0⟩ := I
  have e' : W * 340282366920938463463374607431768211456 = T * 340282366920938463463374607431768211456 + R := e
  have hW : W = l + Q * c := by omega
  have hc : c ≠ 0 := by omega
  refine ⟨?_, ?_⟩
  · rw [hW, Int.add_mul_ediv_right _ _ hc, Int.ediv_eq_zero_of_lt l0 l1, Int.zero_add]
  · rw [hW, Int.add_mul_emod_self_right, Int.emod_eq_of_lt l0 l1]
end Go.Proofs.YtdhbakknplnnkaaGreat.Un
namespace Go.Proofs.YtdhbakknplnnkaaGreat.Un
open Go.RowKit

set_option maxHeartbeats 400000 in
theorem rsize_any (a : Int) (a1 : -9223372036854775808 ≤ a) (a2 : a ≤ 9223372036854775807) (w : World) :
    Calls Tryz.prog 88 #[.int .i64 a] w fun e w' => e = .returned (.int .u64 (ab a)) ∧ w' = w := by
  by_cases h : a < 0
  · go_enter Tryz.func88, Tryz.ntmps88
    go_wp2
    go_ret
    exact ⟨ret_int (by unfold ab; rw [if_pos h]; (try simp only [IntKind.wrap_u64]); (try unfold wrap64); omega), rfl⟩
  · go_enter Tryz.func88, Tryz.ntmps88
    go_wp2
    go_ret
    exact ⟨ret_int (size_pos a (by omega)), rfl⟩

set_option maxHeartbeats 400000 in
theorem times_any (x y : Int) (x1 : 0 ≤ x) (x2 : x < 18446744073709551616) (y1 : 0 ≤ y) (y2 : y < 18446744073709551616) (w : World) :
    Calls Tryz.prog 87 #[.int .u64 x, .int .u64 y] w fun e w' => e = .returned (.agg #[.int .u64 (x * y / 18446744073709551616), .int .u64 (x * y % 18446744073709551616)]) ∧ ∃ o1, w' = w.alloc o1 := by
  go_enter Tryz.func87, Tryz.ntmps87
  go_wp2
  go_returns
  refine ⟨?_, _, rfl⟩
  simp only [u64_and32, IntKind.wrap_u64]
  rw [(rtimes x y x1 x2 y1 y2).1, (rtimes x y x1 x2 y1 y2).2]

theorem idx_step (k : Nat) : Value.int .i64 (127 - (k : Int) - 1) = .int .i64 (127 - ((k + 1 : Nat) : Int)) := by
  have e : (127 : Int) - (k : Int) - 1 = 127 - ((k + 1 : Nat) : Int) := by omega
  rw [e]
set_option maxHeartbeats 1000000 in
theorem part_any (W c : Int) (h0 : 0 ≤ W) (h1 : W < 340282366920938463463374607431768211456) (c0 : 0 < c) (c1 : c ≤ 9223372036854775808) (w : World) :
    Calls Tryz.prog 86 #[.agg #[.int .u64 (W / 18446744073709551616), .int .u64 (W % 18446744073709551616)], .int .u64 c] w fun e w' => e = .returned (.agg #[.int .u64 (W / c % 18446744073709551616), .bool (decide (18446744073709551616 ≤ W / c)), .int .u64 (W % c)]) ∧ ∃ o1 o2 o3, w' = ((w.alloc o1).alloc o2).alloc o3 := by
  go_enter Tryz.func86, Tryz.ntmps86
  go_wp2
  go_loopw [6] (fun i wr => ∃ (k : Nat) (T R Q l : Int), k ≤ 128 ∧ i = .int .i64 (127 - k) ∧ PartInv W c k T R Q l ∧
    wr = ((w.alloc (.cells #[.int .u64 (R / 18446744073709551616), .int .u64 (R % 18446744073709551616)] 158)).alloc (.cells #[.int .u64 0, .bool false, .int .u64 0] 155)).alloc (.cells #[.int .u64 (Q % 18446744073709551616), .bool (decide (18446744073709551616 ≤ Q)), .int .u64 l] 155)) (fun i _ => (intOf i + 1).toNat)
  case atStart =>
    exact ⟨0, 0, W, 0, 0, by omega, rfl, part_start W c h0 h1 c0, rfl⟩
  case round =>
    obtain ⟨k, T, R, Q, l, hk, rfl, I, rfl⟩ := hrel
    have HI := mkHid I
    obtain ⟨he, r0, r1, ht, l0, l1, q0⟩ := I
    clear he ht
    have hb : 0 ≤ R / 18446744073709551616 / 9223372036854775808 ∧ R / 18446744073709551616 / 9223372036854775808 ≤ 1 := by omega
    by_cases hlt : k < 128
    · go_wp2
      all_goals go_roundw
      case rel =>
        refine ⟨k + 1, _, _, _, _, hlt, idx_step k, part_next1 HI.out (by assumption), ?_⟩
        rw [(part_words R).1, (part_words R).2, part_q1, part_o Q 1 q0 (by omega) (by omega)]
      case measure => simp [intOf]; omega
      case rel =>
        refine ⟨k + 1, _, _, _, _, hlt, idx_step k, part_next0 HI.out (by assumption), ?_⟩
        rw [(part_words R).1, (part_words R).2, part_q0, part_o Q 0 q0 (by omega) (by omega), Int.add_zero]
      case measure => simp [intOf]; omega
      case rel =>
        refine ⟨k + 1, _, _, _, _, hlt, idx_step k, part_next1 HI.out (by assumption), ?_⟩
        rw [(part_words R).1, (part_words R).2, part_q1, part_t Q 1 (by omega) (by assumption)]
      case measure => simp [intOf]; omega
      case rel =>
        refine ⟨k + 1, _, _, _, _, hlt, idx_step k, part_next0 HI.out (by assumption), ?_⟩
        rw [(part_words R).1, (part_words R).2, part_q0, part_t Q 0 (by omega) (by assumption), Int.add_zero]
      case measure => simp [intOf]; omega
    · have hk' : k = 128 := by omega
      subst hk'
      have E := part_end HI.out
      go_wp2
      go_returns
      exact ⟨rfl, _, _, _, rfl⟩
end Go.Proofs.YtdhbakknplnnkaaGreat.Un
