/-
  How many bits of a word are set.
-/
import Derived.Test.YtjeffjpenhhnnaaRaV
namespace Go.Proofs.Ytjeffjpenhhnnaa
open Go.RowKit

/-- A number by its bytes. -/
def by8 : List Nat → Nat
  | [] => 0
  | a :: l => a + 256 * by8 l
theorem and_step (a m x y : Nat) (ha : a < 256) (hm : m < 256) : (a + 256 * x) &&& (m + 256 * y) = (a &&& m) + 256 * (x &&& y) := by
  have h : a &&& m < 2 ^ 8 := Nat.and_lt_two_pow a (by omega)
  have e1 : a + 256 * x = 2 ^ 8 * x + a := by omega
  have e2 : m + 256 * y = 2 ^ 8 * y + m := by omega
  have e3 : (a &&& m) + 256 * (x &&& y) = 2 ^ 8 * (x &&& y) + (a &&& m) := by omega
  rw [e1, e2, e3]
  apply Nat.eq_of_testBit_eq
  intro j
  rw [Nat.testBit_and, Nat.testBit_two_pow_mul_add _ (by omega), Nat.testBit_two_pow_mul_add _ (by omega), Nat.testBit_two_pow_mul_add _ h]
  split
  · rw [Nat.testBit_and]
  · rw [Nat.testBit_and]
def M8 (m : Nat) (l : List Nat) : Nat := by8 (l.map fun _ => m)
def f1 (a : Nat) : Nat := ((a / 2) &&& 85) + (a &&& 85)
def f2 (a : Nat) : Nat := ((a / 4) &&& 51) + (a &&& 51)
def f3 (a : Nat) : Nat := a / 16 + a % 16
def B8 (l : List Nat) : Prop := ∀ a ∈ l, a < 256
set_option maxRecDepth 1000000 in
theorem b85 : ∀ a, a < 256 → ∀ r, r < 2 → (a / 2 + 128 * r) &&& 85 = (a / 2) &&& 85 := by decide
set_option maxRecDepth 1000000 in
theorem b51 : ∀ a, a < 256 → ∀ r, r < 4 → (a / 4 + 64 * r) &&& 51 = (a / 4) &&& 51 := by decide
theorem step1 (l : List Nat) (h : B8 l) : ((by8 l / 2) &&& M8 85 l) + (by8 l &&& M8 85 l) = by8 (l.map f1) := by
  induction l with
  | nil => rfl
  | cons a l ih =>
    have ha := h a (by simp)
    have ih := ih (fun b hb => h b (by simp [hb]))
    have e : by8 (a :: l) / 2 = (a / 2 + 128 * (by8 l % 2)) + 256 * (by8 l / 2) := by simp only [by8]; omega
    have em : M8 85 (a :: l) = 85 + 256 * M8 85 l := rfl
    rw [e, em, and_step _ _ _ _ (by omega) (by omega), b85 a ha _ (by omega)]
    rw [show by8 (a :: l) = a + 256 * by8 l from rfl, and_step _ _ _ _ ha (by omega), List.map_cons, by8, ← ih]
    unfold f1
    omega
theorem step2 (l : List Nat) (h : B8 l) : ((by8 l / 4) &&& M8 51 l) + (by8 l &&& M8 51 l) = by8 (l.map f2) := by
  induction l with
  | nil => rfl
  | cons a l ih =>
    have ha := h a (by simp)
    have ih := ih (fun b hb => h b (by simp [hb]))
    have e : by8 (a :: l) / 4 = (a / 4 + 64 * (by8 l % 4)) + 256 * (by8 l / 4) := by simp only [by8]; omega
    have em : M8 51 (a :: l) = 51 + 256 * M8 51 l := rfl
    rw [e, em, and_step _ _ _ _ (by omega) (by omega), b51 a ha _ (by omega)]
    rw [show by8 (a :: l) = a + 256 * by8 l from rfl, and_step _ _ _ _ ha (by omega), List.map_cons, by8, ← ih]
    unfold f2
    omega
theorem b15 (a r : Nat) (h1 : a / 16 ≤ 4) (h2 : a % 16 ≤ 4) (_ : r ≤ 4) : (a / 16 + 16 * r + a) &&& 15 = f3 a := by
  rw [show (15 : Nat) = 2 ^ 4 - 1 from rfl, Nat.and_two_pow_sub_one_eq_mod]
  unfold f3
  omega
theorem step3 (l : List Nat) (h : ∀ a ∈ l, a / 16 ≤ 4 ∧ a % 16 ≤ 4) : (by8 l / 16 + by8 l) &&& M8 15 l = by8 (l.map f3) ∧ by8 l % 16 ≤ 4 := by
  induction l with
  | nil => exact ⟨rfl, Nat.zero_le _⟩
  | cons a l ih =>
    obtain ⟨h1, h2⟩ := h a (by simp)
    obtain ⟨ih, hr⟩ := ih (fun b hb => h b (by simp [hb]))
    have hr2 : (a + 256 * by8 l) % 16 ≤ 4 := by omega
    have e : by8 (a :: l) / 16 + by8 (a :: l) = (a / 16 + 16 * (by8 l % 16) + a) + 256 * (by8 l / 16 + by8 l) := by simp only [by8]; omega
    have em : M8 15 (a :: l) = 15 + 256 * M8 15 l := rfl
    refine ⟨?_, hr2⟩
    rw [e, em, and_step _ _ _ _ (by omega) (by omega), b15 a _ h1 h2 hr, List.map_cons, by8, ih]
/-- The bits of a byte, added up. -/
def p8 (a : Nat) : Nat := f3 (f2 (f1 a))
set_option maxRecDepth 1000000 in
theorem p8_ok : ∀ a, a < 256 → f1 a < 256 ∧ f2 (f1 a) < 256 ∧ f2 (f1 a) / 16 ≤ 4 ∧ f2 (f1 a) % 16 ≤ 4 ∧ p8 a ≤ 8 := by decide
set_option maxRecDepth 1000000 in
theorem p8_bits : ∀ b0 b1 b2 b3 b4 b5 b6 b7 : Bool, p8 (bval [b0, b1, b2, b3, b4, b5, b6, b7]) = ones [b0, b1, b2, b3, b4, b5, b6, b7] := by decide
theorem chunks (n : Nat) (G : List Bool) (h : G.length = 8 * n) : ∃ l : List Nat, l.length = n ∧ B8 l ∧ by8 l = bval G ∧ (l.map p8).sum = ones G := by
  induction n generalizing G with
  | zero =>
    obtain rfl : G = [] := List.length_eq_zero_iff.1 (by omega)
    exact ⟨[], rfl, (fun _ h => by cases h), rfl, rfl⟩
  | succ n ih =>
    match G, h with
    | b0 :: b1 :: b2 :: b3 :: b4 :: b5 :: b6 :: b7 :: G', h =>
      obtain ⟨l, h1, h2, h3, h4⟩ := ih G' (by simp only [List.length_cons] at h; omega)
      have hb := bval_lt [b0, b1, b2, b3, b4, b5, b6, b7]
      simp only [List.length_cons, List.length_nil, Nat.reduceAdd, Nat.reducePow] at hb
      refine ⟨bval [b0, b1, b2, b3, b4, b5, b6, b7] :: l, by rw [List.length_cons, h1], ?_, ?_, ?_⟩
      · intro a ha
        rcases List.mem_cons.1 ha with rfl | ha
        · exact hb
        · exact h2 a ha
      · have e := bval_app [b0, b1, b2, b3, b4, b5, b6, b7] G'
        simp only [List.length_cons, List.length_nil, Nat.reduceAdd, Nat.reducePow] at e
        show _ + 256 * by8 l = bval ([b0, b1, b2, b3, b4, b5, b6, b7] ++ G')
        rw [h3, e]
      · have e := ones_app [b0, b1, b2, b3, b4, b5, b6, b7] G'
        rw [List.map_cons, List.sum_cons, h4, p8_bits]
        exact e.symm
theorem u64_and (a b : Nat) (ha : a < 18446744073709551616) (hb : b < 18446744073709551616) : bits .and .u64 (a : Int) (b : Int) = ((a &&& b : Nat) : Int) := by
  have e : (BitVec.ofInt 64 (a : Int) &&& BitVec.ofInt 64 (b : Int)).toNat = a &&& b := by
    rw [BitVec.toNat_and, BitVec.toNat_ofInt, BitVec.toNat_ofInt]
    congr 1 <;> omega
  show IntKind.u64.wrap (((BitVec.ofInt 64 (a : Int) &&& BitVec.ofInt 64 (b : Int)).toNat : Nat) : Int) = _
  have := Nat.and_le_left (n := a) (m := b)
  rw [e, IntKind.wrap_u64]
  omega
theorem i64_and127 (a : Nat) (ha : a < 9223372036854775808) : bits .and .i64 (a : Int) 127 = ((a % 128 : Nat) : Int) := by
  have e : (BitVec.ofInt 64 (a : Int) &&& BitVec.ofInt 64 127).toNat = a % 128 := by
    rw [BitVec.toNat_and, BitVec.toNat_ofInt, BitVec.toNat_ofInt]
    rw [show ((127 : Int) % (2 ^ 64 : Nat)).toNat = 2 ^ 7 - 1 from rfl, Nat.and_two_pow_sub_one_eq_mod]
    have : ((a : Int) % (2 ^ 64 : Nat)).toNat = a := by omega
    rw [this]
  show IntKind.i64.wrap (((BitVec.ofInt 64 (a : Int) &&& BitVec.ofInt 64 127).toNat : Nat) : Int) = _
  rw [e, IntKind.wrap_i64]
  omega
end Go.Proofs.Ytjeffjpenhhnnaa
