/-
  Fates as bits of a word: how they are told, how many are set.
-/
import Derived.Test.YtjeffjpenhhnnaaRaC
namespace Go.Proofs.Ytjeffjpenhhnnaa
open Go.RowKit

/-- Fates, the newest first, as a number. -/
def bval : List Bool → Nat
  | [] => 0
  | b :: l => (if b then 1 else 0) + 2 * bval l
def ones : List Bool → Nat
  | [] => 0
  | b :: l => (if b then 1 else 0) + ones l
theorem ones_le (l : List Bool) : ones l ≤ l.length := by
  induction l with
  | nil => exact Nat.le_refl _
  | cons b l ih => simp only [ones, List.length_cons]; split <;> omega
theorem bval_app (l m : List Bool) : bval (l ++ m) = bval l + 2 ^ l.length * bval m := by
  induction l with
  | nil => simp [bval]
  | cons b l ih => simp only [List.cons_append, bval, ih, List.length_cons, Nat.pow_succ]; rw [Nat.mul_add, ← Nat.mul_assoc, Nat.mul_comm 2 (2 ^ _)]; omega
theorem bval_lt (l : List Bool) : bval l < 2 ^ l.length := by
  induction l with
  | nil => simp [bval]
  | cons b l ih => simp only [bval, List.length_cons, Nat.pow_succ]; split <;> omega
theorem bval_false (n : Nat) : bval (List.replicate n false) = 0 := by
  induction n with
  | zero => rfl
  | succ n ih => rw [List.replicate_succ, bval, ih]; rfl
theorem bval_true (n : Nat) : bval (List.replicate n true) + 1 = 2 ^ n := by
  induction n with
  | zero => rfl
  | succ n ih => rw [List.replicate_succ, bval, Nat.pow_succ, if_pos rfl]; omega
theorem ones_app (l m : List Bool) : ones (l ++ m) = ones l + ones m := by
  induction l with
  | nil => simp [ones]
  | cons b l ih => simp only [List.cons_append, ones, ih]; omega
theorem ones_false (n : Nat) : ones (List.replicate n false) = 0 := by
  induction n with
  | zero => rfl
  | succ n ih => rw [List.replicate_succ, ones, ih]; rfl
theorem bval_take (l : List Bool) (m : Nat) : bval (l.take m) = bval l % 2 ^ m := by
  by_cases h : m ≤ l.length
  · have e := bval_app (l.take m) (l.drop m)
    rw [List.take_append_drop, List.length_take, Nat.min_eq_left h] at e
    have hl := bval_lt (l.take m)
    rw [List.length_take, Nat.min_eq_left h] at hl
    rw [e, Nat.add_mul_mod_self_left, Nat.mod_eq_of_lt hl]
  · rw [List.take_of_length_le (by omega), Nat.mod_eq_of_lt]
    exact Nat.lt_of_lt_of_le (bval_lt l) (Nat.pow_le_pow_right (by omega) (by omega))

/-- The last 64 fates behind n more of one kind. -/
def ftF (n : Nat) (x : Bool) (F : List Bool) : List Bool := (List.replicate n x ++ F).take 64
theorem ftF_len (n : Nat) (x : Bool) (F : List Bool) : (ftF n x F).length = min (n + F.length) 64 := by unfold ftF; rw [List.length_take, List.length_append, List.length_replicate]; omega
theorem ftF_eq (n : Nat) (x : Bool) (F : List Bool) : ftF n x F = List.replicate (min n 64) x ++ F.take (64 - min n 64) := by
  unfold ftF
  rw [List.take_append, List.length_replicate, List.take_replicate]
  congr 2
  · omega
  · omega
theorem ftF_val (n : Nat) (x : Bool) (F : List Bool) : bval (ftF n x F) = 2 ^ min n 64 * (bval F % 2 ^ (64 - min n 64)) + bval (List.replicate (min n 64) x) := by
  rw [ftF_eq, bval_app, List.length_replicate, bval_take, Nat.add_comm]

theorem pow64 (k : Nat) (h : k ≤ 64) : 2 ^ k * 2 ^ (64 - k) = 18446744073709551616 := by rw [← Nat.pow_add, show k + (64 - k) = 64 by omega]
theorem shl_val (v k : Nat) (h : k ≤ 64) : IntKind.u64.wrap ((v : Int) * 2 ^ k) = ((2 ^ k * (v % 2 ^ (64 - k)) : Nat) : Int) := by
  rw [IntKind.wrap_u64, ← pow_cast, ← Int.natCast_mul]
  have e : v * 2 ^ k % 18446744073709551616 = 2 ^ k * (v % 2 ^ (64 - k)) := by
    rw [← pow64 k h, Nat.mul_comm v, Nat.mul_mod_mul_left]
  rw [← e]; omega
theorem mask_val (k : Nat) (h : k ≤ 64) : IntKind.u64.wrap (18446744073709551615 * 2 ^ k) = ((18446744073709551616 - 2 ^ k : Nat) : Int) := by
  have h1 := pow64 k h
  have hk : 0 < 2 ^ k := Nat.two_pow_pos k
  have hj : 0 < 2 ^ (64 - k) := Nat.two_pow_pos _
  have hle : 2 ^ k ≤ 18446744073709551616 := by
    have := Nat.mul_le_mul_left (2 ^ k) hj
    omega
  rw [IntKind.wrap_u64, ← pow_cast]
  omega
theorem andNot_zero (m : Int) : bits .andNot .u64 0 m = 0 := by
  show IntKind.u64.wrap (((BitVec.ofInt 64 0 &&& ~~~ BitVec.ofInt 64 m).toNat : Nat) : Int) = 0
  rw [show BitVec.ofInt 64 0 = 0#64 from rfl, BitVec.zero_and]; rfl
theorem andNot_ones (m : Nat) (hm : m < 18446744073709551616) : bits .andNot .u64 18446744073709551615 (m : Int) = ((18446744073709551615 - m : Nat) : Int) := by
  show IntKind.u64.wrap (((BitVec.ofInt 64 18446744073709551615 &&& ~~~ BitVec.ofInt 64 (m : Int)).toNat : Nat) : Int) = _
  rw [show BitVec.ofInt 64 18446744073709551615 = BitVec.allOnes 64 from rfl, BitVec.allOnes_and, BitVec.toNat_not, BitVec.toNat_ofInt, IntKind.wrap_u64]
  omega
/-- The word behind n fates of one kind. -/
theorem tlF_got (n : Nat) (F : List Bool) : tlF (bval F) n 0 = (bval (ftF n false F) : Int) := by
  unfold tlF
  rw [andNot_zero, shl_val _ _ (by omega), ftF_val, bval_false]
  have h := pow64 (min n 64) (by omega)
  have hr := Nat.mod_lt (bval F) (Nat.two_pow_pos (64 - min n 64))
  have h2 := Nat.mul_lt_mul_of_pos_left hr (Nat.two_pow_pos (min n 64))
  exact u64_or _ 0 (min n 64) (Nat.two_pow_pos _) (by omega)
theorem tlF_lost (n : Nat) (F : List Bool) : tlF (bval F) n 18446744073709551615 = (bval (ftF n true F) : Int) := by
  unfold tlF
  have ht := bval_true (min n 64)
  have h := pow64 (min n 64) (by omega)
  have hk := Nat.two_pow_pos (min n 64)
  have hr := Nat.mod_lt (bval F) (Nat.two_pow_pos (64 - min n 64))
  have h2 : 2 ^ min n 64 * (bval F % 2 ^ (64 - min n 64)) + 2 ^ min n 64 ≤ 18446744073709551616 := by
    have := Nat.mul_le_mul_left (2 ^ min n 64) (Nat.succ_le_of_lt hr)
    rw [Nat.mul_succ] at this; omega
  rw [mask_val _ (by omega), andNot_ones _ (by omega), shl_val _ _ (by omega), ftF_val]
  rw [show 18446744073709551615 - (18446744073709551616 - 2 ^ min n 64) = bval (List.replicate (min n 64) true) by omega]
  exact u64_or _ _ (min n 64) (by omega) (by omega)
end Go.Proofs.Ytjeffjpenhhnnaa
