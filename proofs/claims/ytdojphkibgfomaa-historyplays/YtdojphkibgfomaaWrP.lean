/-
  Lower bits: a half turn hf b, the lower bits as a remainder of a whole turn, a number's nearest fellow, who is behind whom; what follows. For 1 to 32 bits.
-/
import Derived.Test.YtdojphkibgfomaaHiA
import Derived.WalkKit
import Derived.WalkSpells
import Derived.WalkLawsBesides
import Derived.Handy
namespace Go.Proofs.Ytdojphkibgfomaa
open Go.RowKit

/-- Half the way round. -/
def hf (b : Int) : Int := 2 ^ (b.toNat - 1)
theorem pow_lit : ∀ n : Nat, n < 32 → ((2 : Int) ^ n = 1 ∨ (2 : Int) ^ n = 2 ∨ (2 : Int) ^ n = 4 ∨ (2 : Int) ^ n = 8 ∨ (2 : Int) ^ n = 16 ∨ (2 : Int) ^ n = 32 ∨ (2 : Int) ^ n = 64 ∨ (2 : Int) ^ n = 128 ∨ (2 : Int) ^ n = 256 ∨ (2 : Int) ^ n = 512 ∨ (2 : Int) ^ n = 1024 ∨ (2 : Int) ^ n = 2048 ∨ (2 : Int) ^ n = 4096 ∨ (2 : Int) ^ n = 8192 ∨ (2 : Int) ^ n = 16384 ∨ (2 : Int) ^ n = 32768 ∨ (2 : Int) ^ n = 65536 ∨ (2 : Int) ^ n = 131072 ∨ (2 : Int) ^ n = 262144 ∨ (2 : Int) ^ n = 524288 ∨ (2 : Int) ^ n = 1048576 ∨ (2 : Int) ^ n = 2097152 ∨ (2 : Int) ^ n = 4194304 ∨ (2 : Int) ^ n = 8388608 ∨ (2 : Int) ^ n = 16777216 ∨ (2 : Int) ^ n = 33554432 ∨ (2 : Int) ^ n = 67108864 ∨ (2 : Int) ^ n = 134217728 ∨ (2 : Int) ^ n = 268435456 ∨ (2 : Int) ^ n = 536870912 ∨ (2 : Int) ^ n = 1073741824 ∨ (2 : Int) ^ n = 2147483648) := by decide
theorem hf_lit (b : Int) (b1 : 1 ≤ b) (b2 : b ≤ 32) : hf b = 1 ∨ hf b = 2 ∨ hf b = 4 ∨ hf b = 8 ∨ hf b = 16 ∨ hf b = 32 ∨ hf b = 64 ∨ hf b = 128 ∨ hf b = 256 ∨ hf b = 512 ∨ hf b = 1024 ∨ hf b = 2048 ∨ hf b = 4096 ∨ hf b = 8192 ∨ hf b = 16384 ∨ hf b = 32768 ∨ hf b = 65536 ∨ hf b = 131072 ∨ hf b = 262144 ∨ hf b = 524288 ∨ hf b = 1048576 ∨ hf b = 2097152 ∨ hf b = 4194304 ∨ hf b = 8388608 ∨ hf b = 16777216 ∨ hf b = 33554432 ∨ hf b = 67108864 ∨ hf b = 134217728 ∨ hf b = 268435456 ∨ hf b = 536870912 ∨ hf b = 1073741824 ∨ hf b = 2147483648 := by
  unfold hf
  exact pow_lit (b.toNat - 1) (by omega)
/-- What is so for each of the 32 halves. -/
theorem each32 {P : Int → Prop} (b : Int) (b1 : 1 ≤ b) (b2 : b ≤ 32) (h : P 1 ∧ P 2 ∧ P 4 ∧ P 8 ∧ P 16 ∧ P 32 ∧ P 64 ∧ P 128 ∧ P 256 ∧ P 512 ∧ P 1024 ∧ P 2048 ∧ P 4096 ∧ P 8192 ∧ P 16384 ∧ P 32768 ∧ P 65536 ∧ P 131072 ∧ P 262144 ∧ P 524288 ∧ P 1048576 ∧ P 2097152 ∧ P 4194304 ∧ P 8388608 ∧ P 16777216 ∧ P 33554432 ∧ P 67108864 ∧ P 134217728 ∧ P 268435456 ∧ P 536870912 ∧ P 1073741824 ∧ P 2147483648) : P (hf b) := by
  obtain ⟨h0, h1, h2, h3, h4, h5, h6, h7, h8, h9, h10, h11, h12, h13, h14, h15, h16, h17, h18, h19, h20, h21, h22, h23, h24, h25, h26, h27, h28, h29, h30, h31⟩ := h
  rcases hf_lit b b1 b2 with e | e | e | e | e | e | e | e | e | e | e | e | e | e | e | e | e | e | e | e | e | e | e | e | e | e | e | e | e | e | e | e <;> rw [e] <;> assumption
theorem hf_bd (b : Int) (b1 : 1 ≤ b) (b2 : b ≤ 32) : 1 ≤ hf b ∧ hf b ≤ 2147483648 := by
  refine each32 (P := fun h => 1 ≤ h ∧ h ≤ 2147483648) b b1 b2 ?_
  decide
theorem sh1 (b : Int) (b1 : 1 ≤ b) (b2 : b ≤ 32) : wrap64 (2 ^ (b.toNat - 1)) = hf b := by
  have := hf_bd b b1 b2
  show wrap64 (hf b) = hf b
  unfold wrap64; omega
theorem pow2 (b : Int) (b1 : 1 ≤ b) : (2 : Int) ^ b.toNat = 2 * hf b := by
  unfold hf
  obtain ⟨n, hn⟩ : ∃ n, b.toNat = n + 1 := ⟨b.toNat - 1, by omega⟩
  rw [hn, Int.pow_succ, Nat.add_sub_cancel, Int.mul_comm]
theorem sh0 (b : Int) (b1 : 1 ≤ b) (b2 : b ≤ 32) : wrap64 (2 ^ b.toNat) = 2 * hf b := by
  have := hf_bd b b1 b2
  rw [pow2 b b1]; unfold wrap64; omega
theorem wrap_cut (b n : Int) (b1 : 1 ≤ b) (b2 : b ≤ 32) : wrap64 n % (2 * hf b) = n % (2 * hf b) := by
  refine each32 (P := fun h => wrap64 n % (2 * h) = n % (2 * h)) b b1 b2 ?_
  unfold wrap64
  refine ⟨?_, ?_, ?_, ?_, ?_, ?_, ?_, ?_, ?_, ?_, ?_, ?_, ?_, ?_, ?_, ?_, ?_, ?_, ?_, ?_, ?_, ?_, ?_, ?_, ?_, ?_, ?_, ?_, ?_, ?_, ?_, ?_⟩ <;> omega
theorem and_cut (b n : Int) (b1 : 1 ≤ b) (b2 : b ≤ 32) : bits .and .i64 n (2 * hf b - 1) = n % (2 * hf b) := by
  have hb := hf_bd b b1 b2
  have e0 : 2 * hf b - 1 = ((2 ^ b.toNat - 1 : Nat) : Int) := by
    rw [← pow2 b b1]
    have h1 : 1 ≤ 2 ^ b.toNat := Nat.one_le_two_pow
    rw [Int.ofNat_sub h1]; simp
  have hp : 2 ^ b.toNat ≤ 2 ^ 32 := Nat.pow_le_pow_right (by decide) (by omega)
  have hm : (BitVec.ofInt 64 (2 * hf b - 1)).toNat = 2 ^ b.toNat - 1 := by
    rw [e0, BitVec.ofInt_natCast, BitVec.toNat_ofNat]
    exact Nat.mod_eq_of_lt (by omega)
  have key : (BitVec.ofInt 64 n &&& BitVec.ofInt 64 (2 * hf b - 1)).toNat = (n % ((2 ^ 64 : Nat) : Int)).toNat % 2 ^ b.toNat := by
    rw [BitVec.toNat_and, BitVec.toNat_ofInt, hm, Nat.and_two_pow_sub_one_eq_mod]
  show IntKind.i64.wrap ((BitVec.ofInt 64 n &&& BitVec.ofInt 64 (2 * hf b - 1)).toNat : Nat) = n % (2 * hf b)
  rw [key, IntKind.wrap_i64]
  have c1 : (((n % ((2 ^ 64 : Nat) : Int)).toNat % 2 ^ b.toNat : Nat) : Int) = (n % 18446744073709551616) % (2 * hf b) := by
    rw [← pow2 b b1, Int.natCast_emod, Int.toNat_of_nonneg (by omega)]; rfl
  rw [c1]
  have c2 : n % 18446744073709551616 % (2 * hf b) = n % (2 * hf b) := by
    refine each32 (P := fun h => n % 18446744073709551616 % (2 * h) = n % (2 * h)) b b1 b2 ?_
    refine ⟨?_, ?_, ?_, ?_, ?_, ?_, ?_, ?_, ?_, ?_, ?_, ?_, ?_, ?_, ?_, ?_, ?_, ?_, ?_, ?_, ?_, ?_, ?_, ?_, ?_, ?_, ?_, ?_, ?_, ?_, ?_, ?_⟩ <;> omega
  rw [c2]
  have c3 := Int.emod_nonneg n (show 2 * hf b ≠ 0 by omega)
  have c4 := Int.emod_lt_of_pos n (show 0 < 2 * hf b by omega)
  omega
theorem tm_eq (n m : Int) (hm : 0 < m) : n.tmod m = n % m ∨ n.tmod m = n % m - m := by
  rw [Int.tmod_eq_emod]
  split <;> omega
theorem tm_bd (n m : Int) (hm : 0 < m) : -m < n.tmod m ∧ n.tmod m < m :=
  ⟨Int.lt_tmod_of_pos n hm, Int.tmod_lt_of_pos n hm⟩
theorem tm_mod (n m : Int) (hm : 0 < m) : (n.tmod m + m).tmod m = n % m := by
  have := tm_bd n m hm
  rw [Int.tmod_eq_emod_of_nonneg (by omega)]
  rcases tm_eq n m hm with h | h <;> rw [h] <;> simp
theorem tm_sub (a b m : Int) (hm : 0 < m) : (a.tmod m - b.tmod m) % m = (a - b) % m := by
  rcases tm_eq a m hm with h | h <;> rcases tm_eq b m hm with k | k <;> rw [h, k] <;> simp [Int.sub_emod, Int.emod_emod_of_dvd]
end Go.Proofs.Ytdojphkibgfomaa
