/-
  Lower bits: a half turn hf b, the lower bits as a remainder of a whole turn, a number's nearest fellow, who is behind whom; what follows. For 1 to 32 bits.
-/
import Derived.Test.YtdhbakknplnnkaaGreatRows
import Derived.WalkKit
import Derived.WalkSpells
import Derived.WalkLawsBesides
import Derived.Handy
import Derived.BigQuiet
namespace Go.Proofs.YtdhbakknplnnkaaGreat.Wr
open Go.RowKit

theorem mkHid {p : Prop} (h : p) : Hid p := h
theorem ret_i {k : IntKind} {a b : Int} (h : a = b) : Ending.returned (.int k a) = .returned (.int k b) := by rw [h]
/-- Half the way round. -/
def hf (b : Int) : Int := 2 ^ (b.toNat - 1)
theorem pow_lit : ∀ n : Nat, n < 32 → ((2 : Int) ^ n = 1 ∨ (2 : Int) ^ n = 2 ∨ (2 : Int) ^ n = 4 ∨ (2 : Int) ^ n = 8 ∨ (2 : Int) ^ n = 16 ∨ (2 : Int) ^ n = 32 ∨ (2 : Int) ^ n = 64 ∨ (2 : Int) ^ n = 128 ∨ (2 : Int) ^ n = 256 ∨ (2 : Int) ^ n = 512 ∨ (2 : Int) ^ n = 1024 ∨ (2 : Int) ^ n = 2048 ∨ (2 : Int) ^ n = 4096 ∨ (2 : Int) ^ n = 8192 ∨ (2 : Int) ^ n = 16384 ∨ (2 : Int) ^ n = 32768 ∨ (2 : Int) ^ n = 65536 ∨ (2 : Int) ^ n = 131072 ∨ (2 : Int) ^ n = 262144 ∨ (2 : Int) ^ n = 524288 ∨ (2 : Int) ^ n = 1048576 ∨ (2 : Int) ^ n = 2097152 ∨ (2 : Int) ^ n = 4194304 ∨ (2 : Int) ^ n = 8388608 ∨ (2 : Int) ^ n = 16777216 ∨ (2 : Int) ^ n = 33554432 ∨ (2 : Int) ^ n = 67108864 ∨ (2 : Int) ^ n = 134217728 ∨ (2 : Int) ^ n = 268435456 ∨ (2 : Int) ^ n = 536870912 ∨ (2 : Int) ^ n = 1073741824 ∨ (2 : Int) ^ n = 2147483648) := by decide
theorem hf_lit (b : Int) (b1 : 1 ≤ b) (b2 : b ≤ 32) : hf b = 1 ∨ hf b = 2 ∨ hf b = 4 ∨ hf b = 8 ∨ hf b = 16 ∨ hf b = 32 ∨ hf b = 64 ∨ hf b = 128 ∨ hf b = 256 ∨ hf b = 512 ∨ hf b = 1024 ∨ hf b = 2048 ∨ hf b = 4096 ∨ hf b = 8192 ∨ hf b = 16384 ∨ hf b = 32768 ∨ hf b = 65536 ∨ hf b = 131072 ∨ hf b = 262144 ∨ hf b = 524288 ∨ hf b = 1048576 ∨ hf b = 2097152 ∨ hf b = 4194304 ∨ hf b = 8388608 ∨ hf b = 16777216 ∨ hf b = 33554432 ∨ hf b = 67108864 ∨ hf b = 134217728 ∨ hf b = 268435456 ∨ hf b = 536870912 ∨ hf b = 1073741824 ∨ hf b = 2147483648 := by
  unfold hf
  exact pow_lit (b.toNat - 1) (by omega)
/-- What is so for each of the 32 halves. -/
theorem each32 {P : Int → Prop} (b : Int) (b1 : 1 ≤ b) (b2 : b ≤ 32) (h : P 1 ∧ P 2 ∧ P 4 ∧ P 8 ∧ P 16 ∧ P 32 ∧ P 64 ∧ P 128 ∧ P 256 ∧ P 512 ∧ P 1024 ∧ P 2048 ∧ P 4096 ∧ P 8192 ∧ P 16384 ∧ P 32768 ∧ P 65536 ∧ P 131072 ∧ P 262144 ∧ P 524288 ∧ P 1048576 ∧ P 2097152 ∧ P 4194304 ∧ P 8388608 ∧ P 16777216 ∧ P 33554432 ∧ P 67108864 ∧ P 134217728 ∧ P 268435456 ∧ P 536870912 ∧ P 1073741824 ∧ P 2147483648) : P (hf b) := by
  obtain ⟨h0, h1, h2, h3, h4, h5, h6, h7, h8, h9, h10, h11, h12, h13, h14, h15, h16, h17, h18, h19, h20, h21, h22, h23, h24, h25, h26, h27, h28, h29, h30, h31⟩ := h
  rcases hf_lit b b1 b2 with e | e | e | e | e | e | e | e | e | e | e | e | e | e | e | e | e | e | e | e | e | e | e | e | e | e | e | e | e | e | e | e <;> rw [e] <;> assumption
theorem hf_bd (b : Int) (b1 : 1 ≤ b) (b2 : b ≤ 32) : 1 ≤ hf b ∧ hf b ≤ 2147483648 := by
  refine each32 (P := fun h => 1 ≤ h ∧ h ≤ 2147483648) b b1 b2 ?_
  decide
theorem sh1 (b : Int) (b1 : 1 ≤ b) (b2 : b ≤ 32) : wrap64 (2 ^ (b.toNat - 1)) = hf b := by
  have := hf_bd b b1 b2
  show wrap64 (hf b) = hf b
  unfold wrap64; omega
theorem pow2 (b : Int) (b1 : 1 ≤ b) : (2 : Int) ^ b.toNat = 2 * hf b := by
  unfold hf
  obtain ⟨n, hn⟩ : ∃ n, b.toNat = n + 1 := ⟨b.toNat - 1, by omega⟩
  rw [hn, Int.pow_succ, Nat.add_sub_cancel, Int.mul_comm]
theorem sh0 (b : Int) (b1 : 1 ≤ b) (b2 : b ≤ 32) : wrap64 (2 ^ b.toNat) = 2 * hf b := by
  have := hf_bd b b1 b2
  rw [pow2 b b1]; unfold wrap64; omega
theorem wrap_cut (b n : Int) (b1 : 1 ≤ b) (b2 : b ≤ 32) : wrap64 n % (2 * hf b) = n % (2 * hf b) := by
  refine each32 (P := fun h => wrap64 n % (2 * h) = n % (2 * h)) b b1 b2 ?_
  unfold wrap64
  refine ⟨?_, ?_, ?_, ?_, ?_, ?_, ?_, ?_, ?_, ?_, ?_, ?_, ?_, ?_, ?_, ?_, ?_, ?_, ?_, ?_, ?_, ?_, ?_, ?_, ?_, ?_, ?_, ?_, ?_, ?_, ?_, ?_⟩ <;> omega
theorem and_cut (b n : Int) (b1 : 1 ≤ b) (b2 : b ≤ 32) : bits .and .i64 n (2 * hf b - 1) = n % (2 * hf b) := by
  have hb := hf_bd b b1 b2
  have e0 : 2 * hf b - 1 = ((2 ^ b.toNat - 1 : Nat) : Int) := by
    rw [← pow2 b b1]
    have h1 : 1 ≤ 2 ^ b.toNat := Nat.one_le_two_pow
    rw [Int.ofNat_sub h1]; simp
  have hp : 2 ^ b.toNat ≤ 2 ^ 32 := Nat.pow_le_pow_right (by decide) (by omega)
  have hm : (BitVec.ofInt 64 (2 * hf b - 1)).toNat = 2 ^ b.toNat - 1 := by
    rw [e0, BitVec.ofInt_natCast, BitVec.toNat_ofNat]
    exact Nat.mod_eq_of_lt (by omega)
  have key : (BitVec.ofInt 64 n &&& BitVec.ofInt 64 (2 * hf b - 1)).toNat = (n % ((2 ^ 64 : Nat) : Int)).toNat % 2 ^ b.toNat := by
    rw [BitVec.toNat_and, BitVec.toNat_ofInt, hm, Nat.and_two_pow_sub_one_eq_mod]
  show IntKind.i64.wrap ((BitVec.ofInt 64 n &&& BitVec.ofInt 64 (2 * hf b - 1)).toNat : Nat) = n % (2 * hf b)
  rw [key, IntKind.wrap_i64]
  have c1 : (((n % ((2 ^ 64 : Nat) : Int)).toNat % 2 ^ b.toNat : Nat) : Int) = (n % 18446744073709551616) % (2 * hf b) := by
    rw [← pow2 b b1, Int.natCast_emod, Int.toNat_of_nonneg (by omega)]; rfl
  rw [c1]
  have c2 : n % 18446744073709551616 % (2 * hf b) = n % (2 * hf b) := by
    refine each32 (P := fun h => n % 18446744073709551616 % (2 * h) = n % (2 * h)) b b1 b2 ?_
    refine ⟨?_, ?_, ?_, ?_, ?_, ?_, ?_, ?_, ?_, ?_, ?_, ?_, ?_, ?_, ?_, ?_, ?_, ?_, ?_, ?_, ?_, ?_, ?_, ?_, ?_, ?_, ?_, ?_, ?_, ?_, ?_, ?_⟩ <;> omega
  rw [c2]
  have c3 := Int.emod_nonneg n (show 2 * hf b ≠ 0 by omega)
  have c4 := Int.emod_lt_of_pos n (show 0 < 2 * hf b by omega)
  omega
theorem tm_eq (n m : Int) (hm : 0 < m) : n.tmod m = n % m ∨ n.tmod m = n % m - m := by
  rw [Int.tmod_eq_emod]
  split <;> omega
theorem tm_bd (n m : Int) (hm : 0 < m) : -m < n.tmod m ∧ n.tmod m < m :=
  ⟨Int.lt_tmod_of_pos n hm, Int.tmod_lt_of_pos n hm⟩
theorem tm_mod (n m : Int) (hm : 0 < m) : (n.tmod m + m).tmod m = n % m := by
  have := tm_bd n m hm
  rw [Int.tmod_eq_emod_of_nonneg (by omega)]
  rcases tm_eq n m hm with h | h <;> rw [h] <;> simp
theorem tm_sub (a b m : Int) (hm : 0 < m) : (a.tmod m - b.tmod m) % m = (a - b) % m := by
  rcases tm_eq a m hm with h | h <;> rcases tm_eq b m hm with k | k <;> rw [h, k] <;> simp [Int.sub_emod, Int.emod_emod_of_dvd]
end Go.Proofs.YtdhbakknplnnkaaGreat.Wr
namespace Go.Proofs.YtdhbakknplnnkaaGreat.Wr
open Go.RowKit

/-- A call's Below, carried on from an elder world. -/
theorem carry {P : Program} {f : Nat} {args : Array Value} {w w0 : World} {Q : Ending → Prop} (hb : Below w0.heap.size w0 w) (h : Calls P f args w fun e w' => Q e ∧ Below w.heap.size w w') :
    Calls P f args w fun e w' => Q e ∧ Below w0.heap.size w0 w' :=
  h.mono fun _ _ ⟨hq, hk⟩ => ⟨hq, hb.trans (hk.mono hb.size)⟩
theorem below_drewN {B : Nat} {w w1 : World} (h : Below B w w1) (n : Nat) : Below B w (w1.drewN n) := ⟨h.os, h.tape, h.output, h.size, h.block⟩

theorem ret_no {p : Prop} [Decidable p] (h : ¬ p) : Ending.returned (.bool (decide p)) = .returned (.bool false) := by rw [decide_eq_false h]
theorem ret_b {p q : Bool} (h : p = q) : Ending.returned (.bool p) = .returned (.bool q) := by rw [h]
/-- What last is held to. -/
def clV (a : Int) : Int := if a < -1152921504606846976 then -1152921504606846976 else if 1152921504606846976 < a then 1152921504606846976 else a
theorem cl_bd (a : Int) : -1152921504606846976 ≤ clV a ∧ clV a ≤ 1152921504606846976 := by unfold clV; repeat' split <;> omega
/-- The nearest number to l with v's lower bits; h is half the way round. -/
def nV (h l v : Int) : Int := if (v - l) % (2 * h) ≤ h then l + (v - l) % (2 * h) else l + (v - l) % (2 * h) - 2 * h
/-- Is a behind b? -/
def aV (h a b : Int) : Bool := decide (0 < (a - b) % (2 * h) ∧ (a - b) % (2 * h) < h)

theorem known_yes (b : Int) (b1 : 1 ≤ b) (b2 : b ≤ 32) (w : World) :
    Calls Tryz.prog 99 #[.int .i64 b] w fun e w' => e = .returned (.bool true) ∧ w' = w := by
  go_enter Tryz.func99, Tryz.ntmps99
  go_wp2
  go_ret
  exact ⟨rfl, rfl⟩
theorem known_no (b : Int) (h : b < 1 ∨ 32 < b) (w : World) :
    Calls Tryz.prog 99 #[.int .i64 b] w fun e w' => e = .returned (.bool false) ∧ w' = w := by
  rcases h with h | h
  · go_enter Tryz.func99, Tryz.ntmps99
    go_wp2
    go_ret
    exact ⟨rfl, rfl⟩
  · have h2 : ¬ b ≤ 32 := by omega
    go_enter Tryz.func99, Tryz.ntmps99
    go_wp2
    go_ret
    exact ⟨by first | rfl | exact ret_no h2, rfl⟩
theorem half_any (b : Int) (b1 : 1 ≤ b) (b2 : b ≤ 32) (w : World) :
    Calls Tryz.prog 108 #[.int .i64 b] w fun e w' => e = .returned (.int .i64 (hf b)) ∧ w' = w := by
  have e := sh1 b b1 b2
  go_enter Tryz.func108, Tryz.ntmps108
  go_wp2
  go_ret
  exact ⟨by first | rfl | exact ret_i e, rfl⟩
theorem halfi_any (b : Int) (b1 : 1 ≤ b) (b2 : b ≤ 32) (w : World) :
    Calls Tryz.prog 102 #[.int .i64 b] w fun e w' => e = .returned (.int .i64 (hf b)) ∧ w' = w := by
  have e := sh1 b b1 b2
  go_enter Tryz.func102, Tryz.ntmps102
  go_wp2
  go_ret
  exact ⟨by first | rfl | exact ret_i e, rfl⟩
theorem cut_any (n b : Int) (b1 : 1 ≤ b) (b2 : b ≤ 32) (w : World) :
    Calls Tryz.prog 105 #[.int .i64 n, .int .i64 b] w fun e w' => e = .returned (.int .i64 (n % (2 * hf b))) ∧ w' = w := by
  have C := mkHid (half_any b b1 b2)
  have e := and_cut b n b1 b2
  have k := hf_bd b b1 b2
  generalize hf b = h at *
  go_enter Tryz.func105, Tryz.ntmps105
  go_wp2_with fail
  refine (C.out _).mono ?_
  rintro e w1 ⟨rfl, rfl⟩
  go_wp2
  go_ret
  exact ⟨by first | rfl | exact ret_i e, rfl⟩
theorem cuti_any (n b : Int) (b1 : 1 ≤ b) (b2 : b ≤ 32) (w : World) :
    Calls Tryz.prog 101 #[.int .i64 n, .int .i64 b] w fun e w' => e = .returned (.int .i64 (n % (2 * hf b))) ∧ w' = w := by
  have C := mkHid (halfi_any b b1 b2)
  have e := and_cut b n b1 b2
  have k := hf_bd b b1 b2
  generalize hf b = h at *
  go_enter Tryz.func101, Tryz.ntmps101
  go_wp2_with fail
  refine (C.out _).mono ?_
  rintro e w1 ⟨rfl, rfl⟩
  go_wp2
  go_ret
  exact ⟨by first | rfl | exact ret_i e, rfl⟩
theorem clamp_any (a : Int) (w : World) :
    Calls Tryz.prog 18 #[.int .i64 a, .int .i64 (-1152921504606846976), .int .i64 1152921504606846976] w fun e w' => e = .returned (.int .i64 (clV a)) ∧ w' = w := by
  go_each [a < -1152921504606846976, 1152921504606846976 < a] => (
    go_enter Tryz.func18, Tryz.ntmps18
    go_wp2
    go_ret
    exact ⟨ret_i (by unfold clV; repeat' split <;> omega), rfl⟩)

theorem crop_any (n b : Int) (b1 : 1 ≤ b) (b2 : b ≤ 32) (w : World) :
    Calls Tryz.prog 98 #[.int .i64 n, .int .i64 b] w fun e w' => e = .returned (.int .i64 (n % (2 * hf b))) ∧ w' = w := by
  have K := mkHid (known_yes b b1 b2)
  have C := mkHid (cut_any n b b1 b2)
  generalize n % (2 * hf b) = c at *
  go_enter Tryz.func98, Tryz.ntmps98
  go_wp2_with fail
  refine (K.out _).mono ?_
  rintro e w1 ⟨rfl, rfl⟩
  go_wp2_with fail
  refine (C.out _).mono ?_
  rintro e w1 ⟨rfl, rfl⟩
  go_wp2
  go_ret
  exact ⟨rfl, rfl⟩
theorem crop_no (n b : Int) (h : b < 1 ∨ 32 < b) (w : World) :
    Calls Tryz.prog 98 #[.int .i64 n, .int .i64 b] w fun e w' => e = .returned (.int .i64 0) ∧ w' = w := by
  have K := mkHid (known_no b h)
  go_enter Tryz.func98, Tryz.ntmps98
  go_wp2_with fail
  refine (K.out _).mono ?_
  rintro e w1 ⟨rfl, rfl⟩
  go_wp2
  go_ret
  exact ⟨rfl, rfl⟩

theorem near_no (l v b : Int) (h : b < 1 ∨ 32 < b) (w : World) :
    Calls Tryz.prog 153 #[.int .i64 l, .int .i64 v, .int .i64 b] w fun e w' => e = .returned (.int .i64 l) ∧ w' = w := by
  have K := mkHid (known_no b h)
  go_enter Tryz.func153, Tryz.ntmps153
  go_wp2_with fail
  refine (K.out _).mono ?_
  rintro e w1 ⟨rfl, rfl⟩
  go_wp2
  go_ret
  exact ⟨rfl, rfl⟩
set_option maxHeartbeats 400000 in
theorem near_any (l v b : Int) (b1 : 1 ≤ b) (b2 : b ≤ 32) (w : World) :
    Calls Tryz.prog 153 #[.int .i64 l, .int .i64 v, .int .i64 b] w fun e w' => e = .returned (.int .i64 (nV (hf b) (clV l) v)) ∧ w' = w := by
  have K := mkHid (known_yes b b1 b2)
  have C1 := mkHid (clamp_any l)
  have kl := cl_bd l
  generalize clV l = t at *
  have C2 := mkHid (cut_any (wrap64 (v - t)) b b1 b2)
  rw [wrap_cut b (v - t) b1 b2] at C2
  have C3 := mkHid (half_any b b1 b2)
  have k := hf_bd b b1 b2
  unfold nV
  generalize hf b = h at *
  have u0 := Int.emod_nonneg (v - t) (show 2 * h ≠ 0 by omega)
  have u1 := Int.emod_lt_of_pos (v - t) (show 0 < 2 * h by omega)
  generalize (v - t) % (2 * h) = u at *
  generalize hx : wrap64 (v - t) = x at *
  by_cases hu : u ≤ h
  · rw [if_pos hu]
    go_enter Tryz.func153, Tryz.ntmps153
    go_wp2_with fail
    refine (K.out _).mono ?_
    rintro e w1 ⟨rfl, rfl⟩
    go_wp2_with fail
    refine (C1.out _).mono ?_
    rintro e w1 ⟨rfl, rfl⟩
    go_wp2_with fail
    refine (C2.out _).mono ?_
    rintro e w1 ⟨rfl, rfl⟩
    go_wp2_with fail
    refine (C3.out _).mono ?_
    rintro e w1 ⟨rfl, rfl⟩
    go_wp2
    go_ret
    exact ⟨rfl, rfl⟩
  · rw [if_neg hu]
    go_enter Tryz.func153, Tryz.ntmps153
    go_wp2_with fail
    refine (K.out _).mono ?_
    rintro e w1 ⟨rfl, rfl⟩
    go_wp2_with fail
    refine (C1.out _).mono ?_
    rintro e w1 ⟨rfl, rfl⟩
    go_wp2_with fail
    refine (C2.out _).mono ?_
    rintro e w1 ⟨rfl, rfl⟩
    go_wp2_with fail
    refine (C3.out _).mono ?_
    rintro e w1 ⟨rfl, rfl⟩
    go_wp2_with fail
    refine (C3.out _).mono ?_
    rintro e w1 ⟨rfl, rfl⟩
    go_wp2
    go_ret
    exact ⟨rfl, rfl⟩

theorem within_any (n b : Int) (b1 : 1 ≤ b) (b2 : b ≤ 32) (w : World) :
    Calls Tryz.prog 100 #[.int .i64 n, .int .i64 b] w fun e w' => e = .returned (.bool (decide (n % (2 * hf b) = n))) ∧ w' = w := by
  have C := mkHid (cuti_any n b b1 b2)
  generalize n % (2 * hf b) = c at *
  go_enter Tryz.func100, Tryz.ntmps100
  go_wp2_with fail
  refine (C.out _).mono ?_
  rintro e w1 ⟨rfl, rfl⟩
  go_wp2
  go_ret
  exact ⟨rfl, rfl⟩
/-- Lies n in the first turn? -/
theorem in_turn (n m : Int) (hm : 0 < m) (h : n < 0 ∨ m ≤ n) : ¬ n % m = n := by
  have h1 := Int.emod_nonneg n (show m ≠ 0 by omega)
  have h2 := Int.emod_lt_of_pos n hm
  omega
theorem within_yes (n b : Int) (b1 : 1 ≤ b) (b2 : b ≤ 32) (n1 : 0 ≤ n) (n2 : n < 2 * hf b) (w : World) :
    Calls Tryz.prog 100 #[.int .i64 n, .int .i64 b] w fun e w' => e = .returned (.bool true) ∧ w' = w := by
  have C := within_any n b b1 b2 w
  rw [decide_eq_true (Int.emod_eq_of_lt n1 n2)] at C
  exact C
theorem within_no (n b : Int) (b1 : 1 ≤ b) (b2 : b ≤ 32) (h : n < 0 ∨ 2 * hf b ≤ n) (w : World) :
    Calls Tryz.prog 100 #[.int .i64 n, .int .i64 b] w fun e w' => e = .returned (.bool false) ∧ w' = w := by
  have C := within_any n b b1 b2 w
  have k := hf_bd b b1 b2
  rw [decide_eq_false (in_turn n (2 * hf b) (by omega) h)] at C
  exact C

theorem after_bad (a b k : Int) (h : k < 1 ∨ 32 < k) (w : World) :
    Calls Tryz.prog 94 #[.int .i64 a, .int .i64 b, .int .i64 k] w fun e w' => e = .returned (.bool false) ∧ w' = w := by
  have K := mkHid (known_no k h)
  go_enter Tryz.func94, Tryz.ntmps94
  go_wp2_with fail
  refine (K.out _).mono ?_
  rintro e w1 ⟨rfl, rfl⟩
  go_wp2
  go_ret
  exact ⟨rfl, rfl⟩
theorem after_no1 (a b k : Int) (k1 : 1 ≤ k) (k2 : k ≤ 32) (h : a < 0 ∨ 2 * hf k ≤ a) (w : World) :
    Calls Tryz.prog 94 #[.int .i64 a, .int .i64 b, .int .i64 k] w fun e w' => e = .returned (.bool false) ∧ w' = w := by
  have K := mkHid (known_yes k k1 k2)
  have C1 := mkHid (within_no a k k1 k2 h)
  clear h
  go_enter Tryz.func94, Tryz.ntmps94
  go_wp2_with fail
  refine (K.out _).mono ?_
  rintro e w1 ⟨rfl, rfl⟩
  go_wp2_with fail
  refine (C1.out _).mono ?_
  rintro e w1 ⟨rfl, rfl⟩
  go_wp2
  go_ret
  exact ⟨rfl, rfl⟩
theorem after_no2 (a b k : Int) (k1 : 1 ≤ k) (k2 : k ≤ 32) (a1 : 0 ≤ a) (a2 : a < 2 * hf k) (h : b < 0 ∨ 2 * hf k ≤ b) (w : World) :
    Calls Tryz.prog 94 #[.int .i64 a, .int .i64 b, .int .i64 k] w fun e w' => e = .returned (.bool false) ∧ w' = w := by
  have K := mkHid (known_yes k k1 k2)
  have C1 := mkHid (within_yes a k k1 k2 a1 a2)
  have C2 := mkHid (within_no b k k1 k2 h)
  clear h
  go_enter Tryz.func94, Tryz.ntmps94
  go_wp2_with fail
  refine (K.out _).mono ?_
  rintro e w1 ⟨rfl, rfl⟩
  go_wp2_with fail
  refine (C1.out _).mono ?_
  rintro e w1 ⟨rfl, rfl⟩
  go_wp2_with fail
  refine (C2.out _).mono ?_
  rintro e w1 ⟨rfl, rfl⟩
  go_wp2
  go_ret
  exact ⟨rfl, rfl⟩
set_option maxHeartbeats 400000 in
theorem after_any (a b k : Int) (k1 : 1 ≤ k) (k2 : k ≤ 32) (a1 : 0 ≤ a) (a2 : a < 2 * hf k) (c1 : 0 ≤ b) (c2 : b < 2 * hf k) (w : World) :
    Calls Tryz.prog 94 #[.int .i64 a, .int .i64 b, .int .i64 k] w fun e w' => e = .returned (.bool (aV (hf k) a b)) ∧ w' = w := by
  have K := mkHid (known_yes k k1 k2)
  have C1 := mkHid (within_yes a k k1 k2 a1 a2)
  have C2 := mkHid (within_yes b k k1 k2 c1 c2)
  have C3 := mkHid (cuti_any (a - b) k k1 k2)
  have C4 := mkHid (halfi_any k k1 k2)
  have kh := hf_bd k k1 k2
  unfold aV
  generalize hf k = h at *
  have u0 := Int.emod_nonneg (a - b) (show 2 * h ≠ 0 by omega)
  generalize (a - b) % (2 * h) = u at *
  by_cases hu : 0 < u
  · go_enter Tryz.func94, Tryz.ntmps94
    go_wp2_with fail
    refine (K.out _).mono ?_
    rintro e w1 ⟨rfl, rfl⟩
    go_wp2_with fail
    refine (C1.out _).mono ?_
    rintro e w1 ⟨rfl, rfl⟩
    go_wp2_with fail
    refine (C2.out _).mono ?_
    rintro e w1 ⟨rfl, rfl⟩
    go_wp2_with fail
    refine (C3.out _).mono ?_
    rintro e w1 ⟨rfl, rfl⟩
    go_wp2_with fail
    refine (C4.out _).mono ?_
    rintro e w1 ⟨rfl, rfl⟩
    go_wp2
    go_ret
    exact ⟨ret_b (decide_eq_decide.mpr (by omega)), rfl⟩
  · go_enter Tryz.func94, Tryz.ntmps94
    go_wp2_with fail
    refine (K.out _).mono ?_
    rintro e w1 ⟨rfl, rfl⟩
    go_wp2_with fail
    refine (C1.out _).mono ?_
    rintro e w1 ⟨rfl, rfl⟩
    go_wp2_with fail
    refine (C2.out _).mono ?_
    rintro e w1 ⟨rfl, rfl⟩
    go_wp2_with fail
    refine (C3.out _).mono ?_
    rintro e w1 ⟨rfl, rfl⟩
    go_wp2
    go_ret
    exact ⟨ret_b (by rw [decide_eq_false (show ¬ 0 < u by omega), Bool.false_and]), rfl⟩

theorem same_below {P : Program} {f : Nat} {args : Array Value} {w : World} {Q : Ending → Prop} (h : Calls P f args w fun e w' => Q e ∧ w' = w) :
    Calls P f args w fun e w' => Q e ∧ Below w.heap.size w w' :=
  h.mono fun _ _ ⟨hq, hk⟩ => ⟨hq, hk ▸ Below.refl _ _⟩
end Go.Proofs.YtdhbakknplnnkaaGreat.Wr
namespace Go.Proofs.YtdhbakknplnnkaaGreat.Wr
open Go.RowKit

theorem rmod_any (n m : Int) (m1 : 0 < m) (m2 : m ≤ 4294967296) (w : World) :
    Calls Tryz.prog 69 #[.int .i64 n, .int .i64 m] w fun e w' => e = .returned (.int .i64 (n % m)) ∧ w' = w := by
  have k := tm_bd n m m1
  have e := tm_mod n m m1
  have hne : ¬ m = 0 := by omega
  have h0 := Int.emod_nonneg n hne
  have h1 := Int.emod_lt_of_pos n m1
  go_enter Tryz.func69, Tryz.ntmps69
  go_wp2
  go_ret
  exact ⟨by first | rfl | exact ret_i e, rfl⟩
theorem rcrop_any (n b : Int) (b1 : 1 ≤ b) (b2 : b ≤ 32) (w : World) :
    Calls Tryz.prog 47 #[.int .i64 n, .int .i64 b] w fun e w' => e = .returned (.int .i64 (n % (2 * hf b))) ∧ w' = w := by
  have k := hf_bd b b1 b2
  have C := mkHid (rmod_any n (2 * hf b) (by omega) (by omega))
  have e := sh0 b b1 b2
  generalize n % (2 * hf b) = c at *
  generalize 2 * hf b = m at *
  go_enter Tryz.func47, Tryz.ntmps47
  go_wp2_with fail
  refine (C.out _).mono ?_
  rintro e w1 ⟨rfl, rfl⟩
  go_wp2
  go_ret
  exact ⟨rfl, rfl⟩
theorem rcrop_no (n b : Int) (h : b < 1 ∨ 32 < b) (w : World) :
    Calls Tryz.prog 47 #[.int .i64 n, .int .i64 b] w fun e w' => e = .returned (.int .i64 0) ∧ w' = w := by
  rcases h with h | h
  · go_enter Tryz.func47, Tryz.ntmps47
    go_wp2
    go_ret
    exact ⟨rfl, rfl⟩
  · go_enter Tryz.func47, Tryz.ntmps47
    go_wp2
    go_ret
    exact ⟨rfl, rfl⟩
theorem rnear_no (l v b : Int) (h : b < 1 ∨ 32 < b) (w : World) :
    Calls Tryz.prog 51 #[.int .i64 l, .int .i64 v, .int .i64 b] w fun e w' => e = .returned (.int .i64 l) ∧ w' = w := by
  rcases h with h | h
  · go_enter Tryz.func51, Tryz.ntmps51
    go_wp2
    go_ret
    exact ⟨rfl, rfl⟩
  · go_enter Tryz.func51, Tryz.ntmps51
    go_wp2
    go_ret
    exact ⟨rfl, rfl⟩
set_option maxHeartbeats 400000 in
theorem rnear_in (l v b m h p q u : Int) (b1 : 1 ≤ b) (b2 : b ≤ 32) (l1 : -1152921504606846976 < l) (l2 : l < 1152921504606846976) (s : wrap64 (2 ^ b.toNat) = m) (m1 : m ≤ 2 * h) (m2 : 2 * h ≤ m) (h1 : 1 ≤ h) (h2 : h ≤ 2147483648)
    (ep : v.tmod m = p) (p1 : -m < p) (p2 : p < m) (eq : l.tmod m = q) (q1 : -m < q) (q2 : q < m) (u0 : 0 ≤ u) (u1 : u < m)
    (C : Hid (∀ w, Calls Tryz.prog 69 #[.int .i64 (p - q), .int .i64 m] w fun e w' => e = .returned (.int .i64 u) ∧ w' = w)) (w : World) :
    Calls Tryz.prog 51 #[.int .i64 l, .int .i64 v, .int .i64 b] w fun e w' => e = .returned (.int .i64 (if u ≤ h then l + u else l + u - m)) ∧ Below w.heap.size w w' := by
  have hne : ¬ m = 0 := by omega
  have e2 : m.tdiv 2 = h := by rw [show m = h * 2 by omega]; exact Int.mul_tdiv_cancel _ (by decide)
  have e3 : m / 2 = h := by omega
  by_cases hu : u ≤ h
  · rw [if_pos hu]
    go_enter Tryz.func51, Tryz.ntmps51
    go_wp2
    try rw [s]
    go_quiet ((go_at_call 69; exact Calls.quiet_of_same (C.out _)))
    go_wp2
    go_ret
    exact ⟨rfl, below_drewN (Below.refl _ _) _⟩
  · rw [if_neg hu]
    have hv : h < u := by omega
    clear hu
    go_enter Tryz.func51, Tryz.ntmps51
    go_wp2
    try rw [s]
    go_quiet ((go_at_call 69; exact Calls.quiet_of_same (C.out _)))
    go_wp2
    go_ret
    exact ⟨rfl, below_drewN (Below.refl _ _) _⟩
set_option maxHeartbeats 400000 in
theorem rnear_lo (l v b m h p q u : Int) (b1 : 1 ≤ b) (b2 : b ≤ 32) (l1 : l ≤ -1152921504606846976) (s : wrap64 (2 ^ b.toNat) = m) (m1 : m ≤ 2 * h) (m2 : 2 * h ≤ m) (h1 : 1 ≤ h) (h2 : h ≤ 2147483648)
    (ep : v.tmod m = p) (p1 : -m < p) (p2 : p < m) (eq : (-1152921504606846976 : Int).tmod m = q) (q1 : -m < q) (q2 : q < m) (u0 : 0 ≤ u) (u1 : u < m)
    (C : Hid (∀ w, Calls Tryz.prog 69 #[.int .i64 (p - q), .int .i64 m] w fun e w' => e = .returned (.int .i64 u) ∧ w' = w)) (w : World) :
    Calls Tryz.prog 51 #[.int .i64 l, .int .i64 v, .int .i64 b] w fun e w' => e = .returned (.int .i64 (if u ≤ h then (-1152921504606846976 : Int) + u else (-1152921504606846976 : Int) + u - m)) ∧ Below w.heap.size w w' := by
  have hne : ¬ m = 0 := by omega
  have e2 : m.tdiv 2 = h := by rw [show m = h * 2 by omega]; exact Int.mul_tdiv_cancel _ (by decide)
  have e3 : m / 2 = h := by omega
  by_cases hu : u ≤ h
  · rw [if_pos hu]
    go_enter Tryz.func51, Tryz.ntmps51
    go_wp2
    try rw [s]
    go_quiet ((go_at_call 69; exact Calls.quiet_of_same (C.out _)))
    go_wp2
    go_ret
    exact ⟨rfl, below_drewN (Below.refl _ _) _⟩
  · rw [if_neg hu]
    have hv : h < u := by omega
    clear hu
    go_enter Tryz.func51, Tryz.ntmps51
    go_wp2
    try rw [s]
    go_quiet ((go_at_call 69; exact Calls.quiet_of_same (C.out _)))
    go_wp2
    go_ret
    exact ⟨rfl, below_drewN (Below.refl _ _) _⟩
set_option maxHeartbeats 400000 in
theorem rnear_hi (l v b m h p q u : Int) (b1 : 1 ≤ b) (b2 : b ≤ 32) (l1 : 1152921504606846976 < l) (s : wrap64 (2 ^ b.toNat) = m) (m1 : m ≤ 2 * h) (m2 : 2 * h ≤ m) (h1 : 1 ≤ h) (h2 : h ≤ 2147483648)
    (ep : v.tmod m = p) (p1 : -m < p) (p2 : p < m) (eq : (1152921504606846976 : Int).tmod m = q) (q1 : -m < q) (q2 : q < m) (u0 : 0 ≤ u) (u1 : u < m)
    (C : Hid (∀ w, Calls Tryz.prog 69 #[.int .i64 (p - q), .int .i64 m] w fun e w' => e = .returned (.int .i64 u) ∧ w' = w)) (w : World) :
    Calls Tryz.prog 51 #[.int .i64 l, .int .i64 v, .int .i64 b] w fun e w' => e = .returned (.int .i64 (if u ≤ h then (1152921504606846976 : Int) + u else (1152921504606846976 : Int) + u - m)) ∧ Below w.heap.size w w' := by
  have hne : ¬ m = 0 := by omega
  have e2 : m.tdiv 2 = h := by rw [show m = h * 2 by omega]; exact Int.mul_tdiv_cancel _ (by decide)
  have e3 : m / 2 = h := by omega
  by_cases hu : u ≤ h
  · rw [if_pos hu]
    go_enter Tryz.func51, Tryz.ntmps51
    go_wp2
    try rw [s]
    go_quiet ((go_at_call 69; exact Calls.quiet_of_same (C.out _)))
    go_wp2
    go_ret
    exact ⟨rfl, below_drewN (Below.refl _ _) _⟩
  · rw [if_neg hu]
    have hv : h < u := by omega
    clear hu
    go_enter Tryz.func51, Tryz.ntmps51
    go_wp2
    try rw [s]
    go_quiet ((go_at_call 69; exact Calls.quiet_of_same (C.out _)))
    go_wp2
    go_ret
    exact ⟨rfl, below_drewN (Below.refl _ _) _⟩
set_option maxHeartbeats 400000 in
theorem rnear_pt (v b m h p q u : Int) (b1 : 1 ≤ b) (b2 : b ≤ 32) (s : wrap64 (2 ^ b.toNat) = m) (m1 : m ≤ 2 * h) (m2 : 2 * h ≤ m) (h1 : 1 ≤ h) (h2 : h ≤ 2147483648)
    (ep : v.tmod m = p) (p1 : -m < p) (p2 : p < m) (eq : (1152921504606846976 : Int).tmod m = q) (q1 : -m < q) (q2 : q < m) (u0 : 0 ≤ u) (u1 : u < m)
    (C : Hid (∀ w, Calls Tryz.prog 69 #[.int .i64 (p - q), .int .i64 m] w fun e w' => e = .returned (.int .i64 u) ∧ w' = w)) (w : World) :
    Calls Tryz.prog 51 #[.int .i64 1152921504606846976, .int .i64 v, .int .i64 b] w fun e w' => e = .returned (.int .i64 (if u ≤ h then (1152921504606846976 : Int) + u else (1152921504606846976 : Int) + u - m)) ∧ Below w.heap.size w w' := by
  have hne : ¬ m = 0 := by omega
  have e2 : m.tdiv 2 = h := by rw [show m = h * 2 by omega]; exact Int.mul_tdiv_cancel _ (by decide)
  have e3 : m / 2 = h := by omega
  by_cases hu : u ≤ h
  · rw [if_pos hu]
    go_enter Tryz.func51, Tryz.ntmps51
    go_wp2
    try rw [s]
    go_quiet ((go_at_call 69; exact Calls.quiet_of_same (C.out _)))
    go_wp2
    go_ret
    exact ⟨rfl, below_drewN (Below.refl _ _) _⟩
  · rw [if_neg hu]
    have hv : h < u := by omega
    clear hu
    go_enter Tryz.func51, Tryz.ntmps51
    go_wp2
    try rw [s]
    go_quiet ((go_at_call 69; exact Calls.quiet_of_same (C.out _)))
    go_wp2
    go_ret
    exact ⟨rfl, below_drewN (Below.refl _ _) _⟩
theorem rnear_any (l v b : Int) (b1 : 1 ≤ b) (b2 : b ≤ 32) (w : World) :
    Calls Tryz.prog 51 #[.int .i64 l, .int .i64 v, .int .i64 b] w fun e w' => e = .returned (.int .i64 (nV (hf b) (clV l) v)) ∧ Below w.heap.size w w' := by
  have k := hf_bd b b1 b2
  have s := sh0 b b1 b2
  have hm : 0 < 2 * hf b := by omega
  have C := mkHid (rmod_any (v.tmod (2 * hf b) - (clV l).tmod (2 * hf b)) (2 * hf b) (by omega) (by omega))
  rw [tm_sub v (clV l) (2 * hf b) hm] at C
  have t1 := tm_bd v (2 * hf b) hm
  have t2 := tm_bd (clV l) (2 * hf b) hm
  unfold nV
  have u0 := Int.emod_nonneg (v - clV l) (show 2 * hf b ≠ 0 by omega)
  have u1 := Int.emod_lt_of_pos (v - clV l) hm
  by_cases g1 : l ≤ -1152921504606846976
  · have e : clV l = -1152921504606846976 := by unfold clV; split <;> (try split) <;> omega
    rw [e] at C t2 u0 u1 ⊢
    exact rnear_lo l v b _ _ _ _ _ b1 b2 g1 s (by omega) (by omega) k.1 k.2 rfl t1.1 t1.2 rfl t2.1 t2.2 u0 u1 C w
  by_cases g2 : 1152921504606846976 < l
  · have e : clV l = 1152921504606846976 := by unfold clV; split <;> (try split) <;> omega
    rw [e] at C t2 u0 u1 ⊢
    exact rnear_hi l v b _ _ _ _ _ b1 b2 g2 s (by omega) (by omega) k.1 k.2 rfl t1.1 t1.2 rfl t2.1 t2.2 u0 u1 C w
  by_cases g3 : l = 1152921504606846976
  · subst g3
    have e : clV 1152921504606846976 = 1152921504606846976 := by decide
    rw [e] at C t2 u0 u1 ⊢
    exact rnear_pt v b _ _ _ _ _ b1 b2 s (by omega) (by omega) k.1 k.2 rfl t1.1 t1.2 rfl t2.1 t2.2 u0 u1 C w
  have e : clV l = l := by unfold clV; split <;> (try split) <;> omega
  rw [e] at C t2 u0 u1 ⊢
  exact rnear_in l v b _ _ _ _ _ b1 b2 (by omega) (by omega) s (by omega) (by omega) k.1 k.2 rfl t1.1 t1.2 rfl t2.1 t2.2 u0 u1 C w

theorem rafter_bad (a b k : Int) (h : k < 1 ∨ 32 < k) (w : World) :
    Calls Tryz.prog 71 #[.int .i64 a, .int .i64 b, .int .i64 k] w fun e w' => e = .returned (.bool false) ∧ w' = w := by
  rcases h with h | h
  · go_enter Tryz.func71, Tryz.ntmps71
    go_wp2
    go_ret
    exact ⟨rfl, rfl⟩
  · go_enter Tryz.func71, Tryz.ntmps71
    go_wp2
    go_ret
    exact ⟨rfl, rfl⟩
set_option maxHeartbeats 400000 in
theorem rafter_no (a b k : Int) (k1 : 1 ≤ k) (k2 : k ≤ 32) (h : a < 0 ∨ 2 * hf k ≤ a ∨ b < 0 ∨ 2 * hf k ≤ b) (w : World) :
    Calls Tryz.prog 71 #[.int .i64 a, .int .i64 b, .int .i64 k] w fun e w' => e = .returned (.bool false) ∧ w' = w := by
  have s := sh0 k k1 k2
  have kh := hf_bd k k1 k2
  have hm0 : 0 < 2 * hf k := by omega
  generalize 2 * hf k = m at *
  clear kh
  by_cases ha : a < 0
  · clear h
    go_enter Tryz.func71, Tryz.ntmps71
    go_wp2
    go_ret
    exact ⟨rfl, rfl⟩
  by_cases hb : b < 0
  · clear h
    go_enter Tryz.func71, Tryz.ntmps71
    go_wp2
    go_ret
    exact ⟨rfl, rfl⟩
  by_cases hc : m ≤ a
  · clear h
    go_enter Tryz.func71, Tryz.ntmps71
    go_wp2
    go_ret
    exact ⟨rfl, rfl⟩
  have hd : m ≤ b := by omega
  clear h
  go_enter Tryz.func71, Tryz.ntmps71
  go_wp2
  go_ret
  exact ⟨rfl, rfl⟩
set_option maxHeartbeats 400000 in
theorem rafter_any (a b k : Int) (k1 : 1 ≤ k) (k2 : k ≤ 32) (a1 : 0 ≤ a) (a2 : a < 2 * hf k) (c1 : 0 ≤ b) (c2 : b < 2 * hf k) (w : World) :
    Calls Tryz.prog 71 #[.int .i64 a, .int .i64 b, .int .i64 k] w fun e w' => e = .returned (.bool (aV (hf k) a b)) ∧ w' = w := by
  have s := sh0 k k1 k2
  have s1 := sh1 k k1 k2
  have kh := hf_bd k k1 k2
  have C := mkHid (rcrop_any (a - b) k k1 k2)
  have u0 := Int.emod_nonneg (a - b) (show 2 * hf k ≠ 0 by omega)
  unfold aV
  generalize (a - b) % (2 * hf k) = u at *
  have m1 : 2 * hf k ≤ 4294967296 := by omega
  generalize 2 * hf k = m at *
  generalize hf k = h at *
  by_cases hu : 0 < u
  · have hu1 : 1 ≤ u := hu
    go_enter Tryz.func71, Tryz.ntmps71
    go_wp2_with fail
    refine (C.out _).mono ?_
    rintro e w1 ⟨rfl, rfl⟩
    go_wp2
    go_ret
    exact ⟨ret_b (decide_eq_decide.mpr (by omega)), rfl⟩
  · have hu1 : ¬ 1 ≤ u := by omega
    go_enter Tryz.func71, Tryz.ntmps71
    go_wp2_with fail
    refine (C.out _).mono ?_
    rintro e w1 ⟨rfl, rfl⟩
    go_wp2
    go_ret
    exact ⟨ret_b (by rw [decide_eq_false (show ¬ 0 < u by omega), Bool.false_and]), rfl⟩
end Go.Proofs.YtdhbakknplnnkaaGreat.Wr
