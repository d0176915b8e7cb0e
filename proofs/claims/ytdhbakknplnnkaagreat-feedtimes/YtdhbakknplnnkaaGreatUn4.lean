/-
  What the reference's functions of layer 4 hand back for every input.
-/
import Derived.Test.YtdhbakknplnnkaaGreatUn3
import Derived.Test.YtdhbakknplnnkaaGreatUn2
import Derived.BigQuiet
namespace Go.Proofs.YtdhbakknplnnkaaGreat.Un
open Go.RowKit

theorem field_any (x y : Value) (w : World) : (Instr.field 139 (.agg #[x, y]) 0).run Tryz.prog w = .ok x w := by kernel_rfl
theorem rdo_any (a b c how : Int) (a1 : -9223372036854775808 ≤ a) (a2 : a ≤ 9223372036854775807) (b1 : -9223372036854775808 ≤ b) (b2 : b ≤ 9223372036854775807) (c1 : -9223372036854775808 ≤ c) (c2 : c ≤ 9223372036854775807) (w : World) :
    Calls Tryz.prog 48 #[.int .i64 a, .int .i64 b, .int .i64 c, .int .i64 how] w fun e w' => e = .returned (.int .i64 (mdV a b c how)) ∧ Below w.heap.size w w' := by
  have C := mkHid (did_any a b c how a1 a2 b1 b2 c1 c2)
  have ff := field_any
  go_enter Tryz.func48, Tryz.ntmps48
  go_wp2_with fail
  refine (C.out _).mono ?_
  rintro e w1 ⟨rfl, hb1⟩
  go_wp2
  go_ret
  exact ⟨rfl, hb1⟩
theorem i64_and32 (n : Int) : bits .and .i64 n 4294967295 = n % 4294967296 := by
  have hm : (BitVec.ofInt 64 4294967295).toNat = 2 ^ 32 - 1 := by decide
  have key : (BitVec.ofInt 64 n &&& BitVec.ofInt 64 4294967295).toNat = (n % ((2 ^ 64 : Nat) : Int)).toNat % 2 ^ 32 := by
    rw [BitVec.toNat_and, BitVec.toNat_ofInt, hm, Nat.and_two_pow_sub_one_eq_mod]
  show IntKind.i64.wrap ((BitVec.ofInt 64 n &&& BitVec.ofInt 64 4294967295).toNat : Nat) = n % 4294967296
  rw [key, IntKind.wrap_i64]
  omega
theorem rclamp_any (a lo hi : Int) (h : lo ≤ hi) (w : World) :
    Calls Tryz.prog 22 #[.int .i64 a, .int .i64 lo, .int .i64 hi] w fun e w' => e = .returned (.int .i64 (clV a lo hi)) ∧ w' = w := by
  go_each [a < lo, hi < a] => (
    go_enter Tryz.func22, Tryz.ntmps22
    go_wp2
    go_ret
    exact ⟨ret_i (by unfold clV; repeat' split <;> omega), rfl⟩)

theorem tm_pos (n : Int) (h : 0 ≤ n) : n.tmod 4294967296 = n % 4294967296 := Int.tmod_eq_emod_of_nonneg h
theorem tm_neg (n : Int) (h : n < 0) : n.tmod 4294967296 = -(-n % 4294967296) := by
  have := Int.neg_tmod (-n) 4294967296
  rw [Int.neg_neg] at this
  rw [this, tm_pos (-n) (by omega)]
theorem tm_bd (n : Int) : -4294967296 < n.tmod 4294967296 ∧ n.tmod 4294967296 < 4294967296 ∧ n.tmod 4294967296 % 4294967296 = n % 4294967296 := by
  by_cases h : 0 ≤ n
  · rw [tm_pos n h]; omega
  · rw [tm_neg n (by omega)]; omega
theorem tm_mod (n : Int) : (n.tmod 4294967296 + 4294967296).tmod 4294967296 = n % 4294967296 := by
  have := tm_bd n
  rw [tm_pos _ (by omega)]; omega

theorem rmod_any (n : Int) (w : World) :
    Calls Tryz.prog 69 #[.int .i64 n, .int .i64 4294967296] w fun e w' => e = .returned (.int .i64 (n % 4294967296)) ∧ w' = w := by
  have k := tm_bd n
  have e := tm_mod n
  go_enter Tryz.func69, Tryz.ntmps69
  go_wp2
  go_ret
  exact ⟨ret_i (by first | exact e | omega), rfl⟩

set_option maxHeartbeats 1000000 in
theorem rnear_any (c s : Int) (c1 : -1152921504606846976 < c) (c2 : c < 1152921504606846976) (s1 : 0 ≤ s) (w : World) :
    Calls Tryz.prog 51 #[.int .i64 c, .int .i64 s, .int .i64 32] w fun e w' => e = .returned (.int .i64 (nrV c s)) ∧ Below w.heap.size w w' := by
  have k := tm_bd c
  have e1 := tm_pos s s1
  have C := mkHid (rmod_any (s % 4294967296 - c.tmod 4294967296))
  have e : (s % 4294967296 - c.tmod 4294967296) % 4294967296 = (s - c) % 4294967296 := by omega
  rw [e] at C
  unfold nrV
  have u0 : 0 ≤ (s - c) % 4294967296 := by omega
  have u1 : (s - c) % 4294967296 < 4294967296 := by omega
  generalize (s - c) % 4294967296 = u at *
  by_cases h : u ≤ 2147483648
  · rw [if_pos h]
    go_enter Tryz.func51, Tryz.ntmps51
    go_wp2
    go_quiet ((go_at_call 69; exact Calls.quiet_of_same (C.out _)))
    go_wp2
    go_ret
    exact ⟨rfl, below_drewN (Below.refl _ _) _⟩
  · rw [if_neg h]
    go_enter Tryz.func51, Tryz.ntmps51
    go_wp2
    go_quiet ((go_at_call 69; exact Calls.quiet_of_same (C.out _)))
    go_wp2
    go_ret
    exact ⟨rfl, below_drewN (Below.refl _ _) _⟩

set_option maxHeartbeats 1000000 in
theorem rfrom_any (s near : Int) (s1 : 0 ≤ s) (s2 : s < 4294967296) (w : World) :
    Calls Tryz.prog 46 #[.int .u32 s, .int .i64 near] w fun e w' => e = .returned (.int .i64 (frV s near)) ∧ Below w.heap.size w w' := by
  have C1 := mkHid (rclamp_any near (-1125899906842624) 1125899906842624 (by omega))
  have k := cl_bd near
  unfold frV
  generalize clV near (-1125899906842624) 1125899906842624 = t at *
  have C2 := mkHid (rdo_any t 65536 1000000 1 (by omega) (by omega) (by omega) (by omega) (by omega) (by omega))
  have l := (ct_bd t k.1 k.2).1
  have l1 : -1152921504606846976 < mdV t 65536 1000000 1 := by rw [l]; omega
  have l2 : mdV t 65536 1000000 1 < 1152921504606846976 := by rw [l]; omega
  clear l
  generalize mdV t 65536 1000000 1 = c at *
  have C3 := mkHid (rnear_any c s l1 l2 s1)
  have m := nr_bd c s
  generalize nrV c s = n at *
  have C4 := mkHid (rdo_any n 1000000 65536 3 (by omega) (by omega) (by omega) (by omega) (by omega) (by omega))
  generalize mdV n 1000000 65536 3 = r at *
  go_enter Tryz.func46, Tryz.ntmps46
  go_wp2_with fail
  refine (C1.out _).mono ?_
  rintro e w1 ⟨rfl, rfl⟩
  go_wp2_with fail
  refine (C2.out _).mono ?_
  rintro e w2 ⟨rfl, hb2⟩
  go_wp2_with fail
  refine (carry hb2 (C3.out _)).mono ?_
  rintro e w3 ⟨rfl, hb3⟩
  go_wp2_with fail
  refine (carry hb3 (C4.out _)).mono ?_
  rintro e w4 ⟨rfl, hb4⟩
  go_wp2
  go_ret
  exact ⟨rfl, hb4⟩

end Go.Proofs.YtdhbakknplnnkaaGreat.Un
