/-
  The reference's quotient: bit by bit.
-/
import Derived.Test.YtjeffjpenhhnnaaQuot
import Derived.Test.YtjeffjpenhhnnaaPlainC
namespace Go.Proofs.Ytjeffjpenhhnnaa
open Go.RowKit

set_option maxHeartbeats 400000 in
theorem rsize_any (a : Int) (a1 : -9223372036854775808 ≤ a) (a2 : a ≤ 9223372036854775807) (w : World) :
    Calls Try.prog 52 #[.int .i64 a] w fun e w' => e = .returned (.int .u64 (ab a)) ∧ w' = w := by
  by_cases h : a < 0
  · go_enter Try.func52, Try.ntmps52
    go_wp2
    go_ret
    exact ⟨ret_int (by unfold ab; rw [if_pos h]; (try simp only [IntKind.wrap_u64]); (try unfold wrap64); omega), rfl⟩
  · go_enter Try.func52, Try.ntmps52
    go_wp2
    go_ret
    exact ⟨ret_int (size_pos a (by omega)), rfl⟩

set_option maxHeartbeats 400000 in
theorem times_any (x y : Int) (x1 : 0 ≤ x) (x2 : x < 18446744073709551616) (y1 : 0 ≤ y) (y2 : y < 18446744073709551616) (w : World) :
    Calls Try.prog 51 #[.int .u64 x, .int .u64 y] w fun e w' => e = .returned (.agg #[.int .u64 (x * y / 18446744073709551616), .int .u64 (x * y % 18446744073709551616)]) ∧ ∃ o1, w' = w.alloc o1 := by
  go_enter Try.func51, Try.ntmps51
  go_wp2
  go_returns
  refine ⟨?_, _, rfl⟩
  simp only [u64_and32, IntKind.wrap_u64]
  rw [(rtimes x y x1 x2 y1 y2).1, (rtimes x y x1 x2 y1 y2).2]

theorem idx_step (k : Nat) : Value.int .i64 (127 - (k : Int) - 1) = .int .i64 (127 - ((k + 1 : Nat) : Int)) := by
  have e : (127 : Int) - (k : Int) - 1 = 127 - ((k + 1 : Nat) : Int) := by omega
  rw [e]
set_option maxHeartbeats 1000000 in
theorem part_any (W c : Int) (h0 : 0 ≤ W) (h1 : W < 340282366920938463463374607431768211456) (c0 : 0 < c) (c1 : c ≤ 9223372036854775808) (w : World) :
    Calls Try.prog 50 #[.agg #[.int .u64 (W / 18446744073709551616), .int .u64 (W % 18446744073709551616)], .int .u64 c] w fun e w' => e = .returned (.agg #[.int .u64 (W / c % 18446744073709551616), .bool (decide (18446744073709551616 ≤ W / c)), .int .u64 (W % c)]) ∧ ∃ o1 o2 o3, w' = ((w.alloc o1).alloc o2).alloc o3 := by
  go_enter Try.func50, Try.ntmps50
  go_wp2
  go_loopw [6] (fun i wr => ∃ (k : Nat) (T R Q l : Int), k ≤ 128 ∧ i = .int .i64 (127 - k) ∧ PartInv W c k T R Q l ∧
    wr = ((w.alloc (.cells #[.int .u64 (R / 18446744073709551616), .int .u64 (R % 18446744073709551616)] 85)).alloc (.cells #[.int .u64 0, .bool false, .int .u64 0] 82)).alloc (.cells #[.int .u64 (Q % 18446744073709551616), .bool (decide (18446744073709551616 ≤ Q)), .int .u64 l] 82)) (fun i _ => (intOf i + 1).toNat)
  case atStart =>
    exact ⟨0, 0, W, 0, 0, by omega, rfl, part_start W c h0 h1 c0, rfl⟩
  case round =>
    obtain ⟨k, T, R, Q, l, hk, rfl, I, rfl⟩ := hrel
    have HI := mkHid I
    obtain ⟨he, r0, r1, ht, l0, l1, q0⟩ := I
    clear he ht
    have hb : 0 ≤ R / 18446744073709551616 / 9223372036854775808 ∧ R / 18446744073709551616 / 9223372036854775808 ≤ 1 := by omega
    by_cases hlt : k < 128
    · go_wp2
      all_goals go_roundw
      case rel =>
        refine ⟨k + 1, _, _, _, _, hlt, idx_step k, part_next1 HI.out (by assumption), ?_⟩
        rw [(part_words R).1, (part_words R).2, part_q1, part_o Q 1 q0 (by omega) (by omega)]
      case measure => simp [intOf]; omega
      case rel =>
        refine ⟨k + 1, _, _, _, _, hlt, idx_step k, part_next0 HI.out (by assumption), ?_⟩
        rw [(part_words R).1, (part_words R).2, part_q0, part_o Q 0 q0 (by omega) (by omega), Int.add_zero]
      case measure => simp [intOf]; omega
      case rel =>
        refine ⟨k + 1, _, _, _, _, hlt, idx_step k, part_next1 HI.out (by assumption), ?_⟩
        rw [(part_words R).1, (part_words R).2, part_q1, part_t Q 1 (by omega) (by assumption)]
      case measure => simp [intOf]; omega
      case rel =>
        refine ⟨k + 1, _, _, _, _, hlt, idx_step k, part_next0 HI.out (by assumption), ?_⟩
        rw [(part_words R).1, (part_words R).2, part_q0, part_t Q 0 (by omega) (by assumption), Int.add_zero]
      case measure => simp [intOf]; omega
    · have hk' : k = 128 := by omega
      subst hk'
      have E := part_end HI.out
      go_wp2
      go_returns
      exact ⟨rfl, _, _, _, rfl⟩
end Go.Proofs.Ytjeffjpenhhnnaa
