/-
  What the reference's functions of layer 5 hand back for every input.
-/
import Derived.Test.YtmnpghelglohlaaWrA
namespace Go.Proofs.Ytmnpghelglohlaa
open Go.RowKit

theorem rmod_any (n m : Int) (m1 : 0 < m) (m2 : m ≤ 4294967296) (w : World) :
    Calls Try.prog 40 #[.int .i64 n, .int .i64 m] w fun e w' => e = .returned (.int .i64 (n % m)) ∧ w' = w := by
  have k := tm_bd n m m1
  have e := tm_mod n m m1
  have hne : ¬ m = 0 := by omega
  have h0 := Int.emod_nonneg n hne
  have h1 := Int.emod_lt_of_pos n m1
  go_enter Try.func40, Try.ntmps40
  go_wp2
  go_ret
  exact ⟨by first | rfl | exact ret_i e, rfl⟩
theorem rcrop_any (n b : Int) (b1 : 1 ≤ b) (b2 : b ≤ 32) (w : World) :
    Calls Try.prog 24 #[.int .i64 n, .int .i64 b] w fun e w' => e = .returned (.int .i64 (n % (2 * hf b))) ∧ w' = w := by
  have k := hf_bd b b1 b2
  have C := mkHid (rmod_any n (2 * hf b) (by omega) (by omega))
  have e := sh0 b b1 b2
  generalize n % (2 * hf b) = c at *
  generalize 2 * hf b = m at *
  go_enter Try.func24, Try.ntmps24
  go_wp2_with fail
  refine (C.out _).mono ?_
  rintro e w1 ⟨rfl, rfl⟩
  go_wp2
  go_ret
  exact ⟨rfl, rfl⟩
theorem rcrop_no (n b : Int) (h : b < 1 ∨ 32 < b) (w : World) :
    Calls Try.prog 24 #[.int .i64 n, .int .i64 b] w fun e w' => e = .returned (.int .i64 0) ∧ w' = w := by
  rcases h with h | h
  · go_enter Try.func24, Try.ntmps24
    go_wp2
    go_ret
    exact ⟨rfl, rfl⟩
  · go_enter Try.func24, Try.ntmps24
    go_wp2
    go_ret
    exact ⟨rfl, rfl⟩
theorem rafter_bad (a b k : Int) (h : k < 1 ∨ 32 < k) (w : World) :
    Calls Try.prog 38 #[.int .i64 a, .int .i64 b, .int .i64 k] w fun e w' => e = .returned (.bool false) ∧ w' = w := by
  rcases h with h | h
  · go_enter Try.func38, Try.ntmps38
    go_wp2
    go_ret
    exact ⟨rfl, rfl⟩
  · go_enter Try.func38, Try.ntmps38
    go_wp2
    go_ret
    exact ⟨rfl, rfl⟩
set_option maxHeartbeats 400000 in
theorem rafter_no (a b k : Int) (k1 : 1 ≤ k) (k2 : k ≤ 32) (h : a < 0 ∨ 2 * hf k ≤ a ∨ b < 0 ∨ 2 * hf k ≤ b) (w : World) :
    Calls Try.prog 38 #[.int .i64 a, .int .i64 b, .int .i64 k] w fun e w' => e = .returned (.bool false) ∧ w' = w := by
  have s := sh0 k k1 k2
  have kh := hf_bd k k1 k2
  have hm0 : 0 < 2 * hf k := by omega
  generalize 2 * hf k = m at *
  clear kh
  by_cases ha : a < 0
  · clear h
    go_enter Try.func38, Try.ntmps38
    go_wp2
    go_ret
    exact ⟨rfl, rfl⟩
  by_cases hb : b < 0
  · clear h
    go_enter Try.func38, Try.ntmps38
    go_wp2
    go_ret
    exact ⟨rfl, rfl⟩
  by_cases hc : m ≤ a
  · clear h
    go_enter Try.func38, Try.ntmps38
    go_wp2
    go_ret
    exact ⟨rfl, rfl⟩
  have hd : m ≤ b := by omega
  clear h
  go_enter Try.func38, Try.ntmps38
  go_wp2
  go_ret
  exact ⟨rfl, rfl⟩
set_option maxHeartbeats 400000 in
theorem rafter_any (a b k : Int) (k1 : 1 ≤ k) (k2 : k ≤ 32) (a1 : 0 ≤ a) (a2 : a < 2 * hf k) (c1 : 0 ≤ b) (c2 : b < 2 * hf k) (w : World) :
    Calls Try.prog 38 #[.int .i64 a, .int .i64 b, .int .i64 k] w fun e w' => e = .returned (.bool (aV (hf k) a b)) ∧ w' = w := by
  have s := sh0 k k1 k2
  have s1 := sh1 k k1 k2
  have kh := hf_bd k k1 k2
  have C := mkHid (rcrop_any (a - b) k k1 k2)
  have u0 := Int.emod_nonneg (a - b) (show 2 * hf k ≠ 0 by omega)
  unfold aV
  generalize (a - b) % (2 * hf k) = u at *
  have m1 : 2 * hf k ≤ 4294967296 := by omega
  generalize 2 * hf k = m at *
  generalize hf k = h at *
  by_cases hu : 0 < u
  · have hu1 : 1 ≤ u := hu
    go_enter Try.func38, Try.ntmps38
    go_wp2_with fail
    refine (C.out _).mono ?_
    rintro e w1 ⟨rfl, rfl⟩
    go_wp2
    go_ret
    exact ⟨ret_b (decide_eq_decide.mpr (by omega)), rfl⟩
  · have hu1 : ¬ 1 ≤ u := by omega
    go_enter Try.func38, Try.ntmps38
    go_wp2_with fail
    refine (C.out _).mono ?_
    rintro e w1 ⟨rfl, rfl⟩
    go_wp2
    go_ret
    exact ⟨ret_b (by rw [decide_eq_false (show ¬ 0 < u by omega), Bool.false_and]), rfl⟩
end Go.Proofs.Ytmnpghelglohlaa
