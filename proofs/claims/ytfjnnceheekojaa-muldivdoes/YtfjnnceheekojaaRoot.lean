/-
  The whole root: both functions.
-/
import Derived.Test.YtfjnnceheekojaaQuot
namespace Go.Proofs.Ytfjnnceheekojaa
open Go.RowKit

/-- r is the greatest number whose square is at most a. -/
def IsRoot (a r : Int) : Prop := 0 ≤ r ∧ r * r ≤ a ∧ a < (r + 1) * (r + 1)
/-- Behind k rounds: the root's upper bits stand. -/
structure RootInv (a : Int) (k : Nat) (r : Int) : Prop where
  j : ∃ j : Nat, r = ((2 ^ (32 - k) * j : Nat) : Int)
  lo : r * r ≤ a
  hi : a < (r + 2 ^ (32 - k)) * (r + 2 ^ (32 - k))
theorem sq_lt {x y : Int} (h0 : 0 ≤ x) (h : x < y) : x * x < y * y := Int.mul_lt_mul' (Int.le_of_lt h) h h0 (by omega)
theorem sq_le {x y : Int} (h0 : 0 ≤ x) (h : x ≤ y) : x * x ≤ y * y := Int.mul_le_mul h h h0 (by omega)
theorem lt_of_sq {x y : Int} (hy : 0 ≤ y) (h : x * x < y * y) : x < y := by
  rcases Int.lt_or_le x y with h1 | h1
  · exact h1
  · have := sq_le hy h1; omega
theorem root_unique {a r s : Int} (hr : IsRoot a r) (hs : IsRoot a s) : r = s := by
  obtain ⟨r0, r1, r2⟩ := hr
  obtain ⟨s0, s1, s2⟩ := hs
  have h1 : r < s + 1 := lt_of_sq (by omega) (by omega)
  have h2 : s < r + 1 := lt_of_sq (by omega) (by omega)
  omega
theorem root_bd {a r : Int} (hr : IsRoot a r) (h : a ≤ 9223372036854775807) : r ≤ 3037000499 := by
  obtain ⟨r0, r1, r2⟩ := hr
  have : r < 3037000500 := lt_of_sq (by omega) (by omega)
  omega
theorem root_start (a : Int) (h0 : 0 ≤ a) (h1 : a ≤ 9223372036854775807) : RootInv a 0 0 := ⟨⟨0, by simp⟩, by simpa using h0, by simp; omega⟩
theorem root_end {a r : Int} (I : RootInv a 32 r) : IsRoot a r := by
  obtain ⟨⟨j, hj⟩, lo, hi⟩ := I
  exact ⟨by rw [hj]; exact Int.natCast_nonneg _, lo, by simpa using hi⟩
theorem root_bd2 {a r : Int} {k : Nat} (I : RootInv a k r) (h : a ≤ 9223372036854775807) : 0 ≤ r ∧ r ≤ 3037000499 := by
  obtain ⟨⟨j, hj⟩, lo, hi⟩ := I
  have r0 : 0 ≤ r := by rw [hj]; exact Int.natCast_nonneg _
  have : r < 3037000500 := lt_of_sq (by omega) (by omega)
  omega
theorem bit_cast (k : Nat) (hk : k < 32) : (2 : Int) ^ (32 - k) = 2 * 2 ^ (31 - k) := by
  rw [show 32 - k = (31 - k) + 1 by omega, Int.pow_succ, Int.mul_comm]
theorem bit_natcast (n : Nat) : ((2 ^ n : Nat) : Int) = (2 : Int) ^ n := by rw [Int.natCast_pow]; rfl
theorem bit_bd (k : Nat) (hk : k < 32) : 1 ≤ (2 : Int) ^ (31 - k) ∧ (2 : Int) ^ (31 - k) ≤ 2147483648 := by
  rw [← bit_natcast]
  have h1 : 2 ^ (31 - k) ≤ 2 ^ 31 := Nat.pow_le_pow_right (by decide) (by omega)
  have h2 : 0 < 2 ^ (31 - k) := Nat.two_pow_pos _
  omega
theorem root_take {a r : Int} {k : Nat} (I : RootInv a k r) (hk : k < 32) (h : (r + 2 ^ (31 - k)) * (r + 2 ^ (31 - k)) ≤ a) : RootInv a (k + 1) (r + 2 ^ (31 - k)) := by
  obtain ⟨⟨j, hj⟩, lo, hi⟩ := I
  refine ⟨⟨2 * j + 1, ?_⟩, h, ?_⟩
  · rw [hj, show 32 - (k + 1) = 31 - k by omega, ← bit_natcast, show 32 - k = (31 - k) + 1 by omega, Nat.pow_succ, Nat.mul_add, Nat.mul_one, Nat.mul_assoc]
    omega
  · rw [show 32 - (k + 1) = 31 - k by omega]
    rw [bit_cast k hk] at hi
    rw [show r + 2 ^ (31 - k) + 2 ^ (31 - k) = r + 2 * 2 ^ (31 - k) by omega]
    exact hi
theorem root_skip {a r : Int} {k : Nat} (I : RootInv a k r) (hk : k < 32) (h : a < (r + 2 ^ (31 - k)) * (r + 2 ^ (31 - k))) : RootInv a (k + 1) r := by
  obtain ⟨⟨j, hj⟩, lo, hi⟩ := I
  refine ⟨⟨2 * j, ?_⟩, lo, ?_⟩
  · rw [hj, show 32 - (k + 1) = 31 - k by omega, show 32 - k = (31 - k) + 1 by omega, Nat.pow_succ, Nat.mul_assoc]
  · rw [show 32 - (k + 1) = 31 - k by omega]
    exact h
theorem root_or {a r : Int} {k : Nat} (I : RootInv a k r) (hk : k < 32) (ha : a ≤ 9223372036854775807) : bits .or .u64 r (2 ^ (31 - k)) = r + 2 ^ (31 - k) := by
  have hb := root_bd2 I ha
  have hc := bit_bd k hk
  obtain ⟨⟨j, hj⟩, lo, hi⟩ := I
  have hlt : 2 ^ (31 - k) < 2 ^ (32 - k) := Nat.pow_lt_pow_right (by decide) (by omega)
  rw [← bit_natcast] at *
  have := u64_or j (2 ^ (31 - k)) (32 - k) hlt (by rw [hj] at hb; omega)
  rw [hj, this]; omega
theorem root_room {a r : Int} {k : Nat} (I : RootInv a k r) (hk : k < 32) (ha : a ≤ 9223372036854775807) : r + 2 ^ (31 - k) < 4294967296 := by
  have hb := root_bd2 I ha
  obtain ⟨⟨j, hj⟩, lo, hi⟩ := I
  have hs : 2 ^ (32 - k) * 2 ^ k = 4294967296 := by rw [← Nat.pow_add, show 32 - k + k = 32 by omega]
  have hj1 : j < 2 ^ k := by
    apply Nat.lt_of_mul_lt_mul_left (a := 2 ^ (32 - k))
    rw [hs]; rw [hj] at hb; omega
  have hj2 := Nat.mul_le_mul_left (2 ^ (32 - k)) (show j + 1 ≤ 2 ^ k from hj1)
  rw [hs, Nat.mul_add, Nat.mul_one] at hj2
  have hlt : 2 ^ (31 - k) < 2 ^ (32 - k) := Nat.pow_lt_pow_right (by decide) (by omega)
  rw [← bit_natcast, hj]
  omega
theorem half_bit (k : Nat) (hk : k < 31) : (2 : Int) ^ (31 - k) / 2 = 2 ^ (31 - (k + 1)) := by
  rw [show 31 - k = (31 - (k + 1)) + 1 by omega, Int.pow_succ, Int.mul_ediv_cancel _ (by decide)]
theorem next_bit (k : Nat) (hk : k < 32) : (2 : Int) ^ (31 - k) / 2 = if k + 1 = 32 then 0 else 2 ^ (31 - (k + 1)) := by
  by_cases h : k + 1 = 32
  · rw [if_pos h, show 31 - k = 0 by omega]; rfl
  · rw [if_neg h, half_bit k (by omega)]

set_option maxHeartbeats 1000000 in
theorem root_any (a : Int) (h0 : 0 ≤ a) (h1 : a ≤ 9223372036854775807) (w : World) :
    Calls Try.prog 13 #[.int .i64 a] w fun e w' => (∃ r, IsRoot a r ∧ e = .returned (.int .i64 r)) ∧ w' = w := by
  go_enter Try.func13, Try.ntmps13
  go_wp2
  go_loopw [3, 4] (fun r bit wr => ∃ (k : Nat) (R : Int), k ≤ 32 ∧ r = .int .u64 R ∧ bit = .int .u64 (if k = 32 then 0 else 2 ^ (31 - k)) ∧ RootInv a k R ∧ wr = w) (fun _ bit _ => (intOf bit).toNat)
  case atStart => exact ⟨0, 0, by omega, rfl, rfl, root_start a h0 h1, rfl⟩
  case round =>
    obtain ⟨k, R, hk, rfl, rfl, I, rfl⟩ := hrel
    have HI := mkHid I
    by_cases hlt : k < 32
    · rw [if_neg (by omega)]
      have hr := root_bd2 I h1
      have hb := bit_bd k hlt
      have ho := root_or I hlt h1
      have hroom := root_room I hlt h1
      have HB := mkHid (next_bit k hlt)
      have HT := mkHid (root_take I hlt)
      have HS := mkHid (root_skip I hlt)
      clear I
      generalize hB : (2 : Int) ^ (31 - k) = B at *
      have hm : 0 ≤ (R + B) * (R + B) ∧ (R + B) * (R + B) < 18446744073709551616 := ⟨Int.mul_nonneg (by omega) (by omega), sq_lt (y := 4294967296) (by omega) (by omega)⟩
      go_wp2
      all_goals go_roundw
      case rel => exact ⟨k + 1, _, hlt, rfl, by rw [HB.out], HT.out (by assumption), trivial⟩
      case measure => simp [intOf]; omega
      case rel => exact ⟨k + 1, _, hlt, rfl, by rw [HB.out], HS.out (by assumption), trivial⟩
      case measure => simp [intOf]; omega
    · have hk' : k = 32 := by omega
      subst hk'
      have E := root_end I
      have hr := root_bd2 I h1
      clear I
      rw [if_pos rfl]
      go_wp2
      go_ret
      exact ⟨⟨R, E, rfl⟩, rfl⟩

theorem sq_word {x : Int} (h0 : 0 ≤ x) (h : x ≤ 3037000499) : wrap64 (x * x) = x * x := by
  have h1 := sq_le h0 h
  have h2 := Int.mul_nonneg h0 h0
  unfold wrap64; omega
theorem idx_down (k : Nat) : Value.int .i64 (31 - (k : Int) - 1) = .int .i64 (31 - ((k + 1 : Nat) : Int)) := by
  have e : (31 : Int) - (k : Int) - 1 = 31 - ((k + 1 : Nat) : Int) := by omega
  rw [e]
set_option maxHeartbeats 1000000 in
theorem rroot_any (a : Int) (h0 : 0 ≤ a) (h1 : a ≤ 9223372036854775807) (w : World) :
    Calls Try.prog 14 #[.int .i64 a] w fun e w' => (∃ r, IsRoot a r ∧ e = .returned (.int .i64 r)) ∧ w' = w := by
  go_enter Try.func14, Try.ntmps14
  go_wp2
  go_loopw [3, 4] (fun r i wr => ∃ (k : Nat) (R : Int), k ≤ 32 ∧ r = .int .i64 R ∧ i = .int .i64 (31 - k) ∧ RootInv a k R ∧ wr = w) (fun _ i _ => (intOf i + 1).toNat)
  case atStart => exact ⟨0, 0, by omega, rfl, rfl, root_start a h0 h1, rfl⟩
  case round =>
    obtain ⟨k, R, hk, rfl, rfl, I, rfl⟩ := hrel
    by_cases hlt : k < 32
    · have hr := root_bd2 I h1
      have hb := bit_bd k hlt
      have hroom := root_room I hlt h1
      have HT := mkHid (root_take I hlt)
      have HS := mkHid (root_skip I hlt)
      have hp : (31 - (k : Int)).toNat = 31 - k := by omega
      clear I
      generalize hB : (2 : Int) ^ (31 - k) = B at *
      have hsq : R + B ≤ 3037000499 → wrap64 ((R + B) * (R + B)) = (R + B) * (R + B) := fun h => sq_word (by omega) h
      have HG : Hid (¬ R + B ≤ 3037000499 → a < (R + B) * (R + B)) := fun h => by
        have := sq_le (x := 3037000500) (y := R + B) (by omega) (by omega); omega
      go_wp2
      all_goals go_roundw
      case rel => exact ⟨k + 1, _, hlt, rfl, idx_down k, HT.out (by assumption), trivial⟩
      case measure => simp [intOf]; omega
      case rel => exact ⟨k + 1, _, hlt, rfl, idx_down k, HS.out (by assumption), trivial⟩
      case measure => simp [intOf]; omega
      case rel => exact ⟨k + 1, _, hlt, rfl, idx_down k, HS.out (HG.out (by assumption)), trivial⟩
      case measure => simp [intOf]; omega
    · have hk' : k = 32 := by omega
      subst hk'
      have E := root_end I
      have hr := root_bd2 I h1
      clear I
      go_wp2
      go_ret
      exact ⟨⟨R, E, rfl⟩, rfl⟩

set_option maxHeartbeats 400000 in
theorem root_neg (a : Int) (h0 : a < 0) (w : World) :
    Calls Try.prog 13 #[.int .i64 a] w fun e w' => e = .returned (.int .i64 0) ∧ w' = w := by
  go_enter Try.func13, Try.ntmps13
  go_wp2
  go_ret
  exact ⟨rfl, rfl⟩
end Go.Proofs.Ytfjnnceheekojaa
