/-
  What the functions of package wrap, and of its reference, hand back for every input.
-/
import Derived.Test.YtmnpghelglohlaaWrP
import Derived.BigQuiet
namespace Go.Proofs.Ytmnpghelglohlaa
open Go.RowKit

/-- A call's Below, carried on from an elder world. -/
theorem carry {P : Program} {f : Nat} {args : Array Value} {w w0 : World} {Q : Ending → Prop} (hb : Below w0.heap.size w0 w) (h : Calls P f args w fun e w' => Q e ∧ Below w.heap.size w w') :
    Calls P f args w fun e w' => Q e ∧ Below w0.heap.size w0 w' :=
  h.mono fun _ _ ⟨hq, hk⟩ => ⟨hq, hb.trans (hk.mono hb.size)⟩
theorem below_drewN {B : Nat} {w w1 : World} (h : Below B w w1) (n : Nat) : Below B w (w1.drewN n) := ⟨h.os, h.tape, h.output, h.size, h.block⟩

theorem ret_no {p : Prop} [Decidable p] (h : ¬ p) : Ending.returned (.bool (decide p)) = .returned (.bool false) := by rw [decide_eq_false h]
/-- What last is held to. -/
def clV (a : Int) : Int := if a < -1152921504606846976 then -1152921504606846976 else if 1152921504606846976 < a then 1152921504606846976 else a
theorem cl_bd (a : Int) : -1152921504606846976 ≤ clV a ∧ clV a ≤ 1152921504606846976 := by unfold clV; repeat' split <;> omega
/-- The nearest number to l with v's lower bits; h is half the way round. -/
def nV (h l v : Int) : Int := if (v - l) % (2 * h) ≤ h then l + (v - l) % (2 * h) else l + (v - l) % (2 * h) - 2 * h
/-- Is a behind b? -/
def aV (h a b : Int) : Bool := decide (0 < (a - b) % (2 * h) ∧ (a - b) % (2 * h) < h)

theorem known_yes (b : Int) (b1 : 1 ≤ b) (b2 : b ≤ 32) (w : World) :
    Calls Try.prog 45 #[.int .i64 b] w fun e w' => e = .returned (.bool true) ∧ w' = w := by
  go_enter Try.func45, Try.ntmps45
  go_wp2
  go_ret
  exact ⟨rfl, rfl⟩
theorem known_no (b : Int) (h : b < 1 ∨ 32 < b) (w : World) :
    Calls Try.prog 45 #[.int .i64 b] w fun e w' => e = .returned (.bool false) ∧ w' = w := by
  rcases h with h | h
  · go_enter Try.func45, Try.ntmps45
    go_wp2
    go_ret
    exact ⟨rfl, rfl⟩
  · have h2 : ¬ b ≤ 32 := by omega
    go_enter Try.func45, Try.ntmps45
    go_wp2
    go_ret
    exact ⟨by first | rfl | exact ret_no h2, rfl⟩
theorem half_any (b : Int) (b1 : 1 ≤ b) (b2 : b ≤ 32) (w : World) :
    Calls Try.prog 53 #[.int .i64 b] w fun e w' => e = .returned (.int .i64 (hf b)) ∧ w' = w := by
  have e := sh1 b b1 b2
  go_enter Try.func53, Try.ntmps53
  go_wp2
  go_ret
  exact ⟨by first | rfl | exact ret_i e, rfl⟩
theorem halfi_any (b : Int) (b1 : 1 ≤ b) (b2 : b ≤ 32) (w : World) :
    Calls Try.prog 48 #[.int .i64 b] w fun e w' => e = .returned (.int .i64 (hf b)) ∧ w' = w := by
  have e := sh1 b b1 b2
  go_enter Try.func48, Try.ntmps48
  go_wp2
  go_ret
  exact ⟨by first | rfl | exact ret_i e, rfl⟩
theorem cut_any (n b : Int) (b1 : 1 ≤ b) (b2 : b ≤ 32) (w : World) :
    Calls Try.prog 52 #[.int .i64 n, .int .i64 b] w fun e w' => e = .returned (.int .i64 (n % (2 * hf b))) ∧ w' = w := by
  have C := mkHid (half_any b b1 b2)
  have e := and_cut b n b1 b2
  have k := hf_bd b b1 b2
  generalize hf b = h at *
  go_enter Try.func52, Try.ntmps52
  go_wp2_with fail
  refine (C.out _).mono ?_
  rintro e w1 ⟨rfl, rfl⟩
  go_wp2
  go_ret
  exact ⟨by first | rfl | exact ret_i e, rfl⟩
theorem cuti_any (n b : Int) (b1 : 1 ≤ b) (b2 : b ≤ 32) (w : World) :
    Calls Try.prog 47 #[.int .i64 n, .int .i64 b] w fun e w' => e = .returned (.int .i64 (n % (2 * hf b))) ∧ w' = w := by
  have C := mkHid (halfi_any b b1 b2)
  have e := and_cut b n b1 b2
  have k := hf_bd b b1 b2
  generalize hf b = h at *
  go_enter Try.func47, Try.ntmps47
  go_wp2_with fail
  refine (C.out _).mono ?_
  rintro e w1 ⟨rfl, rfl⟩
  go_wp2
  go_ret
  exact ⟨by first | rfl | exact ret_i e, rfl⟩
theorem crop_any (n b : Int) (b1 : 1 ≤ b) (b2 : b ≤ 32) (w : World) :
    Calls Try.prog 51 #[.int .i64 n, .int .i64 b] w fun e w' => e = .returned (.int .i64 (n % (2 * hf b))) ∧ w' = w := by
  have K := mkHid (known_yes b b1 b2)
  have C := mkHid (cut_any n b b1 b2)
  generalize n % (2 * hf b) = c at *
  go_enter Try.func51, Try.ntmps51
  go_wp2_with fail
  refine (K.out _).mono ?_
  rintro e w1 ⟨rfl, rfl⟩
  go_wp2_with fail
  refine (C.out _).mono ?_
  rintro e w1 ⟨rfl, rfl⟩
  go_wp2
  go_ret
  exact ⟨rfl, rfl⟩
theorem crop_no (n b : Int) (h : b < 1 ∨ 32 < b) (w : World) :
    Calls Try.prog 51 #[.int .i64 n, .int .i64 b] w fun e w' => e = .returned (.int .i64 0) ∧ w' = w := by
  have K := mkHid (known_no b h)
  go_enter Try.func51, Try.ntmps51
  go_wp2_with fail
  refine (K.out _).mono ?_
  rintro e w1 ⟨rfl, rfl⟩
  go_wp2
  go_ret
  exact ⟨rfl, rfl⟩

theorem within_any (n b : Int) (b1 : 1 ≤ b) (b2 : b ≤ 32) (w : World) :
    Calls Try.prog 46 #[.int .i64 n, .int .i64 b] w fun e w' => e = .returned (.bool (decide (n % (2 * hf b) = n))) ∧ w' = w := by
  have C := mkHid (cuti_any n b b1 b2)
  generalize n % (2 * hf b) = c at *
  go_enter Try.func46, Try.ntmps46
  go_wp2_with fail
  refine (C.out _).mono ?_
  rintro e w1 ⟨rfl, rfl⟩
  go_wp2
  go_ret
  exact ⟨rfl, rfl⟩
/-- Lies n in the first turn? -/
theorem in_turn (n m : Int) (hm : 0 < m) (h : n < 0 ∨ m ≤ n) : ¬ n % m = n := by
  have h1 := Int.emod_nonneg n (show m ≠ 0 by omega)
  have h2 := Int.emod_lt_of_pos n hm
  omega
theorem within_yes (n b : Int) (b1 : 1 ≤ b) (b2 : b ≤ 32) (n1 : 0 ≤ n) (n2 : n < 2 * hf b) (w : World) :
    Calls Try.prog 46 #[.int .i64 n, .int .i64 b] w fun e w' => e = .returned (.bool true) ∧ w' = w := by
  have C := within_any n b b1 b2 w
  rw [decide_eq_true (Int.emod_eq_of_lt n1 n2)] at C
  exact C
theorem within_no (n b : Int) (b1 : 1 ≤ b) (b2 : b ≤ 32) (h : n < 0 ∨ 2 * hf b ≤ n) (w : World) :
    Calls Try.prog 46 #[.int .i64 n, .int .i64 b] w fun e w' => e = .returned (.bool false) ∧ w' = w := by
  have C := within_any n b b1 b2 w
  have k := hf_bd b b1 b2
  rw [decide_eq_false (in_turn n (2 * hf b) (by omega) h)] at C
  exact C

theorem after_bad (a b k : Int) (h : k < 1 ∨ 32 < k) (w : World) :
    Calls Try.prog 34 #[.int .i64 a, .int .i64 b, .int .i64 k] w fun e w' => e = .returned (.bool false) ∧ w' = w := by
  have K := mkHid (known_no k h)
  go_enter Try.func34, Try.ntmps34
  go_wp2_with fail
  refine (K.out _).mono ?_
  rintro e w1 ⟨rfl, rfl⟩
  go_wp2
  go_ret
  exact ⟨rfl, rfl⟩
theorem after_no1 (a b k : Int) (k1 : 1 ≤ k) (k2 : k ≤ 32) (h : a < 0 ∨ 2 * hf k ≤ a) (w : World) :
    Calls Try.prog 34 #[.int .i64 a, .int .i64 b, .int .i64 k] w fun e w' => e = .returned (.bool false) ∧ w' = w := by
  have K := mkHid (known_yes k k1 k2)
  have C1 := mkHid (within_no a k k1 k2 h)
  clear h
  go_enter Try.func34, Try.ntmps34
  go_wp2_with fail
  refine (K.out _).mono ?_
  rintro e w1 ⟨rfl, rfl⟩
  go_wp2_with fail
  refine (C1.out _).mono ?_
  rintro e w1 ⟨rfl, rfl⟩
  go_wp2
  go_ret
  exact ⟨rfl, rfl⟩
theorem after_no2 (a b k : Int) (k1 : 1 ≤ k) (k2 : k ≤ 32) (a1 : 0 ≤ a) (a2 : a < 2 * hf k) (h : b < 0 ∨ 2 * hf k ≤ b) (w : World) :
    Calls Try.prog 34 #[.int .i64 a, .int .i64 b, .int .i64 k] w fun e w' => e = .returned (.bool false) ∧ w' = w := by
  have K := mkHid (known_yes k k1 k2)
  have C1 := mkHid (within_yes a k k1 k2 a1 a2)
  have C2 := mkHid (within_no b k k1 k2 h)
  clear h
  go_enter Try.func34, Try.ntmps34
  go_wp2_with fail
  refine (K.out _).mono ?_
  rintro e w1 ⟨rfl, rfl⟩
  go_wp2_with fail
  refine (C1.out _).mono ?_
  rintro e w1 ⟨rfl, rfl⟩
  go_wp2_with fail
  refine (C2.out _).mono ?_
  rintro e w1 ⟨rfl, rfl⟩
  go_wp2
  go_ret
  exact ⟨rfl, rfl⟩
set_option maxHeartbeats 400000 in
theorem after_any (a b k : Int) (k1 : 1 ≤ k) (k2 : k ≤ 32) (a1 : 0 ≤ a) (a2 : a < 2 * hf k) (c1 : 0 ≤ b) (c2 : b < 2 * hf k) (w : World) :
    Calls Try.prog 34 #[.int .i64 a, .int .i64 b, .int .i64 k] w fun e w' => e = .returned (.bool (aV (hf k) a b)) ∧ w' = w := by
  have K := mkHid (known_yes k k1 k2)
  have C1 := mkHid (within_yes a k k1 k2 a1 a2)
  have C2 := mkHid (within_yes b k k1 k2 c1 c2)
  have C3 := mkHid (cuti_any (a - b) k k1 k2)
  have C4 := mkHid (halfi_any k k1 k2)
  have kh := hf_bd k k1 k2
  unfold aV
  generalize hf k = h at *
  have u0 := Int.emod_nonneg (a - b) (show 2 * h ≠ 0 by omega)
  generalize (a - b) % (2 * h) = u at *
  by_cases hu : 0 < u
  · go_enter Try.func34, Try.ntmps34
    go_wp2_with fail
    refine (K.out _).mono ?_
    rintro e w1 ⟨rfl, rfl⟩
    go_wp2_with fail
    refine (C1.out _).mono ?_
    rintro e w1 ⟨rfl, rfl⟩
    go_wp2_with fail
    refine (C2.out _).mono ?_
    rintro e w1 ⟨rfl, rfl⟩
    go_wp2_with fail
    refine (C3.out _).mono ?_
    rintro e w1 ⟨rfl, rfl⟩
    go_wp2_with fail
    refine (C4.out _).mono ?_
    rintro e w1 ⟨rfl, rfl⟩
    go_wp2
    go_ret
    exact ⟨ret_b (decide_eq_decide.mpr (by omega)), rfl⟩
  · go_enter Try.func34, Try.ntmps34
    go_wp2_with fail
    refine (K.out _).mono ?_
    rintro e w1 ⟨rfl, rfl⟩
    go_wp2_with fail
    refine (C1.out _).mono ?_
    rintro e w1 ⟨rfl, rfl⟩
    go_wp2_with fail
    refine (C2.out _).mono ?_
    rintro e w1 ⟨rfl, rfl⟩
    go_wp2_with fail
    refine (C3.out _).mono ?_
    rintro e w1 ⟨rfl, rfl⟩
    go_wp2
    go_ret
    exact ⟨ret_b (by rw [decide_eq_false (show ¬ 0 < u by omega), Bool.false_and]), rfl⟩

theorem same_below {P : Program} {f : Nat} {args : Array Value} {w : World} {Q : Ending → Prop} (h : Calls P f args w fun e w' => Q e ∧ w' = w) :
    Calls P f args w fun e w' => Q e ∧ Below w.heap.size w w' :=
  h.mono fun _ _ ⟨hq, hk⟩ => ⟨hq, hk ▸ Below.refl _ _⟩
end Go.Proofs.Ytmnpghelglohlaa
