/-
  What the functions of package wrap, and of its reference, hand back for every input.
-/
import Derived.Test.YtdojphkibgfomaaWrP
import Derived.BigQuiet
namespace Go.Proofs.Ytdojphkibgfomaa
open Go.RowKit


theorem ret_no {p : Prop} [Decidable p] (h : ¬ p) : Ending.returned (.bool (decide p)) = .returned (.bool false) := by rw [decide_eq_false h]
/-- What last is held to. -/
def clV (a : Int) : Int := if a < -1152921504606846976 then -1152921504606846976 else if 1152921504606846976 < a then 1152921504606846976 else a
theorem cl_bd (a : Int) : -1152921504606846976 ≤ clV a ∧ clV a ≤ 1152921504606846976 := by unfold clV; repeat' split <;> omega
/-- The nearest number to l with v's lower bits; h is half the way round. -/
def nV (h l v : Int) : Int := if (v - l) % (2 * h) ≤ h then l + (v - l) % (2 * h) else l + (v - l) % (2 * h) - 2 * h
/-- Is a behind b? -/
def aV (h a b : Int) : Bool := decide (0 < (a - b) % (2 * h) ∧ (a - b) % (2 * h) < h)

theorem known_yes (b : Int) (b1 : 1 ≤ b) (b2 : b ≤ 32) (w : World) :
    Calls Try.prog 39 #[.int .i64 b] w fun e w' => e = .returned (.bool true) ∧ w' = w := by
  go_enter Try.func39, Try.ntmps39
  go_wp2
  go_ret
  exact ⟨rfl, rfl⟩
theorem known_no (b : Int) (h : b < 1 ∨ 32 < b) (w : World) :
    Calls Try.prog 39 #[.int .i64 b] w fun e w' => e = .returned (.bool false) ∧ w' = w := by
  rcases h with h | h
  · go_enter Try.func39, Try.ntmps39
    go_wp2
    go_ret
    exact ⟨rfl, rfl⟩
  · have h2 : ¬ b ≤ 32 := by omega
    go_enter Try.func39, Try.ntmps39
    go_wp2
    go_ret
    exact ⟨by first | rfl | exact ret_no h2, rfl⟩
theorem half_any (b : Int) (b1 : 1 ≤ b) (b2 : b ≤ 32) (w : World) :
    Calls Try.prog 48 #[.int .i64 b] w fun e w' => e = .returned (.int .i64 (hf b)) ∧ w' = w := by
  have e := sh1 b b1 b2
  go_enter Try.func48, Try.ntmps48
  go_wp2
  go_ret
  exact ⟨by first | rfl | exact ret_i e, rfl⟩
theorem cut_any (n b : Int) (b1 : 1 ≤ b) (b2 : b ≤ 32) (w : World) :
    Calls Try.prog 40 #[.int .i64 n, .int .i64 b] w fun e w' => e = .returned (.int .i64 (n % (2 * hf b))) ∧ w' = w := by
  have C := mkHid (half_any b b1 b2)
  have e := and_cut b n b1 b2
  have k := hf_bd b b1 b2
  generalize hf b = h at *
  go_enter Try.func40, Try.ntmps40
  go_wp2_with fail
  refine (C.out _).mono ?_
  rintro e w1 ⟨rfl, rfl⟩
  go_wp2
  go_ret
  exact ⟨by first | rfl | exact ret_i e, rfl⟩
theorem clamp_any (a : Int) (w : World) :
    Calls Try.prog 49 #[.int .i64 a, .int .i64 (-1152921504606846976), .int .i64 1152921504606846976] w fun e w' => e = .returned (.int .i64 (clV a)) ∧ w' = w := by
  go_each [a < -1152921504606846976, 1152921504606846976 < a] => (
    go_enter Try.func49, Try.ntmps49
    go_wp2
    go_ret
    exact ⟨ret_i (by unfold clV; repeat' split <;> omega), rfl⟩)

theorem crop_any (n b : Int) (b1 : 1 ≤ b) (b2 : b ≤ 32) (w : World) :
    Calls Try.prog 29 #[.int .i64 n, .int .i64 b] w fun e w' => e = .returned (.int .i64 (n % (2 * hf b))) ∧ w' = w := by
  have K := mkHid (known_yes b b1 b2)
  have C := mkHid (cut_any n b b1 b2)
  generalize n % (2 * hf b) = c at *
  go_enter Try.func29, Try.ntmps29
  go_wp2_with fail
  refine (K.out _).mono ?_
  rintro e w1 ⟨rfl, rfl⟩
  go_wp2_with fail
  refine (C.out _).mono ?_
  rintro e w1 ⟨rfl, rfl⟩
  go_wp2
  go_ret
  exact ⟨rfl, rfl⟩
theorem crop_no (n b : Int) (h : b < 1 ∨ 32 < b) (w : World) :
    Calls Try.prog 29 #[.int .i64 n, .int .i64 b] w fun e w' => e = .returned (.int .i64 0) ∧ w' = w := by
  have K := mkHid (known_no b h)
  go_enter Try.func29, Try.ntmps29
  go_wp2_with fail
  refine (K.out _).mono ?_
  rintro e w1 ⟨rfl, rfl⟩
  go_wp2
  go_ret
  exact ⟨rfl, rfl⟩

theorem near_no (l v b : Int) (h : b < 1 ∨ 32 < b) (w : World) :
    Calls Try.prog 42 #[.int .i64 l, .int .i64 v, .int .i64 b] w fun e w' => e = .returned (.int .i64 l) ∧ w' = w := by
  have K := mkHid (known_no b h)
  go_enter Try.func42, Try.ntmps42
  go_wp2_with fail
  refine (K.out _).mono ?_
  rintro e w1 ⟨rfl, rfl⟩
  go_wp2
  go_ret
  exact ⟨rfl, rfl⟩
set_option maxHeartbeats 400000 in
theorem near_any (l v b : Int) (b1 : 1 ≤ b) (b2 : b ≤ 32) (w : World) :
    Calls Try.prog 42 #[.int .i64 l, .int .i64 v, .int .i64 b] w fun e w' => e = .returned (.int .i64 (nV (hf b) (clV l) v)) ∧ w' = w := by
  have K := mkHid (known_yes b b1 b2)
  have C1 := mkHid (clamp_any l)
  have kl := cl_bd l
  generalize clV l = t at *
  have C2 := mkHid (cut_any (wrap64 (v - t)) b b1 b2)
  rw [wrap_cut b (v - t) b1 b2] at C2
  have C3 := mkHid (half_any b b1 b2)
  have k := hf_bd b b1 b2
  unfold nV
  generalize hf b = h at *
  have u0 := Int.emod_nonneg (v - t) (show 2 * h ≠ 0 by omega)
  have u1 := Int.emod_lt_of_pos (v - t) (show 0 < 2 * h by omega)
  generalize (v - t) % (2 * h) = u at *
  generalize hx : wrap64 (v - t) = x at *
  by_cases hu : u ≤ h
  · rw [if_pos hu]
    go_enter Try.func42, Try.ntmps42
    go_wp2_with fail
    refine (K.out _).mono ?_
    rintro e w1 ⟨rfl, rfl⟩
    go_wp2_with fail
    refine (C1.out _).mono ?_
    rintro e w1 ⟨rfl, rfl⟩
    go_wp2_with fail
    refine (C2.out _).mono ?_
    rintro e w1 ⟨rfl, rfl⟩
    go_wp2_with fail
    refine (C3.out _).mono ?_
    rintro e w1 ⟨rfl, rfl⟩
    go_wp2
    go_ret
    exact ⟨rfl, rfl⟩
  · rw [if_neg hu]
    go_enter Try.func42, Try.ntmps42
    go_wp2_with fail
    refine (K.out _).mono ?_
    rintro e w1 ⟨rfl, rfl⟩
    go_wp2_with fail
    refine (C1.out _).mono ?_
    rintro e w1 ⟨rfl, rfl⟩
    go_wp2_with fail
    refine (C2.out _).mono ?_
    rintro e w1 ⟨rfl, rfl⟩
    go_wp2_with fail
    refine (C3.out _).mono ?_
    rintro e w1 ⟨rfl, rfl⟩
    go_wp2_with fail
    refine (C3.out _).mono ?_
    rintro e w1 ⟨rfl, rfl⟩
    go_wp2
    go_ret
    exact ⟨rfl, rfl⟩

/-- Lies n in the first turn? -/
theorem in_turn (n m : Int) (hm : 0 < m) (h : n < 0 ∨ m ≤ n) : ¬ n % m = n := by
  have h1 := Int.emod_nonneg n (show m ≠ 0 by omega)
  have h2 := Int.emod_lt_of_pos n hm
  omega
theorem same_below {P : Program} {f : Nat} {args : Array Value} {w : World} {Q : Ending → Prop} (h : Calls P f args w fun e w' => Q e ∧ w' = w) :
    Calls P f args w fun e w' => Q e ∧ Below w.heap.size w w' :=
  h.mono fun _ _ ⟨hq, hk⟩ => ⟨hq, hk ▸ Below.refl _ _⟩
end Go.Proofs.Ytdojphkibgfomaa
