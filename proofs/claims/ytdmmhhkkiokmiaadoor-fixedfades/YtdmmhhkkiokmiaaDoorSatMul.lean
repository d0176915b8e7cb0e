/-
  The reference's product is the product held between the least and the greatest int64, for every two int64.
-/
import Derived.Test.YtdmmhhkkiokmiaaDoorSatWalks
namespace Go.Proofs.YtdmmhhkkiokmiaaDoor.Sat
open Go.RowKit

theorem satH_top (z : Int) (h : 9223372036854775807 ≤ z) : 9223372036854775807 = satH z := by unfold satH; repeat' split <;> omega
theorem satH_bot (z : Int) (h : z ≤ -9223372036854775808) : -9223372036854775808 = satH z := by unfold satH; repeat' split <;> omega
theorem satA_abs (a : Int) (a1 : -9223372036854775808 < a) (a2 : a ≤ 9223372036854775807) : (0 ≤ a → satA a = a) ∧ (a < 0 → satA a = -a) := by
  unfold satA
  refine ⟨fun h => ?_, fun h => ?_⟩
  · rw [if_neg (by omega), satH_in _ (by omega) (by omega)]
  · rw [if_pos h, satH_in _ (by omega) (by omega)]
theorem quo_key (x y : Int) (hy : 1 ≤ y) : wrap64 (Int.tdiv 9223372036854775807 y) < x ↔ 9223372036854775807 < x * y := by
  rw [Int.tdiv_eq_ediv_of_nonneg (by omega)]
  have h0 : 0 ≤ (9223372036854775807 : Int) / y := Int.ediv_nonneg (by omega) (by omega)
  have h1 : (9223372036854775807 : Int) / y ≤ 9223372036854775807 := Int.ediv_le_self _ (by omega)
  have e : wrap64 ((9223372036854775807 : Int) / y) = 9223372036854775807 / y := by unfold wrap64; omega
  rw [e]
  have h := Int.le_ediv_iff_mul_le (a := x) (b := 9223372036854775807) (c := y) (by omega)
  omega
theorem mul_sign (a b : Int) (a1 : -9223372036854775808 < a) (a2 : a ≤ 9223372036854775807) (b1 : -9223372036854775808 < b) (b2 : b ≤ 9223372036854775807) (ha : a ≠ 0) (hb : b ≠ 0) :
    1 ≤ satA a ∧ 1 ≤ satA b ∧ ((decide (0 < a) == decide (0 < b)) = true → a * b = satA a * satA b) ∧ ((decide (0 < a) == decide (0 < b)) = false → a * b = -(satA a * satA b)) := by
  have ea := satA_abs a a1 a2
  have eb := satA_abs b b1 b2
  rcases (by omega : a < 0 ∨ 0 ≤ a) with h | h <;> rcases (by omega : b < 0 ∨ 0 ≤ b) with k | k
  · rw [ea.2 h, eb.2 k]
    refine ⟨by omega, by omega, fun _ => by rw [Int.neg_mul_neg], fun e => ?_⟩
    simp [show ¬ 0 < a by omega, show ¬ 0 < b by omega] at e
  · rw [ea.2 h, eb.1 k]
    refine ⟨by omega, by omega, fun e => ?_, fun _ => by rw [Int.neg_mul, Int.neg_neg]⟩
    simp [show ¬ 0 < a by omega, show 0 < b by omega] at e
  · rw [ea.1 h, eb.2 k]
    refine ⟨by omega, by omega, fun e => ?_, fun _ => by rw [Int.mul_neg, Int.neg_neg]⟩
    simp [show 0 < a by omega, show ¬ 0 < b by omega] at e
  · rw [ea.1 h, eb.1 k]
    refine ⟨by omega, by omega, fun _ => rfl, fun e => ?_⟩
    simp [show 0 < a by omega, show 0 < b by omega] at e
theorem m_up (a b : Int) (a1 : -9223372036854775808 < a) (a2 : a ≤ 9223372036854775807) (b1 : -9223372036854775808 < b) (b2 : b ≤ 9223372036854775807) (ha : a ≠ 0) (hb : b ≠ 0)
    (hu : (decide (0 < a) == decide (0 < b)) = true) (h : wrap64 (Int.tdiv 9223372036854775807 (satA b)) < satA a) : 9223372036854775807 = satH (a * b) := by
  obtain ⟨p1, p2, p3, _⟩ := mul_sign a b a1 a2 b1 b2 ha hb
  have := (quo_key (satA a) (satA b) p2).1 h
  exact satH_top _ (by rw [p3 hu]; omega)
theorem m_upin (a b : Int) (a1 : -9223372036854775808 < a) (a2 : a ≤ 9223372036854775807) (b1 : -9223372036854775808 < b) (b2 : b ≤ 9223372036854775807) (ha : a ≠ 0) (hb : b ≠ 0)
    (hu : (decide (0 < a) == decide (0 < b)) = true) (h : satA a ≤ wrap64 (Int.tdiv 9223372036854775807 (satA b))) : wrap64 (a * b) = satH (a * b) := by
  obtain ⟨p1, p2, p3, _⟩ := mul_sign a b a1 a2 b1 b2 ha hb
  have q := quo_key (satA a) (satA b) p2
  have q0 : 0 ≤ satA a * satA b := Int.mul_nonneg (by omega) (by omega)
  rw [p3 hu, satH_in _ (by omega) (by omega)]; unfold wrap64; omega
theorem m_dn (a b : Int) (a1 : -9223372036854775808 < a) (a2 : a ≤ 9223372036854775807) (b1 : -9223372036854775808 < b) (b2 : b ≤ 9223372036854775807) (ha : a ≠ 0) (hb : b ≠ 0)
    (hu : (decide (0 < a) == decide (0 < b)) = false) (h : wrap64 (Int.tdiv 9223372036854775807 (satA b)) < satA a) : -9223372036854775808 = satH (a * b) := by
  obtain ⟨p1, p2, _, p3⟩ := mul_sign a b a1 a2 b1 b2 ha hb
  have := (quo_key (satA a) (satA b) p2).1 h
  exact satH_bot _ (by rw [p3 hu]; omega)
theorem m_dnin (a b : Int) (a1 : -9223372036854775808 < a) (a2 : a ≤ 9223372036854775807) (b1 : -9223372036854775808 < b) (b2 : b ≤ 9223372036854775807) (ha : a ≠ 0) (hb : b ≠ 0)
    (hu : (decide (0 < a) == decide (0 < b)) = false) (h : satA a ≤ wrap64 (Int.tdiv 9223372036854775807 (satA b))) : wrap64 (a * b) = satH (a * b) := by
  obtain ⟨p1, p2, _, p3⟩ := mul_sign a b a1 a2 b1 b2 ha hb
  have q := quo_key (satA a) (satA b) p2
  have q0 : 0 ≤ satA a * satA b := Int.mul_nonneg (by omega) (by omega)
  rw [p3 hu, satH_in _ (by omega) (by omega)]; unfold wrap64; omega
theorem m_zero (a b : Int) (h : (a == 0) = true ∨ (b == 0) = true) : 0 = satH (a * b) := by
  simp only [beq_iff_eq] at h
  rcases h with rfl | rfl <;> simp [satH]
theorem ne_of_beq {a c : Int} (h : (a == c) = false) : a ≠ c := by simpa using h
theorem least_mul (a b : Int) (ha : a = -9223372036854775808) : (b < 0 → 9223372036854775807 = satH (a * b)) ∧ (0 < b → -9223372036854775808 = satH (a * b)) := by
  subst ha
  exact ⟨fun h => satH_top _ (by omega), fun h => satH_bot _ (by omega)⟩
theorem not_up (b : Int) : ((!decide (0 < b)) = true → b ≤ 0) ∧ ((!decide (0 < b)) = false → 0 < b) := by simp
theorem up_least (a b : Int) (hb : (a == -9223372036854775808) = true ∨ (b == -9223372036854775808) = true) (ha : ¬ a = -9223372036854775808) (ha0 : a ≠ 0) :
    ((decide (0 < a) == decide (0 < b)) = true → 9223372036854775807 = satH (a * b)) ∧ ((decide (0 < a) == decide (0 < b)) = false → -9223372036854775808 = satH (a * b)) := by
  have hb' : b = -9223372036854775808 := by simpa [ha] using hb
  have l := least_mul b a hb'
  rw [Int.mul_comm a b]
  subst hb'
  refine ⟨fun h => l.1 ?_, fun h => l.2 ?_⟩
  · simp at h; omega
  · simpa using h
theorem satA_zero (b : Int) (b1 : -9223372036854775808 ≤ b) (b2 : b ≤ 9223372036854775807) (hb : b ≠ 0) (h : satA b = 0) : False := by
  unfold satA satH at h
  repeat' split at h <;> omega

set_option maxHeartbeats 1000000 in
theorem rmul_any (a b : Int) (a1 : -9223372036854775808 ≤ a) (a2 : a ≤ 9223372036854775807) (b1 : -9223372036854775808 ≤ b) (b2 : b ≤ 9223372036854775807) (w : World) :
    Calls Tryd.prog 25 #[.int .i64 a, .int .i64 b] w fun e w' => e = .returned (.int .i64 (satH (a * b))) ∧ w' = w := by
  go_enter Tryd.func25, Tryd.ntmps25
  go_wp2_with (first | (go_at_call 35; refine (rabs_any _ (by assumption) (by assumption) _).mono ?_; rintro e w1 ⟨rfl, rfl⟩))
  · go_ret; exact ⟨ret_int (m_zero a b (.inl (by simpa using ‹a = 0›))), rfl⟩
  · go_ret; exact ⟨ret_int (m_zero a b (by assumption)), rfl⟩
  · go_ret; exact ⟨ret_int (by have h : (a == 1) = true := by assumption
                               simp only [beq_iff_eq] at h; rw [h, Int.one_mul, satH_in _ b1 b2]), rfl⟩
  · go_ret; exact ⟨ret_int (by have h : (b == 1) = true := by assumption
                               simp only [beq_iff_eq] at h; rw [h, Int.mul_one, satH_in _ a1 a2]), rfl⟩
  · have h0 : (a == 0) = false ∧ (b == 0) = false := by assumption
    have hb := ne_of_beq h0.2
    go_ret; exact ⟨ret_int ((least_mul a b (by assumption)).1 (by have := (not_up b).1 (by assumption); omega)), rfl⟩
  · go_ret; exact ⟨ret_int ((least_mul a b (by assumption)).2 ((not_up b).2 (by assumption))), rfl⟩
  · go_ret; exact ⟨ret_int ((up_least a b (by assumption) (by assumption) (by assumption)).1 (by assumption)), rfl⟩
  · go_ret; exact ⟨ret_int ((up_least a b (by assumption) (by assumption) (by assumption)).2 (by assumption)), rfl⟩
  · have h0 : (a == 0) = false ∧ (b == 0) = false := by assumption
    exact (satA_zero b b1 b2 (ne_of_beq h0.2) (by assumption)).elim
  · have h0 : (a == 0) = false ∧ (b == 0) = false := by assumption
    have h1 : (a == -9223372036854775808) = false ∧ (b == -9223372036854775808) = false := by assumption
    have ha := ne_of_beq h1.1; have hb := ne_of_beq h1.2
    go_ret; exact ⟨ret_int (m_up a b (by omega) a2 (by omega) b2 (ne_of_beq h0.1) (ne_of_beq h0.2) (by assumption) (by assumption)), rfl⟩
  · have h0 : (a == 0) = false ∧ (b == 0) = false := by assumption
    have h1 : (a == -9223372036854775808) = false ∧ (b == -9223372036854775808) = false := by assumption
    have ha := ne_of_beq h1.1; have hb := ne_of_beq h1.2
    go_ret; exact ⟨ret_int (m_upin a b (by omega) a2 (by omega) b2 (ne_of_beq h0.1) (ne_of_beq h0.2) (by assumption) (by assumption)), rfl⟩
  · have h0 : (a == 0) = false ∧ (b == 0) = false := by assumption
    exact (satA_zero b b1 b2 (ne_of_beq h0.2) (by assumption)).elim
  · have h0 : (a == 0) = false ∧ (b == 0) = false := by assumption
    have h1 : (a == -9223372036854775808) = false ∧ (b == -9223372036854775808) = false := by assumption
    have ha := ne_of_beq h1.1; have hb := ne_of_beq h1.2
    go_ret; exact ⟨ret_int (m_dn a b (by omega) a2 (by omega) b2 (ne_of_beq h0.1) (ne_of_beq h0.2) (by assumption) (by assumption)), rfl⟩
  · have h0 : (a == 0) = false ∧ (b == 0) = false := by assumption
    have h1 : (a == -9223372036854775808) = false ∧ (b == -9223372036854775808) = false := by assumption
    have ha := ne_of_beq h1.1; have hb := ne_of_beq h1.2
    go_ret; exact ⟨ret_int (m_dnin a b (by omega) a2 (by omega) b2 (ne_of_beq h0.1) (ne_of_beq h0.2) (by assumption) (by assumption)), rfl⟩

theorem wf64 {x : Int} (h : (Lit.int .i64 x).wf = true) : -9223372036854775808 ≤ x ∧ x ≤ 9223372036854775807 := by
  simp [Lit.wf, IntKind.min, IntKind.max, IntKind.signed, IntKind.bits] at h
  exact ⟨by omega, by omega⟩
theorem wf32 {x : Int} (h : (Lit.int .i32 x).wf = true) : -2147483648 ≤ x ∧ x ≤ 2147483647 := by
  simp [Lit.wf, IntKind.min, IntKind.max, IntKind.signed, IntKind.bits] at h
  exact ⟨by omega, by omega⟩
end Go.Proofs.YtdmmhhkkiokmiaaDoor.Sat
