/-
  Plain arithmetic of quotients that are rounded: exact ones, floors, their order.
-/
import Derived.Test.YtjeffjpenhhnnaaPlainB
namespace Go.Proofs.Ytjeffjpenhhnnaa
open Go.RowKit

/-- The dividend, its divisor turned to above 0. -/
def mdN (a b c : Int) : Int := if c < 0 then -(a * b) else a * b
theorem mdN_eq (a b c : Int) : mdN a b c = sg (mdNeg a b c) (ab a * ab b) := by
  unfold mdN sg mdNeg ab
  by_cases ha : a < 0 <;> by_cases hb : b < 0 <;> by_cases hc : c < 0 <;> simp [ha, hb, hc, Int.neg_mul, Int.mul_neg]
theorem ab_eq (c : Int) (h : 0 < c) : ab c = c := by unfold ab; rw [if_neg (by omega)]
theorem away0 (neg : Bool) (c how : Int) (c0 : 0 < c) : mdAway neg 0 c how = false := by
  unfold mdAway; cases neg <;> simp <;> omega
theorem div_mul_zero (x c : Int) (c0 : 0 < c) : c * x / c = x ∧ c * x % c = 0 := ⟨Int.mul_ediv_cancel_left x (Int.ne_of_gt c0), Int.mul_emod_right c x⟩
/-- A quotient without a rest. -/
theorem mdS_exact (a b c how m : Int) (hc : c ≠ 0) (h : a * b = c * m) : mdS a b c how = m := by
  have hC := ab_pos c hc
  have hn : mdN a b c = ab c * m := by
    unfold mdN ab
    by_cases h0 : c < 0
    · rw [if_pos h0, if_pos h0, h, Int.neg_mul]
    · rw [if_neg h0, if_neg h0, h]
  rw [mdN_eq] at hn
  rw [mdS_eq]
  cases hneg : mdNeg a b c
  · rw [hneg] at hn
    have hP : ab a * ab b = ab c * m := hn
    rw [hP, (div_mul_zero m (ab c) hC).1, (div_mul_zero m (ab c) hC).2, away0 _ _ _ hC]
    show m + 0 = m
    omega
  · rw [hneg] at hn
    have hP : ab a * ab b = ab c * (-m) := by
      have : -(ab a * ab b) = ab c * m := hn
      rw [Int.mul_neg]; omega
    rw [hP, (div_mul_zero (-m) (ab c) hC).1, (div_mul_zero (-m) (ab c) hC).2, away0 _ _ _ hC]
    show -(-m + 0) = m
    omega
theorem div_unique (n c q r : Int) (e : n = r + q * c) (r0 : 0 ≤ r) (r1 : r < c) : n / c = q := by
  rw [e, Int.add_mul_ediv_right _ _ (by omega), Int.ediv_eq_zero_of_lt r0 r1, Int.zero_add]
/-- Rounded down: the floor. -/
theorem mdS_down (a b c : Int) (hc : c ≠ 0) : mdS a b c 1 = mdN a b c / ab c := by
  have hC := ab_pos c hc
  have e := Int.mul_ediv_add_emod (ab a * ab b) (ab c)
  have l0 := Int.emod_nonneg (ab a * ab b) (Int.ne_of_gt hC)
  have l1 := Int.emod_lt_of_pos (ab a * ab b) hC
  rw [mdS_eq, mdN_eq]
  generalize ab a * ab b = P at *
  generalize hQ : P / ab c = Q at *
  generalize hl : P % ab c = l at *
  cases mdNeg a b c
  · show Q + one (mdAway false l (ab c) 1) = P / ab c
    rw [show mdAway false l (ab c) 1 = false by simp [mdAway], hQ]
    show Q + 0 = Q
    omega
  · show -(Q + one (mdAway true l (ab c) 1)) = -P / ab c
    by_cases h : 0 < l
    · rw [show mdAway true l (ab c) 1 = true by simp [mdAway, h]]
      symm
      apply div_unique _ _ (-(Q + 1)) (ab c - l)
      · rw [Int.neg_mul, Int.add_mul, Int.mul_comm Q]; omega
      · omega
      · omega
    · rw [show mdAway true l (ab c) 1 = false by simp [mdAway, h]]
      symm
      apply div_unique _ _ (-(Q + 0)) 0
      · rw [Int.neg_mul, Int.add_mul, Int.mul_comm Q]; omega
      · omega
      · omega
/-- Rounded up: the floor of the opposite, turned. -/
theorem mdS_up (a b c : Int) (hc : c ≠ 0) : mdS a b c 3 = -(-mdN a b c / ab c) := by
  have hC := ab_pos c hc
  have e := Int.mul_ediv_add_emod (ab a * ab b) (ab c)
  have l0 := Int.emod_nonneg (ab a * ab b) (Int.ne_of_gt hC)
  have l1 := Int.emod_lt_of_pos (ab a * ab b) hC
  rw [mdS_eq, mdN_eq]
  generalize ab a * ab b = P at *
  generalize hQ : P / ab c = Q at *
  generalize hl : P % ab c = l at *
  cases mdNeg a b c
  · show Q + one (mdAway false l (ab c) 3) = -(-P / ab c)
    by_cases h : 0 < l
    · rw [show mdAway false l (ab c) 3 = true by simp [mdAway, h]]
      have : -P / ab c = -(Q + 1) := by
        apply div_unique _ _ _ (ab c - l)
        · rw [Int.neg_mul, Int.add_mul, Int.mul_comm Q]; omega
        · omega
        · omega
      rw [this]; show Q + 1 = _; omega
    · rw [show mdAway false l (ab c) 3 = false by simp [mdAway, h]]
      have : -P / ab c = -Q := by
        apply div_unique _ _ _ 0
        · rw [Int.neg_mul, Int.mul_comm Q]; omega
        · omega
        · omega
      rw [this]; show Q + 0 = _; omega
  · show -(Q + one (mdAway true l (ab c) 3)) = -(-(-P) / ab c)
    rw [show mdAway true l (ab c) 3 = false by simp [mdAway], Int.neg_neg, hQ]
    show -(Q + 0) = -Q
    omega
/-- Down, near and up. -/
theorem mdS_order (a b c : Int) (hc : c ≠ 0) : mdS a b c 1 ≤ mdS a b c 2 ∧ mdS a b c 2 ≤ mdS a b c 3 ∧ mdS a b c 3 ≤ mdS a b c 1 + 1 := by
  have hC := ab_pos c hc
  have l0 := Int.emod_nonneg (ab a * ab b) (Int.ne_of_gt hC)
  have l1 := Int.emod_lt_of_pos (ab a * ab b) hC
  rw [mdS_eq, mdS_eq, mdS_eq]
  generalize ab a * ab b / ab c = Q at *
  generalize ab a * ab b % ab c = l at *
  cases mdNeg a b c
  · show Q + one (mdAway false l (ab c) 1) ≤ Q + one (mdAway false l (ab c) 2) ∧ Q + one (mdAway false l (ab c) 2) ≤ Q + one (mdAway false l (ab c) 3) ∧ Q + one (mdAway false l (ab c) 3) ≤ Q + one (mdAway false l (ab c) 1) + 1
    by_cases h : 0 < l <;> by_cases k : ab c - l ≤ l <;> simp [mdAway, one, h, k] <;> omega
  · show -(Q + one (mdAway true l (ab c) 1)) ≤ -(Q + one (mdAway true l (ab c) 2)) ∧ -(Q + one (mdAway true l (ab c) 2)) ≤ -(Q + one (mdAway true l (ab c) 3)) ∧ -(Q + one (mdAway true l (ab c) 3)) ≤ -(Q + one (mdAway true l (ab c) 1)) + 1
    by_cases h : 0 < l <;> by_cases k : ab c - l < l <;> simp [mdAway, one, h, k] <;> omega
theorem satH_mono (x y : Int) (h : x ≤ y) : satH x ≤ satH y := by unfold satH; repeat' split <;> omega
theorem satH_bd (z : Int) : -9223372036854775808 ≤ satH z ∧ satH z ≤ 9223372036854775807 := by unfold satH; repeat' split <;> omega
theorem satH_step (x y : Int) (h : x ≤ y) (h1 : y ≤ x + 1) : satH y = satH x ∨ satH y - 1 = satH x := by unfold satH; repeat' split <;> omega
theorem mdV_ok (a b c how : Int) (hc : c ≠ 0) (h1 : 1 ≤ how) (h2 : how ≤ 3) : mdV a b c how = satH (mdS a b c how) ∧ mdF a b c how = fitH (mdS a b c how) := by
  have h : ¬ (c = 0 ∨ how < 1 ∨ 3 < how) := by omega
  exact ⟨by unfold mdV; rw [if_neg h], by unfold mdF; rw [if_neg h]⟩
theorem mdV_zero (a b how : Int) : mdV a b 0 how = 0 ∧ mdF a b 0 how = false := ⟨by unfold mdV; rw [if_pos (.inl rfl)], by unfold mdF; rw [if_pos (.inl rfl)]⟩
theorem mdV_bd (a b c how : Int) : -9223372036854775808 ≤ mdV a b c how ∧ mdV a b c how ≤ 9223372036854775807 := by
  unfold mdV
  split
  · omega
  · exact satH_bd _
theorem mdV_order (a b c : Int) : mdV a b c 1 ≤ mdV a b c 2 ∧ mdV a b c 2 ≤ mdV a b c 3 ∧ (mdV a b c 3 = mdV a b c 1 ∨ mdV a b c 3 - 1 = mdV a b c 1) := by
  by_cases hc : c = 0
  · subst hc
    rw [(mdV_zero a b 1).1, (mdV_zero a b 2).1, (mdV_zero a b 3).1]; omega
  · have ⟨h1, h2, h3⟩ := mdS_order a b c hc
    rw [(mdV_ok a b c 1 hc (by omega) (by omega)).1, (mdV_ok a b c 2 hc (by omega) (by omega)).1, (mdV_ok a b c 3 hc (by omega) (by omega)).1]
    exact ⟨satH_mono _ _ h1, satH_mono _ _ h2, satH_step _ _ (by omega) h3⟩
theorem mdV_exact (a b c how m : Int) (hc : c ≠ 0) (h1 : 1 ≤ how) (h2 : how ≤ 3) (h : a * b = c * m) (m1 : -9223372036854775808 ≤ m) (m2 : m ≤ 9223372036854775807) : mdV a b c how = m := by
  rw [(mdV_ok a b c how hc h1 h2).1, mdS_exact a b c how m hc h, satH_in m m1 m2]
theorem mdV_comm (a b c how : Int) : mdV a b c how = mdV b a c how := by
  have hn : mdNeg a b c = mdNeg b a c := by unfold mdNeg; rw [bne_comm (a := decide (a < 0))]
  unfold mdV
  rw [mdS_eq, mdS_eq, hn, Int.mul_comm (ab a)]
theorem nat_abs (c : Int) (h : c < 0) : ab c = -c := by unfold ab; rw [if_pos h]
/-- Of small numbers: the quotient rounded down, that of the opposite rounded up, what is left, the nearest. -/
theorem turns (x y z : Int) (hz : z ≠ 0) (x1 : -2147483648 ≤ x) (x2 : x ≤ 2147483647) (y1 : -2147483648 ≤ y) (y2 : y ≤ 2147483647) (z1 : -2147483648 ≤ z) (z2 : z ≤ 2147483647) :
    mdV x y z 1 = -mdV (-x) y z 3 ∧ (0 < z → 0 ≤ x * y - mdV x y z 1 * z ∧ x * y - mdV x y z 1 * z < z) ∧ (z < 0 → 0 ≤ -(x * y - mdV x y z 1 * z) ∧ -(x * y - mdV x y z 1 * z) < -z) ∧
    mdF x y z 2 = true ∧ -4611686018427387904 ≤ mdV x y z 1 ∧ mdV x y z 1 ≤ 4611686018427387904 ∧ -4611686018427387904 ≤ x * y ∧ x * y ≤ 4611686018427387904 ∧ -4611686020574871552 ≤ mdV x y z 1 * z ∧ mdV x y z 1 * z ≤ 4611686020574871552 := by
  have hC := ab_pos z hz
  have p1 : 0 ≤ (2147483648 - x) * (2147483648 + y) := Int.mul_nonneg (by omega) (by omega)
  have p2 : 0 ≤ (2147483648 + x) * (2147483648 - y) := Int.mul_nonneg (by omega) (by omega)
  have p3 : 0 ≤ (2147483648 - x) * (2147483648 - y) := Int.mul_nonneg (by omega) (by omega)
  have p4 : 0 ≤ (2147483648 + x) * (2147483648 + y) := Int.mul_nonneg (by omega) (by omega)
  simp only [Int.sub_mul, Int.mul_sub, Int.add_mul, Int.mul_add] at p1 p2 p3 p4
  have hxy : -4611686018427387904 ≤ x * y ∧ x * y ≤ 4611686018427387904 := by omega
  have hN : -4611686018427387904 ≤ mdN x y z ∧ mdN x y z ≤ 4611686018427387904 := by unfold mdN; split <;> omega
  have hN' : mdN (-x) y z = -mdN x y z := by unfold mdN; rw [Int.neg_mul]; split <;> omega
  have hd := mdS_down x y z hz
  have hu := mdS_up (-x) y z hz
  rw [hN', Int.neg_neg] at hu
  have ho := mdS_order x y z hz
  have e := Int.mul_ediv_add_emod (mdN x y z) (ab z)
  have l0 := Int.emod_nonneg (mdN x y z) (Int.ne_of_gt hC)
  have l1 := Int.emod_lt_of_pos (mdN x y z) hC
  have q1 : mdN x y z / ab z ≤ 4611686018427387904 := by
    rcases Int.lt_or_le 4611686018427387904 (mdN x y z / ab z) with h | h
    · have := Int.mul_le_mul_of_nonneg_right (show (1 : Int) ≤ ab z by omega) (show 0 ≤ mdN x y z / ab z by omega)
      omega
    · exact h
  have q2 : -4611686018427387904 ≤ mdN x y z / ab z := by
    rcases Int.lt_or_le (mdN x y z / ab z) (-4611686018427387904) with h | h
    · have := Int.mul_le_mul_of_nonneg_right (show (1 : Int) ≤ ab z by omega) (show 0 ≤ -(mdN x y z / ab z) - 1 by omega)
      rw [Int.one_mul, Int.mul_sub, Int.mul_neg, Int.mul_one] at this
      omega
    · exact h
  rw [(mdV_ok x y z 1 hz (by omega) (by omega)).1, (mdV_ok (-x) y z 3 hz (by omega) (by omega)).1, (mdV_ok x y z 2 hz (by omega) (by omega)).2, hu, hd, satH_in (mdN x y z / ab z) (by omega) (by omega), satH_in (-(mdN x y z / ab z)) (by omega) (by omega)]
  have hz2 : ab z ≤ 2147483648 := by unfold ab; split <;> omega
  have ez : 0 < z → mdN x y z / ab z * z = ab z * (mdN x y z / ab z) := fun h => by rw [ab_eq z h, Int.mul_comm]
  have ez' : z < 0 → mdN x y z / ab z * z = -(ab z * (mdN x y z / ab z)) := fun h => by rw [nat_abs z h, Int.mul_comm, Int.neg_mul, Int.neg_neg]
  have en : 0 < z → mdN x y z = x * y := fun h => by unfold mdN; rw [if_neg (by omega)]
  have en' : z < 0 → mdN x y z = -(x * y) := fun h => by unfold mdN; rw [if_pos h]
  have ea : 0 < z → ab z = z := fun h => ab_eq z h
  have ea' : z < 0 → ab z = -z := fun h => nat_abs z h
  have hf : fitH (mdS x y z 2) = true := by unfold fitH; apply decide_eq_true; omega
  rw [hf]
  generalize mdN x y z / ab z * z = m at *
  generalize ab z * (mdN x y z / ab z) = m2 at *
  refine ⟨by omega, fun h => ?_, fun h => ?_, rfl, q2, q1, hxy.1, hxy.2, ?_, ?_⟩
  · have := ez h; have := en h; have := ea h; omega
  · have := ez' h; have := en' h; have := ea' h; omega
  · rcases (by omega : 0 < z ∨ z < 0) with h | h
    · have := ez h; have := en h; omega
    · have := ez' h; have := en' h; omega
  · rcases (by omega : 0 < z ∨ z < 0) with h | h
    · have := ez h; have := en h; omega
    · have := ez' h; have := en' h; omega
end Go.Proofs.Ytjeffjpenhhnnaa
