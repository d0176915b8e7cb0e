/-
  Numbers with 32 bits behind the point: what the functions of package fixed answer, in plain numbers, and what follows.
-/
import Derived.Test.YtdmmhhkkiokmiaaDoorPlainD
namespace Go.Proofs.YtdmmhhkkiokmiaaDoor
/-- Mul. -/
def fxM (x y : Int) : Int := mdV x y 4294967296 2
/-- Int. -/
def fxI (x : Int) : Int := mdV x 1 4294967296 1
/-- Of. -/
def fxO (n : Int) : Int := satH (n * 4294967296)
/-- Mix. -/
def fxX (x y w : Int) : Int := satH (x + fxM (satH (y - x)) w)
/-- Half. -/
def fxH (x n : Int) : Int := if n < 0 then x else x / 2 ^ min n.toNat 64
/-- What is left of One behind the part f. -/
def fxR (f : Int) : Int := 4294967296 - fxM f 2977044472 + fxM (fxM f f) 1031764991 - fxM (fxM (fxM f f) f) 206353000
/-- Fade. -/
def fxF (x : Int) : Int := if x ≤ 0 then 4294967296 else if 94489280512 ≤ x then 0 else fxH (fxR (fxM x 6196328019 - fxO (fxI (fxM x 6196328019)))) (fxI (fxM x 6196328019))

theorem fxM_bd (x y : Int) : -9223372036854775808 ≤ fxM x y ∧ fxM x y ≤ 9223372036854775807 := mdV_bd _ _ _ _
theorem fxI_bd (x : Int) : -9223372036854775808 ≤ fxI x ∧ fxI x ≤ 9223372036854775807 := mdV_bd _ _ _ _
theorem fxO_bd (x : Int) : -9223372036854775808 ≤ fxO x ∧ fxO x ≤ 9223372036854775807 := satH_bd _
theorem fxX_bd (x y w : Int) : -9223372036854775808 ≤ fxX x y w ∧ fxX x y w ≤ 9223372036854775807 := satH_bd _

theorem ab_nn (a : Int) (h : 0 ≤ a) : ab a = a := by unfold ab; rw [if_neg (by omega)]
/-- The nearest, at numbers that are not below 0. -/
theorem mdS_near (p q : Int) (p0 : 0 ≤ p) (q0 : 0 ≤ q) : mdS p q 4294967296 2 = (p * q + 2147483648) / 4294967296 := by
  have hn : mdNeg p q 4294967296 = false := by unfold mdNeg; simp [Int.not_lt.mpr p0, Int.not_lt.mpr q0]
  unfold mdS mdQ
  rw [hn, ab_nn p p0, ab_nn q q0, ab_nn 4294967296 (by omega)]
  generalize p * q = z
  unfold mdAway
  simp only [Bool.false_eq_true, if_false]
  by_cases h : 4294967296 - z % 4294967296 ≤ z % 4294967296
  · simp only [h, decide_true]; simp; omega
  · simp only [h, decide_false]; simp; omega
theorem fxM_eq (p q : Int) (p0 : 0 ≤ p) (q0 : 0 ≤ q) (h : p * q ≤ 19807040628566084398385987584) : fxM p q = (p * q + 2147483648) / 4294967296 := by
  have h0 : 0 ≤ p * q := Int.mul_nonneg p0 q0
  unfold fxM
  rw [(mdV_ok p q 4294967296 2 (by omega) (by omega) (by omega)).1, mdS_near p q p0 q0]
  exact satH_in _ (by omega) (by omega)
theorem fxI_eq (x : Int) (h1 : -9223372036854775808 ≤ x) (h2 : x ≤ 9223372036854775807) : fxI x = x / 4294967296 := by
  unfold fxI
  rw [(mdV_ok x 1 4294967296 1 (by omega) (by omega) (by omega)).1, mdS_down x 1 4294967296 (by omega), ab_nn 4294967296 (by omega)]
  unfold mdN
  rw [if_neg (by omega), Int.mul_one]
  exact satH_in _ (by omega) (by omega)
theorem fxM_one (f : Int) (h1 : -9223372036854775808 ≤ f) (h2 : f ≤ 9223372036854775807) : fxM 4294967296 f = f :=
  mdV_exact _ _ _ _ f (by omega) (by omega) (by omega) rfl h1 h2
theorem fxM_one' (f : Int) (h1 : -9223372036854775808 ≤ f) (h2 : f ≤ 9223372036854775807) : fxM f 4294967296 = f :=
  mdV_exact _ _ _ _ f (by omega) (by omega) (by omega) (Int.mul_comm _ _) h1 h2
theorem fxM_zero (f : Int) : fxM f 0 = 0 := mdV_exact _ _ _ _ 0 (by omega) (by omega) (by omega) (by simp) (by omega) (by omega)

/-- What the parts of p are, from f in 0 .. One. -/
theorem fxR_parts (f : Int) (f0 : 0 ≤ f) (f1 : f < 4294967296) :
    (0 ≤ fxM f 2977044472 ∧ fxM f 2977044472 ≤ 2977044472) ∧ (0 ≤ fxM f f ∧ fxM f f ≤ f) ∧ (0 ≤ fxM (fxM f f) 1031764991 ∧ fxM (fxM f f) 1031764991 ≤ fxM f 2977044472) ∧
    (0 ≤ fxM (fxM f f) f ∧ fxM (fxM f f) f ≤ f) ∧ (0 ≤ fxM (fxM (fxM f f) f) 206353000 ∧ fxM (fxM (fxM f f) f) 206353000 ≤ 206353000) := by
  have s0 : 0 ≤ f * f := Int.mul_nonneg f0 f0
  have s1 : f * f ≤ 4294967296 * f := Int.mul_le_mul_of_nonneg_right (by omega) f0
  have e2 := fxM_eq f f f0 f0 (by omega)
  have a2 : 0 ≤ fxM f f ∧ fxM f f ≤ f := by omega
  have e1 := fxM_eq f 2977044472 f0 (by omega) (by omega)
  have e3 := fxM_eq (fxM f f) 1031764991 a2.1 (by omega) (by omega)
  have t0 : 0 ≤ fxM f f * f := Int.mul_nonneg a2.1 f0
  have t1 : fxM f f * f ≤ 4294967296 * f := Int.mul_le_mul_of_nonneg_right (by omega) f0
  have e4 := fxM_eq (fxM f f) f a2.1 f0 (by omega)
  have a4 : 0 ≤ fxM (fxM f f) f ∧ fxM (fxM f f) f ≤ f := by omega
  have e5 := fxM_eq (fxM (fxM f f) f) 206353000 a4.1 (by omega) (by omega)
  exact ⟨by omega, a2, by omega, a4, by omega⟩
theorem fxR_bd (f : Int) (f0 : 0 ≤ f) (f1 : f < 4294967296) : 0 ≤ fxR f ∧ fxR f ≤ 4294967296 := by
  obtain ⟨h1, h2, h3, h4, h5⟩ := fxR_parts f f0 f1
  unfold fxR
  omega

theorem fxH_bd (x n : Int) (h1 : -9223372036854775808 ≤ x) (h2 : x ≤ 9223372036854775807) : -9223372036854775808 ≤ fxH x n ∧ fxH x n ≤ 9223372036854775807 := by
  unfold fxH
  split
  · omega
  · have hp : (1 : Int) ≤ 2 ^ min n.toNat 64 := Int.le_of_lt_add_one (by have := Int.pow_pos (n := 2) (m := min n.toNat 64) (by omega); omega)
    constructor
    · refine Int.le_trans ?_ (Int.ediv_le_ediv (by omega) h1)
      have := Int.ediv_nonneg (a := 9223372036854775808 - 1) (b := 2 ^ min n.toNat 64) (by omega) (by omega)
      rw [Int.le_ediv_iff_mul_le (by omega)]
      have := Int.mul_le_mul_of_nonneg_left hp (show (0:Int) ≤ 9223372036854775808 by omega)
      omega
    · by_cases hx : 0 ≤ x
      · exact Int.le_trans (Int.ediv_le_self _ hx) h2
      · have := Int.ediv_neg_of_neg_of_pos (show x < 0 by omega) (show 0 < (2 : Int) ^ min n.toNat 64 by omega)
        omega
theorem fxH_low (x n : Int) (h : n < 0) : x = fxH x n := by unfold fxH; rw [if_pos h]
theorem fxH_up (x n : Int) (h : 0 ≤ n) : x / 2 ^ min n.toNat 64 = fxH x n := by unfold fxH; rw [if_neg (by omega)]
/-- Above 62 the sign alone is left. -/
theorem fxH_far (x n : Int) (h1 : -9223372036854775808 ≤ x) (h2 : x ≤ 9223372036854775807) (h : 62 < n) : fxH x n = if x < 0 then -1 else 0 := by
  rw [← fxH_up x n (by omega)]
  have hk : min n.toNat 64 = 63 ∨ min n.toNat 64 = 64 := by omega
  rcases hk with hk | hk <;> rw [hk]
  · show x / 9223372036854775808 = _; split <;> omega
  · show x / 18446744073709551616 = _; split <;> omega
theorem fxH_mid (x n : Int) (h1 : -9223372036854775808 ≤ x) (h2 : x ≤ 9223372036854775807) (h0 : 0 ≤ n) (h : n ≤ 62) : mdV x 1 (2 ^ n.toNat) 1 = fxH x n := by
  have hp : (0 : Int) < 2 ^ n.toNat := Int.pow_pos (by omega)
  have e : min n.toNat 64 = n.toNat := by omega
  have b := fxH_bd x n h1 h2
  rw [← fxH_up x n h0, e] at b ⊢
  rw [(mdV_ok x 1 (2 ^ n.toNat) 1 (by omega) (by omega) (by omega)).1, mdS_down x 1 _ (by omega), ab_nn _ (by omega)]
  unfold mdN
  rw [if_neg (by omega), Int.mul_one]
  exact satH_in _ b.1 b.2
theorem fxH_nn (x n : Int) (h : 0 ≤ x) : 0 ≤ fxH x n ∧ fxH x n ≤ x := by
  unfold fxH
  split
  · omega
  · exact ⟨Int.ediv_nonneg h (Int.le_of_lt (Int.pow_pos (by omega))), Int.ediv_le_self _ h⟩
/-- The parts of a number that fades. -/
theorem fxF_parts (x : Int) (x0 : 0 < x) (x1 : x < 94489280512) :
    0 ≤ fxM x 6196328019 ∧ fxM x 6196328019 ≤ 136319216418 ∧ fxI (fxM x 6196328019) = fxM x 6196328019 / 4294967296 ∧ fxO (fxI (fxM x 6196328019)) = fxM x 6196328019 / 4294967296 * 4294967296 ∧
    0 ≤ fxM x 6196328019 - fxO (fxI (fxM x 6196328019)) ∧ fxM x 6196328019 - fxO (fxI (fxM x 6196328019)) < 4294967296 := by
  have e := fxM_eq x 6196328019 (by omega) (by omega) (by omega)
  have b : 0 ≤ fxM x 6196328019 ∧ fxM x 6196328019 ≤ 136319216418 := by omega
  have i := fxI_eq (fxM x 6196328019) (by omega) (by omega)
  have o : fxO (fxI (fxM x 6196328019)) = fxM x 6196328019 / 4294967296 * 4294967296 := by
    rw [i]; exact satH_in _ (by omega) (by omega)
  exact ⟨b.1, b.2, i, o, by omega, by omega⟩
theorem fxF_bd (x : Int) : 0 ≤ fxF x ∧ fxF x ≤ 4294967296 := by
  unfold fxF
  split
  · omega
  · split
    · omega
    · have h := fxF_parts x (by omega) (by omega)
      have r := fxR_bd _ h.2.2.2.2.1 h.2.2.2.2.2
      have k := fxH_nn (fxR (fxM x 6196328019 - fxO (fxI (fxM x 6196328019)))) (fxI (fxM x 6196328019)) r.1
      omega
end Go.Proofs.YtdmmhhkkiokmiaaDoor
