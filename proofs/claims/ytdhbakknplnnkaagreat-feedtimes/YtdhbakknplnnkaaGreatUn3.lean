/-
  What the functions of package units hand back for every input: bytes, ticks, rates, stamps; the law's wakes.
-/
import Derived.Test.YtdhbakknplnnkaaGreatUn1
import Derived.WalkKit
import Derived.WalkSpells
import Derived.WalkLawsBesides
import Derived.Handy
import Derived.LoopN
import Derived.Below
namespace Go.Proofs.YtdhbakknplnnkaaGreat.Un
open Go.RowKit

theorem count_any (x : Int) (x1 : -9223372036854775808 ≤ x) (x2 : x ≤ 9223372036854775807) (w : World) :
    Calls Tryz.prog 129 #[.int .i64 x] w fun e w' => e = .returned (.int .i64 (mdV x 65536 1000000 1)) ∧ Below w.heap.size w w' := by
  have C := mkHid (do_any x 65536 1000000 1 x1 x2 (by omega) (by omega) (by omega) (by omega))
  go_enter Tryz.func129, Tryz.ntmps129
  go_wp2_with fail
  refine (C.out _).mono ?_
  rintro e w1 ⟨rfl, hb1⟩
  go_wp2
  go_ret
  exact ⟨rfl, hb1⟩
theorem span_any (x : Int) (x1 : -9223372036854775808 ≤ x) (x2 : x ≤ 9223372036854775807) (w : World) :
    Calls Tryz.prog 131 #[.int .i64 x] w fun e w' => e = .returned (.int .i64 (mdV x 1000000 65536 3)) ∧ Below w.heap.size w w' := by
  have C := mkHid (do_any x 1000000 65536 3 x1 x2 (by omega) (by omega) (by omega) (by omega))
  go_enter Tryz.func131, Tryz.ntmps131
  go_wp2_with fail
  refine (C.out _).mono ?_
  rintro e w1 ⟨rfl, hb1⟩
  go_wp2
  go_ret
  exact ⟨rfl, hb1⟩
end Go.Proofs.YtdhbakknplnnkaaGreat.Un
namespace Go.Proofs.YtdhbakknplnnkaaGreat.Un
open Go.RowKit

/-- A product divided by a number above 0, rounded down, or up. -/
theorem mdV_d (a b c : Int) (hc : 0 < c) : mdV a b c 1 = satH (a * b / c) := by
  rw [(mdV_ok a b c 1 (by omega) (by omega) (by omega)).1, mdS_down a b c (by omega), ab_eq c hc]
  unfold mdN; rw [if_neg (by omega)]
theorem mdV_u (a b c : Int) (hc : 0 < c) : mdV a b c 3 = satH (-(-(a * b) / c)) := by
  rw [(mdV_ok a b c 3 (by omega) (by omega) (by omega)).1, mdS_up a b c (by omega), ab_eq c hc]
  unfold mdN; rw [if_neg (by omega)]

theorem prodS (a b m n : Int) (a0 : 0 ≤ a) (a1 : a ≤ m) (b0 : 0 ≤ b) (b1 : b ≤ n) : 0 ≤ a * b ∧ a * b ≤ m * n :=
  ⟨Int.mul_nonneg a0 b0, Int.le_trans (Int.mul_le_mul_of_nonneg_right a1 b0) (Int.mul_le_mul_of_nonneg_left b1 (by omega))⟩

/-- The bytes of a rate in a time, where both are small. -/
theorem by_small (a b : Int) (a0 : 0 ≤ a) (a1 : a ≤ 8589934592) (b0 : 0 ≤ b) (b1 : b ≤ 8589934592) : mdV a b 8000000 1 = a * b / 8000000 := by
  have := prodS a b _ _ a0 a1 b0 b1
  rw [mdV_d a b _ (by omega)]
  generalize a * b = p at *
  exact satH_in _ (by omega) (by omega)

/-- The bytes of two spans, and of both together. -/
theorem adds (x y z : Int) (x0 : 0 ≤ x) (x1 : x ≤ 4294967295) (y0 : 0 ≤ y) (y1 : y ≤ 4294967295) (z0 : 0 ≤ z) (z1 : z ≤ 4294967295) :
    ∃ p q r : Int, mdV x y 8000000 1 = p ∧ mdV x z 8000000 1 = q ∧ mdV x (y + z) 8000000 1 = r ∧ 0 ≤ p ∧ p ≤ 1152921504606846976 ∧ 0 ≤ q ∧ q ≤ 1152921504606846976 ∧ p + q ≤ r ∧ r ≤ p + q + 1 := by
  refine ⟨_, _, _, rfl, rfl, rfl, ?_⟩
  have h1 := prodS x y _ _ x0 x1 y0 y1
  have h2 := prodS x z _ _ x0 x1 z0 z1
  rw [by_small x y (by omega) (by omega) (by omega) (by omega), by_small x z (by omega) (by omega) (by omega) (by omega), by_small x (y + z) (by omega) (by omega) (by omega) (by omega), Int.mul_add]
  generalize x * y = p at *
  generalize x * z = q at *
  omega

/-- The ticks of bytes at a rate; the bytes of these ticks, and of one less. -/
theorem backs (r b : Int) (r0 : 1 ≤ r) (r1 : r ≤ 4294967296) (b0 : 1 ≤ b) (b1 : b ≤ 65536) :
    ∃ n p q : Int, mdV b 8000000 r 3 = n ∧ 1 ≤ n ∧ n ≤ 9223372036854775807 ∧ mdV r n 8000000 1 = p ∧ mdV r (n - 1) 8000000 1 = q ∧ b ≤ p ∧ q < b := by
  have e : mdV b 8000000 r 3 = -(-(b * 8000000) / r) := by
    rw [mdV_u _ _ _ (by omega)]
    apply satH_in
    · have := Int.mul_ediv_self_le (x := -(b * 8000000)) (k := r) (by omega)
      have : -(b * 8000000) / r ≤ 0 := by
        by_cases h : -(b * 8000000) / r ≤ 0
        · exact h
        · have := Int.mul_pos (show (0 : Int) < r by omega) (show 0 < -(b * 8000000) / r by omega)
          omega
      omega
    · have := Int.lt_mul_ediv_self_add (x := -(b * 8000000)) (k := r) (by omega)
      have : -(b * 8000000) ≤ -(b * 8000000) / r := by
        have h1 : -(b * 8000000) ≤ 0 := by omega
        have := Int.ediv_le_ediv (a := -(b * 8000000) * r) (b := -(b * 8000000)) (c := r) (by omega) (by
          have := Int.mul_nonneg (show (0 : Int) ≤ b * 8000000 by omega) (show 0 ≤ r - 1 by omega)
          rw [Int.mul_sub, Int.mul_one] at this
          rw [Int.neg_mul]; omega)
        rwa [Int.mul_ediv_cancel _ (show r ≠ 0 by omega)] at this
      omega
  have d1 := Int.mul_ediv_self_le (x := -(b * 8000000)) (k := r) (by omega)
  have d2 := Int.lt_mul_ediv_self_add (x := -(b * 8000000)) (k := r) (by omega)
  rw [e]
  generalize hq : -(b * 8000000) / r = q at *
  have q1 : q ≤ -1 := by
    by_cases h : q ≤ -1
    · exact h
    · have := Int.mul_nonneg (show (0 : Int) ≤ r by omega) (show 0 ≤ q by omega)
      omega
  have q2 : -524288000000 ≤ q := by
    by_cases h : -524288000000 ≤ q
    · exact h
    · have := Int.mul_le_mul_of_nonneg_left (show q ≤ -524288000001 by omega) (show (0 : Int) ≤ r - 1 by omega)
      rw [Int.sub_mul, Int.one_mul] at this
      omega
  have s1 := Int.mul_neg r q
  have s2 : r * (-q - 1) = -(r * q) - r := by rw [Int.mul_sub, Int.mul_neg, Int.mul_one]
  have hn := Int.mul_nonneg (show (0 : Int) ≤ r by omega) (show 0 ≤ -q by omega)
  have hm := Int.mul_nonneg (show (0 : Int) ≤ r by omega) (show 0 ≤ -q - 1 by omega)
  refine ⟨_, _, _, rfl, by omega, by omega, rfl, rfl, ?_⟩
  rw [mdV_d r (-q) _ (by omega), mdV_d r (-q - 1) _ (by omega)]
  rw [s1] at hn ⊢
  rw [s2] at hm ⊢
  generalize r * q = p at *
  rw [satH_in _ (by omega) (by omega), satH_in _ (by omega) (by omega)]
  omega

/-- The rate of a rate's bytes. -/
theorem goes (r t : Int) (r0 : 1 ≤ r) (r1 : r ≤ 4294967296) (t0 : 1 ≤ t) (t1 : t ≤ 4294967296) :
    ∃ p q : Int, mdV r t 8000000 1 = p ∧ -9223372036854775808 ≤ p ∧ p ≤ 9223372036854775807 ∧ mdV p 8000000 t 1 = q ∧ q ≤ r := by
  have h := prodS r t _ _ (by omega) r1 (by omega) t1
  refine ⟨_, _, by_small r t (by omega) (by omega) (by omega) (by omega), ?_, ?_, rfl, ?_⟩
  · generalize r * t = p at *; omega
  · generalize r * t = p at *; omega
  · rw [mdV_d _ _ _ (by omega)]
    have : r * t / 8000000 * 8000000 / t ≤ r := by
      have := Int.ediv_le_ediv (a := r * t / 8000000 * 8000000) (b := r * t) (c := t) (by omega) (by generalize r * t = p; omega)
      rwa [Int.mul_ediv_cancel _ (show t ≠ 0 by omega)] at this
    unfold satH; repeat' split <;> omega
end Go.Proofs.YtdhbakknplnnkaaGreat.Un
namespace Go.Proofs.YtdhbakknplnnkaaGreat.Un
open Go.RowKit

/-- How far two numbers are from each other. -/
def awV (c o : Int) : Int := if c ≤ o then o - c else c - o
/-- -1, 0, 1. -/
def cpV (x y : Int) : Int := if x < y then -1 else if y < x then 1 else 0
def orV (x y : Int) : Int := if x = 0 then y else x
/-- Which of two is nearer to c, or greater. -/
def cmV (c a b : Int) : Int := orV (cpV (awV c a) (awV c b)) (cpV b a)

theorem ret_i {a b : Int} (h : a = b) : Ending.returned (.int .i64 a) = .returned (.int .i64 b) := by rw [h]

theorem away_any (c o : Int) (c1 : -2305843009213693952 ≤ c) (c2 : c ≤ 2305843009213693952) (o1 : -2305843009213693952 ≤ o) (o2 : o ≤ 2305843009213693952) (w : World) :
    Calls Tryz.prog 139 #[.int .i64 c, .int .i64 o] w fun e w' => e = .returned (.int .i64 (awV c o)) ∧ w' = w := by
  go_enter Tryz.func139, Tryz.ntmps139
  go_wp2
  all_goals
    go_ret
    exact ⟨ret_i (by unfold awV; split <;> omega), rfl⟩

theorem nan_any (x : Int) (w : World) : Calls Tryz.prog 146 #[.int .i64 x] w fun e w' => e = .returned (.bool false) ∧ w' = w := by
  go_enter Tryz.func146, Tryz.ntmps146
  go_wp2
  go_ret
  exact ⟨rfl, rfl⟩

theorem cp_any (x y : Int) (w : World) : Calls Tryz.prog 138 #[.int .i64 x, .int .i64 y] w fun e w' => e = .returned (.int .i64 (cpV x y)) ∧ w' = w := by
  have C1 := mkHid (nan_any x)
  have C2 := mkHid (nan_any y)
  go_each [x < y, y < x] => (
    go_enter Tryz.func138, Tryz.ntmps138
    go_wp2_with fail
    refine (C1.out _).mono ?_
    rintro e w1 ⟨rfl, rfl⟩
    go_wp2_with fail
    refine (C2.out _).mono ?_
    rintro e w2 ⟨rfl, rfl⟩
    go_wp2
    go_ret
    exact ⟨ret_i (by unfold cpV; repeat' split <;> omega), rfl⟩)

theorem or_any (x y : Int) (b : Nat) (w : World) (hx : w.cell? ⟨b, 0, none⟩ = some (.int .i64 x)) (hy : w.cell? ⟨b, 1, none⟩ = some (.int .i64 y)) :
    Calls Tryz.prog 137 #[.slice (some ⟨b, 0, none⟩) 2 2] w fun e w' => e = .returned (.int .i64 (orV x y)) ∧ w' = w := by
  by_cases h0 : x = 0
  · by_cases h1 : y = 0
    · go_enter Tryz.func137, Tryz.ntmps137
      go_wp2
      refine wp_loop_rounds 3 ?_
      rw [rounds_succ]; go_wp2
      rw [rounds_succ]; go_wp2
      rw [rounds_succ]; go_wp2
      go_ret
      exact ⟨ret_i (by unfold orV; repeat' split <;> omega), rfl⟩
    · go_enter Tryz.func137, Tryz.ntmps137
      go_wp2
      refine wp_loop_rounds 3 ?_
      rw [rounds_succ]; go_wp2
      rw [rounds_succ]; go_wp2
      go_ret
      exact ⟨ret_i (by unfold orV; repeat' split <;> omega), rfl⟩
  · go_enter Tryz.func137, Tryz.ntmps137
    go_wp2
    refine wp_loop_rounds 3 ?_
    rw [rounds_succ]; go_wp2
    go_ret
    exact ⟨ret_i (by unfold orV; repeat' split <;> omega), rfl⟩

theorem aw_bd (c o : Int) : 0 ≤ awV c o := by unfold awV; split <;> omega

set_option maxHeartbeats 1000000 in
theorem cm_any (c a b : Int) (c1 : -2305843009213693952 ≤ c) (c2 : c ≤ 2305843009213693952) (a1 : -2305843009213693952 ≤ a) (a2 : a ≤ 2305843009213693952) (b1 : -2305843009213693952 ≤ b) (b2 : b ≤ 2305843009213693952) (w : World) :
    Calls Tryz.prog 135 #[.int .i64 c, .int .i64 a, .int .i64 b] w fun e w' => e = .returned (.int .i64 (cmV c a b)) ∧ Below w.heap.size w w' := by
  have C1 := mkHid (away_any c a c1 c2 a1 a2)
  have C2 := mkHid (away_any c b c1 c2 b1 b2)
  have C3 := mkHid (cp_any (awV c a) (awV c b))
  have C4 := mkHid (cp_any b a)
  have C5 := mkHid (or_any (cpV (awV c a) (awV c b)) (cpV b a) w.heap.size)
  unfold cmV
  generalize awV c a = u at *
  generalize awV c b = v at *
  generalize cpV u v = p at *
  generalize cpV b a = q at *
  go_enter Tryz.func135, Tryz.ntmps135
  go_wp2_with fail
  refine (C1.out _).mono ?_
  rintro e w1 ⟨rfl, rfl⟩
  go_wp2_with fail
  refine (C2.out _).mono ?_
  rintro e w2 ⟨rfl, rfl⟩
  go_wp2_with fail
  refine (C3.out _).mono ?_
  rintro e w3 ⟨rfl, rfl⟩
  go_wp2_with fail
  refine (C4.out _).mono ?_
  rintro e w4 ⟨rfl, rfl⟩
  go_wp2_with fail
  refine (C5.out _ (by simp) (by simp)).mono ?_
  rintro e w5 ⟨rfl, rfl⟩
  go_wp2
  go_ret
  exact ⟨rfl, (Below.refl _ _).alloc (Nat.le_refl _) _⟩

/-- The least of three by cmV. -/
def mnV (c x y z : Int) : Int := if cmV c z (if cmV c y x < 0 then y else x) < 0 then z else if cmV c y x < 0 then y else x

set_option maxHeartbeats 2000000 in
theorem min_any (c x y z : Int) (c1 : -2305843009213693952 ≤ c) (c2 : c ≤ 2305843009213693952) (x1 : -2305843009213693952 ≤ x) (x2 : x ≤ 2305843009213693952) (y1 : -2305843009213693952 ≤ y) (y2 : y ≤ 2305843009213693952) (z1 : -2305843009213693952 ≤ z) (z2 : z ≤ 2305843009213693952) (b : Nat) (w : World)
    (hx : w.cell? ⟨b, 0, none⟩ = some (.int .i64 x)) (hy : w.cell? ⟨b, 1, none⟩ = some (.int .i64 y)) (hz : w.cell? ⟨b, 2, none⟩ = some (.int .i64 z)) (hb : b < w.heap.size) :
    Calls Tryz.prog 134 #[.slice (some ⟨b, 0, none⟩) 3 3, .func (.func 135) #[.int .i64 c] #[]] w fun e w' => e = .returned (.int .i64 (mnV c x y z)) ∧ Below w.heap.size w w' := by
  have C1 := mkHid (cm_any c y x c1 c2 y1 y2 x1 x2)
  have C2 := mkHid (cm_any c z x c1 c2 z1 z2 x1 x2)
  have C3 := mkHid (cm_any c z y c1 c2 z1 z2 y1 y2)
  unfold mnV
  generalize cmV c y x = p at *
  generalize hq : cmV c z x = q at *
  generalize hr : cmV c z y = r at *
  clear c1 c2 x1 x2 y1 y2 z1 z2
  by_cases h1 : p < 0
  · rw [if_pos h1, hr]
    by_cases h2 : r < 0
    · rw [if_pos h2]
      go_enter Tryz.func134, Tryz.ntmps134
      go_wp2
      refine wp_loop_rounds 3 ?_
      rw [rounds_succ]
      go_wp2_with fail
      refine (C1.out _).mono ?_
      rintro e w1 ⟨rfl, hb1⟩
      have hy1 : w1.cell? ⟨b, 1, none⟩ = some (.int .i64 y) := (hb1.cell hb).trans hy
      have hz1 : w1.cell? ⟨b, 2, none⟩ = some (.int .i64 z) := (hb1.cell hb).trans hz
      go_wp2
      rw [rounds_succ]
      go_wp2_with fail
      refine (carry hb1 (C3.out _)).mono ?_
      rintro e w2 ⟨rfl, hb2⟩
      have hz2 : w2.cell? ⟨b, 2, none⟩ = some (.int .i64 z) := (hb2.cell hb).trans hz
      go_wp2
      rw [rounds_succ]
      go_wp2
      go_ret
      exact ⟨rfl, hb2⟩
    · rw [if_neg h2]
      go_enter Tryz.func134, Tryz.ntmps134
      go_wp2
      refine wp_loop_rounds 3 ?_
      rw [rounds_succ]
      go_wp2_with fail
      refine (C1.out _).mono ?_
      rintro e w1 ⟨rfl, hb1⟩
      have hy1 : w1.cell? ⟨b, 1, none⟩ = some (.int .i64 y) := (hb1.cell hb).trans hy
      have hz1 : w1.cell? ⟨b, 2, none⟩ = some (.int .i64 z) := (hb1.cell hb).trans hz
      go_wp2
      rw [rounds_succ]
      go_wp2_with fail
      refine (carry hb1 (C3.out _)).mono ?_
      rintro e w2 ⟨rfl, hb2⟩
      have hz2 : w2.cell? ⟨b, 2, none⟩ = some (.int .i64 z) := (hb2.cell hb).trans hz
      go_wp2
      rw [rounds_succ]
      go_wp2
      go_ret
      exact ⟨rfl, hb2⟩
  · rw [if_neg h1, hq]
    by_cases h2 : q < 0
    · rw [if_pos h2]
      go_enter Tryz.func134, Tryz.ntmps134
      go_wp2
      refine wp_loop_rounds 3 ?_
      rw [rounds_succ]
      go_wp2_with fail
      refine (C1.out _).mono ?_
      rintro e w1 ⟨rfl, hb1⟩
      have hy1 : w1.cell? ⟨b, 1, none⟩ = some (.int .i64 y) := (hb1.cell hb).trans hy
      have hz1 : w1.cell? ⟨b, 2, none⟩ = some (.int .i64 z) := (hb1.cell hb).trans hz
      go_wp2
      rw [rounds_succ]
      go_wp2_with fail
      refine (carry hb1 (C2.out _)).mono ?_
      rintro e w2 ⟨rfl, hb2⟩
      have hz2 : w2.cell? ⟨b, 2, none⟩ = some (.int .i64 z) := (hb2.cell hb).trans hz
      go_wp2
      rw [rounds_succ]
      go_wp2
      go_ret
      exact ⟨rfl, hb2⟩
    · rw [if_neg h2]
      go_enter Tryz.func134, Tryz.ntmps134
      go_wp2
      refine wp_loop_rounds 3 ?_
      rw [rounds_succ]
      go_wp2_with fail
      refine (C1.out _).mono ?_
      rintro e w1 ⟨rfl, hb1⟩
      have hy1 : w1.cell? ⟨b, 1, none⟩ = some (.int .i64 y) := (hb1.cell hb).trans hy
      have hz1 : w1.cell? ⟨b, 2, none⟩ = some (.int .i64 z) := (hb1.cell hb).trans hz
      go_wp2
      rw [rounds_succ]
      go_wp2_with fail
      refine (carry hb1 (C2.out _)).mono ?_
      rintro e w2 ⟨rfl, hb2⟩
      have hz2 : w2.cell? ⟨b, 2, none⟩ = some (.int .i64 z) := (hb2.cell hb).trans hz
      go_wp2
      rw [rounds_succ]
      go_wp2
      go_ret
      exact ⟨rfl, hb2⟩

theorem low_any (c : Int) (w : World) :
    Calls Tryz.prog 133 #[.int .i64 c] w fun e w' => e = .returned (.int .i64 (c % 4294967296)) ∧ w' = w := by
  go_enter Tryz.func133, Tryz.ntmps133
  go_wp2
  go_ret
  exact ⟨ret_i (by first | rfl | omega), rfl⟩

/-- The number nearest to c whose lower 32 bits are s; of two the greater one. -/
def nrV (c s : Int) : Int := if (s - c) % 4294967296 ≤ 2147483648 then c + (s - c) % 4294967296 else c + (s - c) % 4294967296 - 4294967296

theorem cm_neg (c a b : Int) : cmV c a b < 0 ↔ (awV c a < awV c b ∨ awV c a = awV c b ∧ b < a) := by
  unfold cmV orV cpV
  generalize awV c a = u
  generalize awV c b = v
  repeat' split <;> omega
theorem mn_near (c s : Int) (s0 : 0 ≤ s) (s1 : s < 4294967296) : mnV c (c - c % 4294967296 + s - 4294967296) (c - c % 4294967296 + s) (c - c % 4294967296 + s + 4294967296) = nrV c s := by
  unfold mnV nrV
  simp only [cm_neg]
  unfold awV
  have h0 : (s - c) % 4294967296 = if c % 4294967296 ≤ s then s - c % 4294967296 else s - c % 4294967296 + 4294967296 := by split <;> omega
  rw [h0]
  generalize hl : c % 4294967296 = l at *
  have l0 : 0 ≤ l := by omega
  have l1 : l < 4294967296 := by omega
  clear hl h0
  repeat' split <;> omega
theorem nr_bd (c s : Int) : c - 2147483648 ≤ nrV c s ∧ nrV c s ≤ c + 2147483648 := by unfold nrV; split <;> omega

set_option maxHeartbeats 1000000 in
theorem near_any (c s : Int) (c1 : -1152921504606846976 ≤ c) (c2 : c ≤ 1152921504606846976) (s1 : 0 ≤ s) (s2 : s < 4294967296) (w : World) :
    Calls Tryz.prog 130 #[.int .i64 c, .int .u32 s] w fun e w' => e = .returned (.int .i64 (nrV c s)) ∧ Below w.heap.size w w' := by
  have hmf : ∀ (fn : Fn) (first cap : Array Value) (w : World), (Instr.makeFunc fn first cap).run Tryz.prog w = .ok (.func fn first cap) w := fun _ _ _ _ => rfl
  have C1 := mkHid (low_any c)
  have C2 := mkHid (min_any c (c - c % 4294967296 + s - 4294967296) (c - c % 4294967296 + s) (c - c % 4294967296 + s + 4294967296) (by omega) (by omega) (by omega) (by omega) (by omega) (by omega) (by omega) (by omega) w.heap.size)
  rw [mn_near c s s1 s2] at C2
  have l0 : 0 ≤ c % 4294967296 := by omega
  have l1 : c % 4294967296 < 4294967296 := by omega
  generalize c % 4294967296 = l at *
  generalize nrV c s = r at *
  go_enter Tryz.func130, Tryz.ntmps130
  go_wp2_with fail
  refine (C1.out _).mono ?_
  rintro e w1 ⟨rfl, rfl⟩
  go_wp2_with fail
  refine (C2.out _ (by simp) (by simp) (by simp) (by simp)).mono ?_
  rintro e w2 ⟨rfl, hb2⟩
  go_wp2
  go_ret
  exact ⟨rfl, ((Below.refl _ _).alloc (Nat.le_refl _) _).trans (hb2.mono (by simp))⟩

/-- A number held between two. -/
def clV (a lo hi : Int) : Int := if a < lo then lo else if hi < a then hi else a
theorem clamp_any (a lo hi : Int) (h : lo ≤ hi) (w : World) :
    Calls Tryz.prog 18 #[.int .i64 a, .int .i64 lo, .int .i64 hi] w fun e w' => e = .returned (.int .i64 (clV a lo hi)) ∧ w' = w := by
  go_each [a < lo, hi < a] => (
    go_enter Tryz.func18, Tryz.ntmps18
    go_wp2
    go_ret
    exact ⟨ret_i (by unfold clV; repeat' split <;> omega), rfl⟩)
theorem cl_bd (a : Int) : -1125899906842624 ≤ clV a (-1125899906842624) 1125899906842624 ∧ clV a (-1125899906842624) 1125899906842624 ≤ 1125899906842624 := by unfold clV; repeat' split <;> omega
/-- The count of a time. -/
theorem ct_bd (t : Int) (t1 : -1125899906842624 ≤ t) (t2 : t ≤ 1125899906842624) : mdV t 65536 1000000 1 = t * 65536 / 1000000 ∧ -1152921504606846976 ≤ mdV t 65536 1000000 1 ∧ mdV t 65536 1000000 1 ≤ 1152921504606846976 := by
  have e : mdV t 65536 1000000 1 = t * 65536 / 1000000 := by rw [mdV_d _ _ _ (by omega), satH_in _ (by omega) (by omega)]
  rw [e]; omega
/-- What FromStamp answers. -/
def frV (s near : Int) : Int := mdV (nrV (mdV (clV near (-1125899906842624) 1125899906842624) 65536 1000000 1) s) 1000000 65536 3

set_option maxHeartbeats 1000000 in
theorem from_any (s near : Int) (s1 : 0 ≤ s) (s2 : s < 4294967296) (w : World) :
    Calls Tryz.prog 126 #[.int .u32 s, .int .i64 near] w fun e w' => e = .returned (.int .i64 (frV s near)) ∧ Below w.heap.size w w' := by
  have C1 := mkHid (clamp_any near (-1125899906842624) 1125899906842624 (by omega))
  have k := cl_bd near
  unfold frV
  generalize clV near (-1125899906842624) 1125899906842624 = t at *
  have C2 := mkHid (count_any t (by omega) (by omega))
  have l := (ct_bd t k.1 k.2).2
  generalize mdV t 65536 1000000 1 = c at *
  have C3 := mkHid (near_any c s l.1 l.2 s1 s2)
  have m := nr_bd c s
  generalize nrV c s = n at *
  have C4 := mkHid (span_any n (by omega) (by omega))
  generalize mdV n 1000000 65536 3 = r at *
  go_enter Tryz.func126, Tryz.ntmps126
  go_wp2_with fail
  refine (C1.out _).mono ?_
  rintro e w1 ⟨rfl, rfl⟩
  go_wp2_with fail
  refine (C2.out _).mono ?_
  rintro e w2 ⟨rfl, hb2⟩
  go_wp2_with fail
  refine (carry hb2 (C3.out _)).mono ?_
  rintro e w3 ⟨rfl, hb3⟩
  go_wp2_with fail
  refine (carry hb3 (C4.out _)).mono ?_
  rintro e w4 ⟨rfl, hb4⟩
  go_wp2
  go_ret
  exact ⟨rfl, hb4⟩
end Go.Proofs.YtdhbakknplnnkaaGreat.Un
