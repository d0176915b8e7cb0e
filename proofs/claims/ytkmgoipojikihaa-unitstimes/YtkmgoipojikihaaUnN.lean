/-
  What the functions of package units that find the nearest count hand back, and the library's cmp.Compare, cmp.Or, slices.MinFunc as units calls them.
-/
import Derived.Test.YtkmgoipojikihaaUnA
import Derived.Test.YtkmgoipojikihaaUnP
import Derived.LoopN
import Derived.Below
namespace Go.Proofs.Ytkmgoipojikihaa
open Go.RowKit

/-- How far two numbers are from each other. -/
def awV (c o : Int) : Int := if c ≤ o then o - c else c - o
/-- -1, 0, 1. -/
def cpV (x y : Int) : Int := if x < y then -1 else if y < x then 1 else 0
def orV (x y : Int) : Int := if x = 0 then y else x
/-- Which of two is nearer to c, or greater. -/
def cmV (c a b : Int) : Int := orV (cpV (awV c a) (awV c b)) (cpV b a)

theorem ret_i {a b : Int} (h : a = b) : Ending.returned (.int .i64 a) = .returned (.int .i64 b) := by rw [h]

theorem away_any (c o : Int) (c1 : -2305843009213693952 ≤ c) (c2 : c ≤ 2305843009213693952) (o1 : -2305843009213693952 ≤ o) (o2 : o ≤ 2305843009213693952) (w : World) :
    Calls Try.prog 41 #[.int .i64 c, .int .i64 o] w fun e w' => e = .returned (.int .i64 (awV c o)) ∧ w' = w := by
  go_enter Try.func41, Try.ntmps41
  go_wp2
  all_goals
    go_ret
    exact ⟨ret_i (by unfold awV; split <;> omega), rfl⟩

theorem nan_any (x : Int) (w : World) : Calls Try.prog 48 #[.int .i64 x] w fun e w' => e = .returned (.bool false) ∧ w' = w := by
  go_enter Try.func48, Try.ntmps48
  go_wp2
  go_ret
  exact ⟨rfl, rfl⟩

theorem cp_any (x y : Int) (w : World) : Calls Try.prog 40 #[.int .i64 x, .int .i64 y] w fun e w' => e = .returned (.int .i64 (cpV x y)) ∧ w' = w := by
  have C1 := mkHid (nan_any x)
  have C2 := mkHid (nan_any y)
  go_each [x < y, y < x] => (
    go_enter Try.func40, Try.ntmps40
    go_wp2_with fail
    refine (C1.out _).mono ?_
    rintro e w1 ⟨rfl, rfl⟩
    go_wp2_with fail
    refine (C2.out _).mono ?_
    rintro e w2 ⟨rfl, rfl⟩
    go_wp2
    go_ret
    exact ⟨ret_i (by unfold cpV; repeat' split <;> omega), rfl⟩)

theorem or_any (x y : Int) (b : Nat) (w : World) (hx : w.cell? ⟨b, 0, none⟩ = some (.int .i64 x)) (hy : w.cell? ⟨b, 1, none⟩ = some (.int .i64 y)) :
    Calls Try.prog 39 #[.slice (some ⟨b, 0, none⟩) 2 2] w fun e w' => e = .returned (.int .i64 (orV x y)) ∧ w' = w := by
  by_cases h0 : x = 0
  · by_cases h1 : y = 0
    · go_enter Try.func39, Try.ntmps39
      go_wp2
      refine wp_loop_rounds 3 ?_
      rw [rounds_succ]; go_wp2
      rw [rounds_succ]; go_wp2
      rw [rounds_succ]; go_wp2
      go_ret
      exact ⟨ret_i (by unfold orV; repeat' split <;> omega), rfl⟩
    · go_enter Try.func39, Try.ntmps39
      go_wp2
      refine wp_loop_rounds 3 ?_
      rw [rounds_succ]; go_wp2
      rw [rounds_succ]; go_wp2
      go_ret
      exact ⟨ret_i (by unfold orV; repeat' split <;> omega), rfl⟩
  · go_enter Try.func39, Try.ntmps39
    go_wp2
    refine wp_loop_rounds 3 ?_
    rw [rounds_succ]; go_wp2
    go_ret
    exact ⟨ret_i (by unfold orV; repeat' split <;> omega), rfl⟩

theorem aw_bd (c o : Int) : 0 ≤ awV c o := by unfold awV; split <;> omega

set_option maxHeartbeats 1000000 in
theorem cm_any (c a b : Int) (c1 : -2305843009213693952 ≤ c) (c2 : c ≤ 2305843009213693952) (a1 : -2305843009213693952 ≤ a) (a2 : a ≤ 2305843009213693952) (b1 : -2305843009213693952 ≤ b) (b2 : b ≤ 2305843009213693952) (w : World) :
    Calls Try.prog 33 #[.int .i64 c, .int .i64 a, .int .i64 b] w fun e w' => e = .returned (.int .i64 (cmV c a b)) ∧ Below w.heap.size w w' := by
  have C1 := mkHid (away_any c a c1 c2 a1 a2)
  have C2 := mkHid (away_any c b c1 c2 b1 b2)
  have C3 := mkHid (cp_any (awV c a) (awV c b))
  have C4 := mkHid (cp_any b a)
  have C5 := mkHid (or_any (cpV (awV c a) (awV c b)) (cpV b a) w.heap.size)
  unfold cmV
  generalize awV c a = u at *
  generalize awV c b = v at *
  generalize cpV u v = p at *
  generalize cpV b a = q at *
  go_enter Try.func33, Try.ntmps33
  go_wp2_with fail
  refine (C1.out _).mono ?_
  rintro e w1 ⟨rfl, rfl⟩
  go_wp2_with fail
  refine (C2.out _).mono ?_
  rintro e w2 ⟨rfl, rfl⟩
  go_wp2_with fail
  refine (C3.out _).mono ?_
  rintro e w3 ⟨rfl, rfl⟩
  go_wp2_with fail
  refine (C4.out _).mono ?_
  rintro e w4 ⟨rfl, rfl⟩
  go_wp2_with fail
  refine (C5.out _ (by simp) (by simp)).mono ?_
  rintro e w5 ⟨rfl, rfl⟩
  go_wp2
  go_ret
  exact ⟨rfl, (Below.refl _ _).alloc (Nat.le_refl _) _⟩

/-- The least of three by cmV. -/
def mnV (c x y z : Int) : Int := if cmV c z (if cmV c y x < 0 then y else x) < 0 then z else if cmV c y x < 0 then y else x

set_option maxHeartbeats 2000000 in
theorem min_any (c x y z : Int) (c1 : -2305843009213693952 ≤ c) (c2 : c ≤ 2305843009213693952) (x1 : -2305843009213693952 ≤ x) (x2 : x ≤ 2305843009213693952) (y1 : -2305843009213693952 ≤ y) (y2 : y ≤ 2305843009213693952) (z1 : -2305843009213693952 ≤ z) (z2 : z ≤ 2305843009213693952) (b : Nat) (w : World)
    (hx : w.cell? ⟨b, 0, none⟩ = some (.int .i64 x)) (hy : w.cell? ⟨b, 1, none⟩ = some (.int .i64 y)) (hz : w.cell? ⟨b, 2, none⟩ = some (.int .i64 z)) (hb : b < w.heap.size) :
    Calls Try.prog 32 #[.slice (some ⟨b, 0, none⟩) 3 3, .func (.func 33) #[.int .i64 c] #[]] w fun e w' => e = .returned (.int .i64 (mnV c x y z)) ∧ Below w.heap.size w w' := by
  have C1 := mkHid (cm_any c y x c1 c2 y1 y2 x1 x2)
  have C2 := mkHid (cm_any c z x c1 c2 z1 z2 x1 x2)
  have C3 := mkHid (cm_any c z y c1 c2 z1 z2 y1 y2)
  unfold mnV
  generalize cmV c y x = p at *
  generalize hq : cmV c z x = q at *
  generalize hr : cmV c z y = r at *
  clear c1 c2 x1 x2 y1 y2 z1 z2
  by_cases h1 : p < 0
  · rw [if_pos h1, hr]
    by_cases h2 : r < 0
    · rw [if_pos h2]
      go_enter Try.func32, Try.ntmps32
      go_wp2
      refine wp_loop_rounds 3 ?_
      rw [rounds_succ]
      go_wp2_with fail
      refine (C1.out _).mono ?_
      rintro e w1 ⟨rfl, hb1⟩
      have hy1 : w1.cell? ⟨b, 1, none⟩ = some (.int .i64 y) := (hb1.cell hb).trans hy
      have hz1 : w1.cell? ⟨b, 2, none⟩ = some (.int .i64 z) := (hb1.cell hb).trans hz
      go_wp2
      rw [rounds_succ]
      go_wp2_with fail
      refine (carry hb1 (C3.out _)).mono ?_
      rintro e w2 ⟨rfl, hb2⟩
      have hz2 : w2.cell? ⟨b, 2, none⟩ = some (.int .i64 z) := (hb2.cell hb).trans hz
      go_wp2
      rw [rounds_succ]
      go_wp2
      go_ret
      exact ⟨rfl, hb2⟩
    · rw [if_neg h2]
      go_enter Try.func32, Try.ntmps32
      go_wp2
      refine wp_loop_rounds 3 ?_
      rw [rounds_succ]
      go_wp2_with fail
      refine (C1.out _).mono ?_
      rintro e w1 ⟨rfl, hb1⟩
      have hy1 : w1.cell? ⟨b, 1, none⟩ = some (.int .i64 y) := (hb1.cell hb).trans hy
      have hz1 : w1.cell? ⟨b, 2, none⟩ = some (.int .i64 z) := (hb1.cell hb).trans hz
      go_wp2
      rw [rounds_succ]
      go_wp2_with fail
      refine (carry hb1 (C3.out _)).mono ?_
      rintro e w2 ⟨rfl, hb2⟩
      have hz2 : w2.cell? ⟨b, 2, none⟩ = some (.int .i64 z) := (hb2.cell hb).trans hz
      go_wp2
      rw [rounds_succ]
      go_wp2
      go_ret
      exact ⟨rfl, hb2⟩
  · rw [if_neg h1, hq]
    by_cases h2 : q < 0
    · rw [if_pos h2]
      go_enter Try.func32, Try.ntmps32
      go_wp2
      refine wp_loop_rounds 3 ?_
      rw [rounds_succ]
      go_wp2_with fail
      refine (C1.out _).mono ?_
      rintro e w1 ⟨rfl, hb1⟩
      have hy1 : w1.cell? ⟨b, 1, none⟩ = some (.int .i64 y) := (hb1.cell hb).trans hy
      have hz1 : w1.cell? ⟨b, 2, none⟩ = some (.int .i64 z) := (hb1.cell hb).trans hz
      go_wp2
      rw [rounds_succ]
      go_wp2_with fail
      refine (carry hb1 (C2.out _)).mono ?_
      rintro e w2 ⟨rfl, hb2⟩
      have hz2 : w2.cell? ⟨b, 2, none⟩ = some (.int .i64 z) := (hb2.cell hb).trans hz
      go_wp2
      rw [rounds_succ]
      go_wp2
      go_ret
      exact ⟨rfl, hb2⟩
    · rw [if_neg h2]
      go_enter Try.func32, Try.ntmps32
      go_wp2
      refine wp_loop_rounds 3 ?_
      rw [rounds_succ]
      go_wp2_with fail
      refine (C1.out _).mono ?_
      rintro e w1 ⟨rfl, hb1⟩
      have hy1 : w1.cell? ⟨b, 1, none⟩ = some (.int .i64 y) := (hb1.cell hb).trans hy
      have hz1 : w1.cell? ⟨b, 2, none⟩ = some (.int .i64 z) := (hb1.cell hb).trans hz
      go_wp2
      rw [rounds_succ]
      go_wp2_with fail
      refine (carry hb1 (C2.out _)).mono ?_
      rintro e w2 ⟨rfl, hb2⟩
      have hz2 : w2.cell? ⟨b, 2, none⟩ = some (.int .i64 z) := (hb2.cell hb).trans hz
      go_wp2
      rw [rounds_succ]
      go_wp2
      go_ret
      exact ⟨rfl, hb2⟩

theorem low_any (c : Int) (w : World) :
    Calls Try.prog 31 #[.int .i64 c] w fun e w' => e = .returned (.int .i64 (c % 4294967296)) ∧ w' = w := by
  go_enter Try.func31, Try.ntmps31
  go_wp2
  go_ret
  exact ⟨ret_i (by first | rfl | omega), rfl⟩

/-- The number nearest to c whose lower 32 bits are s; of two the greater one. -/
def nrV (c s : Int) : Int := if (s - c) % 4294967296 ≤ 2147483648 then c + (s - c) % 4294967296 else c + (s - c) % 4294967296 - 4294967296

theorem cm_neg (c a b : Int) : cmV c a b < 0 ↔ (awV c a < awV c b ∨ awV c a = awV c b ∧ b < a) := by
  unfold cmV orV cpV
  generalize awV c a = u
  generalize awV c b = v
  repeat' split <;> omega
theorem mn_near (c s : Int) (s0 : 0 ≤ s) (s1 : s < 4294967296) : mnV c (c - c % 4294967296 + s - 4294967296) (c - c % 4294967296 + s) (c - c % 4294967296 + s + 4294967296) = nrV c s := by
  unfold mnV nrV
  simp only [cm_neg]
  unfold awV
  have h0 : (s - c) % 4294967296 = if c % 4294967296 ≤ s then s - c % 4294967296 else s - c % 4294967296 + 4294967296 := by split <;> omega
  rw [h0]
  generalize hl : c % 4294967296 = l at *
  have l0 : 0 ≤ l := by omega
  have l1 : l < 4294967296 := by omega
  clear hl h0
  repeat' split <;> omega
theorem nr_bd (c s : Int) : c - 2147483648 ≤ nrV c s ∧ nrV c s ≤ c + 2147483648 := by unfold nrV; split <;> omega

set_option maxHeartbeats 1000000 in
theorem near_any (c s : Int) (c1 : -1152921504606846976 ≤ c) (c2 : c ≤ 1152921504606846976) (s1 : 0 ≤ s) (s2 : s < 4294967296) (w : World) :
    Calls Try.prog 25 #[.int .i64 c, .int .u32 s] w fun e w' => e = .returned (.int .i64 (nrV c s)) ∧ Below w.heap.size w w' := by
  have hmf : ∀ (fn : Fn) (first cap : Array Value) (w : World), (Instr.makeFunc fn first cap).run Try.prog w = .ok (.func fn first cap) w := fun _ _ _ _ => rfl
  have C1 := mkHid (low_any c)
  have C2 := mkHid (min_any c (c - c % 4294967296 + s - 4294967296) (c - c % 4294967296 + s) (c - c % 4294967296 + s + 4294967296) (by omega) (by omega) (by omega) (by omega) (by omega) (by omega) (by omega) (by omega) w.heap.size)
  rw [mn_near c s s1 s2] at C2
  have l0 : 0 ≤ c % 4294967296 := by omega
  have l1 : c % 4294967296 < 4294967296 := by omega
  generalize c % 4294967296 = l at *
  generalize nrV c s = r at *
  go_enter Try.func25, Try.ntmps25
  go_wp2_with fail
  refine (C1.out _).mono ?_
  rintro e w1 ⟨rfl, rfl⟩
  go_wp2_with fail
  refine (C2.out _ (by simp) (by simp) (by simp) (by simp)).mono ?_
  rintro e w2 ⟨rfl, hb2⟩
  go_wp2
  go_ret
  exact ⟨rfl, ((Below.refl _ _).alloc (Nat.le_refl _) _).trans (hb2.mono (by simp))⟩

/-- A number held between two. -/
def clV (a lo hi : Int) : Int := if a < lo then lo else if hi < a then hi else a
theorem clamp_any (a lo hi : Int) (h : lo ≤ hi) (w : World) :
    Calls Try.prog 24 #[.int .i64 a, .int .i64 lo, .int .i64 hi] w fun e w' => e = .returned (.int .i64 (clV a lo hi)) ∧ w' = w := by
  go_each [a < lo, hi < a] => (
    go_enter Try.func24, Try.ntmps24
    go_wp2
    go_ret
    exact ⟨ret_i (by unfold clV; repeat' split <;> omega), rfl⟩)
theorem cl_bd (a : Int) : -1125899906842624 ≤ clV a (-1125899906842624) 1125899906842624 ∧ clV a (-1125899906842624) 1125899906842624 ≤ 1125899906842624 := by unfold clV; repeat' split <;> omega
/-- The count of a time. -/
theorem ct_bd (t : Int) (t1 : -1125899906842624 ≤ t) (t2 : t ≤ 1125899906842624) : mdV t 65536 1000000 1 = t * 65536 / 1000000 ∧ -1152921504606846976 ≤ mdV t 65536 1000000 1 ∧ mdV t 65536 1000000 1 ≤ 1152921504606846976 := by
  have e : mdV t 65536 1000000 1 = t * 65536 / 1000000 := by rw [mdV_d _ _ _ (by omega), satH_in _ (by omega) (by omega)]
  rw [e]; omega
/-- What FromStamp answers. -/
def frV (s near : Int) : Int := mdV (nrV (mdV (clV near (-1125899906842624) 1125899906842624) 65536 1000000 1) s) 1000000 65536 3

set_option maxHeartbeats 1000000 in
theorem from_any (s near : Int) (s1 : 0 ≤ s) (s2 : s < 4294967296) (w : World) :
    Calls Try.prog 17 #[.int .u32 s, .int .i64 near] w fun e w' => e = .returned (.int .i64 (frV s near)) ∧ Below w.heap.size w w' := by
  have C1 := mkHid (clamp_any near (-1125899906842624) 1125899906842624 (by omega))
  have k := cl_bd near
  unfold frV
  generalize clV near (-1125899906842624) 1125899906842624 = t at *
  have C2 := mkHid (count_any t (by omega) (by omega))
  have l := (ct_bd t k.1 k.2).2
  generalize mdV t 65536 1000000 1 = c at *
  have C3 := mkHid (near_any c s l.1 l.2 s1 s2)
  have m := nr_bd c s
  generalize nrV c s = n at *
  have C4 := mkHid (span_any n (by omega) (by omega))
  generalize mdV n 1000000 65536 3 = r at *
  go_enter Try.func17, Try.ntmps17
  go_wp2_with fail
  refine (C1.out _).mono ?_
  rintro e w1 ⟨rfl, rfl⟩
  go_wp2_with fail
  refine (C2.out _).mono ?_
  rintro e w2 ⟨rfl, hb2⟩
  go_wp2_with fail
  refine (carry hb2 (C3.out _)).mono ?_
  rintro e w3 ⟨rfl, hb3⟩
  go_wp2_with fail
  refine (carry hb3 (C4.out _)).mono ?_
  rintro e w4 ⟨rfl, hb4⟩
  go_wp2
  go_ret
  exact ⟨rfl, hb4⟩
end Go.Proofs.Ytkmgoipojikihaa
