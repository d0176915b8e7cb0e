/-
  Fade, and what wakes the statements of fixed.
-/
import Derived.Test.YtdmmhhkkiokmiaaDoorFixW
namespace Go.Proofs.YtdmmhhkkiokmiaaDoor
open Go.RowKit

theorem fade_low (x : Int) (h : x ≤ 0) (w : World) : Calls Tryd.prog 22 #[.int .i64 x] w fun e w' => e = .returned (.int .i64 4294967296) ∧ w' = w := by
  go_enter Tryd.func22, Tryd.ntmps22
  go_wp2
  go_ret
  exact ⟨rfl, rfl⟩
theorem same_below {P : Program} {f : Nat} {args : Array Value} {w : World} {Q : Ending → Prop} (h : Calls P f args w fun e w' => Q e ∧ w' = w) : Calls P f args w fun e w' => Q e ∧ Below w.heap.size w w' :=
  h.mono fun _ _ ⟨a, b⟩ => ⟨a, by subst b; exact Below.refl _ _⟩

set_option maxHeartbeats 1000000 in
theorem fade_any (x : Int) (a1 : -9223372036854775808 ≤ x) (a2 : x ≤ 9223372036854775807) (w : World) (T : Tab w) :
    Calls Tryd.prog 22 #[.int .i64 x] w fun e w' => e = .returned (.int .i64 (fxF x)) ∧ Below w.heap.size w w' := by
  by_cases h0 : x ≤ 0
  · have e : fxF x = 4294967296 := by unfold fxF; rw [if_pos h0]
    rw [e]
    exact same_below (fade_low x h0 w)
  by_cases h1 : 94489280512 ≤ x
  · have e : fxF x = 0 := by unfold fxF; rw [if_neg h0, if_pos h1]
    rw [e]
    go_enter Tryd.func22, Tryd.ntmps22
    go_wp2
    go_ret
    exact ⟨rfl, Below.refl _ _⟩
  · have e : fxF x = fxH (fxR (fxM x 6196328019 - fxO (fxI (fxM x 6196328019)))) (fxI (fxM x 6196328019)) := by unfold fxF; rw [if_neg h0, if_neg h1]
    rw [e]
    obtain ⟨p1, p2, p3, p4, p5, p6⟩ := fxF_parts x (by omega) (by omega)
    have C1 := mkHid (mulx_any x 6196328019 a1 a2 (by omega) (by omega))
    have C2 := mkHid (int_any (fxM x 6196328019) (by omega) (by omega))
    have C3 := mkHid (of_any (fxI (fxM x 6196328019)) (by omega) (by omega))
    have C4 := mkHid (rest_any (fxM x 6196328019 - fxO (fxI (fxM x 6196328019))) p5 p6)
    have C5 := mkHid (fun w => same_below (half_any (fxR (fxM x 6196328019 - fxO (fxI (fxM x 6196328019)))) (fxI (fxM x 6196328019)) w))
    have hT := mkHid T
    clear T p3 p4 e
    generalize fxR (fxM x 6196328019 - fxO (fxI (fxM x 6196328019))) = r at *
    generalize fxO (fxI (fxM x 6196328019)) = o at *
    generalize fxI (fxM x 6196328019) = n at *
    generalize fxM x 6196328019 = y at *
    go_enter Tryd.func22, Tryd.ntmps22
    go_wp2_with fail
    refine (C1.out _).mono ?_
    rintro e w1 ⟨rfl, hb1⟩
    go_wp2_with fail
    refine (carry hb1 (C2.out _)).mono ?_
    rintro e w2 ⟨rfl, hb2⟩
    go_wp2_with fail
    refine (carry hb2 (C3.out _)).mono ?_
    rintro e w3 ⟨rfl, hb3⟩
    have T3 := mkHid (hT.out.below hb3)
    go_wp2_with fail
    refine (carry hb3 (C4.out _ T3.out)).mono ?_
    rintro e w4 ⟨rfl, hb4⟩
    go_wp2_with fail
    refine (carry hb4 (C5.out _)).mono ?_
    rintro e w5 ⟨rfl, hb5⟩
    go_wp2
    go_ret
    exact ⟨rfl, hb5⟩

set_option maxHeartbeats 1000000 in
theorem wakes_any (w : World) : Calls Tryd.prog 17 #[] w fun e w' => e = .returned (.bool true) ∧ Below w.heap.size w w' := by
  have C1 := mkHid (of_any 3 (by omega) (by omega))
  rw [show fxO 3 = 12884901888 from by decide] at C1
  have C2 := mkHid (int_any (-1) (by omega) (by omega))
  rw [show fxI (-1) = -1 from by decide] at C2
  have C3 := mkHid (mulx_any 2147483648 2147483648 (by omega) (by omega) (by omega) (by omega))
  rw [show fxM 2147483648 2147483648 = 1073741824 from by decide] at C3
  have C4 := mkHid (fun w => same_below (fade_low 0 (by omega) w))
  have C5 := mkHid (fun w => same_below (half_any 8 2 w))
  rw [show fxH 8 2 = 2 from by decide] at C5
  go_enter Tryd.func17, Tryd.ntmps17
  go_wp2_with fail
  refine (C1.out _).mono ?_
  rintro e w1 ⟨rfl, hb1⟩
  go_wp2_with fail
  refine (carry hb1 (C2.out _)).mono ?_
  rintro e w2 ⟨rfl, hb2⟩
  go_wp2_with fail
  refine (carry hb2 (C3.out _)).mono ?_
  rintro e w3 ⟨rfl, hb3⟩
  go_wp2_with fail
  refine (carry hb3 (C4.out _)).mono ?_
  rintro e w4 ⟨rfl, hb4⟩
  go_wp2_with fail
  refine (carry hb4 (C5.out _)).mono ?_
  rintro e w5 ⟨rfl, hb5⟩
  go_wp2
  go_ret
  exact ⟨rfl, hb5⟩
end Go.Proofs.YtdmmhhkkiokmiaaDoor
