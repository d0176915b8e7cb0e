/-
  What the reference's functions of layer 3 hand back for every input.
-/
import Derived.Test.YtdmmhhkkiokmiaaDoorFade
import Derived.Test.YtdmmhhkkiokmiaaDoorDid
namespace Go.Proofs.YtdmmhhkkiokmiaaDoor
open Go.RowKit

theorem field_any (x y : Value) (w : World) : (Instr.field 46 (.agg #[x, y]) 0).run Tryd.prog w = .ok x w := by kernel_rfl
theorem rdo_any (a b c how : Int) (a1 : -9223372036854775808 ≤ a) (a2 : a ≤ 9223372036854775807) (b1 : -9223372036854775808 ≤ b) (b2 : b ≤ 9223372036854775807) (c1 : -9223372036854775808 ≤ c) (c2 : c ≤ 9223372036854775807) (w : World) :
    Calls Tryd.prog 27 #[.int .i64 a, .int .i64 b, .int .i64 c, .int .i64 how] w fun e w' => e = .returned (.int .i64 (mdV a b c how)) ∧ Below w.heap.size w w' := by
  have C := mkHid (did_any a b c how a1 a2 b1 b2 c1 c2)
  have ff := field_any
  go_enter Tryd.func27, Tryd.ntmps27
  go_wp2_with fail
  refine (C.out _).mono ?_
  rintro e w1 ⟨rfl, hb1⟩
  go_wp2
  go_ret
  exact ⟨rfl, hb1⟩
theorem rof_any (n : Int) (a1 : -9223372036854775808 ≤ n) (a2 : n ≤ 9223372036854775807) (w : World) :
    Calls Tryd.prog 10 #[.int .i64 n] w fun e w' => e = .returned (.int .i64 (fxO n)) ∧ Below w.heap.size w w' := by
  have C := mkHid (fun w => same_below (Sat.rmul_any n 4294967296 a1 a2 (by omega) (by omega) w))
  go_enter Tryd.func10, Tryd.ntmps10
  go_wp2_with fail
  refine (C.out _).mono ?_
  rintro e w1 ⟨rfl, hb1⟩
  go_wp2
  go_ret
  exact ⟨rfl, hb1⟩
theorem rint_any (x : Int) (a1 : -9223372036854775808 ≤ x) (a2 : x ≤ 9223372036854775807) (w : World) :
    Calls Tryd.prog 12 #[.int .i64 x] w fun e w' => e = .returned (.int .i64 (fxI x)) ∧ Below w.heap.size w w' := by
  have C := mkHid (rdo_any x 1 4294967296 1 a1 a2 (by omega) (by omega) (by omega) (by omega))
  go_enter Tryd.func12, Tryd.ntmps12
  go_wp2_with fail
  refine (C.out _).mono ?_
  rintro e w1 ⟨rfl, hb1⟩
  go_wp2
  go_ret
  exact ⟨rfl, hb1⟩
theorem rmulx_any (x y : Int) (a1 : -9223372036854775808 ≤ x) (a2 : x ≤ 9223372036854775807) (b1 : -9223372036854775808 ≤ y) (b2 : y ≤ 9223372036854775807) (w : World) :
    Calls Tryd.prog 14 #[.int .i64 x, .int .i64 y] w fun e w' => e = .returned (.int .i64 (fxM x y)) ∧ Below w.heap.size w w' := by
  have C := mkHid (rdo_any x y 4294967296 2 a1 a2 b1 b2 (by omega) (by omega))
  go_enter Tryd.func14, Tryd.ntmps14
  go_wp2_with fail
  refine (C.out _).mono ?_
  rintro e w1 ⟨rfl, hb1⟩
  go_wp2
  go_ret
  exact ⟨rfl, hb1⟩
theorem rdivx_any (x y : Int) (a1 : -9223372036854775808 ≤ x) (a2 : x ≤ 9223372036854775807) (b1 : -9223372036854775808 ≤ y) (b2 : y ≤ 9223372036854775807) (w : World) :
    Calls Tryd.prog 16 #[.int .i64 x, .int .i64 y] w fun e w' => e = .returned (.int .i64 (mdV x 4294967296 y 2)) ∧ Below w.heap.size w w' := by
  have C := mkHid (rdo_any x 4294967296 y 2 a1 a2 (by omega) (by omega) b1 b2)
  go_enter Tryd.func16, Tryd.ntmps16
  go_wp2_with fail
  refine (C.out _).mono ?_
  rintro e w1 ⟨rfl, hb1⟩
  go_wp2
  go_ret
  exact ⟨rfl, hb1⟩
theorem rmix_any (x y v : Int) (a1 : -9223372036854775808 ≤ x) (a2 : x ≤ 9223372036854775807) (b1 : -9223372036854775808 ≤ y) (b2 : y ≤ 9223372036854775807) (c1 : -9223372036854775808 ≤ v) (c2 : v ≤ 9223372036854775807) (w : World) :
    Calls Tryd.prog 19 #[.int .i64 x, .int .i64 y, .int .i64 v] w fun e w' => e = .returned (.int .i64 (fxX x y v)) ∧ Below w.heap.size w w' := by
  have C1 := mkHid (fun w => same_below (Sat.rsub_any y x b1 b2 a1 a2 w))
  have k := satH_bd (y - x)
  have C2 := mkHid (rmulx_any (satH (y - x)) v k.1 k.2 c1 c2)
  have l := fxM_bd (satH (y - x)) v
  have C3 := mkHid (fun w => same_below (Sat.radd_any x (fxM (satH (y - x)) v) a1 a2 l.1 l.2 w))
  clear k l a1 a2 b1 b2 c1 c2
  go_enter Tryd.func19, Tryd.ntmps19
  go_wp2_with fail
  refine (C1.out _).mono ?_
  rintro e w1 ⟨rfl, hb1⟩
  go_wp2_with fail
  refine (carry hb1 (C2.out _)).mono ?_
  rintro e w2 ⟨rfl, hb2⟩
  go_wp2_with fail
  refine (carry hb2 (C3.out _)).mono ?_
  rintro e w3 ⟨rfl, hb3⟩
  go_wp2
  go_ret
  exact ⟨rfl, hb3⟩

set_option maxHeartbeats 1000000 in
theorem rhalf_any (x n : Int) (a1 : -9223372036854775808 ≤ x) (a2 : x ≤ 9223372036854775807) (w : World) :
    Calls Tryd.prog 21 #[.int .i64 x, .int .i64 n] w fun e w' => e = .returned (.int .i64 (fxH x n)) ∧ Below w.heap.size w w' := by
  by_cases h0 : n < 0
  · go_enter Tryd.func21, Tryd.ntmps21
    go_wp2
    go_ret
    exact ⟨Sat.ret_int (fxH_low x n h0), Below.refl _ _⟩
  by_cases h1 : 62 < n
  · rw [fxH_far x n a1 a2 h1]
    by_cases hx : x < 0
    · rw [if_pos hx]
      go_enter Tryd.func21, Tryd.ntmps21
      go_wp2
      go_ret
      exact ⟨rfl, Below.refl _ _⟩
    · rw [if_neg hx]
      go_enter Tryd.func21, Tryd.ntmps21
      go_wp2
      go_ret
      exact ⟨rfl, Below.refl _ _⟩
  · rw [← fxH_mid x n a1 a2 (by omega) (by omega)]
    have hp : 0 < (2 : Int) ^ n.toNat := Int.pow_pos (by omega)
    have hq : (2 : Int) ^ n.toNat ≤ 4611686018427387904 := by
      have := Nat.pow_le_pow_right (n := 2) (by omega) (show n.toNat ≤ 62 by omega)
      rw [← pow_cast]; omega
    have ew : wrap64 (2 ^ n.toNat) = 2 ^ n.toNat := by unfold wrap64; omega
    have C := mkHid (rdo_any x 1 (2 ^ n.toNat) 1 a1 a2 (by omega) (by omega) (by omega) (by omega))
    clear hp hq
    go_enter Tryd.func21, Tryd.ntmps21
    go_wp2_with fail
    refine (C.out _).mono ?_
    rintro e w1 ⟨rfl, hb1⟩
    go_wp2
    go_ret
    exact ⟨rfl, hb1⟩

set_option maxHeartbeats 1000000 in
theorem rfade_any (x : Int) (a1 : -9223372036854775808 ≤ x) (a2 : x ≤ 9223372036854775807) (w : World) :
    Calls Tryd.prog 23 #[.int .i64 x] w fun e w' => e = .returned (.int .i64 (fxF x)) ∧ Below w.heap.size w w' := by
  by_cases h0 : x ≤ 0
  · have e : fxF x = 4294967296 := by unfold fxF; rw [if_pos h0]
    rw [e]
    go_enter Tryd.func23, Tryd.ntmps23
    go_wp2
    go_ret
    exact ⟨rfl, Below.refl _ _⟩
  have C0 := mkHid (rof_any 22 (by omega) (by omega))
  rw [show fxO 22 = 94489280512 from by decide] at C0
  by_cases h1 : 94489280512 ≤ x
  · have e : fxF x = 0 := by unfold fxF; rw [if_neg h0, if_pos h1]
    rw [e]
    go_enter Tryd.func23, Tryd.ntmps23
    go_wp2_with fail
    refine (C0.out _).mono ?_
    rintro e w1 ⟨rfl, hb1⟩
    go_wp2
    go_ret
    exact ⟨rfl, hb1⟩
  · have e : fxF x = fxH (fxR (fxM x 6196328019 - fxO (fxI (fxM x 6196328019)))) (fxI (fxM x 6196328019)) := by unfold fxF; rw [if_neg h0, if_neg h1]
    rw [e]
    obtain ⟨p1, p2, p3, p4, p5, p6⟩ := fxF_parts x (by omega) (by omega)
    have C1 := mkHid (rmulx_any x 6196328019 a1 a2 (by omega) (by omega))
    have C2 := mkHid (rint_any (fxM x 6196328019) (by omega) (by omega))
    have C3 := mkHid (rof_any (fxI (fxM x 6196328019)) (by omega) (by omega))
    have R := fxR_bd _ p5 p6
    have C9 := mkHid (rhalf_any (fxR (fxM x 6196328019 - fxO (fxI (fxM x 6196328019)))) (fxI (fxM x 6196328019)) (by omega) (by omega))
    clear p3 p4 e
    generalize hf : fxM x 6196328019 - fxO (fxI (fxM x 6196328019)) = f at *
    generalize fxO (fxI (fxM x 6196328019)) = o at *
    generalize fxI (fxM x 6196328019) = n at *
    generalize fxM x 6196328019 = y at *
    obtain ⟨g1, g2, g3, g4, g5⟩ := fxR_parts f p5 p6
    have D1 := mkHid (rmulx_any f 2977044472 (by omega) (by omega) (by omega) (by omega))
    have D2 := mkHid (rmulx_any f f (by omega) (by omega) (by omega) (by omega))
    have D3 := mkHid (rmulx_any (fxM f f) 1031764991 (by omega) (by omega) (by omega) (by omega))
    have D4 := mkHid (rmulx_any (fxM f f) f (by omega) (by omega) (by omega) (by omega))
    have D5 := mkHid (rmulx_any (fxM (fxM f f) f) 206353000 (by omega) (by omega) (by omega) (by omega))
    have hr : 4294967296 - fxM f 2977044472 + fxM (fxM f f) 1031764991 - fxM (fxM (fxM f f) f) 206353000 = fxR f := rfl
    generalize fxR f = r at *
    generalize fxM (fxM (fxM f f) f) 206353000 = m3 at *
    generalize fxM (fxM f f) 1031764991 = m2 at *
    generalize fxM f 2977044472 = m1 at *
    generalize fxM (fxM f f) f = q3 at *
    generalize fxM f f = q2 at *
    go_enter Tryd.func23, Tryd.ntmps23
    go_wp2_with fail
    refine (C0.out _).mono ?_
    rintro e w0 ⟨rfl, hb0⟩
    go_wp2_with fail
    refine (carry hb0 (C1.out _)).mono ?_
    rintro e w1 ⟨rfl, hb1⟩
    go_wp2_with fail
    refine (carry hb1 (C2.out _)).mono ?_
    rintro e w2 ⟨rfl, hb2⟩
    go_wp2_with fail
    refine (carry hb2 (C3.out _)).mono ?_
    rintro e w3 ⟨rfl, hb3⟩
    go_wp2_with fail
    refine (carry hb3 (D1.out _)).mono ?_
    rintro e w4 ⟨rfl, hb4⟩
    go_wp2_with fail
    refine (carry hb4 (D2.out _)).mono ?_
    rintro e w5 ⟨rfl, hb5⟩
    go_wp2_with fail
    refine (carry hb5 (D3.out _)).mono ?_
    rintro e w6 ⟨rfl, hb6⟩
    go_wp2_with fail
    refine (carry hb6 (D2.out _)).mono ?_
    rintro e w7 ⟨rfl, hb7⟩
    go_wp2_with fail
    refine (carry hb7 (D4.out _)).mono ?_
    rintro e w8 ⟨rfl, hb8⟩
    go_wp2_with fail
    refine (carry hb8 (D5.out _)).mono ?_
    rintro e w9 ⟨rfl, hb9⟩
    go_wp2_with fail
    refine (carry hb9 (C9.out _)).mono ?_
    rintro e w10 ⟨rfl, hb10⟩
    go_wp2
    go_ret
    exact ⟨rfl, hb10⟩
end Go.Proofs.YtdmmhhkkiokmiaaDoor
