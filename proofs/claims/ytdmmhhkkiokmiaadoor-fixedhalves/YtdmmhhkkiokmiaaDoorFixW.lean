/-
  What the functions of package fixed hand back for every input.
-/
import Derived.Test.YtdmmhhkkiokmiaaDoorQuot
import Derived.Test.YtdmmhhkkiokmiaaDoorPlainF
import Derived.Test.YtdmmhhkkiokmiaaDoorSatMul
import Derived.Deep.Light
namespace Go.Proofs.YtdmmhhkkiokmiaaDoor
open Go.RowKit

theorem sadd_any (a b : Int) (a1 : -9223372036854775808 ≤ a) (a2 : a ≤ 9223372036854775807) (b1 : -9223372036854775808 ≤ b) (b2 : b ≤ 9223372036854775807) (w : World) :
    Calls Tryd.prog 28 #[.int .i64 a, .int .i64 b] w fun e w' => e = .returned (.int .i64 (satH (a + b))) ∧ Below w.heap.size w w' := Sat.add_any a b a1 a2 b1 b2 w
theorem ssub_any (a b : Int) (a1 : -9223372036854775808 ≤ a) (a2 : a ≤ 9223372036854775807) (b1 : -9223372036854775808 ≤ b) (b2 : b ≤ 9223372036854775807) (w : World) :
    Calls Tryd.prog 29 #[.int .i64 a, .int .i64 b] w fun e w' => e = .returned (.int .i64 (satH (a - b))) ∧ Below w.heap.size w w' := Sat.sub_any a b a1 a2 b1 b2 w

theorem of_any (n : Int) (a1 : -9223372036854775808 ≤ n) (a2 : n ≤ 9223372036854775807) (w : World) :
    Calls Tryd.prog 9 #[.int .i64 n] w fun e w' => e = .returned (.int .i64 (fxO n)) ∧ Below w.heap.size w w' := by
  have C := mkHid (Sat.mul_any n 4294967296 a1 a2 (by omega) (by omega))
  go_enter Tryd.func9, Tryd.ntmps9
  go_wp2_with fail
  refine (C.out _).mono ?_
  rintro e w1 ⟨rfl, hb1⟩
  go_wp2
  go_ret
  exact ⟨rfl, hb1⟩
theorem int_any (x : Int) (a1 : -9223372036854775808 ≤ x) (a2 : x ≤ 9223372036854775807) (w : World) :
    Calls Tryd.prog 11 #[.int .i64 x] w fun e w' => e = .returned (.int .i64 (fxI x)) ∧ Below w.heap.size w w' := by
  have C := mkHid (do_any x 1 4294967296 1 a1 a2 (by omega) (by omega) (by omega) (by omega))
  go_enter Tryd.func11, Tryd.ntmps11
  go_wp2_with fail
  refine (C.out _).mono ?_
  rintro e w1 ⟨rfl, hb1⟩
  go_wp2
  go_ret
  exact ⟨rfl, hb1⟩
theorem mulx_any (x y : Int) (a1 : -9223372036854775808 ≤ x) (a2 : x ≤ 9223372036854775807) (b1 : -9223372036854775808 ≤ y) (b2 : y ≤ 9223372036854775807) (w : World) :
    Calls Tryd.prog 13 #[.int .i64 x, .int .i64 y] w fun e w' => e = .returned (.int .i64 (fxM x y)) ∧ Below w.heap.size w w' := by
  have C := mkHid (do_any x y 4294967296 2 a1 a2 b1 b2 (by omega) (by omega))
  go_enter Tryd.func13, Tryd.ntmps13
  go_wp2_with fail
  refine (C.out _).mono ?_
  rintro e w1 ⟨rfl, hb1⟩
  go_wp2
  go_ret
  exact ⟨rfl, hb1⟩
theorem divx_any (x y : Int) (a1 : -9223372036854775808 ≤ x) (a2 : x ≤ 9223372036854775807) (b1 : -9223372036854775808 ≤ y) (b2 : y ≤ 9223372036854775807) (w : World) :
    Calls Tryd.prog 15 #[.int .i64 x, .int .i64 y] w fun e w' => e = .returned (.int .i64 (mdV x 4294967296 y 2)) ∧ Below w.heap.size w w' := by
  have C := mkHid (do_any x 4294967296 y 2 a1 a2 (by omega) (by omega) b1 b2)
  go_enter Tryd.func15, Tryd.ntmps15
  go_wp2_with fail
  refine (C.out _).mono ?_
  rintro e w1 ⟨rfl, hb1⟩
  go_wp2
  go_ret
  exact ⟨rfl, hb1⟩
theorem mix_any (x y v : Int) (a1 : -9223372036854775808 ≤ x) (a2 : x ≤ 9223372036854775807) (b1 : -9223372036854775808 ≤ y) (b2 : y ≤ 9223372036854775807) (c1 : -9223372036854775808 ≤ v) (c2 : v ≤ 9223372036854775807) (w : World) :
    Calls Tryd.prog 18 #[.int .i64 x, .int .i64 y, .int .i64 v] w fun e w' => e = .returned (.int .i64 (fxX x y v)) ∧ Below w.heap.size w w' := by
  have C1 := mkHid (ssub_any y x b1 b2 a1 a2)
  have k := satH_bd (y - x)
  have C2 := mkHid (mulx_any (satH (y - x)) v k.1 k.2 c1 c2)
  have l := fxM_bd (satH (y - x)) v
  have C3 := mkHid (sadd_any x (fxM (satH (y - x)) v) a1 a2 l.1 l.2)
  clear k l a1 a2 b1 b2 c1 c2
  go_enter Tryd.func18, Tryd.ntmps18
  go_wp2_with fail
  refine (C1.out _).mono ?_
  rintro e w1 ⟨rfl, hb1⟩
  go_wp2_with fail
  refine (carry hb1 (C2.out _)).mono ?_
  rintro e w2 ⟨rfl, hb2⟩
  go_wp2_with fail
  refine (carry hb2 (C3.out _)).mono ?_
  rintro e w3 ⟨rfl, hb3⟩
  go_wp2
  go_ret
  exact ⟨rfl, hb3⟩
theorem half_any (x n : Int) (w : World) :
    Calls Tryd.prog 20 #[.int .i64 x, .int .i64 n] w fun e w' => e = .returned (.int .i64 (fxH x n)) ∧ w' = w := by
  by_cases hn : n < 0
  · go_enter Tryd.func20, Tryd.ntmps20
    go_wp2
    go_ret
    exact ⟨Sat.ret_int (fxH_low x n hn), rfl⟩
  · go_enter Tryd.func20, Tryd.ntmps20
    go_wp2
    go_ret
    exact ⟨Sat.ret_int (fxH_up x n (by omega)), rfl⟩

/-- The table's cells hold its three numbers. -/
def Tab (w : World) : Prop := 0 < w.heap.size ∧ w.cell? ⟨0, 0, none⟩ = some (.int .i64 2977044472) ∧ w.cell? ⟨0, 1, none⟩ = some (.int .i64 1031764991) ∧ w.cell? ⟨0, 2, none⟩ = some (.int .i64 206353000)
theorem Tab.below {w w' : World} (h : Tab w) (hb : Below w.heap.size w w') : Tab w' :=
  ⟨Nat.lt_of_lt_of_le h.1 hb.size, (hb.cell h.1).trans h.2.1, (hb.cell h.1).trans h.2.2.1, (hb.cell h.1).trans h.2.2.2⟩

theorem ix0 (w : World) : (Instr.index 26 (.agg #[.int .i64 2977044472, .int .i64 1031764991, .int .i64 206353000]) (.int .i64 0)).run Tryd.prog w = .ok (.int .i64 2977044472) w := by kernel_rfl
theorem ix1 (w : World) : (Instr.index 26 (.agg #[.int .i64 2977044472, .int .i64 1031764991, .int .i64 206353000]) (.int .i64 1)).run Tryd.prog w = .ok (.int .i64 1031764991) w := by kernel_rfl
theorem ix2 (w : World) : (Instr.index 26 (.agg #[.int .i64 2977044472, .int .i64 1031764991, .int .i64 206353000]) (.int .i64 2)).run Tryd.prog w = .ok (.int .i64 206353000) w := by kernel_rfl

set_option maxHeartbeats 1000000 in
theorem rest_any (f : Int) (f0 : 0 ≤ f) (f1 : f < 4294967296) (w : World) (T : Tab w) :
    Calls Tryd.prog 32 #[.int .i64 f] w fun e w' => e = .returned (.int .i64 (fxR f)) ∧ Below w.heap.size w w' := by
  obtain ⟨t0, t1, t2, t3⟩ := T
  obtain ⟨h1, h2, h3, h4, h5⟩ := fxR_parts f f0 f1
  have hr : fxR f = 4294967296 - fxM f 2977044472 + fxM (fxM f f) 1031764991 - fxM (fxM (fxM f f) f) 206353000 := rfl
  have A0 := mkHid (mulx_any 4294967296 f (by omega) (by omega) (by omega) (by omega))
  rw [fxM_one f (by omega) (by omega)] at A0
  have B0 := mkHid (mulx_any f 2977044472 (by omega) (by omega) (by omega) (by omega))
  have A1 := mkHid (mulx_any f f (by omega) (by omega) (by omega) (by omega))
  have B1 := mkHid (mulx_any (fxM f f) 1031764991 (by omega) (by omega) (by omega) (by omega))
  have A2 := mkHid (mulx_any (fxM f f) f (by omega) (by omega) (by omega) (by omega))
  have B2 := mkHid (mulx_any (fxM (fxM f f) f) 206353000 (by omega) (by omega) (by omega) (by omega))
  generalize fxR f = r at *
  generalize fxM (fxM (fxM f f) f) 206353000 = m3 at *
  generalize fxM (fxM f f) 1031764991 = m2 at *
  generalize fxM f 2977044472 = m1 at *
  generalize fxM (fxM f f) f = q3 at *
  generalize fxM f f = q2 at *
  have i0 := ix0
  have i1 := ix1
  have i2 := ix2
  go_enter Tryd.func32, Tryd.ntmps32
  go_wp2
  go_loopw [3, 4, 8] (fun p q i wr => (i = .int .i64 0 ∧ p = .int .i64 4294967296 ∧ q = .int .i64 4294967296 ∨ i = .int .i64 1 ∧ p = .int .i64 (4294967296 - m1) ∧ q = .int .i64 f ∨
    i = .int .i64 2 ∧ p = .int .i64 (4294967296 - m1 + m2) ∧ q = .int .i64 q2 ∨ i = .int .i64 3 ∧ p = .int .i64 r ∧ q = .int .i64 q3) ∧ Below w.heap.size w wr) (fun _ _ i _ => 3 - (intOf i).toNat)
  case atStart => exact ⟨.inl ⟨rfl, rfl, rfl⟩, Below.refl _ _⟩
  case round =>
    obtain ⟨⟨rfl, rfl, rfl⟩ | ⟨rfl, rfl, rfl⟩ | ⟨rfl, rfl, rfl⟩ | ⟨rfl, rfl, rfl⟩, hb⟩ := hrel
    · go_wp2_with fail
      refine (carry hb (A0.out _)).mono ?_
      rintro e w1 ⟨rfl, hb1⟩
      go_wp2_with fail
      refine (carry hb1 (B0.out _)).mono ?_
      rintro e w2 ⟨rfl, hb2⟩
      go_wp2
      go_roundw
      case rel => exact ⟨.inr (.inl ⟨rfl, rfl, rfl⟩), hb2⟩
      case measure => simp [intOf]
    · go_wp2_with fail
      refine (carry hb (A1.out _)).mono ?_
      rintro e w1 ⟨rfl, hb1⟩
      go_wp2_with fail
      refine (carry hb1 (B1.out _)).mono ?_
      rintro e w2 ⟨rfl, hb2⟩
      go_wp2
      go_roundw
      case rel => exact ⟨.inr (.inr (.inl ⟨rfl, rfl, rfl⟩)), hb2⟩
      case measure => simp [intOf]
    · go_wp2_with fail
      refine (carry hb (A2.out _)).mono ?_
      rintro e w1 ⟨rfl, hb1⟩
      go_wp2_with fail
      refine (carry hb1 (B2.out _)).mono ?_
      rintro e w2 ⟨rfl, hb2⟩
      go_wp2
      go_roundw
      case rel => exact ⟨.inr (.inr (.inr ⟨rfl, by rw [hr], rfl⟩)), hb2⟩
      case measure => simp [intOf]
    · go_wp2
      go_ret
      exact ⟨rfl, hb⟩
end Go.Proofs.YtdmmhhkkiokmiaaDoor
