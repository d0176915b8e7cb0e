/-
  FixedHalves: halved so often, and so often again, is halved as often as both together; a greater number is never less behind it.
-/
import Derived.Test.YtdmmhhkkiokmiaaDoorLaid
import Derived.Test.YtdmmhhkkiokmiaaDoorArr
import Derived.Test.YtdmmhhkkiokmiaaDoorFade
import Derived.ChangeOld
import Derived.Below
namespace Go.Proofs.YtdmmhhkkiokmiaaDoor.fixedHalves
open Go.ChangeShapes Go.WideShapes Go.ChangeAt Go.RowKit
set_option linter.unusedVariables false

theorem half_half (x p q : Int) (p0 : 0 ≤ p) (p1 : p ≤ 30) (q0 : 0 ≤ q) (q1 : q ≤ 30) : fxH (fxH x p) q = fxH x (p + q) := by
  rw [← fxH_up x p p0, ← fxH_up _ q q0, ← fxH_up x (p + q) (by omega)]
  rw [show min p.toNat 64 = p.toNat by omega, show min q.toNat 64 = q.toNat by omega, show min (p + q).toNat 64 = p.toNat + q.toNat by omega, Int.pow_add, Int.ediv_ediv_of_nonneg (Int.le_of_lt (Int.pow_pos (by omega)))]
theorem half_le (x y p : Int) (h : x ≤ y) : fxH x p ≤ fxH y p := by
  unfold fxH
  split
  · exact h
  · exact Int.ediv_le_ediv (Int.pow_pos (by omega)) h

set_option maxHeartbeats 1000000 in
theorem walk (a0 : Int) (a1 : Int) (a2_0 : Int) (a2_1 : Int) (w0 : (Lit.int .i64 a0).wf = true) (w1 : (Lit.int .i64 a1).wf = true) (w2_0 : (Lit.int .u8 a2_0).wf = true) (w2_1 : (Lit.int .u8 a2_1).wf = true) (w : World) (T : Tab w) :
    Calls Tryd.prog 8 #[.int .i64 a0, .int .i64 a1, .agg #[.int .u8 a2_0, .int .u8 a2_1]] w fun e w' => e = .returned (.bool true) ∧ Below w.heap.size w w' := by
  obtain ⟨h1, h2⟩ := Sat.wf64 w0
  obtain ⟨h3, h4⟩ := Sat.wf64 w1
  obtain ⟨h5, h6⟩ := bounds_u8 w2_0
  obtain ⟨h7, h8⟩ := bounds_u8 w2_1
  have p0 : 0 ≤ a2_0 % 31 ∧ a2_0 % 31 ≤ 30 := by omega
  have q0 : 0 ≤ a2_1 % 31 ∧ a2_1 % 31 ≤ 30 := by omega
  clear w0 w1 w2_0 w2_1 T
  have C1 := mkHid (fun w => same_below (half_any a0 (a2_0 % 31) w))
  have C2 := mkHid (fun w => same_below (half_any (fxH a0 (a2_0 % 31)) (a2_1 % 31) w))
  rw [half_half a0 _ _ p0.1 p0.2 q0.1 q0.2] at C2
  have C3 := mkHid (fun w => same_below (half_any a0 (a2_0 % 31 + a2_1 % 31) w))
  have C4 := mkHid (fun w => same_below (half_any a1 (a2_0 % 31) w))
  have C5 := mkHid (fun w => same_below (half_any a0 (-1 - a2_0 % 31) w))
  rw [← fxH_low a0 (-1 - a2_0 % 31) (by omega)] at C5
  have CW := mkHid wakes_any
  have HL := half_le a0 a1 (a2_0 % 31)
  generalize fxH a0 (a2_0 % 31) = x1 at *
  generalize fxH a1 (a2_0 % 31) = y1 at *
  generalize fxH a0 (a2_0 % 31 + a2_1 % 31) = x2 at *
  by_cases hxy : a0 ≤ a1
  · have hl := HL hxy
    clear HL
    go_enter Tryd.func8, Tryd.ntmps8
    go_wp2_with fail
    go_quiet (fail)
    have hb0 : Below w.heap.size w ((w.alloc (Obj.cells #[Value.int IntKind.u8 a2_0, Value.int IntKind.u8 a2_1] 34)).drewN nq) := below_drewN (up1 (Below.refl _ _) _) _
    go_wp2_with fail
    refine (carry hb0 (C1.out _)).mono ?_
    rintro e w1 ⟨rfl, hb1⟩
    go_wp2_with fail
    refine (carry hb1 (C2.out _)).mono ?_
    rintro e w2 ⟨rfl, hb2⟩
    go_wp2_with fail
    refine (carry hb2 (C3.out _)).mono ?_
    rintro e w3 ⟨rfl, hb3⟩
    go_wp2_with fail
    refine (carry hb3 (C1.out _)).mono ?_
    rintro e w4 ⟨rfl, hb4⟩
    go_wp2_with fail
    refine (carry hb4 (C4.out _)).mono ?_
    rintro e w5 ⟨rfl, hb5⟩
    go_wp2_with fail
    refine (carry hb5 (C5.out _)).mono ?_
    rintro e w6 ⟨rfl, hb6⟩
    go_wp2_with fail
    refine (carry hb6 (CW.out _)).mono ?_
    rintro e w7 ⟨rfl, hb7⟩
    go_wp2
    go_ret
    exact ⟨rfl, hb7⟩
  · clear HL
    go_enter Tryd.func8, Tryd.ntmps8
    go_wp2_with fail
    go_quiet (fail)
    have hb0 : Below w.heap.size w ((w.alloc (Obj.cells #[Value.int IntKind.u8 a2_0, Value.int IntKind.u8 a2_1] 34)).drewN nq) := below_drewN (up1 (Below.refl _ _) _) _
    go_wp2_with fail
    refine (carry hb0 (C1.out _)).mono ?_
    rintro e w1 ⟨rfl, hb1⟩
    go_wp2_with fail
    refine (carry hb1 (C2.out _)).mono ?_
    rintro e w2 ⟨rfl, hb2⟩
    go_wp2_with fail
    refine (carry hb2 (C3.out _)).mono ?_
    rintro e w3 ⟨rfl, hb3⟩
    go_wp2_with fail
    refine (carry hb3 (C5.out _)).mono ?_
    rintro e w4 ⟨rfl, hb4⟩
    go_wp2_with fail
    refine (carry hb4 (CW.out _)).mono ?_
    rintro e w5 ⟨rfl, hb5⟩
    go_wp2
    go_ret
    exact ⟨rfl, hb5⟩

/-- What the walk gives, for every argument and every world that holds the table. -/
theorem contract (H : Type) (enc : TypeId × Value → H) (W : World) (base : Nat) (args : Array Value) (ds gs : List (DataW H)) (before : List MemPlace)
    (hval : ∀ (j : Nat) t v, Tryd.f8.params[j]? = some t → args[j]? = some v → Value.okWide Tryd.prog W .any base t v)
    (hW : DataW.Whole enc Tryd.prog Tryd.f8.params.toList Rows.fixedHalvesSpec.vars false W args.toList ds gs before) (hL : laidMetH Tryd.prog Rows.fixedHalvesRow.laid W) :
    Calls Tryd.prog 8 args W fun e W' => ∃ v, e = .returned v ∧ Rows.fixedHalvesSpec.post enc Tryd.prog Tryd.f8 false true false false W args v W' := by
  have hW' := hW
  obtain ⟨p, q, hA0, hV, rfl, hfz, hnd⟩ := hW
  have hA : DataW.TrodAll enc Tryd.prog W 0 (fun _ => true) true Tryd.f8.params.toList args.toList ds p := hA0
  rw [Tryd.params8] at hA hval
  obtain ⟨v0, vs0, d0, ds0, p0, q0, hargs, rfl, rfl, h0, r0⟩ := trodAll_cons hA
  obtain ⟨v1, vs1, d1, ds1, p1, q1, rfl, rfl, rfl, h1, r1⟩ := trodAll_cons r0
  obtain ⟨v2, vs2, d2, ds2, p2, q2, rfl, rfl, rfl, h2, r2⟩ := trodAll_cons r1
  obtain ⟨rfl, rfl, rfl⟩ := trodAll_nil r2
  obtain rfl : args = #[v0, v1, v2] := by cases args; simp_all
  obtain ⟨rfl, rfl⟩ := trodVars_none hV
  obtain ⟨a0, rfl, rfl, rfl, w0⟩ := open_int Tryd.underlying2 (hval 0 2 v0 rfl rfl) h0
  obtain ⟨a1, rfl, rfl, rfl, w1⟩ := open_int Tryd.underlying2 (hval 1 2 v1 rfl rfl) h1
  obtain ⟨zs2, hl2, rfl, rfl, rfl, w2⟩ := open_ints Tryd.underlying34 Tryd.underlying5 cells5 cells34 (hval 2 34 v2 rfl rfl) h2
  obtain ⟨a2_0, a2_1, rfl⟩ := list2 hl2
  clear hA0
  refine (walk a0 a1 a2_0 a2_1 w0 w1 (w2 _ (by simp)) (w2 _ (by simp)) W (tab_of hL)).mono fun e W' ⟨he, bel⟩ => ?_
  subst he
  exact ⟨_, rfl, _, _, _, [], _, [], hW', trodAll_mk1 (shut_bool Tryd.underlying4 _), (trodAll_cons_mk (shut_int Tryd.underlying2 w0) (trodAll_cons_mk (shut_int Tryd.underlying2 w1) (trodAll_cons_mk (shut_ints Tryd.underlying34 Tryd.underlying5 cells5 cells34 hl2 w2) trodAll_mk0))), rfl, bel.frame _, fun h => by cases h⟩

theorem laid_met (os : Os) : laidMet Tryd.prog Rows.fixedHalvesRow.laid ((laidWorld Tryd.prog os).forCall (fun _ _ => 0) ⟨#[], #[.int .i64 0, .int .i64 0, .agg #[.int .u8 0, .int .u8 0]], []⟩).memory :=
  laidMet_of_run' 8 (by kernel_rfl) (by kernel_rfl)
theorem reads (os : Os) {H : Type} (enc : TypeId × Value → H) : ∃ places, DataW.whole enc Tryd.prog ((laidWorld Tryd.prog os).forCall (fun _ _ => 0) ⟨#[], #[.int .i64 0, .int .i64 0, .agg #[.int .u8 0, .int .u8 0]], []⟩).memory Tryd.f8.params.toList Rows.fixedHalvesSpec.vars false (#[.int .i64 0, .int .i64 0, .agg #[.int .u8 0, .int .u8 0]] : Array Value).toList 8 = some ([.lit (.int .i64 0), .lit (.int .i64 0), .agg [.lit (.int .u8 0), .lit (.int .u8 0)]], [], places) :=
  ⟨[], by kernel_rfl⟩

set_option maxRecDepth 100000 in
theorem lifted (os : Os) (started : os.Started) (H : Type) (enc : TypeId × Value → H) (F : Stop.Interp) :
    ReturnsInHanded {} Tryd.checked os 8 .any ((OpenSpec.ofChange Rows.fixedHalvesSpec).preRow enc Tryd.prog Tryd.f8 Rows.fixedHalvesRow.domain false Rows.fixedHalvesRow.laid) (((OpenSpec.ofChange Rows.fixedHalvesSpec).at F).post enc Tryd.prog Tryd.f8 false true false false) := by
  obtain ⟨places, hx⟩ := reads os enc
  refine returnsInHanded_of_row (C := Tryd.checked) (s := OpenSpec.ofChange Rows.fixedHalvesSpec) own started (by kernel_rfl) Tryd.func8
    (witness_row_at (enc := enc) (C := Tryd.checked) false (laidWorld Tryd.prog os) #[.int .i64 0, .int .i64 0, .agg #[.int .u8 0, .int .u8 0]] rfl (by kernel_rfl) (by kernel_rfl) (by kernel_rfl)
      (OpenSpec.preRow_of_cond 8 hx (by kernel_rfl) (fun k hk => by cases hk) (by kernel_rfl) (laid_met os))) ?_
  intro W base args ds gs before hval hW _ _ _ hL _ _
  exact contract H enc W base args ds gs before hval hW hL

theorem said : Rows.FixedHalvesSaid :=
  OpenClaim.holds_of_cond 8 Tryd.f8 rfl rfl rfl rfl rfl rfl rfl ⟨rfl, rfl, rfl, rfl, rfl⟩ rfl rfl rfl rfl rfl (by kernel_rfl) Tryd.func8 (by kernel_rfl)
    (of_decide_eq_true (by kernel_rfl)) (by unfold Func.isWrapper; first | (rw [if_pos (by decide +kernel)]; kernel_rfl) | (rw [if_neg (by decide +kernel)]; exact ⟨rfl, rfl⟩))
    (fun os started H enc _ F => by rw [OpenClaim.pre_eq_preRow]; exact lifted os started H enc F)

/-- No parameter wants a stand-in; the program's own looks are off. -/
theorem plain (f : FuncId) (fn : Func) (hf : Tryd.pinned.checked.prog.funcNamed "flywheel/flywheellaw03.FixedHalves" = some f) (hfn : Tryd.pinned.checked.prog.funcs[f]? = some fn) :
    false = Tryd.pinned.checked.prog.looks [] ∧ ∀ (j : Nat) t, fn.params[j]? = some t → Tryd.pinned.checked.prog.wantsStandIn t = false := by
  obtain rfl : f = 8 := Option.some.inj ((show Tryd.prog.funcNamed "flywheel/flywheellaw03.FixedHalves" = some 8 by kernel_rfl).symm.trans hf) |>.symm
  obtain rfl : fn = Tryd.f8 := (Option.some.inj (Tryd.func8.symm.trans hfn)).symm
  refine ⟨by kernel_rfl, fun j t ht => ?_⟩
  rw [Tryd.params8] at ht
  have hm := Array.mem_of_getElem? ht
  have ht' : t = 2 ∨ t = 34 := by simpa using hm
  rcases ht' with rfl | rfl
  all_goals first | exact (show Tryd.prog.wantsStandIn 2 = false by kernel_rfl) | exact (show Tryd.prog.wantsStandIn 34 = false by kernel_rfl)
end Go.Proofs.YtdmmhhkkiokmiaaDoor.fixedHalves
namespace Go.Proofs.YtdmmhhkkiokmiaaDoor
/-- The statement. -/
theorem fixedHalves_holds : Rows.FixedHalvesCardSaid :=
  Claim7.holds_tied_plain_at .later [] _ _ _ _ fixedHalves.said (fun _ h => by cases h) (by kernel_rfl) (fun _ h => by cases h) fixedHalves_row_tie rfl ⟨rfl, rfl⟩ (by kernel_rfl) rfl fixedHalves.plain (by kernel_rfl)
#print axioms fixedHalves_holds
end Go.Proofs.YtdmmhhkkiokmiaaDoor
