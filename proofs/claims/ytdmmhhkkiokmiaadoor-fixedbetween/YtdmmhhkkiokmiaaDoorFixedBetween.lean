/-
  FixedBetween: mixed by a weight from 0 to 1 two numbers give one between them.
-/
import Derived.Test.YtdmmhhkkiokmiaaDoorLaid
import Derived.Test.YtdmmhhkkiokmiaaDoorFade
import Derived.ChangeOld
import Derived.Below
namespace Go.Proofs.YtdmmhhkkiokmiaaDoor.fixedBetween
open Go.ChangeShapes Go.WideShapes Go.ChangeAt Go.RowKit
set_option linter.unusedVariables false

theorem rem61 (x : Int) : -2305843009213693952 < x.tmod 2305843009213693952 ∧ x.tmod 2305843009213693952 < 2305843009213693952 := by
  have h1 := Int.tmod_lt_of_pos x (show (0 : Int) < 2305843009213693952 by omega)
  have h2 := Int.lt_tmod_of_pos x (show (0 : Int) < 2305843009213693952 by omega)
  omega
/-- A part of a way is not below 0, and not more than the way; a way that goes down is the same turned round. -/
theorem part_up (d v : Int) (d0 : 0 ≤ d) (d1 : d < 9223372036854775808) (v0 : 0 ≤ v) (v1 : v ≤ 4294967296) : 0 ≤ fxM d v ∧ fxM d v ≤ d := by
  obtain ⟨o1, o2, _⟩ := mdS_order d v 4294967296 (by omega)
  rw [mdS_down _ _ _ (by omega)] at o1
  rw [mdS_up _ _ _ (by omega)] at o2
  rw [ab_nn 4294967296 (by omega)] at o1 o2
  unfold mdN at o1 o2
  rw [if_neg (by omega)] at o1 o2
  have p0 : 0 ≤ d * v := Int.mul_nonneg d0 v0
  have p1 : d * v ≤ d * 4294967296 := Int.mul_le_mul_of_nonneg_left v1 d0
  generalize d * v = z at *
  unfold fxM
  rw [(mdV_ok d v 4294967296 2 (by omega) (by omega) (by omega)).1, satH_in _ (by omega) (by omega)]
  omega
theorem part_down (d v : Int) (d0 : d < 0) (d1 : -9223372036854775808 ≤ d) (v0 : 0 ≤ v) (v1 : v ≤ 4294967296) : d ≤ fxM d v ∧ fxM d v ≤ 0 := by
  obtain ⟨o1, o2, _⟩ := mdS_order d v 4294967296 (by omega)
  rw [mdS_down _ _ _ (by omega)] at o1
  rw [mdS_up _ _ _ (by omega)] at o2
  rw [ab_nn 4294967296 (by omega)] at o1 o2
  unfold mdN at o1 o2
  rw [if_neg (by omega)] at o1 o2
  have p0 : d * v ≤ 0 := Int.mul_nonpos_of_nonpos_of_nonneg (by omega) v0
  have p1 : d * 4294967296 ≤ d * v := Int.mul_le_mul_of_nonpos_left (by omega) v1
  generalize d * v = z at *
  unfold fxM
  rw [(mdV_ok d v 4294967296 2 (by omega) (by omega) (by omega)).1, satH_in _ (by omega) (by omega)]
  omega
theorem mix_up (a b v : Int) (a1 : -2305843009213693952 < a) (a2 : a < 2305843009213693952) (b1 : -2305843009213693952 < b) (b2 : b < 2305843009213693952) (v0 : 0 ≤ v) (v1 : v ≤ 4294967296) (h : a ≤ b) : a ≤ fxX a b v ∧ fxX a b v ≤ b := by
  have p := part_up (b - a) v (by omega) (by omega) v0 v1
  unfold fxX
  rw [satH_in (b - a) (by omega) (by omega), satH_in _ (by omega) (by omega)]
  omega
theorem mix_down (a b v : Int) (a1 : -2305843009213693952 < a) (a2 : a < 2305843009213693952) (b1 : -2305843009213693952 < b) (b2 : b < 2305843009213693952) (v0 : 0 ≤ v) (v1 : v ≤ 4294967296) (h : b < a) : b ≤ fxX a b v ∧ fxX a b v ≤ a := by
  have p := part_down (b - a) v (by omega) (by omega) v0 v1
  unfold fxX
  rw [satH_in (b - a) (by omega) (by omega), satH_in _ (by omega) (by omega)]
  omega

set_option maxHeartbeats 1000000 in
theorem walk (a0 : Int) (a1 : Int) (a2 : Int) (w0 : (Lit.int .i64 a0).wf = true) (w1 : (Lit.int .i64 a1).wf = true) (w2 : (Lit.int .u32 a2).wf = true) (w : World) (T : Tab w) :
    Calls Tryd.prog 7 #[.int .i64 a0, .int .i64 a1, .int .u32 a2] w fun e w' => e = .returned (.bool true) ∧ Below w.heap.size w w' := by
  obtain ⟨r1, r2⟩ := rem61 a0
  obtain ⟨r3, r4⟩ := rem61 a1
  obtain ⟨h5, h6⟩ := bounds_u32 w2
  clear w2 T
  have h1 := Sat.wf64 w0
  have h3 := Sat.wf64 w1
  clear w0 w1
  have C1 := mkHid (mix_any (a0.tmod 2305843009213693952) (a1.tmod 2305843009213693952) a2 (by omega) (by omega) (by omega) (by omega) (by omega) (by omega))
  have CW := mkHid wakes_any
  have U := mix_up (a0.tmod 2305843009213693952) (a1.tmod 2305843009213693952) a2 r1 r2 r3 r4 h5 (by omega)
  have D := mix_down (a0.tmod 2305843009213693952) (a1.tmod 2305843009213693952) a2 r1 r2 r3 r4 h5 (by omega)
  generalize fxX (a0.tmod 2305843009213693952) (a1.tmod 2305843009213693952) a2 = m at *
  by_cases hab : a0.tmod 2305843009213693952 ≤ a1.tmod 2305843009213693952
  · obtain ⟨u1, u2⟩ := U hab
    clear U D
    go_enter Tryd.func7, Tryd.ntmps7
    go_wp2_with fail
    refine (carry (Below.refl _ _) (C1.out _)).mono ?_
    rintro e w1 ⟨rfl, hb1⟩
    go_wp2_with fail
    all_goals (
      refine (carry hb1 (CW.out _)).mono ?_
      rintro e w2 ⟨rfl, hb2⟩
      go_wp2
      go_ret
      exact ⟨rfl, hb2⟩)
  · obtain ⟨u1, u2⟩ := D (by omega)
    clear U D
    go_enter Tryd.func7, Tryd.ntmps7
    go_wp2_with fail
    refine (carry (Below.refl _ _) (C1.out _)).mono ?_
    rintro e w1 ⟨rfl, hb1⟩
    go_wp2_with fail
    all_goals (
      refine (carry hb1 (CW.out _)).mono ?_
      rintro e w2 ⟨rfl, hb2⟩
      go_wp2
      go_ret
      exact ⟨rfl, hb2⟩)

/-- What the walk gives, for every argument and every world that holds the table. -/
theorem contract (H : Type) (enc : TypeId × Value → H) (W : World) (base : Nat) (args : Array Value) (ds gs : List (DataW H)) (before : List MemPlace)
    (hval : ∀ (j : Nat) t v, Tryd.f7.params[j]? = some t → args[j]? = some v → Value.okWide Tryd.prog W .any base t v)
    (hW : DataW.Whole enc Tryd.prog Tryd.f7.params.toList Rows.fixedBetweenSpec.vars false W args.toList ds gs before) (hL : laidMetH Tryd.prog Rows.fixedBetweenRow.laid W) :
    Calls Tryd.prog 7 args W fun e W' => ∃ v, e = .returned v ∧ Rows.fixedBetweenSpec.post enc Tryd.prog Tryd.f7 false true false false W args v W' := by
  have hW' := hW
  obtain ⟨p, q, hA0, hV, rfl, hfz, hnd⟩ := hW
  have hA : DataW.TrodAll enc Tryd.prog W 0 (fun _ => true) true Tryd.f7.params.toList args.toList ds p := hA0
  rw [Tryd.params7] at hA hval
  obtain ⟨v0, vs0, d0, ds0, p0, q0, hargs, rfl, rfl, h0, r0⟩ := trodAll_cons hA
  obtain ⟨v1, vs1, d1, ds1, p1, q1, rfl, rfl, rfl, h1, r1⟩ := trodAll_cons r0
  obtain ⟨v2, vs2, d2, ds2, p2, q2, rfl, rfl, rfl, h2, r2⟩ := trodAll_cons r1
  obtain ⟨rfl, rfl, rfl⟩ := trodAll_nil r2
  obtain rfl : args = #[v0, v1, v2] := by cases args; simp_all
  obtain ⟨rfl, rfl⟩ := trodVars_none hV
  obtain ⟨a0, rfl, rfl, rfl, w0⟩ := open_int Tryd.underlying2 (hval 0 2 v0 rfl rfl) h0
  obtain ⟨a1, rfl, rfl, rfl, w1⟩ := open_int Tryd.underlying2 (hval 1 2 v1 rfl rfl) h1
  obtain ⟨a2, rfl, rfl, rfl, w2⟩ := open_int Tryd.underlying32 (hval 2 32 v2 rfl rfl) h2
  clear hA0
  refine (walk a0 a1 a2 w0 w1 w2 W (tab_of hL)).mono fun e W' ⟨he, bel⟩ => ?_
  subst he
  exact ⟨_, rfl, _, _, _, [], _, [], hW', trodAll_mk1 (shut_bool Tryd.underlying4 _), (trodAll_cons_mk (shut_int Tryd.underlying2 w0) (trodAll_cons_mk (shut_int Tryd.underlying2 w1) (trodAll_cons_mk (shut_int Tryd.underlying32 w2) trodAll_mk0))), rfl, bel.frame _, fun h => by cases h⟩

theorem laid_met (os : Os) : laidMet Tryd.prog Rows.fixedBetweenRow.laid ((laidWorld Tryd.prog os).forCall (fun _ _ => 0) ⟨#[], #[.int .i64 0, .int .i64 0, .int .u32 0], []⟩).memory :=
  laidMet_of_run' 8 (by kernel_rfl) (by kernel_rfl)
theorem reads (os : Os) {H : Type} (enc : TypeId × Value → H) : ∃ places, DataW.whole enc Tryd.prog ((laidWorld Tryd.prog os).forCall (fun _ _ => 0) ⟨#[], #[.int .i64 0, .int .i64 0, .int .u32 0], []⟩).memory Tryd.f7.params.toList Rows.fixedBetweenSpec.vars false (#[.int .i64 0, .int .i64 0, .int .u32 0] : Array Value).toList 8 = some ([.lit (.int .i64 0), .lit (.int .i64 0), .lit (.int .u32 0)], [], places) :=
  ⟨[], by kernel_rfl⟩

set_option maxRecDepth 100000 in
theorem lifted (os : Os) (started : os.Started) (H : Type) (enc : TypeId × Value → H) (F : Stop.Interp) :
    ReturnsInHanded {} Tryd.checked os 7 .any ((OpenSpec.ofChange Rows.fixedBetweenSpec).preRow enc Tryd.prog Tryd.f7 Rows.fixedBetweenRow.domain false Rows.fixedBetweenRow.laid) (((OpenSpec.ofChange Rows.fixedBetweenSpec).at F).post enc Tryd.prog Tryd.f7 false true false false) := by
  obtain ⟨places, hx⟩ := reads os enc
  refine returnsInHanded_of_row (C := Tryd.checked) (s := OpenSpec.ofChange Rows.fixedBetweenSpec) own started (by kernel_rfl) Tryd.func7
    (witness_row_at (enc := enc) (C := Tryd.checked) false (laidWorld Tryd.prog os) #[.int .i64 0, .int .i64 0, .int .u32 0] rfl (by kernel_rfl) (by kernel_rfl) (by kernel_rfl)
      (OpenSpec.preRow_of_cond 8 hx (by kernel_rfl) (fun k hk => by cases hk) (by kernel_rfl) (laid_met os))) ?_
  intro W base args ds gs before hval hW _ _ _ hL _ _
  exact contract H enc W base args ds gs before hval hW hL

theorem said : Rows.FixedBetweenSaid :=
  OpenClaim.holds_of_cond 7 Tryd.f7 rfl rfl rfl rfl rfl rfl rfl ⟨rfl, rfl, rfl, rfl, rfl⟩ rfl rfl rfl rfl rfl (by kernel_rfl) Tryd.func7 (by kernel_rfl)
    (of_decide_eq_true (by kernel_rfl)) (by unfold Func.isWrapper; first | (rw [if_pos (by decide +kernel)]; kernel_rfl) | (rw [if_neg (by decide +kernel)]; exact ⟨rfl, rfl⟩))
    (fun os started H enc _ F => by rw [OpenClaim.pre_eq_preRow]; exact lifted os started H enc F)

/-- No parameter wants a stand-in; the program's own looks are off. -/
theorem plain (f : FuncId) (fn : Func) (hf : Tryd.pinned.checked.prog.funcNamed "flywheel/flywheellaw03.FixedBetween" = some f) (hfn : Tryd.pinned.checked.prog.funcs[f]? = some fn) :
    false = Tryd.pinned.checked.prog.looks [] ∧ ∀ (j : Nat) t, fn.params[j]? = some t → Tryd.pinned.checked.prog.wantsStandIn t = false := by
  obtain rfl : f = 7 := Option.some.inj ((show Tryd.prog.funcNamed "flywheel/flywheellaw03.FixedBetween" = some 7 by kernel_rfl).symm.trans hf) |>.symm
  obtain rfl : fn = Tryd.f7 := (Option.some.inj (Tryd.func7.symm.trans hfn)).symm
  refine ⟨by kernel_rfl, fun j t ht => ?_⟩
  rw [Tryd.params7] at ht
  have hm := Array.mem_of_getElem? ht
  have ht' : t = 2 ∨ t = 32 := by simpa using hm
  rcases ht' with rfl | rfl
  all_goals first | exact (show Tryd.prog.wantsStandIn 2 = false by kernel_rfl) | exact (show Tryd.prog.wantsStandIn 32 = false by kernel_rfl)
end Go.Proofs.YtdmmhhkkiokmiaaDoor.fixedBetween
namespace Go.Proofs.YtdmmhhkkiokmiaaDoor
/-- The statement. -/
theorem fixedBetween_holds : Rows.FixedBetweenCardSaid :=
  Claim7.holds_tied_plain_at .later [] _ _ _ _ fixedBetween.said (fun _ h => by cases h) (by kernel_rfl) (fun _ h => by cases h) fixedBetween_row_tie rfl ⟨rfl, rfl⟩ (by kernel_rfl) rfl fixedBetween.plain (by kernel_rfl)
#print axioms fixedBetween_holds
end Go.Proofs.YtdmmhhkkiokmiaaDoor
