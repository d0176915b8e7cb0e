/-
  FixedBack: a whole number is what it was; times 1 and by 1 a number is what it was; mixed by nothing, or by all, it is the one or the other.
-/
import Derived.Test.YtdmmhhkkiokmiaaDoorLaid
import Derived.Test.YtdmmhhkkiokmiaaDoorFade
import Derived.ChangeOld
import Derived.Below
namespace Go.Proofs.YtdmmhhkkiokmiaaDoor.fixedBack
open Go.ChangeShapes Go.WideShapes Go.ChangeAt Go.RowKit
set_option linter.unusedVariables false

theorem rem61 (x : Int) : -2305843009213693952 < x.tmod 2305843009213693952 ∧ x.tmod 2305843009213693952 < 2305843009213693952 := by
  have h1 := Int.tmod_lt_of_pos x (show (0 : Int) < 2305843009213693952 by omega)
  have h2 := Int.lt_tmod_of_pos x (show (0 : Int) < 2305843009213693952 by omega)
  omega
theorem fxO_in (k : Int) (h1 : -2147483648 ≤ k) (h2 : k ≤ 2147483647) : fxO k = k * 4294967296 := satH_in _ (by omega) (by omega)
theorem back_int (k : Int) (h1 : -2147483648 ≤ k) (h2 : k ≤ 2147483647) : fxI (fxO k) = k := by
  rw [fxI_eq _ (fxO_bd k).1 (fxO_bd k).2, fxO_in k h1 h2]; omega
theorem mix_none (a b : Int) (a1 : -2305843009213693952 < a) (a2 : a < 2305843009213693952) : fxX a b 0 = a := by
  unfold fxX; rw [fxM_zero, satH_in _ (by omega) (by omega)]; omega
theorem mix_all (a b : Int) (a1 : -2305843009213693952 < a) (a2 : a < 2305843009213693952) (b1 : -2305843009213693952 < b) (b2 : b < 2305843009213693952) : fxX a b 4294967296 = b := by
  unfold fxX; rw [satH_in (b - a) (by omega) (by omega), fxM_one' _ (by omega) (by omega), satH_in _ (by omega) (by omega)]; omega
theorem mul_three (k : Int) (h1 : -2147483648 ≤ k) (h2 : k ≤ 2147483647) : fxM (fxO k) (fxO 3) = fxO (3 * k) := by
  unfold fxM
  rw [(mdV_ok _ _ 4294967296 2 (by omega) (by omega) (by omega)).1, fxO_in k h1 h2, fxO_in 3 (by omega) (by omega), mdS_exact _ _ 4294967296 2 (3 * k * 4294967296) (by omega) (by omega)]
  rfl
theorem div_one (x : Int) (h1 : -9223372036854775808 ≤ x) (h2 : x ≤ 9223372036854775807) : mdV x 4294967296 4294967296 2 = x :=
  mdV_exact _ _ _ _ x (by omega) (by omega) (by omega) (Int.mul_comm _ _) h1 h2

set_option maxHeartbeats 1000000 in
theorem walk (a0 : Int) (a1 : Int) (a2 : Int) (w0 : (Lit.int .i32 a0).wf = true) (w1 : (Lit.int .i64 a1).wf = true) (w2 : (Lit.int .i64 a2).wf = true) (w : World) (T : Tab w) :
    Calls Tryd.prog 6 #[.int .i32 a0, .int .i64 a1, .int .i64 a2] w fun e w' => e = .returned (.bool true) ∧ Below w.heap.size w w' := by
  obtain ⟨h1, h2⟩ := Sat.wf32 w0
  obtain ⟨h3, h4⟩ := Sat.wf64 w1
  obtain ⟨h5, h6⟩ := Sat.wf64 w2
  obtain ⟨r1, r2⟩ := rem61 a1
  obtain ⟨r3, r4⟩ := rem61 a2
  clear w0 w1 w2 T
  have o := fxO_bd a0
  have C1 := mkHid (of_any a0 (by omega) (by omega))
  have C2 := mkHid (int_any (fxO a0) o.1 o.2)
  rw [back_int a0 h1 h2] at C2
  have C3 := mkHid (mulx_any a1 4294967296 h3 h4 (by omega) (by omega))
  rw [fxM_one' a1 h3 h4] at C3
  have C4 := mkHid (divx_any a1 4294967296 h3 h4 (by omega) (by omega))
  rw [div_one a1 h3 h4] at C4
  have C5 := mkHid (fun w => same_below (half_any a1 0 w))
  rw [show fxH a1 0 = a1 from by rw [← fxH_up a1 0 (by omega)]; simp] at C5
  have C6 := mkHid (mix_any (a1.tmod 2305843009213693952) (a2.tmod 2305843009213693952) 0 (by omega) (by omega) (by omega) (by omega) (by omega) (by omega))
  rw [mix_none _ _ r1 r2] at C6
  have C7 := mkHid (mix_any (a1.tmod 2305843009213693952) (a2.tmod 2305843009213693952) 4294967296 (by omega) (by omega) (by omega) (by omega) (by omega) (by omega))
  rw [mix_all _ _ r1 r2 r3 r4] at C7
  have C8 := mkHid (of_any 3 (by omega) (by omega))
  have o3 := fxO_bd 3
  have C9 := mkHid (mulx_any (fxO a0) (fxO 3) o.1 o.2 o3.1 o3.2)
  rw [mul_three a0 h1 h2] at C9
  have C10 := mkHid (of_any (3 * a0) (by omega) (by omega))
  have CW := mkHid wakes_any
  clear o o3
  generalize fxO a0 = x0 at *
  generalize fxO 3 = x3 at *
  generalize fxO (3 * a0) = x9 at *
  go_enter Tryd.func6, Tryd.ntmps6
  go_wp2_with fail
  refine (carry (Below.refl _ _) (C1.out _)).mono ?_
  rintro e w1 ⟨rfl, hb1⟩
  go_wp2_with fail
  refine (carry hb1 (C2.out _)).mono ?_
  rintro e w2 ⟨rfl, hb2⟩
  go_wp2_with fail
  refine (carry hb2 (C3.out _)).mono ?_
  rintro e w3 ⟨rfl, hb3⟩
  go_wp2_with fail
  refine (carry hb3 (C4.out _)).mono ?_
  rintro e w4 ⟨rfl, hb4⟩
  go_wp2_with fail
  refine (carry hb4 (C5.out _)).mono ?_
  rintro e w5 ⟨rfl, hb5⟩
  go_wp2_with fail
  refine (carry hb5 (C6.out _)).mono ?_
  rintro e w6 ⟨rfl, hb6⟩
  go_wp2_with fail
  refine (carry hb6 (C7.out _)).mono ?_
  rintro e w7 ⟨rfl, hb7⟩
  go_wp2_with fail
  refine (carry hb7 (C1.out _)).mono ?_
  rintro e w8 ⟨rfl, hb8⟩
  go_wp2_with fail
  refine (carry hb8 (C8.out _)).mono ?_
  rintro e w9 ⟨rfl, hb9⟩
  go_wp2_with fail
  refine (carry hb9 (C9.out _)).mono ?_
  rintro e w10 ⟨rfl, hb10⟩
  go_wp2_with fail
  refine (carry hb10 (C10.out _)).mono ?_
  rintro e w11 ⟨rfl, hb11⟩
  go_wp2_with fail
  refine (carry hb11 (CW.out _)).mono ?_
  rintro e w12 ⟨rfl, hb12⟩
  go_wp2
  go_ret
  exact ⟨rfl, hb12⟩

/-- What the walk gives, for every argument and every world that holds the table. -/
theorem contract (H : Type) (enc : TypeId × Value → H) (W : World) (base : Nat) (args : Array Value) (ds gs : List (DataW H)) (before : List MemPlace)
    (hval : ∀ (j : Nat) t v, Tryd.f6.params[j]? = some t → args[j]? = some v → Value.okWide Tryd.prog W .any base t v)
    (hW : DataW.Whole enc Tryd.prog Tryd.f6.params.toList Rows.fixedBackSpec.vars false W args.toList ds gs before) (hL : laidMetH Tryd.prog Rows.fixedBackRow.laid W) :
    Calls Tryd.prog 6 args W fun e W' => ∃ v, e = .returned v ∧ Rows.fixedBackSpec.post enc Tryd.prog Tryd.f6 false true false false W args v W' := by
  have hW' := hW
  obtain ⟨p, q, hA0, hV, rfl, hfz, hnd⟩ := hW
  have hA : DataW.TrodAll enc Tryd.prog W 0 (fun _ => true) true Tryd.f6.params.toList args.toList ds p := hA0
  rw [Tryd.params6] at hA hval
  obtain ⟨v0, vs0, d0, ds0, p0, q0, hargs, rfl, rfl, h0, r0⟩ := trodAll_cons hA
  obtain ⟨v1, vs1, d1, ds1, p1, q1, rfl, rfl, rfl, h1, r1⟩ := trodAll_cons r0
  obtain ⟨v2, vs2, d2, ds2, p2, q2, rfl, rfl, rfl, h2, r2⟩ := trodAll_cons r1
  obtain ⟨rfl, rfl, rfl⟩ := trodAll_nil r2
  obtain rfl : args = #[v0, v1, v2] := by cases args; simp_all
  obtain ⟨rfl, rfl⟩ := trodVars_none hV
  obtain ⟨a0, rfl, rfl, rfl, w0⟩ := open_int Tryd.underlying21 (hval 0 21 v0 rfl rfl) h0
  obtain ⟨a1, rfl, rfl, rfl, w1⟩ := open_int Tryd.underlying2 (hval 1 2 v1 rfl rfl) h1
  obtain ⟨a2, rfl, rfl, rfl, w2⟩ := open_int Tryd.underlying2 (hval 2 2 v2 rfl rfl) h2
  clear hA0
  refine (walk a0 a1 a2 w0 w1 w2 W (tab_of hL)).mono fun e W' ⟨he, bel⟩ => ?_
  subst he
  exact ⟨_, rfl, _, _, _, [], _, [], hW', trodAll_mk1 (shut_bool Tryd.underlying4 _), (trodAll_cons_mk (shut_int Tryd.underlying21 w0) (trodAll_cons_mk (shut_int Tryd.underlying2 w1) (trodAll_cons_mk (shut_int Tryd.underlying2 w2) trodAll_mk0))), rfl, bel.frame _, fun h => by cases h⟩

theorem laid_met (os : Os) : laidMet Tryd.prog Rows.fixedBackRow.laid ((laidWorld Tryd.prog os).forCall (fun _ _ => 0) ⟨#[], #[.int .i32 0, .int .i64 0, .int .i64 0], []⟩).memory :=
  laidMet_of_run' 8 (by kernel_rfl) (by kernel_rfl)
theorem reads (os : Os) {H : Type} (enc : TypeId × Value → H) : ∃ places, DataW.whole enc Tryd.prog ((laidWorld Tryd.prog os).forCall (fun _ _ => 0) ⟨#[], #[.int .i32 0, .int .i64 0, .int .i64 0], []⟩).memory Tryd.f6.params.toList Rows.fixedBackSpec.vars false (#[.int .i32 0, .int .i64 0, .int .i64 0] : Array Value).toList 8 = some ([.lit (.int .i32 0), .lit (.int .i64 0), .lit (.int .i64 0)], [], places) :=
  ⟨[], by kernel_rfl⟩

set_option maxRecDepth 100000 in
theorem lifted (os : Os) (started : os.Started) (H : Type) (enc : TypeId × Value → H) (F : Stop.Interp) :
    ReturnsInHanded {} Tryd.checked os 6 .any ((OpenSpec.ofChange Rows.fixedBackSpec).preRow enc Tryd.prog Tryd.f6 Rows.fixedBackRow.domain false Rows.fixedBackRow.laid) (((OpenSpec.ofChange Rows.fixedBackSpec).at F).post enc Tryd.prog Tryd.f6 false true false false) := by
  obtain ⟨places, hx⟩ := reads os enc
  refine returnsInHanded_of_row (C := Tryd.checked) (s := OpenSpec.ofChange Rows.fixedBackSpec) own started (by kernel_rfl) Tryd.func6
    (witness_row_at (enc := enc) (C := Tryd.checked) false (laidWorld Tryd.prog os) #[.int .i32 0, .int .i64 0, .int .i64 0] rfl (by kernel_rfl) (by kernel_rfl) (by kernel_rfl)
      (OpenSpec.preRow_of_cond 8 hx (by kernel_rfl) (fun k hk => by cases hk) (by kernel_rfl) (laid_met os))) ?_
  intro W base args ds gs before hval hW _ _ _ hL _ _
  exact contract H enc W base args ds gs before hval hW hL

theorem said : Rows.FixedBackSaid :=
  OpenClaim.holds_of_cond 6 Tryd.f6 rfl rfl rfl rfl rfl rfl rfl ⟨rfl, rfl, rfl, rfl, rfl⟩ rfl rfl rfl rfl rfl (by kernel_rfl) Tryd.func6 (by kernel_rfl)
    (of_decide_eq_true (by kernel_rfl)) (by unfold Func.isWrapper; first | (rw [if_pos (by decide +kernel)]; kernel_rfl) | (rw [if_neg (by decide +kernel)]; exact ⟨rfl, rfl⟩))
    (fun os started H enc _ F => by rw [OpenClaim.pre_eq_preRow]; exact lifted os started H enc F)

/-- No parameter wants a stand-in; the program's own looks are off. -/
theorem plain (f : FuncId) (fn : Func) (hf : Tryd.pinned.checked.prog.funcNamed "flywheel/flywheellaw03.FixedBack" = some f) (hfn : Tryd.pinned.checked.prog.funcs[f]? = some fn) :
    false = Tryd.pinned.checked.prog.looks [] ∧ ∀ (j : Nat) t, fn.params[j]? = some t → Tryd.pinned.checked.prog.wantsStandIn t = false := by
  obtain rfl : f = 6 := Option.some.inj ((show Tryd.prog.funcNamed "flywheel/flywheellaw03.FixedBack" = some 6 by kernel_rfl).symm.trans hf) |>.symm
  obtain rfl : fn = Tryd.f6 := (Option.some.inj (Tryd.func6.symm.trans hfn)).symm
  refine ⟨by kernel_rfl, fun j t ht => ?_⟩
  rw [Tryd.params6] at ht
  have hm := Array.mem_of_getElem? ht
  have ht' : t = 21 ∨ t = 2 := by simpa using hm
  rcases ht' with rfl | rfl
  all_goals first | exact (show Tryd.prog.wantsStandIn 21 = false by kernel_rfl) | exact (show Tryd.prog.wantsStandIn 2 = false by kernel_rfl)
end Go.Proofs.YtdmmhhkkiokmiaaDoor.fixedBack
namespace Go.Proofs.YtdmmhhkkiokmiaaDoor
/-- The statement. -/
theorem fixedBack_holds : Rows.FixedBackCardSaid :=
  Claim7.holds_tied_plain_at .later [] _ _ _ _ fixedBack.said (fun _ h => by cases h) (by kernel_rfl) (fun _ h => by cases h) fixedBack_row_tie rfl ⟨rfl, rfl⟩ (by kernel_rfl) rfl fixedBack.plain (by kernel_rfl)
#print axioms fixedBack_holds
end Go.Proofs.YtdmmhhkkiokmiaaDoor
