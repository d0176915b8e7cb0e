/-
  UnitsTimes: a stamp is found again near its own time, to a 65536th of a second.
-/
import Derived.Test.YtkmgoipojikihaaRows
import Derived.WalkKit
import Derived.ProofKit
import Derived.OpenShut
import Derived.ShutString
import Derived.Test.YtkmgoipojikihaaUnN
import Derived.ChangeOld
import Derived.Below
namespace Go.Proofs.Ytkmgoipojikihaa.unitsTimes
open Go.ChangeShapes Go.WideShapes Go.ChangeAt Go.RowKit
open Go.ChangeMaps (open_string shut_string)
set_option linter.unusedVariables false

theorem own : ownKnob Try.prog.godebug = none := by kernel_rfl

theorem laidOut : laidOutB Try.prog = true := by kernel_rfl

/-- A remainder of MaxTime, made to lie from 0 on. -/
theorem tm50 (n : Int) : -1125899906842624 < n.tmod 1125899906842624 ∧ n.tmod 1125899906842624 < 1125899906842624 := by
  have h1 := Int.tmod_lt_of_pos n (show (0 : Int) < 1125899906842624 by omega)
  have h2 := Int.lt_tmod_of_pos n (show (0 : Int) < 1125899906842624 by omega)
  omega
/-- The time of a time's own stamp, near one that is not far. -/
theorem again (t near : Int) (t0 : 0 ≤ t) (t1 : t < 1125899906842624) (n0 : 0 ≤ near) (n1 : near ≤ 1125899906842624) (d1 : t - 2147483648 ≤ near) (d2 : near ≤ t + 2147483647) :
    frV (mdV t 65536 1000000 1 % 4294967296) near ≤ t ∧ t - frV (mdV t 65536 1000000 1 % 4294967296) near ≤ 16 := by
  unfold frV
  have ec : clV near (-1125899906842624) 1125899906842624 = near := by unfold clV; rw [if_neg (by omega), if_neg (by omega)]
  rw [ec, (ct_bd t (by omega) (by omega)).1, (ct_bd near (by omega) (by omega)).1]
  have en : nrV (near * 65536 / 1000000) (t * 65536 / 1000000 % 4294967296) = t * 65536 / 1000000 := by
    have hd1 : t * 65536 / 1000000 - near * 65536 / 1000000 ≤ 200000000 := by omega
    have hd2 : -200000000 ≤ t * 65536 / 1000000 - near * 65536 / 1000000 := by omega
    unfold nrV
    generalize t * 65536 / 1000000 = p at *
    generalize near * 65536 / 1000000 = q at *
    split <;> omega
  rw [en, mdV_u _ _ _ (by omega)]
  rw [satH_in _ (by omega) (by omega)]
  omega

set_option maxHeartbeats 1000000 in
theorem walk (a0 : Int) (a1 : Int) (w0 : (Lit.int .i64 a0).wf = true) (w1 : (Lit.int .i32 a1).wf = true) (w : World) :
    Calls Try.prog 6 #[.int .i64 a0, .int .i32 a1] w fun e w' => e = .returned (.bool true) ∧ Below w.heap.size w w' := by
  obtain ⟨h3, h4⟩ := bounds_i32 w1
  have _w0 := w0
  clear w1
  have k := tm50 a0
  have e1 : (a0.tmod 1125899906842624 + 1125899906842624).tmod 1125899906842624 = (a0.tmod 1125899906842624 + 1125899906842624) % 1125899906842624 := Int.tmod_eq_emod_of_nonneg (by omega)
  have t0 : 0 ≤ (a0.tmod 1125899906842624 + 1125899906842624) % 1125899906842624 := by omega
  have t1 : (a0.tmod 1125899906842624 + 1125899906842624) % 1125899906842624 < 1125899906842624 := by omega
  generalize ht : (a0.tmod 1125899906842624 + 1125899906842624) % 1125899906842624 = t at *
  clear ht
  have C0 := mkHid wakes_any
  by_cases ha : t + a1 < 0
  · go_enter Try.func6, Try.ntmps6
    go_wp2_with fail
    refine (C0.out _).mono ?_
    rintro e w1 ⟨rfl, hb1⟩
    go_wp2
    go_ret
    exact ⟨rfl, hb1⟩
  by_cases hc : 1125899906842624 < t + a1
  · go_enter Try.func6, Try.ntmps6
    go_wp2_with fail
    refine (C0.out _).mono ?_
    rintro e w1 ⟨rfl, hb1⟩
    go_wp2
    go_ret
    exact ⟨rfl, hb1⟩
  have C1 := mkHid (stamp_any t (by omega) (by omega))
  have C2 := mkHid (from_any (mdV t 65536 1000000 1 % 4294967296) (t + a1) (by omega) (by omega))
  obtain ⟨g1, g2⟩ := again t (t + a1) t0 t1 (by omega) (by omega) (by omega) (by omega)
  generalize mdV t 65536 1000000 1 % 4294967296 = s at *
  generalize frV s (t + a1) = g at *
  go_enter Try.func6, Try.ntmps6
  go_wp2_with fail
  refine (C1.out _).mono ?_
  rintro e w1 ⟨rfl, hb1⟩
  go_wp2_with fail
  refine (carry hb1 (C2.out _)).mono ?_
  rintro e w2 ⟨rfl, hb2⟩
  go_wp2_with fail
  refine (carry hb2 (C0.out _)).mono ?_
  rintro e w3 ⟨rfl, hb3⟩
  go_wp2
  go_ret
  exact ⟨rfl, hb3⟩

set_option maxRecDepth 100000 in
theorem lifted (os : Os) (started : os.Started) (H : Type) (enc : TypeId × Value → H) :
    ReturnsInHanded {} Try.checked os 6 .any (Rows.unitsTimesSpec.pre6 enc Try.prog Try.f6 Rows.unitsTimesRow.domain false) (Rows.unitsTimesSpec.post enc Try.prog Try.f6 false true false false) := by
  refine returnsInHanded_of_change (C := Try.checked) own started (by kernel_rfl) Try.func6
    (ChangeSpec.witness6 (enc := enc) (C := Try.checked) false ⟨#[], #[.int .i64 0, .int .i32 0], []⟩ 8 (by kernel_rfl) (by kernel_rfl) (by kernel_rfl) (by kernel_rfl)) ?_
  intro W base args ds gs before hval0 hW hcnd _
  have hval : ∀ (j : Nat) t v, Try.f6.params[j]? = some t → args[j]? = some v → Value.okWide Try.prog W .any base t v := hval0
  have hW' := hW
  obtain ⟨p, q, hA0, hV, rfl, hfz, hnd⟩ := hW
  have hA : DataW.TrodAll enc Try.prog W 0 (fun _ => true) true Try.f6.params.toList args.toList ds p := hA0
  rw [Try.params6] at hA hval
  obtain ⟨v0, vs0, d0, ds0, p0, q0, hargs, rfl, rfl, h0, r0⟩ := trodAll_cons hA
  obtain ⟨v1, vs1, d1, ds1, p1, q1, rfl, rfl, rfl, h1, r1⟩ := trodAll_cons r0
  obtain ⟨rfl, rfl, rfl⟩ := trodAll_nil r1
  obtain rfl : args = #[v0, v1] := by cases args; simp_all
  obtain ⟨rfl, rfl⟩ := trodVars_none hV
  obtain ⟨a0, rfl, rfl, rfl, w0⟩ := open_int Try.underlying2 (hval 0 2 v0 rfl rfl) h0
  obtain ⟨a1, rfl, rfl, rfl, w1⟩ := open_int Try.underlying21 (hval 1 21 v1 rfl rfl) h1
  clear hA0 hval0
  refine (walk a0 a1 w0 w1 W).mono fun e W' ⟨he, bel⟩ => ?_
  subst he
  exact ⟨_, rfl, _, _, _, [], _, [], hW', trodAll_mk1 (shut_bool Try.underlying4 _), (trodAll_cons_mk (shut_int Try.underlying2 w0) (trodAll_cons_mk (shut_int Try.underlying21 w1) trodAll_mk0)), rfl, bel.frame _, fun h => by cases h⟩

theorem over : Rows.unitsTimesRow.holds Try.pinned (OpenSpec.ofChange Rows.unitsTimesSpec) :=
  OpenClaim.holds_of_wide 6 Try.f6 rfl rfl rfl rfl rfl rfl rfl ⟨rfl, rfl, rfl, rfl, rfl⟩ rfl rfl rfl rfl rfl (by kernel_rfl) Try.func6 (by kernel_rfl)
    (of_decide_eq_true (by kernel_rfl)) (by unfold Func.isWrapper; first | (rw [if_pos (by decide +kernel)]; kernel_rfl) | (rw [if_neg (by decide +kernel)]; exact ⟨rfl, rfl⟩))
    (fun os started H enc _ => lifted os started H enc)
end Go.Proofs.Ytkmgoipojikihaa.unitsTimes
namespace Go.Proofs.Ytkmgoipojikihaa
/-- The statement. -/
theorem unitsTimes_holds : Rows.UnitsTimesSaid := unitsTimes.over
#print axioms unitsTimes_holds
end Go.Proofs.Ytkmgoipojikihaa
