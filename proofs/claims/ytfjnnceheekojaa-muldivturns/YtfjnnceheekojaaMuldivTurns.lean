/-
  MuldivTurns: a quotient rounded down, the opposite's rounded up, what is left.
-/
import Derived.Test.YtfjnnceheekojaaRows
import Derived.WalkKit
import Derived.ProofKit
import Derived.OpenShut
import Derived.ShutString
import Derived.Test.YtfjnnceheekojaaWakes
import Derived.WalkSpells
import Derived.WalkLawsBesides
import Derived.Handy
import Derived.ChangeOld
import Derived.Below
namespace Go.Proofs.Ytfjnnceheekojaa.muldivTurns
open Go.ChangeShapes Go.WideShapes Go.ChangeAt Go.RowKit
open Go.ChangeMaps (open_string shut_string)
set_option linter.unusedVariables false

theorem own : ownKnob Try.prog.godebug = none := by kernel_rfl

theorem laidOut : laidOutB Try.prog = true := by kernel_rfl

set_option maxHeartbeats 1000000 in
theorem walk (a0 : Int) (a1 : Int) (a2 : Int) (w0 : (Lit.int .i32 a0).wf = true) (w1 : (Lit.int .i32 a1).wf = true) (w2 : (Lit.int .i32 a2).wf = true) (w : World) :
    Calls Try.prog 8 #[.int .i32 a0, .int .i32 a1, .int .i32 a2] w fun e w' => e = .returned (.bool true) ∧ Below w.heap.size w w' := by
  obtain ⟨h1, h2⟩ := wf32 w0
  obtain ⟨h3, h4⟩ := wf32 w1
  obtain ⟨h5, h6⟩ := wf32 w2
  clear w0 w1 w2
  by_cases hz : a2 = 0
  · subst hz
    have D := do_any a0 a1 0 1 (by omega) (by omega) (by omega) (by omega) (by decide) (by decide)
    rw [(mdV_zero a0 a1 1).1] at D
    have D := mkHid D
    go_enter Try.func8, Try.ntmps8
    go_wp2_with fail
    refine (D.out _).mono ?_
    rintro e w1 ⟨rfl, hb1⟩
    go_wp2_with fail
    refine (carry hb1 (wakes_any _)).mono ?_
    rintro e w2 ⟨rfl, hb2⟩
    go_wp2
    go_ret
    exact ⟨rfl, hb2⟩
  · obtain ⟨t1, t2, t3, t4, t5, t6, t7, t8, t9, t10⟩ := turns a0 a1 a2 hz h1 h2 h3 h4 h5 h6
    have D1 := mkHid (do_any a0 a1 a2 1 (by omega) (by omega) (by omega) (by omega) (by omega) (by omega))
    have D2 := mkHid (do_any (-a0) a1 a2 3 (by omega) (by omega) (by omega) (by omega) (by omega) (by omega))
    have D3 := mkHid (fits_any a0 a1 a2 2 (by omega) (by omega) (by omega) (by omega) (by omega) (by omega))
    rw [t4] at D3
    clear t4
    generalize mdV a0 a1 a2 1 = d at *
    generalize mdV (-a0) a1 a2 3 = u at *
    subst t1
    have e1 : wrap64 (a0 * a1) = a0 * a1 := by unfold wrap64; omega
    have e2 : wrap64 (-u * a2) = -u * a2 := by unfold wrap64; omega
    have e3 : wrap64 (a0 * a1 - -u * a2) = a0 * a1 - -u * a2 := by unfold wrap64; omega
    have e4 : wrap64 (-(a0 * a1 - -u * a2)) = -(a0 * a1 - -u * a2) := by unfold wrap64; omega
    by_cases hn : a2 < 0
    · have t3 := t3 hn
      clear t2
      obtain ⟨t31, t32⟩ := t3
      go_enter Try.func8, Try.ntmps8
      go_wp2_with fail
      refine (D1.out _).mono ?_
      rintro e w1 ⟨rfl, hb1⟩
      go_wp2_with fail
      refine (carry hb1 (D2.out _)).mono ?_
      rintro e w2 ⟨rfl, hb2⟩
      go_wp2_with fail
      refine (carry hb2 (D3.out _)).mono ?_
      rintro e w3 ⟨rfl, hb3⟩
      go_wp2_with fail
      refine (carry hb3 (wakes_any _)).mono ?_
      rintro e w4 ⟨rfl, hb4⟩
      go_wp2
      go_ret
      exact ⟨rfl, hb4⟩
    · have t2 := t2 (by omega)
      clear t3
      obtain ⟨t21, t22⟩ := t2
      go_enter Try.func8, Try.ntmps8
      go_wp2_with fail
      refine (D1.out _).mono ?_
      rintro e w1 ⟨rfl, hb1⟩
      go_wp2_with fail
      refine (carry hb1 (D2.out _)).mono ?_
      rintro e w2 ⟨rfl, hb2⟩
      go_wp2_with fail
      refine (carry hb2 (D3.out _)).mono ?_
      rintro e w3 ⟨rfl, hb3⟩
      go_wp2_with fail
      refine (carry hb3 (wakes_any _)).mono ?_
      rintro e w4 ⟨rfl, hb4⟩
      go_wp2
      go_ret
      exact ⟨rfl, hb4⟩

set_option maxRecDepth 100000 in
theorem lifted (os : Os) (started : os.Started) (H : Type) (enc : TypeId × Value → H) :
    ReturnsInHanded {} Try.checked os 8 .any (Rows.muldivTurnsSpec.pre6 enc Try.prog Try.f8 Rows.muldivTurnsRow.domain false) (Rows.muldivTurnsSpec.post enc Try.prog Try.f8 false true false false) := by
  refine returnsInHanded_of_change (C := Try.checked) own started (by kernel_rfl) Try.func8
    (ChangeSpec.witness6 (enc := enc) (C := Try.checked) false ⟨#[], #[.int .i32 0, .int .i32 0, .int .i32 0], []⟩ 8 (by kernel_rfl) (by kernel_rfl) (by kernel_rfl) (by kernel_rfl)) ?_
  intro W base args ds gs before hval0 hW hcnd _
  have hval : ∀ (j : Nat) t v, Try.f8.params[j]? = some t → args[j]? = some v → Value.okWide Try.prog W .any base t v := hval0
  have hW' := hW
  obtain ⟨p, q, hA0, hV, rfl, hfz, hnd⟩ := hW
  have hA : DataW.TrodAll enc Try.prog W 0 (fun _ => true) true Try.f8.params.toList args.toList ds p := hA0
  rw [Try.params8] at hA hval
  obtain ⟨v0, vs0, d0, ds0, p0, q0, hargs, rfl, rfl, h0, r0⟩ := trodAll_cons hA
  obtain ⟨v1, vs1, d1, ds1, p1, q1, rfl, rfl, rfl, h1, r1⟩ := trodAll_cons r0
  obtain ⟨v2, vs2, d2, ds2, p2, q2, rfl, rfl, rfl, h2, r2⟩ := trodAll_cons r1
  obtain ⟨rfl, rfl, rfl⟩ := trodAll_nil r2
  obtain rfl : args = #[v0, v1, v2] := by cases args; simp_all
  obtain ⟨rfl, rfl⟩ := trodVars_none hV
  obtain ⟨a0, rfl, rfl, rfl, w0⟩ := open_int Try.underlying21 (hval 0 21 v0 rfl rfl) h0
  obtain ⟨a1, rfl, rfl, rfl, w1⟩ := open_int Try.underlying21 (hval 1 21 v1 rfl rfl) h1
  obtain ⟨a2, rfl, rfl, rfl, w2⟩ := open_int Try.underlying21 (hval 2 21 v2 rfl rfl) h2
  clear hA0 hval0
  refine (walk a0 a1 a2 w0 w1 w2 W).mono fun e W' ⟨he, bel⟩ => ?_
  subst he
  exact ⟨_, rfl, _, _, _, [], _, [], hW', trodAll_mk1 (shut_bool Try.underlying4 _), (trodAll_cons_mk (shut_int Try.underlying21 w0) (trodAll_cons_mk (shut_int Try.underlying21 w1) (trodAll_cons_mk (shut_int Try.underlying21 w2) trodAll_mk0))), rfl, bel.frame _, fun h => by cases h⟩

theorem over : Rows.muldivTurnsRow.holds Try.pinned (OpenSpec.ofChange Rows.muldivTurnsSpec) :=
  OpenClaim.holds_of_wide 8 Try.f8 rfl rfl rfl rfl rfl rfl rfl ⟨rfl, rfl, rfl, rfl, rfl⟩ rfl rfl rfl rfl rfl (by kernel_rfl) Try.func8 (by kernel_rfl)
    (of_decide_eq_true (by kernel_rfl)) (by unfold Func.isWrapper; first | (rw [if_pos (by decide +kernel)]; kernel_rfl) | (rw [if_neg (by decide +kernel)]; exact ⟨rfl, rfl⟩))
    (fun os started H enc _ => lifted os started H enc)
end Go.Proofs.Ytfjnnceheekojaa.muldivTurns
namespace Go.Proofs.Ytfjnnceheekojaa
/-- The statement. -/
theorem muldivTurns_holds : Rows.MuldivTurnsSaid := muldivTurns.over
#print axioms muldivTurns_holds
end Go.Proofs.Ytfjnnceheekojaa
