/-
  WrapBack: a number that is not far is found by its lower bits.
-/
import Derived.Test.YtobphjkemfakgaaRows
import Derived.WalkKit
import Derived.ProofKit
import Derived.OpenShut
import Derived.ShutString
import Derived.Test.YtobphjkemfakgaaWrR
import Derived.ChangeOld
import Derived.Below
namespace Go.Proofs.Ytobphjkemfakgaa.wrapBack
open Go.ChangeShapes Go.WideShapes Go.ChangeAt Go.RowKit
open Go.ChangeMaps (open_string shut_string)
set_option linter.unusedVariables false

theorem own : ownKnob Try.prog.godebug = none := by kernel_rfl

theorem laidOut : laidOutB Try.prog = true := by kernel_rfl

theorem q_bd (a : Int) (m : Int) (hm : 0 < m) : 0 ≤ (IntKind.u64.wrap a).tmod m ∧ (IntKind.u64.wrap a).tmod m < m := by
  have h : 0 ≤ IntKind.u64.wrap a := by rw [IntKind.wrap_u64]; omega
  exact ⟨Int.tmod_nonneg _ h, Int.tmod_lt_of_pos _ hm⟩
theorem cl_in (l : Int) (l1 : -1152921504606846976 ≤ l) (l2 : l ≤ 1152921504606846976) : clV l = l := by unfold clV; rw [if_neg (by omega), if_neg (by omega)]
theorem found (h l f : Int) (f1 : -h < f) (f2 : f < h) : nV h l ((l + f) % (2 * h)) = l + f := by
  have e : ((l + f) % (2 * h) - l) % (2 * h) = f % (2 * h) := by
    rw [Int.sub_emod, Int.emod_emod, ← Int.sub_emod]; congr 1; omega
  unfold nV
  rw [e]
  by_cases g : 0 ≤ f
  · rw [Int.emod_eq_of_lt g (by omega), if_pos (by omega)]
  · have e2 : f % (2 * h) = f + 2 * h := by
      rw [← Int.add_emod_right, Int.emod_eq_of_lt (by omega) (by omega)]
    rw [e2, if_neg (by omega)]; omega

set_option maxHeartbeats 1000000 in
theorem walk (a0 : Int) (a1 : Int) (a2 : Int) (w0 : (Lit.int .i64 a0).wf = true) (w1 : (Lit.int .i64 a1).wf = true) (w2 : (Lit.int .i64 a2).wf = true) (w : World) :
    Calls Try.prog 5 #[.int .i64 a0, .int .i64 a1, .int .i64 a2] w fun e w' => e = .returned (.bool true) ∧ Below w.heap.size w w' := by
  clear w0 w1 w2
  have C0 := mkHid wakes_any
  have hq := q_bd a2 32 (by decide)
  generalize eq : (IntKind.u64.wrap a2).tmod 32 = q at *
  have s := sh1 (1 + q) (by omega) (by omega)
  have kh := hf_bd (1 + q) (by omega) (by omega)
  have n := tm_bd a0 576460752303423488 (by decide)
  generalize el : a0.tmod 576460752303423488 = l at *
  have o := tm_bd a1 (hf (1 + q)) (by omega)
  generalize ef : a1.tmod (hf (1 + q)) = f at *
  have C1 := mkHid (crop_any (l + f) (1 + q) (by omega) (by omega))
  have C2 := mkHid (near_any l ((l + f) % (2 * hf (1 + q))) (1 + q) (by omega) (by omega))
  have C3 := mkHid (crop_any l (1 + q) (by omega) (by omega))
  have C4 := mkHid (near_any l (l % (2 * hf (1 + q))) (1 + q) (by omega) (by omega))
  rw [cl_in l (by omega) (by omega), found _ l f o.1 o.2] at C2
  have z := found (hf (1 + q)) l 0 (by omega) (by omega)
  rw [Int.add_zero] at z
  rw [cl_in l (by omega) (by omega), z] at C4
  clear z
  generalize (l + f) % (2 * hf (1 + q)) = x at *
  generalize l % (2 * hf (1 + q)) = y at *
  generalize hf (1 + q) = h at *
  have hne : ¬ h = 0 := by omega
  go_enter Try.func5, Try.ntmps5
  go_wp2_with fail
  refine (C1.out _).mono ?_
  rintro e w1 ⟨rfl, rfl⟩
  go_wp2_with fail
  refine (C2.out _).mono ?_
  rintro e w1 ⟨rfl, rfl⟩
  go_wp2_with fail
  refine (C3.out _).mono ?_
  rintro e w1 ⟨rfl, rfl⟩
  go_wp2_with fail
  refine (C4.out _).mono ?_
  rintro e w1 ⟨rfl, rfl⟩
  go_wp2_with fail
  refine (C0.out _).mono ?_
  rintro e w1 ⟨rfl, rfl⟩
  go_wp2
  go_ret
  exact ⟨rfl, Below.refl _ _⟩

set_option maxRecDepth 100000 in
theorem lifted (os : Os) (started : os.Started) (H : Type) (enc : TypeId × Value → H) :
    ReturnsInHanded {} Try.checked os 5 .any (Rows.wrapBackSpec.pre6 enc Try.prog Try.f5 Rows.wrapBackRow.domain false) (Rows.wrapBackSpec.post enc Try.prog Try.f5 false true false false) := by
  refine returnsInHanded_of_change (C := Try.checked) own started (by kernel_rfl) Try.func5
    (ChangeSpec.witness6 (enc := enc) (C := Try.checked) false ⟨#[], #[.int .i64 0, .int .i64 0, .int .i64 0], []⟩ 8 (by kernel_rfl) (by kernel_rfl) (by kernel_rfl) (by kernel_rfl)) ?_
  intro W base args ds gs before hval0 hW hcnd _
  have hval : ∀ (j : Nat) t v, Try.f5.params[j]? = some t → args[j]? = some v → Value.okWide Try.prog W .any base t v := hval0
  have hW' := hW
  obtain ⟨p, q, hA0, hV, rfl, hfz, hnd⟩ := hW
  have hA : DataW.TrodAll enc Try.prog W 0 (fun _ => true) true Try.f5.params.toList args.toList ds p := hA0
  rw [Try.params5] at hA hval
  obtain ⟨v0, vs0, d0, ds0, p0, q0, hargs, rfl, rfl, h0, r0⟩ := trodAll_cons hA
  obtain ⟨v1, vs1, d1, ds1, p1, q1, rfl, rfl, rfl, h1, r1⟩ := trodAll_cons r0
  obtain ⟨v2, vs2, d2, ds2, p2, q2, rfl, rfl, rfl, h2, r2⟩ := trodAll_cons r1
  obtain ⟨rfl, rfl, rfl⟩ := trodAll_nil r2
  obtain rfl : args = #[v0, v1, v2] := by cases args; simp_all
  obtain ⟨rfl, rfl⟩ := trodVars_none hV
  obtain ⟨a0, rfl, rfl, rfl, w0⟩ := open_int Try.underlying2 (hval 0 2 v0 rfl rfl) h0
  obtain ⟨a1, rfl, rfl, rfl, w1⟩ := open_int Try.underlying2 (hval 1 2 v1 rfl rfl) h1
  obtain ⟨a2, rfl, rfl, rfl, w2⟩ := open_int Try.underlying3 (hval 2 3 v2 rfl rfl) h2
  clear hA0 hval0
  refine (walk a0 a1 a2 w0 w1 w2 W).mono fun e W' ⟨he, bel⟩ => ?_
  subst he
  exact ⟨_, rfl, _, _, _, [], _, [], hW', trodAll_mk1 (shut_bool Try.underlying4 _), (trodAll_cons_mk (shut_int Try.underlying2 w0) (trodAll_cons_mk (shut_int Try.underlying2 w1) (trodAll_cons_mk (shut_int Try.underlying3 w2) trodAll_mk0))), rfl, bel.frame _, fun h => by cases h⟩

theorem over : Rows.wrapBackRow.holds Try.pinned (OpenSpec.ofChange Rows.wrapBackSpec) :=
  OpenClaim.holds_of_wide 5 Try.f5 rfl rfl rfl rfl rfl rfl rfl ⟨rfl, rfl, rfl, rfl, rfl⟩ rfl rfl rfl rfl rfl (by kernel_rfl) Try.func5 (by kernel_rfl)
    (of_decide_eq_true (by kernel_rfl)) (by unfold Func.isWrapper; first | (rw [if_pos (by decide +kernel)]; kernel_rfl) | (rw [if_neg (by decide +kernel)]; exact ⟨rfl, rfl⟩))
    (fun os started H enc _ => lifted os started H enc)
end Go.Proofs.Ytobphjkemfakgaa.wrapBack
namespace Go.Proofs.Ytobphjkemfakgaa
/-- The statement. -/
theorem wrapBack_holds : Rows.WrapBackSaid := wrapBack.over
#print axioms wrapBack_holds
end Go.Proofs.Ytobphjkemfakgaa
