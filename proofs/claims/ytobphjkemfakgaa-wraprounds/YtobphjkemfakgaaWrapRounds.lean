/-
  WrapRounds: a number that goes round has the same lower bits, wherever it is cut.
-/
import Derived.Test.YtobphjkemfakgaaRows
import Derived.WalkKit
import Derived.ProofKit
import Derived.OpenShut
import Derived.ShutString
import Derived.Test.YtobphjkemfakgaaWrR
import Derived.ChangeOld
import Derived.Below
namespace Go.Proofs.Ytobphjkemfakgaa.wrapRounds
open Go.ChangeShapes Go.WideShapes Go.ChangeAt Go.RowKit
open Go.ChangeMaps (open_string shut_string)
set_option linter.unusedVariables false

theorem own : ownKnob Try.prog.godebug = none := by kernel_rfl

theorem laidOut : laidOutB Try.prog = true := by kernel_rfl

theorem q_bd (a : Int) (m : Int) (hm : 0 < m) : 0 ≤ (IntKind.u64.wrap a).tmod m ∧ (IntKind.u64.wrap a).tmod m < m := by
  have h : 0 ≤ IntKind.u64.wrap a := by rw [IntKind.wrap_u64]; omega
  exact ⟨Int.tmod_nonneg _ h, Int.tmod_lt_of_pos _ hm⟩
theorem cl_in (l : Int) (l1 : -1152921504606846976 ≤ l) (l2 : l ≤ 1152921504606846976) : clV l = l := by unfold clV; rw [if_neg (by omega), if_neg (by omega)]
/-- Any number of whole turns: within 60 bits, where the turn has 29 bits at most and the number of turns 32. -/
theorem turns (r h : Int) (h1 : 1 ≤ h) (h2 : h ≤ 268435456) (r1 : -2147483648 ≤ r) (r2 : r ≤ 2147483647) : -1152921504606846976 ≤ r * (2 * h) ∧ r * (2 * h) ≤ 1152921504606846976 := by
  have a1 : -2147483648 * (2 * h) ≤ r * (2 * h) := Int.mul_le_mul_of_nonneg_right r1 (by omega)
  have a2 : r * (2 * h) ≤ 2147483647 * (2 * h) := Int.mul_le_mul_of_nonneg_right r2 (by omega)
  omega
theorem pow29 : ∀ n : Nat, n < 29 → (2 : Int) ^ n ≤ 268435456 := by decide
theorem hf29 (b : Int) (b2 : b ≤ 29) : hf b ≤ 268435456 := pow29 _ (by omega)

set_option maxHeartbeats 1000000 in
theorem walk (a0 : Int) (a1 : Int) (a2 : Int) (w0 : (Lit.int .i64 a0).wf = true) (w1 : (Lit.int .i32 a1).wf = true) (w2 : (Lit.int .i64 a2).wf = true) (w : World) :
    Calls Try.prog 8 #[.int .i64 a0, .int .i32 a1, .int .i64 a2] w fun e w' => e = .returned (.bool true) ∧ Below w.heap.size w w' := by
  obtain ⟨h3, h4⟩ := bounds_i32 w1
  clear w0 w1 w2
  have C0 := mkHid wakes_any
  have hq := q_bd a2 29 (by decide)
  generalize eq : (IntKind.u64.wrap a2).tmod 29 = q at *
  have s := sh0 (1 + q) (by omega) (by omega)
  have kh := hf_bd (1 + q) (by omega) (by omega)
  have kt := turns a1 (hf (1 + q)) kh.1 (hf29 _ (by omega)) h3 h4
  have ep : a1 * 2 ^ (1 + q).toNat = a1 * (2 * hf (1 + q)) := by rw [pow2 (1 + q) (by omega)]
  have n := tm_bd a0 1152921504606846976 (by decide)
  generalize el : a0.tmod 1152921504606846976 = l at *
  have C1 := mkHid (crop_any l (1 + q) (by omega) (by omega))
  have C2 := mkHid (crop_any (l + a1 * (2 * hf (1 + q))) (1 + q) (by omega) (by omega))
  rw [Int.add_mul_emod_self_right] at C2
  have u0 := Int.emod_nonneg l (show 2 * hf (1 + q) ≠ 0 by omega)
  have u1 := Int.emod_lt_of_pos l (show 0 < 2 * hf (1 + q) by omega)
  generalize l % (2 * hf (1 + q)) = x at *
  generalize a1 * (2 * hf (1 + q)) = r at *
  have m1 : 2 * hf (1 + q) ≤ 4294967296 := by omega
  generalize 2 * hf (1 + q) = m at *
  clear kh
  go_enter Try.func8, Try.ntmps8
  go_wp2_with fail
  refine (C1.out _).mono ?_
  rintro e w1 ⟨rfl, rfl⟩
  go_wp2_with fail
  refine (C2.out _).mono ?_
  rintro e w1 ⟨rfl, rfl⟩
  go_wp2_with fail
  refine (C1.out _).mono ?_
  rintro e w1 ⟨rfl, rfl⟩
  go_wp2_with fail
  refine (C1.out _).mono ?_
  rintro e w1 ⟨rfl, rfl⟩
  go_wp2_with fail
  refine (C0.out _).mono ?_
  rintro e w1 ⟨rfl, rfl⟩
  go_wp2
  go_ret
  exact ⟨rfl, Below.refl _ _⟩

set_option maxRecDepth 100000 in
theorem lifted (os : Os) (started : os.Started) (H : Type) (enc : TypeId × Value → H) :
    ReturnsInHanded {} Try.checked os 8 .any (Rows.wrapRoundsSpec.pre6 enc Try.prog Try.f8 Rows.wrapRoundsRow.domain false) (Rows.wrapRoundsSpec.post enc Try.prog Try.f8 false true false false) := by
  refine returnsInHanded_of_change (C := Try.checked) own started (by kernel_rfl) Try.func8
    (ChangeSpec.witness6 (enc := enc) (C := Try.checked) false ⟨#[], #[.int .i64 0, .int .i32 0, .int .i64 0], []⟩ 8 (by kernel_rfl) (by kernel_rfl) (by kernel_rfl) (by kernel_rfl)) ?_
  intro W base args ds gs before hval0 hW hcnd _
  have hval : ∀ (j : Nat) t v, Try.f8.params[j]? = some t → args[j]? = some v → Value.okWide Try.prog W .any base t v := hval0
  have hW' := hW
  obtain ⟨p, q, hA0, hV, rfl, hfz, hnd⟩ := hW
  have hA : DataW.TrodAll enc Try.prog W 0 (fun _ => true) true Try.f8.params.toList args.toList ds p := hA0
  rw [Try.params8] at hA hval
  obtain ⟨v0, vs0, d0, ds0, p0, q0, hargs, rfl, rfl, h0, r0⟩ := trodAll_cons hA
  obtain ⟨v1, vs1, d1, ds1, p1, q1, rfl, rfl, rfl, h1, r1⟩ := trodAll_cons r0
  obtain ⟨v2, vs2, d2, ds2, p2, q2, rfl, rfl, rfl, h2, r2⟩ := trodAll_cons r1
  obtain ⟨rfl, rfl, rfl⟩ := trodAll_nil r2
  obtain rfl : args = #[v0, v1, v2] := by cases args; simp_all
  obtain ⟨rfl, rfl⟩ := trodVars_none hV
  obtain ⟨a0, rfl, rfl, rfl, w0⟩ := open_int Try.underlying2 (hval 0 2 v0 rfl rfl) h0
  obtain ⟨a1, rfl, rfl, rfl, w1⟩ := open_int Try.underlying21 (hval 1 21 v1 rfl rfl) h1
  obtain ⟨a2, rfl, rfl, rfl, w2⟩ := open_int Try.underlying3 (hval 2 3 v2 rfl rfl) h2
  clear hA0 hval0
  refine (walk a0 a1 a2 w0 w1 w2 W).mono fun e W' ⟨he, bel⟩ => ?_
  subst he
  exact ⟨_, rfl, _, _, _, [], _, [], hW', trodAll_mk1 (shut_bool Try.underlying4 _), (trodAll_cons_mk (shut_int Try.underlying2 w0) (trodAll_cons_mk (shut_int Try.underlying21 w1) (trodAll_cons_mk (shut_int Try.underlying3 w2) trodAll_mk0))), rfl, bel.frame _, fun h => by cases h⟩

theorem over : Rows.wrapRoundsRow.holds Try.pinned (OpenSpec.ofChange Rows.wrapRoundsSpec) :=
  OpenClaim.holds_of_wide 8 Try.f8 rfl rfl rfl rfl rfl rfl rfl ⟨rfl, rfl, rfl, rfl, rfl⟩ rfl rfl rfl rfl rfl (by kernel_rfl) Try.func8 (by kernel_rfl)
    (of_decide_eq_true (by kernel_rfl)) (by unfold Func.isWrapper; first | (rw [if_pos (by decide +kernel)]; kernel_rfl) | (rw [if_neg (by decide +kernel)]; exact ⟨rfl, rfl⟩))
    (fun os started H enc _ => lifted os started H enc)
end Go.Proofs.Ytobphjkemfakgaa.wrapRounds
namespace Go.Proofs.Ytobphjkemfakgaa
/-- The statement. -/
theorem wrapRounds_holds : Rows.WrapRoundsSaid := wrapRounds.over
#print axioms wrapRounds_holds
end Go.Proofs.Ytobphjkemfakgaa
