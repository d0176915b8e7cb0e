/-
  MuldivBack: a product divided by one of its factors; the factors change places.
-/
import Derived.Test.YtfjnnceheekojaaRows
import Derived.WalkKit
import Derived.ProofKit
import Derived.OpenShut
import Derived.ShutString
import Derived.Test.YtfjnnceheekojaaWakes
import Derived.WalkSpells
import Derived.WalkLawsBesides
import Derived.Handy
import Derived.ChangeOld
import Derived.Below
namespace Go.Proofs.Ytfjnnceheekojaa.muldivBack
open Go.ChangeShapes Go.WideShapes Go.ChangeAt Go.RowKit
open Go.ChangeMaps (open_string shut_string)
set_option linter.unusedVariables false

theorem own : ownKnob Try.prog.godebug = none := by kernel_rfl

theorem laidOut : laidOutB Try.prog = true := by kernel_rfl

set_option maxHeartbeats 1000000 in
theorem walk (a0 : Int) (a1 : Int) (a2 : Int) (w0 : (Lit.int .i64 a0).wf = true) (w1 : (Lit.int .i64 a1).wf = true) (w2 : (Lit.int .i64 a2).wf = true) (w : World) :
    Calls Try.prog 6 #[.int .i64 a0, .int .i64 a1, .int .i64 a2] w fun e w' => e = .returned (.bool true) ∧ Below w.heap.size w w' := by
  obtain ⟨h1, h2⟩ := wf64 w0
  obtain ⟨h3, h4⟩ := wf64 w1
  obtain ⟨h5, h6⟩ := wf64 w2
  clear w0 w1 w2
  have hB : ∀ (k : Int) (w : World), a1 ≠ 0 → 1 ≤ k → k ≤ 3 → Calls Try.prog 10 #[.int .i64 a0, .int .i64 a1, .int .i64 a1, .int .i64 k] w fun e w' => e = .returned (.int .i64 a0) ∧ Below w.heap.size w w' := by
    intro k w hn k1 k2
    have := do_any a0 a1 a1 k h1 h2 h3 h4 h3 h4 w
    rw [mdV_exact a0 a1 a1 k a0 hn k1 k2 (Int.mul_comm _ _) h1 h2] at this
    exact this
  have hD : ∀ (k : Int) (w : World), Calls Try.prog 10 #[.int .i64 a0, .int .i64 a1, .int .i64 a2, .int .i64 k] w fun e w' => e = .returned (.int .i64 (mdV a0 a1 a2 k)) ∧ Below w.heap.size w w' := fun k w => do_any a0 a1 a2 k h1 h2 h3 h4 h5 h6 w
  have hE : ∀ (k : Int) (w : World), Calls Try.prog 10 #[.int .i64 a1, .int .i64 a0, .int .i64 a2, .int .i64 k] w fun e w' => e = .returned (.int .i64 (mdV a0 a1 a2 k)) ∧ Below w.heap.size w w' := by
    intro k w
    rw [mdV_comm a0 a1]
    exact do_any a1 a0 a2 k h3 h4 h1 h2 h5 h6 w
  have hZ : ∀ w : World, Calls Try.prog 10 #[.int .i64 a0, .int .i64 a1, .int .i64 0, .int .i64 1] w fun e w' => e = .returned (.int .i64 0) ∧ Below w.heap.size w w' := by
    intro w
    have := do_any a0 a1 0 1 h1 h2 h3 h4 (by decide) (by decide) w
    rw [(mdV_zero a0 a1 1).1] at this
    exact this
  have hF : ∀ w : World, Calls Try.prog 11 #[.int .i64 a0, .int .i64 a1, .int .i64 0, .int .i64 3] w fun e w' => e = .returned (.bool false) ∧ Below w.heap.size w w' := by
    intro w
    have := fits_any a0 a1 0 3 h1 h2 h3 h4 (by decide) (by decide) w
    rw [(mdV_zero a0 a1 3).2] at this
    exact this
  have HB := mkHid hB; have HD := mkHid hD; have HE := mkHid hE; have HZ := mkHid hZ; have HF := mkHid hF
  clear hB hD hE hZ hF
  go_enter Try.func6, Try.ntmps6
  go_wp2
  go_loopw [7] (fun i wr => ∃ k : Int, 1 ≤ k ∧ k ≤ 4 ∧ i = .int .i64 k ∧ Below w.heap.size w wr) (fun i _ => (4 - intOf i).toNat)
  case atStart => exact ⟨1, by omega, by omega, rfl, Below.refl _ _⟩
  case round =>
    obtain ⟨k, k1, k2, rfl, hb⟩ := hrel
    by_cases hk : k = 4
    · subst hk
      go_wp2_with fail
      refine (carry hb (HZ.out _)).mono ?_
      rintro e w1 ⟨rfl, hb1⟩
      go_wp2_with fail
      refine (carry hb1 (HF.out _)).mono ?_
      rintro e w2 ⟨rfl, hb2⟩
      go_wp2_with fail
      refine (carry hb2 (wakes_any _)).mono ?_
      rintro e w4 ⟨rfl, hb4⟩
      go_wp2
      go_ret
      exact ⟨rfl, hb4⟩
    · by_cases hn : a1 = 0
      · subst hn
        go_wp2_with fail
        refine (carry hb (HD.out k _)).mono ?_
        rintro e w1 ⟨rfl, hb1⟩
        go_wp2_with fail
        refine (carry hb1 (HE.out k _)).mono ?_
        rintro e w2 ⟨rfl, hb2⟩
        go_wp2
        go_roundw
        case rel => exact ⟨k + 1, by omega, by omega, rfl, hb2⟩
        case measure => simp [intOf]; omega
      · go_wp2_with fail
        refine (carry hb (HB.out k _ hn (by omega) (by omega))).mono ?_
        rintro e w0 ⟨rfl, hb0⟩
        go_wp2_with fail
        refine (carry hb0 (HD.out k _)).mono ?_
        rintro e w1 ⟨rfl, hb1⟩
        go_wp2_with fail
        refine (carry hb1 (HE.out k _)).mono ?_
        rintro e w2 ⟨rfl, hb2⟩
        go_wp2
        go_roundw
        case rel => exact ⟨k + 1, by omega, by omega, rfl, hb2⟩
        case measure => simp [intOf]; omega

set_option maxRecDepth 100000 in
theorem lifted (os : Os) (started : os.Started) (H : Type) (enc : TypeId × Value → H) :
    ReturnsInHanded {} Try.checked os 6 .any (Rows.muldivBackSpec.pre6 enc Try.prog Try.f6 Rows.muldivBackRow.domain false) (Rows.muldivBackSpec.post enc Try.prog Try.f6 false true false false) := by
  refine returnsInHanded_of_change (C := Try.checked) own started (by kernel_rfl) Try.func6
    (ChangeSpec.witness6 (enc := enc) (C := Try.checked) false ⟨#[], #[.int .i64 0, .int .i64 0, .int .i64 0], []⟩ 8 (by kernel_rfl) (by kernel_rfl) (by kernel_rfl) (by kernel_rfl)) ?_
  intro W base args ds gs before hval0 hW hcnd _
  have hval : ∀ (j : Nat) t v, Try.f6.params[j]? = some t → args[j]? = some v → Value.okWide Try.prog W .any base t v := hval0
  have hW' := hW
  obtain ⟨p, q, hA0, hV, rfl, hfz, hnd⟩ := hW
  have hA : DataW.TrodAll enc Try.prog W 0 (fun _ => true) true Try.f6.params.toList args.toList ds p := hA0
  rw [Try.params6] at hA hval
  obtain ⟨v0, vs0, d0, ds0, p0, q0, hargs, rfl, rfl, h0, r0⟩ := trodAll_cons hA
  obtain ⟨v1, vs1, d1, ds1, p1, q1, rfl, rfl, rfl, h1, r1⟩ := trodAll_cons r0
  obtain ⟨v2, vs2, d2, ds2, p2, q2, rfl, rfl, rfl, h2, r2⟩ := trodAll_cons r1
  obtain ⟨rfl, rfl, rfl⟩ := trodAll_nil r2
  obtain rfl : args = #[v0, v1, v2] := by cases args; simp_all
  obtain ⟨rfl, rfl⟩ := trodVars_none hV
  obtain ⟨a0, rfl, rfl, rfl, w0⟩ := open_int Try.underlying2 (hval 0 2 v0 rfl rfl) h0
  obtain ⟨a1, rfl, rfl, rfl, w1⟩ := open_int Try.underlying2 (hval 1 2 v1 rfl rfl) h1
  obtain ⟨a2, rfl, rfl, rfl, w2⟩ := open_int Try.underlying2 (hval 2 2 v2 rfl rfl) h2
  clear hA0 hval0
  refine (walk a0 a1 a2 w0 w1 w2 W).mono fun e W' ⟨he, bel⟩ => ?_
  subst he
  exact ⟨_, rfl, _, _, _, [], _, [], hW', trodAll_mk1 (shut_bool Try.underlying4 _), (trodAll_cons_mk (shut_int Try.underlying2 w0) (trodAll_cons_mk (shut_int Try.underlying2 w1) (trodAll_cons_mk (shut_int Try.underlying2 w2) trodAll_mk0))), rfl, bel.frame _, fun h => by cases h⟩

theorem over : Rows.muldivBackRow.holds Try.pinned (OpenSpec.ofChange Rows.muldivBackSpec) :=
  OpenClaim.holds_of_wide 6 Try.f6 rfl rfl rfl rfl rfl rfl rfl ⟨rfl, rfl, rfl, rfl, rfl⟩ rfl rfl rfl rfl rfl (by kernel_rfl) Try.func6 (by kernel_rfl)
    (of_decide_eq_true (by kernel_rfl)) (by unfold Func.isWrapper; first | (rw [if_pos (by decide +kernel)]; kernel_rfl) | (rw [if_neg (by decide +kernel)]; exact ⟨rfl, rfl⟩))
    (fun os started H enc _ => lifted os started H enc)
end Go.Proofs.Ytfjnnceheekojaa.muldivBack
namespace Go.Proofs.Ytfjnnceheekojaa
/-- The statement. -/
theorem muldivBack_holds : Rows.MuldivBackSaid := muldivBack.over
#print axioms muldivBack_holds
end Go.Proofs.Ytfjnnceheekojaa
