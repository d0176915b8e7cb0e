/-
  BaseForgets: what lies as many rows back as there are counts no longer.
-/
import Derived.Test.YtnjghgbaffkafaaRows
import Derived.WalkKit
import Derived.ProofKit
import Derived.OpenShut
import Derived.ShutString
import Derived.ChangeOld
import Derived.Below
import Derived.Deep.Slices
import Derived.Test.YtnjghgbaffkafaaBaH
namespace Go.Proofs.Ytnjghgbaffkafaa.baseForgets
open Go.ChangeShapes Go.WideShapes Go.ChangeAt Go.RowKit
open Go.ChangeMaps (open_string shut_string)
set_option linter.unusedVariables false

theorem own : ownKnob Try.prog.godebug = none := by kernel_rfl
theorem laidOut : laidOutB Try.prog = true := by kernel_rfl

set_option maxRecDepth 100000 in
set_option maxHeartbeats 4000000 in
theorem walk (a0 : Int) (a1 : Int) (a2 : Int) (w : World) (w0 : (Lit.int .i64 a0).wf = true) (w1 : (Lit.int .i64 a1).wf = true) (w2 : (Lit.int .i64 a2).wf = true) : Calls Try.prog 5 #[.int .i64 a0, .int .i64 a1, .int .i64 a2] w fun e w' => e = .returned (.bool true) ∧ Below w.heap.size w w' := by
  have MD := mkHid (mod_any a0 64 (by omega) (by omega) w)
  have hm := modH_in a0 64 (by omega)
  obtain ⟨md, HMD⟩ : ∃ md, Hid (modH a0 64 = md) := ⟨_, mkHid rfl⟩
  rw [HMD.out] at MD hm
  obtain ⟨k, hk⟩ : ∃ k : Nat, 1 + md = (k : Int) := ⟨(1 + md).toNat, by omega⟩
  have k1 : 1 ≤ k := by omega
  have k2 : k ≤ 64 := by omega
  have eT : IntKind.i64.wrap (1 + md) = (k : Int) := by rw [hk, IntKind.wrap_i64]; omega
  have a1l := Int.lt_tmod_of_pos a1 (show (0 : Int) < 1099511627776 by omega)
  have a1h := Int.tmod_lt_of_pos a1 (show (0 : Int) < 1099511627776 by omega)
  have a2l := Int.lt_tmod_of_pos a2 (show (0 : Int) < 1099511627776 by omega)
  have a2h := Int.tmod_lt_of_pos a2 (show (0 : Int) < 1099511627776 by omega)
  obtain ⟨a, ha⟩ : ∃ a, a1.tmod 1099511627776 = a := ⟨_, rfl⟩
  obtain ⟨c, hc⟩ : ∃ c, a2.tmod 1099511627776 = c := ⟨_, rfl⟩
  rw [ha] at a1l a1h
  rw [hc] at a2l a2h
  have e1 : IntKind.i64.wrap a = a := by rw [IntKind.wrap_i64]; omega
  have e2 : IntKind.i64.wrap c = c := by rw [IntKind.wrap_i64]; omega
  have e3 : IntKind.i64.wrap (100 * (k : Int)) = 100 * (k : Int) := by rw [IntKind.wrap_i64]; omega
  have e4 : IntKind.i64.wrap (100 * (k : Int) - 1) = 100 * (k : Int) - 1 := by rw [IntKind.wrap_i64]; omega
  have e5 : IntKind.i64.wrap (a - 5) = a - 5 := by rw [IntKind.wrap_i64]; omega
  have e6 : IntKind.i64.wrap (c - min a c) = c - min a c := by rw [IntKind.wrap_i64]; omega
  clear w0 w1 w2
  go_enter Try.func5, Try.ntmps5
  go_wp2_with fail
  refine MD.out.mono ?_
  rintro e y ⟨rfl, hy⟩
  subst y
  clear MD HMD hm
  go_wp2_with fail
  refine (bs_new (W := 100) (by omega) (by omega) k1 k2 w).mono ?_
  rintro e x1 ⟨rfl, h1, b1⟩
  obtain ⟨b, HB⟩ : ∃ b, Hid (w.heap.size = b) := ⟨_, mkHid rfl⟩
  rw [HB.out] at h1 ⊢
  have A1 := mkHid b1.first
  have C1 := mkHid (bs_add h1 0 a 0 a 0 (by decide) (by unfold dlH; omega) (by unfold quE; rw [if_pos (by omega), addL_one k k1, lm_is (s := (0, a)) (by simp) (by simp)]; simp))
  rw [addL_one k k1] at C1
  clear h1 b1
  go_wp2_with fail
  refine C1.out.mono ?_
  rintro e x2 ⟨rfl, h2, b2⟩
  have A2 := mkHid (A1.out.later (Nat.le_of_eq HB.out) b2)
  have C2 := mkHid (bs_add h2 (100 * k - 1) c (k - 1) c (c - min a c) (by unfold rwN; omega) (by unfold dlH; omega) (by rw [show max 0 0 = (0 : Int) from rfl]; exact quE_two k k1 a c))
  rw [show max 0 0 = (0 : Int) from rfl, addL_two k k1, show max 0 ((k : Int) - 1) = (k : Int) - 1 by omega] at C2
  clear h2 b2 C1
  obtain ⟨l, hl, hlc⟩ := addL_three k k1 a c
  have hl := mkHid hl
  have hlc := mkHid hlc
  have WK := mkHid wakes_any
  by_cases hac : a ≤ c
  · have q2 : c - min a c = c - a := by omega
    have e7 : IntKind.i64.wrap (c - a) = c - a := by rw [IntKind.wrap_i64]; omega
    rw [q2] at C2
    clear q2 e6
    go_wp2_with fail
    refine C2.out.mono ?_
    rintro e x3 ⟨rfl, h3, b3⟩
    have A3 := mkHid (A2.out.later (Nat.le_of_eq HB.out) b3)
    have C3 := mkHid (bs_add h3 (100 * k) c k c 0 (by unfold rwN; omega) (by unfold dlH; omega) (quE_three k k1 a c))
    rw [hl.out, show max ((k : Int) - 1) k = k by omega] at C3
    clear h3 b3 C2
    go_wp2_with fail
    refine C3.out.mono ?_
    rintro e x4 ⟨rfl, h4, b4⟩
    have A4 := mkHid (A3.out.later (Nat.le_of_eq HB.out) b4)
    have C4 := mkHid (bs_least h4)
    rw [lm_three hlc.out] at C4
    have H4 := mkHid h4
    clear h4 b4 C3
    go_wp2_with fail
    refine C4.out.mono ?_
    rintro e x5 ⟨rfl, b5⟩
    have A5 := mkHid (A4.out.same b5)
    have C5 := mkHid (bs_add (H4.out.kept b5 (fun h => h)) 0 (a - 5) 0 (a - 5) 0 (by decide) (by unfold dlH; omega) (quE_back k _ _))
    clear b5 C4 H4
    go_wp2_with fail
    refine C5.out.mono ?_
    rintro e x6 ⟨rfl, h6, b6⟩
    have A6 := mkHid (A5.out.later (Nat.le_of_eq HB.out) b6)
    clear h6 b6 C5
    go_wp2_with fail
    refine (WK.out _).mono ?_
    rintro e x7 ⟨rfl, b7⟩
    have A7 := mkHid (A6.out.same b7)
    go_wp2
    go_ret
    exact ⟨rfl, A7.out.none.belowZ⟩
  · have hca : c < a := by omega
    have q2 : c - min a c = 0 := by omega
    have e7 : IntKind.i64.wrap (0) = 0 := by rw [IntKind.wrap_i64]; omega
    rw [q2] at C2
    clear q2 e6
    go_wp2_with fail
    refine C2.out.mono ?_
    rintro e x3 ⟨rfl, h3, b3⟩
    have A3 := mkHid (A2.out.later (Nat.le_of_eq HB.out) b3)
    have C3 := mkHid (bs_add h3 (100 * k) c k c 0 (by unfold rwN; omega) (by unfold dlH; omega) (quE_three k k1 a c))
    rw [hl.out, show max ((k : Int) - 1) k = k by omega] at C3
    clear h3 b3 C2
    go_wp2_with fail
    refine C3.out.mono ?_
    rintro e x4 ⟨rfl, h4, b4⟩
    have A4 := mkHid (A3.out.later (Nat.le_of_eq HB.out) b4)
    have C4 := mkHid (bs_least h4)
    rw [lm_three hlc.out] at C4
    have H4 := mkHid h4
    clear h4 b4 C3
    go_wp2_with fail
    refine C4.out.mono ?_
    rintro e x5 ⟨rfl, b5⟩
    have A5 := mkHid (A4.out.same b5)
    have C5 := mkHid (bs_add (H4.out.kept b5 (fun h => h)) 0 (a - 5) 0 (a - 5) 0 (by decide) (by unfold dlH; omega) (quE_back k _ _))
    clear b5 C4 H4
    go_wp2_with fail
    refine C5.out.mono ?_
    rintro e x6 ⟨rfl, h6, b6⟩
    have A6 := mkHid (A5.out.later (Nat.le_of_eq HB.out) b6)
    clear h6 b6 C5
    go_wp2_with fail
    refine (WK.out _).mono ?_
    rintro e x7 ⟨rfl, b7⟩
    have A7 := mkHid (A6.out.same b7)
    go_wp2
    go_ret
    exact ⟨rfl, A7.out.none.belowZ⟩

set_option maxRecDepth 100000 in
theorem lifted (os : Os) (started : os.Started) (H : Type) (enc : TypeId × Value → H) :
    ReturnsInHanded {} Try.checked os 5 .any (Rows.baseForgetsSpec.pre6 enc Try.prog Try.f5 Rows.baseForgetsRow.domain false) (Rows.baseForgetsSpec.post enc Try.prog Try.f5 false true false false) := by
  refine returnsInHanded_of_change (C := Try.checked) own started (by kernel_rfl) Try.func5
    (ChangeSpec.witness6 (enc := enc) (C := Try.checked) false ⟨#[], #[.int .i64 0, .int .i64 0, .int .i64 0], []⟩ 8 (by kernel_rfl) (by kernel_rfl) (by kernel_rfl) (by kernel_rfl)) ?_
  intro W base args ds gs before hval0 hW hcnd _
  have hval : ∀ (j : Nat) t v, Try.f5.params[j]? = some t → args[j]? = some v → Value.okWide Try.prog W .any base t v := hval0
  have hW' := hW
  obtain ⟨p, q, hA0, hV, rfl, hfz, hnd⟩ := hW
  have hA : DataW.TrodAll enc Try.prog W 0 (fun _ => true) true Try.f5.params.toList args.toList ds p := hA0
  rw [Try.params5] at hA hval
  obtain ⟨v0, vs0, d0, ds0, p0, q0, hargs, rfl, rfl, h0, r0⟩ := trodAll_cons hA
  obtain ⟨v1, vs1, d1, ds1, p1, q1, rfl, rfl, rfl, h1, r1⟩ := trodAll_cons r0
  obtain ⟨v2, vs2, d2, ds2, p2, q2, rfl, rfl, rfl, h2, r2⟩ := trodAll_cons r1
  obtain ⟨rfl, rfl, rfl⟩ := trodAll_nil r2
  obtain rfl : args = #[v0, v1, v2] := by cases args; simp_all
  obtain ⟨rfl, rfl⟩ := trodVars_none hV
  obtain ⟨a0, rfl, rfl, rfl, w0⟩ := open_int Try.underlying3 (hval 0 3 v0 rfl rfl) h0
  obtain ⟨a1, rfl, rfl, rfl, w1⟩ := open_int Try.underlying2 (hval 1 2 v1 rfl rfl) h1
  obtain ⟨a2, rfl, rfl, rfl, w2⟩ := open_int Try.underlying2 (hval 2 2 v2 rfl rfl) h2
  clear hA0 hval0
  refine (walk a0 a1 a2 W w0 w1 w2).mono fun e W' ⟨he, bel⟩ => ?_
  subst he
  exact ⟨_, rfl, _, _, _, [], _, [], hW', trodAll_mk1 (shut_bool Try.underlying4 _), (trodAll_cons_mk (shut_int Try.underlying3 w0) (trodAll_cons_mk (shut_int Try.underlying2 w1) (trodAll_cons_mk (shut_int Try.underlying2 w2) trodAll_mk0))), rfl, bel.frame _, fun h => by cases h⟩

theorem over : Rows.baseForgetsRow.holds Try.pinned (OpenSpec.ofChange Rows.baseForgetsSpec) :=
  OpenClaim.holds_of_wide 5 Try.f5 rfl rfl rfl rfl rfl rfl rfl ⟨rfl, rfl, rfl, rfl, rfl⟩ rfl rfl rfl rfl rfl (by kernel_rfl) Try.func5 (by kernel_rfl)
    (of_decide_eq_true (by kernel_rfl)) (by unfold Func.isWrapper; first | (rw [if_pos (by decide +kernel)]; kernel_rfl) | (rw [if_neg (by decide +kernel)]; exact ⟨rfl, rfl⟩))
    (fun os started H enc _ => lifted os started H enc)
end Go.Proofs.Ytnjghgbaffkafaa.baseForgets
namespace Go.Proofs.Ytnjghgbaffkafaa
/-- The statement. -/
theorem baseForgets_holds : Rows.BaseForgetsSaid := baseForgets.over
#print axioms baseForgets_holds
end Go.Proofs.Ytnjghgbaffkafaa
