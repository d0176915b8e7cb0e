/-
  WrapOrder: of two numbers that differ, one at most is behind the other one; what is moved on by as much stays in order.
-/
import Derived.Test.YtobphjkemfakgaaRows
import Derived.WalkKit
import Derived.ProofKit
import Derived.OpenShut
import Derived.ShutString
import Derived.Test.YtobphjkemfakgaaWrR
import Derived.ChangeOld
import Derived.Below
namespace Go.Proofs.Ytobphjkemfakgaa.wrapOrder
open Go.ChangeShapes Go.WideShapes Go.ChangeAt Go.RowKit
open Go.ChangeMaps (open_string shut_string)
set_option linter.unusedVariables false

theorem own : ownKnob Try.prog.godebug = none := by kernel_rfl

theorem laidOut : laidOutB Try.prog = true := by kernel_rfl

theorem hf16 : hf 16 = 32768 := by decide
theorem behind (x y : Int) : aV 32768 x y = true → aV 32768 y x = false := by
  unfold aV
  rw [decide_eq_true_iff, decide_eq_false_iff_not]
  omega
theorem behind_own (x : Int) : aV 32768 x x = false := by
  unfold aV
  rw [decide_eq_false_iff_not]
  omega
theorem behind_on (x y n : Int) : aV 32768 ((x + n) % 65536) ((y + n) % 65536) = aV 32768 x y := by
  unfold aV
  rw [decide_eq_decide]
  omega
theorem cut16 (n : Int) (w : World) : Calls Try.prog 9 #[.int .i64 n, .int .i64 16] w fun e w' => e = .returned (.int .i64 (n % 65536)) ∧ w' = w := by
  have C := crop_any n 16 (by omega) (by omega) w
  rw [hf16] at C
  exact C
theorem after16 (a b : Int) (a1 : 0 ≤ a) (a2 : a < 65536) (b1 : 0 ≤ b) (b2 : b < 65536) (w : World) :
    Calls Try.prog 14 #[.int .i64 a, .int .i64 b, .int .i64 16] w fun e w' => e = .returned (.bool (aV 32768 a b)) ∧ w' = w := by
  have C := after_any a b 16 (by omega) (by omega) a1 (by rw [hf16]; omega) b1 (by rw [hf16]; omega) w
  rw [hf16] at C
  exact C

set_option maxHeartbeats 1000000 in
theorem walk (a0 : Int) (a1 : Int) (a2 : Int) (w0 : (Lit.int .i64 a0).wf = true) (w1 : (Lit.int .i64 a1).wf = true) (w2 : (Lit.int .i64 a2).wf = true) (w : World) :
    Calls Try.prog 6 #[.int .i64 a0, .int .i64 a1, .int .i64 a2] w fun e w' => e = .returned (.bool true) ∧ Below w.heap.size w w' := by
  clear w0 w1 w2
  have C0 := mkHid wakes_any
  have X := mkHid (cut16 a0)
  have Y := mkHid (cut16 a1)
  have N := mkHid (cut16 a2)
  have x0 : 0 ≤ a0 % 65536 ∧ a0 % 65536 < 65536 := by omega
  have y0 : 0 ≤ a1 % 65536 ∧ a1 % 65536 < 65536 := by omega
  have n0 : 0 ≤ a2 % 65536 ∧ a2 % 65536 < 65536 := by omega
  generalize a0 % 65536 = x at *
  generalize a1 % 65536 = y at *
  generalize a2 % 65536 = n at *
  have U := mkHid (cut16 (x + n))
  have V := mkHid (cut16 (y + n))
  have A1 := mkHid (after16 x y x0.1 x0.2 y0.1 y0.2)
  have A2 := mkHid (after16 y x y0.1 y0.2 x0.1 x0.2)
  have A3 := mkHid (after16 x x x0.1 x0.2 x0.1 x0.2)
  have A4 := mkHid (after16 ((x + n) % 65536) ((y + n) % 65536) (by omega) (by omega) (by omega) (by omega))
  rw [behind_on] at A4
  rw [behind_own] at A3
  have k := behind x y
  generalize (x + n) % 65536 = u at *
  generalize (y + n) % 65536 = v at *
  generalize aV 32768 x y = p at *
  cases p
  · clear k
    go_enter Try.func6, Try.ntmps6
    go_wp2_with fail
    refine (X.out _).mono ?_
    rintro e w1 ⟨rfl, rfl⟩
    go_wp2_with fail
    refine (Y.out _).mono ?_
    rintro e w1 ⟨rfl, rfl⟩
    go_wp2_with fail
    refine (N.out _).mono ?_
    rintro e w1 ⟨rfl, rfl⟩
    go_wp2_with fail
    refine (U.out _).mono ?_
    rintro e w1 ⟨rfl, rfl⟩
    go_wp2_with fail
    refine (V.out _).mono ?_
    rintro e w1 ⟨rfl, rfl⟩
    go_wp2_with fail
    refine (A1.out _).mono ?_
    rintro e w1 ⟨rfl, rfl⟩
    go_wp2_with fail
    refine (A3.out _).mono ?_
    rintro e w1 ⟨rfl, rfl⟩
    go_wp2_with fail
    refine (A4.out _).mono ?_
    rintro e w1 ⟨rfl, rfl⟩
    go_wp2_with fail
    refine (A1.out _).mono ?_
    rintro e w1 ⟨rfl, rfl⟩
    go_wp2_with fail
    refine (C0.out _).mono ?_
    rintro e w1 ⟨rfl, rfl⟩
    go_wp2
    go_ret
    exact ⟨rfl, Below.refl _ _⟩
  · rw [k rfl] at A2
    clear k
    go_enter Try.func6, Try.ntmps6
    go_wp2_with fail
    refine (X.out _).mono ?_
    rintro e w1 ⟨rfl, rfl⟩
    go_wp2_with fail
    refine (Y.out _).mono ?_
    rintro e w1 ⟨rfl, rfl⟩
    go_wp2_with fail
    refine (N.out _).mono ?_
    rintro e w1 ⟨rfl, rfl⟩
    go_wp2_with fail
    refine (U.out _).mono ?_
    rintro e w1 ⟨rfl, rfl⟩
    go_wp2_with fail
    refine (V.out _).mono ?_
    rintro e w1 ⟨rfl, rfl⟩
    go_wp2_with fail
    refine (A1.out _).mono ?_
    rintro e w1 ⟨rfl, rfl⟩
    go_wp2_with fail
    refine (A2.out _).mono ?_
    rintro e w1 ⟨rfl, rfl⟩
    go_wp2_with fail
    refine (A3.out _).mono ?_
    rintro e w1 ⟨rfl, rfl⟩
    go_wp2_with fail
    refine (A4.out _).mono ?_
    rintro e w1 ⟨rfl, rfl⟩
    go_wp2_with fail
    refine (A1.out _).mono ?_
    rintro e w1 ⟨rfl, rfl⟩
    go_wp2_with fail
    refine (C0.out _).mono ?_
    rintro e w1 ⟨rfl, rfl⟩
    go_wp2
    go_ret
    exact ⟨rfl, Below.refl _ _⟩

set_option maxRecDepth 100000 in
theorem lifted (os : Os) (started : os.Started) (H : Type) (enc : TypeId × Value → H) :
    ReturnsInHanded {} Try.checked os 6 .any (Rows.wrapOrderSpec.pre6 enc Try.prog Try.f6 Rows.wrapOrderRow.domain false) (Rows.wrapOrderSpec.post enc Try.prog Try.f6 false true false false) := by
  refine returnsInHanded_of_change (C := Try.checked) own started (by kernel_rfl) Try.func6
    (ChangeSpec.witness6 (enc := enc) (C := Try.checked) false ⟨#[], #[.int .i64 0, .int .i64 0, .int .i64 0], []⟩ 8 (by kernel_rfl) (by kernel_rfl) (by kernel_rfl) (by kernel_rfl)) ?_
  intro W base args ds gs before hval0 hW hcnd _
  have hval : ∀ (j : Nat) t v, Try.f6.params[j]? = some t → args[j]? = some v → Value.okWide Try.prog W .any base t v := hval0
  have hW' := hW
  obtain ⟨p, q, hA0, hV, rfl, hfz, hnd⟩ := hW
  have hA : DataW.TrodAll enc Try.prog W 0 (fun _ => true) true Try.f6.params.toList args.toList ds p := hA0
  rw [Try.params6] at hA hval
  obtain ⟨v0, vs0, d0, ds0, p0, q0, hargs, rfl, rfl, h0, r0⟩ := trodAll_cons hA
  obtain ⟨v1, vs1, d1, ds1, p1, q1, rfl, rfl, rfl, h1, r1⟩ := trodAll_cons r0
  obtain ⟨v2, vs2, d2, ds2, p2, q2, rfl, rfl, rfl, h2, r2⟩ := trodAll_cons r1
  obtain ⟨rfl, rfl, rfl⟩ := trodAll_nil r2
  obtain rfl : args = #[v0, v1, v2] := by cases args; simp_all
  obtain ⟨rfl, rfl⟩ := trodVars_none hV
  obtain ⟨a0, rfl, rfl, rfl, w0⟩ := open_int Try.underlying3 (hval 0 3 v0 rfl rfl) h0
  obtain ⟨a1, rfl, rfl, rfl, w1⟩ := open_int Try.underlying3 (hval 1 3 v1 rfl rfl) h1
  obtain ⟨a2, rfl, rfl, rfl, w2⟩ := open_int Try.underlying3 (hval 2 3 v2 rfl rfl) h2
  clear hA0 hval0
  refine (walk a0 a1 a2 w0 w1 w2 W).mono fun e W' ⟨he, bel⟩ => ?_
  subst he
  exact ⟨_, rfl, _, _, _, [], _, [], hW', trodAll_mk1 (shut_bool Try.underlying4 _), (trodAll_cons_mk (shut_int Try.underlying3 w0) (trodAll_cons_mk (shut_int Try.underlying3 w1) (trodAll_cons_mk (shut_int Try.underlying3 w2) trodAll_mk0))), rfl, bel.frame _, fun h => by cases h⟩

theorem over : Rows.wrapOrderRow.holds Try.pinned (OpenSpec.ofChange Rows.wrapOrderSpec) :=
  OpenClaim.holds_of_wide 6 Try.f6 rfl rfl rfl rfl rfl rfl rfl ⟨rfl, rfl, rfl, rfl, rfl⟩ rfl rfl rfl rfl rfl (by kernel_rfl) Try.func6 (by kernel_rfl)
    (of_decide_eq_true (by kernel_rfl)) (by unfold Func.isWrapper; first | (rw [if_pos (by decide +kernel)]; kernel_rfl) | (rw [if_neg (by decide +kernel)]; exact ⟨rfl, rfl⟩))
    (fun os started H enc _ => lifted os started H enc)
end Go.Proofs.Ytobphjkemfakgaa.wrapOrder
namespace Go.Proofs.Ytobphjkemfakgaa
/-- The statement. -/
theorem wrapOrder_holds : Rows.WrapOrderSaid := wrapOrder.over
#print axioms wrapOrder_holds
end Go.Proofs.Ytobphjkemfakgaa
