/-
  SatOrder answers true for every three numbers: sums and products are the same turned round, a greater number makes no smaller sum nor product, a difference is a sum with the opposite where that fits, and an absolute value is not below 0 and is the opposite's too. No condition.
-/
import Derived.Test.YtjahpfdpdkhedaaRows
import Derived.WalkKit
import Derived.ProofKit
import Derived.OpenShut
import Derived.ShutString
import Derived.Test.YtjahpfdpdkhedaaMul
import Derived.ChangeOld
import Derived.Below
namespace Go.Proofs.Ytjahpfdpdkhedaa.satOrder
open Go.ChangeShapes Go.WideShapes Go.ChangeAt Go.RowKit
open Go.ChangeMaps (open_string shut_string)
set_option linter.unusedVariables false

theorem own : ownKnob Try.prog.godebug = none := by kernel_rfl

theorem laidOut : laidOutB Try.prog = true := by kernel_rfl

theorem satH_mono {x y : Int} (h : x ≤ y) : satH x ≤ satH y := by unfold satH; repeat' split <;> omega
theorem satA_nonneg (a : Int) : 0 ≤ satA a := by unfold satA satH; repeat' split <;> omega
theorem satA_opp' (a : Int) : satA (satH (-a)) = satA a := by
  unfold satA satH; repeat' split <;> omega

set_option maxHeartbeats 2000000 in
theorem walk (a0 : Int) (a1 : Int) (a2 : Int) (w0 : (Lit.int .i64 a0).wf = true) (w1 : (Lit.int .i64 a1).wf = true) (w2 : (Lit.int .i64 a2).wf = true) (w : World) :
    Calls Try.prog 6 #[.int .i64 a0, .int .i64 a1, .int .i64 a2] w fun e w' => e = .returned (.bool true) ∧ Below w.heap.size w w' := by
  obtain ⟨x1, x2⟩ := wf64 w0
  obtain ⟨y1, y2⟩ := wf64 w1
  obtain ⟨z1, z2⟩ := wf64 w2
  clear w0 w1 w2
  have c1 : satH (a1 + a0) = satH (a0 + a1) := by rw [Int.add_comm]
  have c2 : satH (a1 * a0) = satH (a0 * a1) := by rw [Int.mul_comm]
  have c3 := satA_opp' a0
  have n0 := satA_nonneg a0
  obtain ⟨s1, s2⟩ := satH_bd (-a0)
  obtain ⟨s3, s4⟩ := satH_bd (-a1)
  have c4 : ¬ a1 = -9223372036854775808 → satH (a0 + satH (-a1)) = satH (a0 - a1) := fun h => by rw [satH_in (-a1) (by omega) (by omega)]; rfl
  have hb := Below.refl w.heap.size w
  have m1 : a0 ≤ a2 → satH (a0 + a1) ≤ satH (a2 + a1) := fun h => satH_mono (by omega)
  have m2 : a0 ≤ a2 → 0 ≤ a1 → satH (a0 * a1) ≤ satH (a2 * a1) := fun h k => satH_mono (Int.mul_le_mul_of_nonneg_right h k)
  by_cases hm : a0 ≤ a2 <;> by_cases hp : 0 ≤ a1
  · have m1 := m1 hm
    have m2 := m2 hm hp
    go_enter Try.func6, Try.ntmps6
    go_wp2_with (first
      | (go_at_call 9; refine (carry (by assumption) (add_any _ _ (by omega) (by omega) (by omega) (by omega) _)).mono ?_; rintro e w1 ⟨rfl, hb⟩)
      | (go_at_call 11; refine (carry (by assumption) (sub_any _ _ (by omega) (by omega) (by omega) (by omega) _)).mono ?_; rintro e w1 ⟨rfl, hb⟩)
      | (go_at_call 13; refine (carry (by assumption) (mul_any _ _ (by omega) (by omega) (by omega) (by omega) _)).mono ?_; rintro e w1 ⟨rfl, hb⟩)
      | (go_at_call 15; refine (carry (by assumption) (neg_any _ (by omega) (by omega) _)).mono ?_; rintro e w1 ⟨rfl, hb⟩)
      | (go_at_call 17; refine (carry (by assumption) (abs_any _ (by omega) (by omega) _)).mono ?_; rintro e w1 ⟨rfl, hb⟩)
      | (go_at_call 19; refine (carry (by assumption) (wakes_any _)).mono ?_; rintro e w1 ⟨rfl, hb⟩))
    go_ret
    exact ⟨rfl, by assumption⟩
  · have m1 := m1 hm
    clear m2
    go_enter Try.func6, Try.ntmps6
    go_wp2_with (first
      | (go_at_call 9; refine (carry (by assumption) (add_any _ _ (by omega) (by omega) (by omega) (by omega) _)).mono ?_; rintro e w1 ⟨rfl, hb⟩)
      | (go_at_call 11; refine (carry (by assumption) (sub_any _ _ (by omega) (by omega) (by omega) (by omega) _)).mono ?_; rintro e w1 ⟨rfl, hb⟩)
      | (go_at_call 13; refine (carry (by assumption) (mul_any _ _ (by omega) (by omega) (by omega) (by omega) _)).mono ?_; rintro e w1 ⟨rfl, hb⟩)
      | (go_at_call 15; refine (carry (by assumption) (neg_any _ (by omega) (by omega) _)).mono ?_; rintro e w1 ⟨rfl, hb⟩)
      | (go_at_call 17; refine (carry (by assumption) (abs_any _ (by omega) (by omega) _)).mono ?_; rintro e w1 ⟨rfl, hb⟩)
      | (go_at_call 19; refine (carry (by assumption) (wakes_any _)).mono ?_; rintro e w1 ⟨rfl, hb⟩))
    all_goals (go_ret; exact ⟨rfl, by assumption⟩)
  · clear m1 m2
    go_enter Try.func6, Try.ntmps6
    go_wp2_with (first
      | (go_at_call 9; refine (carry (by assumption) (add_any _ _ (by omega) (by omega) (by omega) (by omega) _)).mono ?_; rintro e w1 ⟨rfl, hb⟩)
      | (go_at_call 11; refine (carry (by assumption) (sub_any _ _ (by omega) (by omega) (by omega) (by omega) _)).mono ?_; rintro e w1 ⟨rfl, hb⟩)
      | (go_at_call 13; refine (carry (by assumption) (mul_any _ _ (by omega) (by omega) (by omega) (by omega) _)).mono ?_; rintro e w1 ⟨rfl, hb⟩)
      | (go_at_call 15; refine (carry (by assumption) (neg_any _ (by omega) (by omega) _)).mono ?_; rintro e w1 ⟨rfl, hb⟩)
      | (go_at_call 17; refine (carry (by assumption) (abs_any _ (by omega) (by omega) _)).mono ?_; rintro e w1 ⟨rfl, hb⟩)
      | (go_at_call 19; refine (carry (by assumption) (wakes_any _)).mono ?_; rintro e w1 ⟨rfl, hb⟩))
    go_ret
    exact ⟨rfl, by assumption⟩
  · clear m1 m2
    go_enter Try.func6, Try.ntmps6
    go_wp2_with (first
      | (go_at_call 9; refine (carry (by assumption) (add_any _ _ (by omega) (by omega) (by omega) (by omega) _)).mono ?_; rintro e w1 ⟨rfl, hb⟩)
      | (go_at_call 11; refine (carry (by assumption) (sub_any _ _ (by omega) (by omega) (by omega) (by omega) _)).mono ?_; rintro e w1 ⟨rfl, hb⟩)
      | (go_at_call 13; refine (carry (by assumption) (mul_any _ _ (by omega) (by omega) (by omega) (by omega) _)).mono ?_; rintro e w1 ⟨rfl, hb⟩)
      | (go_at_call 15; refine (carry (by assumption) (neg_any _ (by omega) (by omega) _)).mono ?_; rintro e w1 ⟨rfl, hb⟩)
      | (go_at_call 17; refine (carry (by assumption) (abs_any _ (by omega) (by omega) _)).mono ?_; rintro e w1 ⟨rfl, hb⟩)
      | (go_at_call 19; refine (carry (by assumption) (wakes_any _)).mono ?_; rintro e w1 ⟨rfl, hb⟩))
    all_goals (go_ret; exact ⟨rfl, by assumption⟩)

set_option maxRecDepth 100000 in
theorem lifted (os : Os) (started : os.Started) (H : Type) (enc : TypeId × Value → H) :
    ReturnsInHanded {} Try.checked os 6 .any (Rows.satOrderSpec.pre6 enc Try.prog Try.f6 Rows.satOrderRow.domain false) (Rows.satOrderSpec.post enc Try.prog Try.f6 false true false false) := by
  refine returnsInHanded_of_change (C := Try.checked) own started (by kernel_rfl) Try.func6
    (ChangeSpec.witness6 (enc := enc) (C := Try.checked) false ⟨#[], #[.int .i64 0, .int .i64 0, .int .i64 0], []⟩ 8 (by kernel_rfl) (by kernel_rfl) (by kernel_rfl) (by kernel_rfl)) ?_
  intro W base args ds gs before hval0 hW hcnd _
  have hval : ∀ (j : Nat) t v, Try.f6.params[j]? = some t → args[j]? = some v → Value.okWide Try.prog W .any base t v := hval0
  have hW' := hW
  obtain ⟨p, q, hA0, hV, rfl, hfz, hnd⟩ := hW
  have hA : DataW.TrodAll enc Try.prog W 0 (fun _ => true) true Try.f6.params.toList args.toList ds p := hA0
  rw [Try.params6] at hA hval
  obtain ⟨v0, vs0, d0, ds0, p0, q0, hargs, rfl, rfl, h0, r0⟩ := trodAll_cons hA
  obtain ⟨v1, vs1, d1, ds1, p1, q1, rfl, rfl, rfl, h1, r1⟩ := trodAll_cons r0
  obtain ⟨v2, vs2, d2, ds2, p2, q2, rfl, rfl, rfl, h2, r2⟩ := trodAll_cons r1
  obtain ⟨rfl, rfl, rfl⟩ := trodAll_nil r2
  obtain rfl : args = #[v0, v1, v2] := by cases args; simp_all
  obtain ⟨rfl, rfl⟩ := trodVars_none hV
  obtain ⟨a0, rfl, rfl, rfl, w0⟩ := open_int Try.underlying2 (hval 0 2 v0 rfl rfl) h0
  obtain ⟨a1, rfl, rfl, rfl, w1⟩ := open_int Try.underlying2 (hval 1 2 v1 rfl rfl) h1
  obtain ⟨a2, rfl, rfl, rfl, w2⟩ := open_int Try.underlying2 (hval 2 2 v2 rfl rfl) h2
  clear hA0 hval0
  refine (walk a0 a1 a2 w0 w1 w2 W).mono fun e W' ⟨he, bel⟩ => ?_
  subst he
  exact ⟨_, rfl, _, _, _, [], _, [], hW', trodAll_mk1 (shut_bool Try.underlying4 _), (trodAll_cons_mk (shut_int Try.underlying2 w0) (trodAll_cons_mk (shut_int Try.underlying2 w1) (trodAll_cons_mk (shut_int Try.underlying2 w2) trodAll_mk0))), rfl, bel.frame _, fun h => by cases h⟩

theorem over : Rows.satOrderRow.holds Try.pinned (OpenSpec.ofChange Rows.satOrderSpec) :=
  OpenClaim.holds_of_wide 6 Try.f6 rfl rfl rfl rfl rfl rfl rfl ⟨rfl, rfl, rfl, rfl, rfl⟩ rfl rfl rfl rfl rfl (by kernel_rfl) Try.func6 (by kernel_rfl)
    (of_decide_eq_true (by kernel_rfl)) (by unfold Func.isWrapper; first | (rw [if_pos (by decide +kernel)]; kernel_rfl) | (rw [if_neg (by decide +kernel)]; exact ⟨rfl, rfl⟩))
    (fun os started H enc _ => lifted os started H enc)
end Go.Proofs.Ytjahpfdpdkhedaa.satOrder
namespace Go.Proofs.Ytjahpfdpdkhedaa
/-- The statement. -/
theorem satOrder_holds : Rows.SatOrderSaid := satOrder.over
#print axioms satOrder_holds
end Go.Proofs.Ytjahpfdpdkhedaa
