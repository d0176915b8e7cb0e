/-
  MuldivWhole: the quotient of whole multiples.
-/
import Derived.Test.YtfjnnceheekojaaRows
import Derived.WalkKit
import Derived.ProofKit
import Derived.OpenShut
import Derived.ShutString
import Derived.Test.YtfjnnceheekojaaWakes
import Derived.WalkSpells
import Derived.WalkLawsBesides
import Derived.Handy
import Derived.ChangeOld
import Derived.Below
namespace Go.Proofs.Ytfjnnceheekojaa.muldivWhole
open Go.ChangeShapes Go.WideShapes Go.ChangeAt Go.RowKit
open Go.ChangeMaps (open_string shut_string)
set_option linter.unusedVariables false

theorem own : ownKnob Try.prog.godebug = none := by kernel_rfl

theorem laidOut : laidOutB Try.prog = true := by kernel_rfl

theorem mul_i32 (a k : Int) (a1 : -2147483648 ≤ a) (a2 : a ≤ 2147483647) (k1 : 0 ≤ k) (k2 : k ≤ 4294967296) : -9223372036854775808 ≤ a * k ∧ a * k ≤ 9223372036854775807 := by
  have p1 : 0 ≤ (2147483648 + a) * k := Int.mul_nonneg (by omega) k1
  have p2 : 0 ≤ (2147483647 - a) * k := Int.mul_nonneg (by omega) k1
  simp only [Int.add_mul, Int.sub_mul] at p1 p2
  omega
theorem mul_i32' (x y : Int) (x1 : -2147483648 ≤ x) (x2 : x ≤ 2147483647) (y1 : -2147483648 ≤ y) (y2 : y ≤ 2147483647) : -4611686018427387904 ≤ x * y ∧ x * y ≤ 4611686018427387904 := by
  have p1 : 0 ≤ (2147483648 - x) * (2147483648 + y) := Int.mul_nonneg (by omega) (by omega)
  have p2 : 0 ≤ (2147483648 + x) * (2147483648 - y) := Int.mul_nonneg (by omega) (by omega)
  have p3 : 0 ≤ (2147483648 - x) * (2147483648 - y) := Int.mul_nonneg (by omega) (by omega)
  have p4 : 0 ≤ (2147483648 + x) * (2147483648 + y) := Int.mul_nonneg (by omega) (by omega)
  simp only [Int.sub_mul, Int.mul_sub, Int.add_mul, Int.mul_add] at p1 p2 p3 p4
  omega
set_option maxHeartbeats 1000000 in
theorem walk (a0 : Int) (a1 : Int) (a2 : Int) (w0 : (Lit.int .i32 a0).wf = true) (w1 : (Lit.int .i32 a1).wf = true) (w2 : (Lit.int .i64 a2).wf = true) (w : World) :
    Calls Try.prog 7 #[.int .i32 a0, .int .i32 a1, .int .i64 a2] w fun e w' => e = .returned (.bool true) ∧ Below w.heap.size w w' := by
  obtain ⟨h1, h2⟩ := wf32 w0
  obtain ⟨h3, h4⟩ := wf32 w1
  obtain ⟨h5, h6⟩ := wf64 w2
  clear w0 w1 w2
  have m1 : -2147483648 < Int.tmod a2 2147483648 ∧ Int.tmod a2 2147483648 < 2147483648 := ⟨Int.lt_tmod_of_pos a2 (by decide), Int.tmod_lt_of_pos a2 (by decide)⟩
  have m2 := mul_i32' a0 a1 h1 h2 h3 h4
  go_enter Try.func7, Try.ntmps7
  go_wp2
  obtain ⟨K, hK⟩ : ∃ K, K = a2.tmod 2147483648 + 2147483648 + 1 := ⟨_, rfl⟩
  have k1 : 2 ≤ K := by omega
  have k2 : K ≤ 4294967296 := by omega
  simp only [← hK]
  clear hK m1
  obtain ⟨p1, p2⟩ := mul_i32 a0 K h1 h2 (by omega) k2
  have e1 : wrap64 (a0 * K) = a0 * K := by unfold wrap64; omega
  have hA : ∀ (k : Int) (w : World), 1 ≤ k → k ≤ 3 → Calls Try.prog 10 #[.int .i64 (a0 * K), .int .i64 a1, .int .i64 K, .int .i64 k] w fun e w' => e = .returned (.int .i64 (a0 * a1)) ∧ Below w.heap.size w w' := by
    intro k w r1 r2
    have := do_any (a0 * K) a1 K k p1 p2 (by omega) (by omega) (by omega) (by omega) w
    rw [mdV_exact (a0 * K) a1 K k (a0 * a1) (by omega) r1 r2 (by rw [Int.mul_comm a0 K, Int.mul_assoc]) (by omega) (by omega)] at this
    exact this
  have hB : ∀ (k : Int) (w : World), 1 ≤ k → k ≤ 3 → Calls Try.prog 10 #[.int .i64 (a0 * K), .int .i64 a1, .int .i64 (-K), .int .i64 k] w fun e w' => e = .returned (.int .i64 (-(a0 * a1))) ∧ Below w.heap.size w w' := by
    intro k w r1 r2
    have := do_any (a0 * K) a1 (-K) k p1 p2 (by omega) (by omega) (by omega) (by omega) w
    rw [mdV_exact (a0 * K) a1 (-K) k (-(a0 * a1)) (by omega) r1 r2 (by rw [Int.neg_mul_neg, Int.mul_comm a0 K, Int.mul_assoc]) (by omega) (by omega)] at this
    exact this
  have HA := mkHid hA; have HB := mkHid hB
  clear hA hB
  go_loopw [9] (fun i wr => ∃ k : Int, 1 ≤ k ∧ k ≤ 4 ∧ i = .int .i64 k ∧ Below w.heap.size w wr) (fun i _ => (4 - intOf i).toNat)
  case atStart => exact ⟨1, by omega, by omega, rfl, Below.refl _ _⟩
  case round =>
    obtain ⟨k, r1, r2, rfl, hb⟩ := hrel
    by_cases hk : k = 4
    · subst hk
      go_wp2_with fail
      refine (carry hb (wakes_any _)).mono ?_
      rintro e w4 ⟨rfl, hb4⟩
      go_wp2
      go_ret
      exact ⟨rfl, hb4⟩
    · go_wp2_with fail
      refine (carry hb (HA.out k _ r1 (by omega))).mono ?_
      rintro e w1 ⟨rfl, hb1⟩
      go_wp2_with fail
      refine (carry hb1 (HB.out k _ r1 (by omega))).mono ?_
      rintro e w2 ⟨rfl, hb2⟩
      go_wp2
      go_roundw
      case rel => exact ⟨k + 1, by omega, by omega, rfl, hb2⟩
      case measure => simp [intOf]; omega

set_option maxRecDepth 100000 in
theorem lifted (os : Os) (started : os.Started) (H : Type) (enc : TypeId × Value → H) :
    ReturnsInHanded {} Try.checked os 7 .any (Rows.muldivWholeSpec.pre6 enc Try.prog Try.f7 Rows.muldivWholeRow.domain false) (Rows.muldivWholeSpec.post enc Try.prog Try.f7 false true false false) := by
  refine returnsInHanded_of_change (C := Try.checked) own started (by kernel_rfl) Try.func7
    (ChangeSpec.witness6 (enc := enc) (C := Try.checked) false ⟨#[], #[.int .i32 0, .int .i32 0, .int .i64 0], []⟩ 8 (by kernel_rfl) (by kernel_rfl) (by kernel_rfl) (by kernel_rfl)) ?_
  intro W base args ds gs before hval0 hW hcnd _
  have hval : ∀ (j : Nat) t v, Try.f7.params[j]? = some t → args[j]? = some v → Value.okWide Try.prog W .any base t v := hval0
  have hW' := hW
  obtain ⟨p, q, hA0, hV, rfl, hfz, hnd⟩ := hW
  have hA : DataW.TrodAll enc Try.prog W 0 (fun _ => true) true Try.f7.params.toList args.toList ds p := hA0
  rw [Try.params7] at hA hval
  obtain ⟨v0, vs0, d0, ds0, p0, q0, hargs, rfl, rfl, h0, r0⟩ := trodAll_cons hA
  obtain ⟨v1, vs1, d1, ds1, p1, q1, rfl, rfl, rfl, h1, r1⟩ := trodAll_cons r0
  obtain ⟨v2, vs2, d2, ds2, p2, q2, rfl, rfl, rfl, h2, r2⟩ := trodAll_cons r1
  obtain ⟨rfl, rfl, rfl⟩ := trodAll_nil r2
  obtain rfl : args = #[v0, v1, v2] := by cases args; simp_all
  obtain ⟨rfl, rfl⟩ := trodVars_none hV
  obtain ⟨a0, rfl, rfl, rfl, w0⟩ := open_int Try.underlying21 (hval 0 21 v0 rfl rfl) h0
  obtain ⟨a1, rfl, rfl, rfl, w1⟩ := open_int Try.underlying21 (hval 1 21 v1 rfl rfl) h1
  obtain ⟨a2, rfl, rfl, rfl, w2⟩ := open_int Try.underlying2 (hval 2 2 v2 rfl rfl) h2
  clear hA0 hval0
  refine (walk a0 a1 a2 w0 w1 w2 W).mono fun e W' ⟨he, bel⟩ => ?_
  subst he
  exact ⟨_, rfl, _, _, _, [], _, [], hW', trodAll_mk1 (shut_bool Try.underlying4 _), (trodAll_cons_mk (shut_int Try.underlying21 w0) (trodAll_cons_mk (shut_int Try.underlying21 w1) (trodAll_cons_mk (shut_int Try.underlying2 w2) trodAll_mk0))), rfl, bel.frame _, fun h => by cases h⟩

theorem over : Rows.muldivWholeRow.holds Try.pinned (OpenSpec.ofChange Rows.muldivWholeSpec) :=
  OpenClaim.holds_of_wide 7 Try.f7 rfl rfl rfl rfl rfl rfl rfl ⟨rfl, rfl, rfl, rfl, rfl⟩ rfl rfl rfl rfl rfl (by kernel_rfl) Try.func7 (by kernel_rfl)
    (of_decide_eq_true (by kernel_rfl)) (by unfold Func.isWrapper; first | (rw [if_pos (by decide +kernel)]; kernel_rfl) | (rw [if_neg (by decide +kernel)]; exact ⟨rfl, rfl⟩))
    (fun os started H enc _ => lifted os started H enc)
end Go.Proofs.Ytfjnnceheekojaa.muldivWhole
namespace Go.Proofs.Ytfjnnceheekojaa
/-- The statement. -/
theorem muldivWhole_holds : Rows.MuldivWholeSaid := muldivWhole.over
#print axioms muldivWhole_holds
end Go.Proofs.Ytfjnnceheekojaa
