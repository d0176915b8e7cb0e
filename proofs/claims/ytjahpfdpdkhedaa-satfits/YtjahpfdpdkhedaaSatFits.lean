/-
  SatFits answers true for every two int32 and every int64: what fits is as it is. No condition.
-/
import Derived.Test.YtjahpfdpdkhedaaRows
import Derived.WalkKit
import Derived.ProofKit
import Derived.OpenShut
import Derived.ShutString
import Derived.Test.YtjahpfdpdkhedaaMul
import Derived.ChangeOld
import Derived.Below
namespace Go.Proofs.Ytjahpfdpdkhedaa.satFits
open Go.ChangeShapes Go.WideShapes Go.ChangeAt Go.RowKit
open Go.ChangeMaps (open_string shut_string)
set_option linter.unusedVariables false

theorem own : ownKnob Try.prog.godebug = none := by kernel_rfl

theorem laidOut : laidOutB Try.prog = true := by kernel_rfl

theorem mul32 (a b : Int) (a1 : -2147483648 ≤ a) (a2 : a ≤ 2147483647) (b1 : -2147483648 ≤ b) (b2 : b ≤ 2147483647) : -4611686018427387904 ≤ a * b ∧ a * b ≤ 4611686018427387904 := by
  have p1 : 0 ≤ (2147483648 - a) * (2147483648 + b) := Int.mul_nonneg (by omega) (by omega)
  have p2 : 0 ≤ (2147483648 + a) * (2147483648 - b) := Int.mul_nonneg (by omega) (by omega)
  have p3 : 0 ≤ (2147483648 - a) * (2147483648 - b) := Int.mul_nonneg (by omega) (by omega)
  have p4 : 0 ≤ (2147483648 + a) * (2147483648 + b) := Int.mul_nonneg (by omega) (by omega)
  simp only [Int.sub_mul, Int.mul_sub, Int.add_mul, Int.mul_add] at p1 p2 p3 p4
  omega
theorem tmod62 (n : Int) : -4611686018427387904 < n.tmod 4611686018427387904 ∧ n.tmod 4611686018427387904 < 4611686018427387904 :=
  ⟨Int.lt_tmod_of_pos n (by decide), Int.tmod_lt_of_pos n (by decide)⟩

theorem fit_sum (k x : Int) (k1 : -4611686018427387904 < k) (k2 : k < 4611686018427387904) (x1 : -2147483648 ≤ x) (x2 : x ≤ 2147483647) (w : World) :
    Calls Try.prog 22 #[.slice (some ⟨w.heap.size, 0, none⟩) 3 3] (w.alloc (.cells #[.int .i64 k, .int .i64 x, .int .i64 (-k)] 2)) fun e w' => e = .returned (.int .i64 x) ∧ Below (w.alloc (.cells #[.int .i64 k, .int .i64 x, .int .i64 (-k)] 2)).heap.size (w.alloc (.cells #[.int .i64 k, .int .i64 x, .int .i64 (-k)] 2)) w' := by
  have hcs : ∀ i, i < 3 → (w.alloc (.cells #[.int .i64 k, .int .i64 x, .int .i64 (-k)] 2)).cell? ⟨w.heap.size, 0 + i, none⟩ = some (.int .i64 ([k, x, -k].getD i 0)) := by
    intro i hi
    match i, hi with
    | 0, _ => simp
    | 1, _ => simp
    | 2, _ => simp
  refine (sumL_any w.heap.size 0 3 3 [k, x, -k] _ (by unfold maxLen; omega) rfl (by intro z hz; simp at hz; rcases hz with rfl | rfl | rfl <;> exact ⟨by omega, by omega⟩) hcs (by simp)).mono ?_
  rintro e w' ⟨rfl, hb⟩
  refine ⟨ret_int ?_, hb⟩
  have e : [k, x, -k].sum = x := by simp; omega
  rw [e, satH_in _ (by omega) (by omega)]

set_option maxHeartbeats 400000 in
theorem walk (a0 : Int) (a1 : Int) (a2 : Int) (w0 : (Lit.int .i32 a0).wf = true) (w1 : (Lit.int .i32 a1).wf = true) (w2 : (Lit.int .i64 a2).wf = true) (w : World) :
    Calls Try.prog 7 #[.int .i32 a0, .int .i32 a1, .int .i64 a2] w fun e w' => e = .returned (.bool true) ∧ Below w.heap.size w w' := by
  obtain ⟨x1, x2⟩ := wf32 w0
  obtain ⟨y1, y2⟩ := wf32 w1
  obtain ⟨p1, p2⟩ := mul32 a0 a1 x1 x2 y1 y2
  obtain ⟨k1, k2⟩ := tmod62 a2
  obtain ⟨n1, n2⟩ := wf64 w2
  clear w0 w1 w2
  have hb := Below.refl w.heap.size w
  go_enter Try.func7, Try.ntmps7
  go_wp2_with (first
    | (go_at_call 9; refine (carry (by assumption) (add_any a0 a1 (by omega) (by omega) (by omega) (by omega) _)).mono ?_; rintro e w1 ⟨rfl, hb⟩; rw [satH_in _ (by omega) (by omega)])
    | (go_at_call 11; refine (carry (by assumption) (sub_any a0 a1 (by omega) (by omega) (by omega) (by omega) _)).mono ?_; rintro e w1 ⟨rfl, hb⟩; rw [satH_in _ (by omega) (by omega)])
    | (go_at_call 13; refine (carry (by assumption) (mul_any a0 a1 (by omega) (by omega) (by omega) (by omega) _)).mono ?_; rintro e w1 ⟨rfl, hb⟩; rw [satH_in _ (by omega) (by omega)])
    | (go_at_call 15; refine (carry (by assumption) (neg_any (a2.tmod 4611686018427387904) (by omega) (by omega) _)).mono ?_; rintro e w1 ⟨rfl, hb⟩; rw [satH_in _ (by omega) (by omega)])
    | (go_at_call 22; refine (carry (Below.alloc (by assumption) (Below.size (by assumption)) _) (fit_sum (a2.tmod 4611686018427387904) a0 k1 k2 x1 x2 _)).mono ?_; rintro e w1 ⟨rfl, hb⟩)
    | (go_at_call 19; refine (carry (by assumption) (wakes_any _)).mono ?_; rintro e w1 ⟨rfl, hb⟩))
  go_ret
  exact ⟨rfl, by assumption⟩

set_option maxRecDepth 100000 in
theorem lifted (os : Os) (started : os.Started) (H : Type) (enc : TypeId × Value → H) :
    ReturnsInHanded {} Try.checked os 7 .any (Rows.satFitsSpec.pre6 enc Try.prog Try.f7 Rows.satFitsRow.domain false) (Rows.satFitsSpec.post enc Try.prog Try.f7 false true false false) := by
  refine returnsInHanded_of_change (C := Try.checked) own started (by kernel_rfl) Try.func7
    (ChangeSpec.witness6 (enc := enc) (C := Try.checked) false ⟨#[], #[.int .i32 0, .int .i32 0, .int .i64 0], []⟩ 8 (by kernel_rfl) (by kernel_rfl) (by kernel_rfl) (by kernel_rfl)) ?_
  intro W base args ds gs before hval0 hW hcnd _
  have hval : ∀ (j : Nat) t v, Try.f7.params[j]? = some t → args[j]? = some v → Value.okWide Try.prog W .any base t v := hval0
  have hW' := hW
  obtain ⟨p, q, hA0, hV, rfl, hfz, hnd⟩ := hW
  have hA : DataW.TrodAll enc Try.prog W 0 (fun _ => true) true Try.f7.params.toList args.toList ds p := hA0
  rw [Try.params7] at hA hval
  obtain ⟨v0, vs0, d0, ds0, p0, q0, hargs, rfl, rfl, h0, r0⟩ := trodAll_cons hA
  obtain ⟨v1, vs1, d1, ds1, p1, q1, rfl, rfl, rfl, h1, r1⟩ := trodAll_cons r0
  obtain ⟨v2, vs2, d2, ds2, p2, q2, rfl, rfl, rfl, h2, r2⟩ := trodAll_cons r1
  obtain ⟨rfl, rfl, rfl⟩ := trodAll_nil r2
  obtain rfl : args = #[v0, v1, v2] := by cases args; simp_all
  obtain ⟨rfl, rfl⟩ := trodVars_none hV
  obtain ⟨a0, rfl, rfl, rfl, w0⟩ := open_int Try.underlying21 (hval 0 21 v0 rfl rfl) h0
  obtain ⟨a1, rfl, rfl, rfl, w1⟩ := open_int Try.underlying21 (hval 1 21 v1 rfl rfl) h1
  obtain ⟨a2, rfl, rfl, rfl, w2⟩ := open_int Try.underlying2 (hval 2 2 v2 rfl rfl) h2
  clear hA0 hval0
  refine (walk a0 a1 a2 w0 w1 w2 W).mono fun e W' ⟨he, bel⟩ => ?_
  subst he
  exact ⟨_, rfl, _, _, _, [], _, [], hW', trodAll_mk1 (shut_bool Try.underlying4 _), (trodAll_cons_mk (shut_int Try.underlying21 w0) (trodAll_cons_mk (shut_int Try.underlying21 w1) (trodAll_cons_mk (shut_int Try.underlying2 w2) trodAll_mk0))), rfl, bel.frame _, fun h => by cases h⟩

theorem over : Rows.satFitsRow.holds Try.pinned (OpenSpec.ofChange Rows.satFitsSpec) :=
  OpenClaim.holds_of_wide 7 Try.f7 rfl rfl rfl rfl rfl rfl rfl ⟨rfl, rfl, rfl, rfl, rfl⟩ rfl rfl rfl rfl rfl (by kernel_rfl) Try.func7 (by kernel_rfl)
    (of_decide_eq_true (by kernel_rfl)) (by unfold Func.isWrapper; first | (rw [if_pos (by decide +kernel)]; kernel_rfl) | (rw [if_neg (by decide +kernel)]; exact ⟨rfl, rfl⟩))
    (fun os started H enc _ => lifted os started H enc)
end Go.Proofs.Ytjahpfdpdkhedaa.satFits
namespace Go.Proofs.Ytjahpfdpdkhedaa
/-- The statement. -/
theorem satFits_holds : Rows.SatFitsSaid := satFits.over
#print axioms satFits_holds
end Go.Proofs.Ytjahpfdpdkhedaa
