/-
  CcfbDecodes: the report of any body, or the first thing that is wrong.
-/
import Derived.Test.YtohembamfjbclaaRows
import Derived.WalkKit
import Derived.ProofKit
import Derived.OpenShut
import Derived.ShutString
import Derived.ChangeOld
import Derived.Below
import Derived.Deep.Slices
import Derived.Test.YtohembamfjbclaaCcS
import Derived.Test.YtohembamfjbclaaCcY
namespace Go.Proofs.Ytohembamfjbclaa.ccfbDecodes
open Go.ChangeShapes Go.WideShapes Go.ChangeAt Go.RowKit
open Go.ChangeMaps (open_string shut_string)
set_option linter.unusedVariables false

theorem own : ownKnob Try.prog.godebug = none := by kernel_rfl
theorem laidOut : laidOutB Try.prog = true := by kernel_rfl

theorem rdec_at (s : ByteArray) (hs : s.size ≤ 1000000) {sd st E : Int} {l : List Bk} (h1 : decSd s = sd) (h2 : decL s = l) (h3 : decSt s = st) (h4 : decE s = E) (w : World) :
    Calls Try.prog 17 #[.string s] w (fun e w' => (∃ a c, e = .returned (.tuple #[rv sd a l.length c st, .int .i64 E]) ∧ BA w'.heap.size w' a l) ∧ Below w.heap.size w w') := by
  subst h1 h2 h3 h4; exact rdec_any s hs w
set_option maxRecDepth 100000 in
set_option maxHeartbeats 1000000 in
theorem walk (a0 : ByteArray) (w : World) (w0 : a0.size ≤ maxLen) : Calls Try.prog 4 #[.string a0] w fun e w' => e = .returned (.bool true) ∧ Below w.heap.size w w' := by
  by_cases h1 : (70000 : Int) < a0.size
  · have h2 : (a0.size : Int) ≤ 9223372036854775807 := by unfold maxLen at w0; omega
    clear w0
    go_enter Try.func4, Try.ntmps4
    go_wp2_with fail
    refine (wakes_any _).mono ?_
    rintro e w1 ⟨rfl, p1⟩
    have P1 := mkHid p1
    clear p1
    go_wp2
    go_ret
    exact ⟨rfl, P1.out⟩
  · have h2 : (a0.size : Int) ≤ 70000 := by omega
    obtain ⟨sd, HSD⟩ : ∃ x, Hid (decSd a0 = x) := ⟨_, rfl⟩
    obtain ⟨l, HL⟩ : ∃ x, Hid (decL a0 = x) := ⟨_, rfl⟩
    obtain ⟨st, HST⟩ : ∃ x, Hid (decSt a0 = x) := ⟨_, rfl⟩
    obtain ⟨E, HE⟩ : ∃ x, Hid (decE a0 = x) := ⟨_, rfl⟩
    have DA := mkHid (fun w => dec_at a0 (by omega) HSD.out HL.out HST.out HE.out w)
    have RA := mkHid (fun w => rdec_at a0 (by omega) HSD.out HL.out HST.out HE.out w)
    unfold rv at DA RA
    obtain ⟨n, HN⟩ : ∃ n, Hid (l.length = n) := ⟨_, rfl⟩
    rw [HN.out] at DA RA
    clear w0 h1
    go_enter Try.func4, Try.ntmps4
    go_wp2_with fail
    refine (DA.out _).mono ?_
    rintro e w1 ⟨⟨a, c, rfl, hba⟩, b1⟩
    have N1 := mkHid (ck_new (sd := sd) (cap := c) (st := st) hba (apart_below b1))
    rw [HN.out] at N1
    obtain ⟨bx, W1, HBX, HW1⟩ := boxed w1 sd (.slice a n c) st
    rw [HW1.out, HBX.out] at N1
    clear hba b1
    go_wp2_with fail
    rw [HW1.out, HBX.out]
    refine (RA.out _).mono ?_
    rintro e w2 ⟨⟨a', c', rfl, hba'⟩, b2⟩
    have K2 := mkHid (ck_new (sd := sd) (cap := c') (st := st) hba' (N1.out.next b2).k)
    have N2 := mkHid ((N1.out.next b2).ap ((Apart.refl _ _).alloc (.cells #[.int .u32 sd, .slice a' n c', .int .u32 st] 25)))
    rw [HN.out] at K2
    obtain ⟨by_, W2, HBY, HW2⟩ := boxed w2 sd (.slice a' n c') st
    rw [HW2.out, HBY.out] at K2
    rw [HW2.out] at N2
    clear hba' b2 N1
    have SA := mkHid (same_is (cap := c) (cap' := c') N2.out.b K2.out.b (same_yes (sd := sd) (st := st) ⟨rfl, rfl, rfl⟩))
    rw [HN.out] at SA
    have nd := N2.out.d
    have kd := K2.out.d
    rw [HN.out] at nd kd
    obtain ⟨⟨c0, c1, c2⟩, _⟩ := cells3' nd
    obtain ⟨⟨g0, g1, g2⟩, _⟩ := cells3' kd
    clear nd kd
    go_upto_region 5 with fail
    rw [HW2.out, HBY.out]
    go_wp2_with fail
    refine (SA.out).mono ?_
    rintro e w3 ⟨rfl, a3⟩
    have K3 := mkHid (K2.out.ap a3)
    clear a3 c0 c1 c2 g0 g1 g2
    go_wp2_with fail
    refine (wakes_any _).mono ?_
    rintro e w4 ⟨rfl, p4⟩
    have K4 := mkHid (K3.out.next p4)
    clear p4
    go_wp2
    go_ret
    exact ⟨rfl, K4.out.k.belowZ⟩

set_option maxRecDepth 100000 in
theorem lifted (os : Os) (started : os.Started) (H : Type) (enc : TypeId × Value → H) :
    ReturnsInHanded {} Try.checked os 4 .any (Rows.ccfbDecodesSpec.pre6 enc Try.prog Try.f4 Rows.ccfbDecodesRow.domain false) (Rows.ccfbDecodesSpec.post enc Try.prog Try.f4 false true false false) := by
  refine returnsInHanded_of_change (C := Try.checked) own started (by kernel_rfl) Try.func4
    (ChangeSpec.witness6 (enc := enc) (C := Try.checked) false ⟨#[], #[.string ByteArray.empty], []⟩ 8 (by kernel_rfl) (by kernel_rfl) (by kernel_rfl) (by kernel_rfl)) ?_
  intro W base args ds gs before hval0 hW hcnd _
  have hval : ∀ (j : Nat) t v, Try.f4.params[j]? = some t → args[j]? = some v → Value.okWide Try.prog W .any base t v := hval0
  have hW' := hW
  obtain ⟨p, q, hA0, hV, rfl, hfz, hnd⟩ := hW
  have hA : DataW.TrodAll enc Try.prog W 0 (fun _ => true) true Try.f4.params.toList args.toList ds p := hA0
  rw [Try.params4] at hA hval
  obtain ⟨v0, vs0, d0, ds0, p0, q0, hargs, rfl, rfl, h0, r0⟩ := trodAll_cons hA
  obtain ⟨rfl, rfl, rfl⟩ := trodAll_nil r0
  obtain rfl : args = #[v0] := by cases args; simp_all
  obtain ⟨rfl, rfl⟩ := trodVars_none hV
  obtain ⟨a0, rfl, rfl, rfl, w0⟩ := open_string Try.underlying9 (hval 0 9 v0 rfl rfl) h0
  clear hA0 hval0
  refine (walk a0 W w0).mono fun e W' ⟨he, bel⟩ => ?_
  subst he
  exact ⟨_, rfl, _, _, _, [], _, [], hW', trodAll_mk1 (shut_bool Try.underlying4 _), (trodAll_cons_mk (shut_string Try.underlying9 w0) trodAll_mk0), rfl, bel.frame _, fun h => by cases h⟩

theorem over : Rows.ccfbDecodesRow.holds Try.pinned (OpenSpec.ofChange Rows.ccfbDecodesSpec) :=
  OpenClaim.holds_of_wide 4 Try.f4 rfl rfl rfl rfl rfl rfl rfl ⟨rfl, rfl, rfl, rfl, rfl⟩ rfl rfl rfl rfl rfl (by kernel_rfl) Try.func4 (by kernel_rfl)
    (of_decide_eq_true (by kernel_rfl)) (by unfold Func.isWrapper; first | (rw [if_pos (by decide +kernel)]; kernel_rfl) | (rw [if_neg (by decide +kernel)]; exact ⟨rfl, rfl⟩))
    (fun os started H enc _ => lifted os started H enc)
end Go.Proofs.Ytohembamfjbclaa.ccfbDecodes
namespace Go.Proofs.Ytohembamfjbclaa
/-- The statement. -/
theorem ccfbDecodes_holds : Rows.CcfbDecodesSaid := ccfbDecodes.over
#print axioms ccfbDecodes_holds
end Go.Proofs.Ytohembamfjbclaa
