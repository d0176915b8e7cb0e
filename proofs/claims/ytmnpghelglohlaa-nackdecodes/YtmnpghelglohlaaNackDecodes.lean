/-
  NackDecodes: the list of any body, or the first thing that is wrong.
-/
import Derived.Test.YtmnpghelglohlaaRows
import Derived.WalkKit
import Derived.ProofKit
import Derived.OpenShut
import Derived.ShutString
import Derived.ChangeOld
import Derived.Below
import Derived.Deep.Slices
import Derived.Test.YtmnpghelglohlaaNkV
import Derived.Test.YtmnpghelglohlaaNkY
namespace Go.Proofs.Ytmnpghelglohlaa.nackDecodes
open Go.ChangeShapes Go.WideShapes Go.ChangeAt Go.RowKit
open Go.ChangeMaps (open_string shut_string)
set_option linter.unusedVariables false

theorem own : ownKnob Try.prog.godebug = none := by kernel_rfl
theorem laidOut : laidOutB Try.prog = true := by kernel_rfl

theorem rdec_at (s : ByteArray) (hs : (s.size : Int) ≤ 9223372036854775807) {r : Nk} {E : Int} (h1 : decR s = r) (h2 : decE s = E) (w : World) :
    Calls Try.prog 14 #[.string s] w (fun e w' => (∃ a c, e = .returned (.tuple #[nv r a r.lo.length c, .int .i64 E]) ∧ IA w'.heap.size w' a c r.lo) ∧ Below w.heap.size w w') := by
  subst h1 h2; exact rdec_any s hs w
set_option maxRecDepth 100000 in
set_option maxHeartbeats 2000000 in
theorem walk (a0 : ByteArray) (w : World) (w0 : a0.size ≤ maxLen) : Calls Try.prog 4 #[.string a0] w fun e w' => e = .returned (.bool true) ∧ Below w.heap.size w w' := by
  have hw0 : (a0.size : Int) ≤ 9223372036854775807 := by unfold maxLen at w0; omega
  have B0 := mkHid (Below.refl w.heap.size w)
  clear w0
  by_cases h7 : (70000 : Int) < a0.size
  · go_enter Try.func4, Try.ntmps4
    go_wp2_with fail
    refine (wakes_any _).mono ?_
    rintro e w9 ⟨rfl, p9⟩
    go_wp2
    go_ret
    exact ⟨rfl, p9⟩
  · obtain ⟨r, HR⟩ : ∃ r, Hid (decR a0 = r) := ⟨_, rfl⟩
    obtain ⟨E, HE⟩ : ∃ E, Hid (decE a0 = E) := ⟨_, rfl⟩
    have DA := mkHid (dec_at a0 hw0 HR.out HE.out)
    have RA := mkHid (rdec_at a0 hw0 HR.out HE.out)
    unfold nv at DA RA
    go_enter Try.func4, Try.ntmps4
    go_wp2_with fail
    refine (DA.out _).mono ?_
    rintro e w1 ⟨⟨a, c, rfl, hi⟩, b1⟩
    have K1 := mkHid (ck_new hi (below_apart b1))
    obtain ⟨bx, W1, HBX, HW1⟩ := boxed w1 (bxO r a r.lo.length c)
    rw [HW1.out, HBX.out] at K1
    clear hi b1 DA
    go_upto_region 4 with fail
    rw [HW1.out, HBX.out]
    go_wp2_with fail
    refine (RA.out _).mono ?_
    rintro e w2 ⟨⟨b, d, rfl, hj⟩, b2⟩
    have K2 := mkHid (K1.out.next b2)
    have N2 := mkHid (ck_new hj K2.out.k)
    have K3 := mkHid (K2.out.ap ((Apart.refl _ _).alloc (bxO r b r.lo.length d)))
    obtain ⟨by_, W2, HBY, HW2⟩ := boxed w2 (bxO r b r.lo.length d)
    rw [HW2.out, HBY.out] at N2
    rw [HW2.out] at K3
    have SA := mkHid (same_self r a c b d W2 K3.out.i N2.out.i)
    unfold nv at SA
    clear hj b2 RA K1 K2
    obtain ⟨c0, c1, c2⟩ := K3.out.d.c
    obtain ⟨g0, g1, g2⟩ := N2.out.d.c
    go_upto_region 5 with fail
    rw [HW2.out, HBY.out]
    go_wp2_with fail
    refine (SA.out).mono ?_
    rintro e w4 ⟨rfl, a4⟩
    have K4 := mkHid (K3.out.ap a4)
    clear a4 SA c0 c1 c2 g0 g1 g2 K3 N2
    go_wp2_with fail
    refine (wakes_any _).mono ?_
    rintro e w9 ⟨rfl, p9⟩
    have K9 := mkHid (K4.out.next p9)
    clear p9
    go_wp2
    go_ret
    exact ⟨rfl, K9.out.k.belowZ⟩

set_option maxRecDepth 100000 in
theorem lifted (os : Os) (started : os.Started) (H : Type) (enc : TypeId × Value → H) :
    ReturnsInHanded {} Try.checked os 4 .any (Rows.nackDecodesSpec.pre6 enc Try.prog Try.f4 Rows.nackDecodesRow.domain false) (Rows.nackDecodesSpec.post enc Try.prog Try.f4 false true false false) := by
  refine returnsInHanded_of_change (C := Try.checked) own started (by kernel_rfl) Try.func4
    (ChangeSpec.witness6 (enc := enc) (C := Try.checked) false ⟨#[], #[.string ByteArray.empty], []⟩ 8 (by kernel_rfl) (by kernel_rfl) (by kernel_rfl) (by kernel_rfl)) ?_
  intro W base args ds gs before hval0 hW hcnd _
  have hval : ∀ (j : Nat) t v, Try.f4.params[j]? = some t → args[j]? = some v → Value.okWide Try.prog W .any base t v := hval0
  have hW' := hW
  obtain ⟨p, q, hA0, hV, rfl, hfz, hnd⟩ := hW
  have hA : DataW.TrodAll enc Try.prog W 0 (fun _ => true) true Try.f4.params.toList args.toList ds p := hA0
  rw [Try.params4] at hA hval
  obtain ⟨v0, vs0, d0, ds0, p0, q0, hargs, rfl, rfl, h0, r0⟩ := trodAll_cons hA
  obtain ⟨rfl, rfl, rfl⟩ := trodAll_nil r0
  obtain rfl : args = #[v0] := by cases args; simp_all
  obtain ⟨rfl, rfl⟩ := trodVars_none hV
  obtain ⟨a0, rfl, rfl, rfl, w0⟩ := open_string Try.underlying9 (hval 0 9 v0 rfl rfl) h0
  clear hA0 hval0
  refine (walk a0 W w0).mono fun e W' ⟨he, bel⟩ => ?_
  subst he
  exact ⟨_, rfl, _, _, _, [], _, [], hW', trodAll_mk1 (shut_bool Try.underlying4 _), (trodAll_cons_mk (shut_string Try.underlying9 w0) trodAll_mk0), rfl, bel.frame _, fun h => by cases h⟩

theorem over : Rows.nackDecodesRow.holds Try.pinned (OpenSpec.ofChange Rows.nackDecodesSpec) :=
  OpenClaim.holds_of_wide 4 Try.f4 rfl rfl rfl rfl rfl rfl rfl ⟨rfl, rfl, rfl, rfl, rfl⟩ rfl rfl rfl rfl rfl (by kernel_rfl) Try.func4 (by kernel_rfl)
    (of_decide_eq_true (by kernel_rfl)) (by unfold Func.isWrapper; first | (rw [if_pos (by decide +kernel)]; kernel_rfl) | (rw [if_neg (by decide +kernel)]; exact ⟨rfl, rfl⟩))
    (fun os started H enc _ => lifted os started H enc)
end Go.Proofs.Ytmnpghelglohlaa.nackDecodes
namespace Go.Proofs.Ytmnpghelglohlaa
/-- The statement. -/
theorem nackDecodes_holds : Rows.NackDecodesSaid := nackDecodes.over
#print axioms nackDecodes_holds
end Go.Proofs.Ytmnpghelglohlaa
