/-
  RtcpSplits: the parts of any bytes, or the first thing that is wrong.
-/
import Derived.Test.YthapkeokgpnjgaaRows
import Derived.WalkKit
import Derived.ProofKit
import Derived.OpenShut
import Derived.ShutString
import Derived.ChangeOld
import Derived.Below
import Derived.Deep.Slices
import Derived.Test.YthapkeokgpnjgaaRcV
import Derived.Test.YthapkeokgpnjgaaRcU
namespace Go.Proofs.Ythapkeokgpnjgaa.rtcpSplits
open Go.ChangeShapes Go.WideShapes Go.ChangeAt Go.RowKit
open Go.ChangeMaps (open_string shut_string)
set_option linter.unusedVariables false

theorem own : ownKnob Try.prog.godebug = none := by kernel_rfl
theorem laidOut : laidOutB Try.prog = true := by kernel_rfl

set_option maxRecDepth 100000 in
set_option maxHeartbeats 400000 in
theorem walk (a0 : ByteArray) (w : World) (w0 : a0.size ≤ maxLen) : Calls Try.prog 4 #[.string a0] w fun e w' => e = .returned (.bool true) ∧ Below w.heap.size w w' := by
  unfold maxLen at w0
  have hs0 : (a0.size : Int) ≤ 9223372036854775807 := by omega
  clear w0
  by_cases h0 : (70000 : Int) < a0.size
  · go_enter Try.func4, Try.ntmps4
    go_wp2_with fail
    refine (wakes_any _).mono ?_
    rintro e w2 ⟨rfl, p2⟩
    have B2 := mkHid p2
    clear p2
    go_wp2
    go_ret
    exact ⟨rfl, B2.out⟩
  have SP := mkHid (split_any a0 (by omega) w)
  have SQ := mkHid (fun w => rsplit_any a0 (by omega) w)
  unfold SplitPost at SP SQ
  obtain ⟨E, HE⟩ : ∃ E, Hid (rE a0 = E) := ⟨_, rfl⟩
  obtain ⟨l, HL⟩ : ∃ l, Hid (rL a0 = l) := ⟨_, rfl⟩
  obtain ⟨n, HN⟩ : ∃ n, Hid (l.length = n) := ⟨_, rfl⟩
  rw [HE.out, HL.out, HN.out] at SP SQ
  go_enter Try.func4, Try.ntmps4
  go_wp2_with fail
  refine (SP.out).mono ?_
  rintro e w2 ⟨⟨a2, c2, rfl, p2⟩, b2⟩
  have P2 := mkHid p2
  have B2 := mkHid b2
  clear p2 b2 SP
  go_wp2_with fail
  refine (SQ.out _).mono ?_
  rintro e w3 ⟨⟨a3, c3, rfl, q3⟩, b3⟩
  have P3 := mkHid (P2.out.on b3)
  have Q3 := mkHid q3
  have B3 := mkHid (B2.out.trans (b3.mono B2.out.size))
  clear q3 b3 SQ P2 B2
  have SM := mkHid (same_any a2 a3 c2 c3 l _ P3.out Q3.out)
  rw [HN.out] at SM
  go_wp2_with fail
  refine (SM.out).mono ?_
  rintro e w4 ⟨rfl, b4⟩
  have B4 := mkHid (B3.out.trans (b4.mono B3.out.size))
  clear b4 SM
  go_wp2_with fail
  refine (wakes_any _).mono ?_
  rintro e w5 ⟨rfl, b5⟩
  have B5 := mkHid (B4.out.trans (b5.mono B4.out.size))
  clear b5
  go_wp2
  go_ret
  exact ⟨rfl, B5.out⟩

set_option maxRecDepth 100000 in
theorem lifted (os : Os) (started : os.Started) (H : Type) (enc : TypeId × Value → H) :
    ReturnsInHanded {} Try.checked os 4 .any (Rows.rtcpSplitsSpec.pre6 enc Try.prog Try.f4 Rows.rtcpSplitsRow.domain false) (Rows.rtcpSplitsSpec.post enc Try.prog Try.f4 false true false false) := by
  refine returnsInHanded_of_change (C := Try.checked) own started (by kernel_rfl) Try.func4
    (ChangeSpec.witness6 (enc := enc) (C := Try.checked) false ⟨#[], #[.string ByteArray.empty], []⟩ 8 (by kernel_rfl) (by kernel_rfl) (by kernel_rfl) (by kernel_rfl)) ?_
  intro W base args ds gs before hval0 hW hcnd _
  have hval : ∀ (j : Nat) t v, Try.f4.params[j]? = some t → args[j]? = some v → Value.okWide Try.prog W .any base t v := hval0
  have hW' := hW
  obtain ⟨p, q, hA0, hV, rfl, hfz, hnd⟩ := hW
  have hA : DataW.TrodAll enc Try.prog W 0 (fun _ => true) true Try.f4.params.toList args.toList ds p := hA0
  rw [Try.params4] at hA hval
  obtain ⟨v0, vs0, d0, ds0, p0, q0, hargs, rfl, rfl, h0, r0⟩ := trodAll_cons hA
  obtain ⟨rfl, rfl, rfl⟩ := trodAll_nil r0
  obtain rfl : args = #[v0] := by cases args; simp_all
  obtain ⟨rfl, rfl⟩ := trodVars_none hV
  obtain ⟨a0, rfl, rfl, rfl, w0⟩ := open_string Try.underlying9 (hval 0 9 v0 rfl rfl) h0
  clear hA0 hval0
  refine (walk a0 W w0).mono fun e W' ⟨he, bel⟩ => ?_
  subst he
  exact ⟨_, rfl, _, _, _, [], _, [], hW', trodAll_mk1 (shut_bool Try.underlying4 _), (trodAll_cons_mk (shut_string Try.underlying9 w0) trodAll_mk0), rfl, bel.frame _, fun h => by cases h⟩

theorem over : Rows.rtcpSplitsRow.holds Try.pinned (OpenSpec.ofChange Rows.rtcpSplitsSpec) :=
  OpenClaim.holds_of_wide 4 Try.f4 rfl rfl rfl rfl rfl rfl rfl ⟨rfl, rfl, rfl, rfl, rfl⟩ rfl rfl rfl rfl rfl (by kernel_rfl) Try.func4 (by kernel_rfl)
    (of_decide_eq_true (by kernel_rfl)) (by unfold Func.isWrapper; first | (rw [if_pos (by decide +kernel)]; kernel_rfl) | (rw [if_neg (by decide +kernel)]; exact ⟨rfl, rfl⟩))
    (fun os started H enc _ => lifted os started H enc)
end Go.Proofs.Ythapkeokgpnjgaa.rtcpSplits
namespace Go.Proofs.Ythapkeokgpnjgaa
/-- The statement. -/
theorem rtcpSplits_holds : Rows.RtcpSplitsSaid := rtcpSplits.over
#print axioms rtcpSplits_holds
end Go.Proofs.Ythapkeokgpnjgaa
