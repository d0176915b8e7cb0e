/-
  RtcpJoins: the message of any parts, or that they are none, or too long.
-/
import Derived.Test.YthapkeokgpnjgaaRows
import Derived.WalkKit
import Derived.ProofKit
import Derived.OpenShut
import Derived.ShutString
import Derived.ChangeOld
import Derived.Below
import Derived.Deep.Slices
import Derived.Test.YthapkeokgpnjgaaRcV
import Derived.Test.YthapkeokgpnjgaaRcT
import Derived.Test.YthapkeokgpnjgaaRcO
namespace Go.Proofs.Ythapkeokgpnjgaa.rtcpJoins
open Go.ChangeShapes Go.WideShapes Go.ChangeAt Go.RowKit
open Go.ChangeMaps (open_string shut_string)
set_option linter.unusedVariables false

theorem own : ownKnob Try.prog.godebug = none := by kernel_rfl
theorem laidOut : laidOutB Try.prog = true := by kernel_rfl

theorem open0 {H : Type} {enc : TypeId × Value → H} {W : World} {a : Option Addr} {len cap : Nat} {d : DataW H} {p : List MemPlace}
    (h : DataW.Trod enc Try.prog W 0 (fun _ => true) true 22 (.slice a len cap) d p) : ∃ l : List Pt, l.length = len ∧ PA W.heap.size W a l := open_parts h
set_option maxRecDepth 100000 in
set_option maxHeartbeats 400000 in
theorem walk (a0 : Option Addr) (len0 cap0 : Nat) (w : World) (w0 : ∃ l : List Pt, l.length = len0 ∧ PA w.heap.size w a0 l) : Calls Try.prog 3 #[.slice a0 len0 cap0] w fun e w' => e = .returned (.bool true) ∧ Below w.heap.size w w' := by
  obtain ⟨l, rfl, hp⟩ := w0
  have P0 := mkHid hp
  clear hp
  go_enter Try.func3, Try.ntmps3
  go_wp2_with fail
  refine (large_any a0 cap0 l w P0.out).mono ?_
  rintro e w1 ⟨⟨g, rfl, hg⟩, rfl⟩
  cases g with
  | true =>
    clear hg
    go_wp2_with fail
    refine (wakes_any _).mono ?_
    rintro e w2 ⟨rfl, p2⟩
    have B2 := mkHid p2
    clear p2
    go_wp2
    go_ret
    exact ⟨rfl, B2.out⟩
  | false =>
    obtain ⟨l1, l2⟩ := hg rfl
    have L1 := mkHid l1
    have L2 := mkHid l2
    clear hg l1 l2
    obtain ⟨n, HN⟩ : ∃ n, Hid (l.length = n) := ⟨_, rfl⟩
    have FW := mkHid (few_any a0 cap0 l w1 (by have := L1.out; omega) P0.out)
    rw [HN.out] at FW ⊢
    go_wp2_with fail
    refine (FW.out).mono ?_
    rintro e w2 ⟨a', c', rfl, p2, _, b2⟩
    have P2 := mkHid p2
    have B2 := mkHid b2
    have Q2 := mkHid (P0.out.on b2)
    clear p2 b2 FW
    have JN := mkHid (join_any a' c' l (by have := L2.out; omega) _ P2.out)
    rw [HN.out] at JN
    obtain ⟨S, HS⟩ : ∃ S, Hid (jS l = S) := ⟨_, rfl⟩
    obtain ⟨E, HE⟩ : ∃ E, Hid (jE l = E) := ⟨_, rfl⟩
    rw [HS.out, HE.out] at JN
    go_wp2_with fail
    refine (JN.out).mono ?_
    rintro e w3 ⟨rfl, b3⟩
    have P3 := mkHid (P2.out.on b3)
    have Q3 := mkHid (Q2.out.on b3)
    have B3 := mkHid (B2.out.trans (b3.mono B2.out.size))
    clear b3 JN P2 Q2 B2
    have RJ := mkHid (rjoin_any a0 cap0 l (by have := L1.out; omega) (by have := L2.out; omega) _ Q3.out)
    rw [HN.out, HS.out, HE.out] at RJ
    go_wp2_with fail
    refine (RJ.out).mono ?_
    rintro e w4 ⟨rfl, b4⟩
    have P4 := mkHid (P3.out.on b4)
    have Q4 := mkHid (Q3.out.on b4)
    have B4 := mkHid (B3.out.trans (b4.mono B3.out.size))
    clear b4 RJ P3 Q3 B3
    have SM := mkHid (same_any a' a0 c' cap0 l _ P4.out Q4.out)
    rw [HN.out] at SM
    go_wp2_with fail
    refine (SM.out).mono ?_
    rintro e w5 ⟨rfl, b5⟩
    have B5 := mkHid (B4.out.trans (b5.mono B4.out.size))
    clear b5 SM P4 Q4 B4
    go_wp2_with fail
    refine (wakes_any _).mono ?_
    rintro e w6 ⟨rfl, b6⟩
    have B6 := mkHid (B5.out.trans (b6.mono B5.out.size))
    clear b6
    go_wp2
    go_ret
    exact ⟨rfl, B6.out⟩

set_option maxRecDepth 100000 in
theorem lifted (os : Os) (started : os.Started) (H : Type) (enc : TypeId × Value → H) :
    ReturnsInHanded {} Try.checked os 3 .any (Rows.rtcpJoinsSpec.pre6 enc Try.prog Try.f3 Rows.rtcpJoinsRow.domain false) (Rows.rtcpJoinsSpec.post enc Try.prog Try.f3 false true false false) := by
  refine returnsInHanded_of_change (C := Try.checked) own started (by kernel_rfl) Try.func3
    (ChangeSpec.witness6 (enc := enc) (C := Try.checked) false ⟨#[], #[.slice none 0 0], []⟩ 8 (by kernel_rfl) (by kernel_rfl) (by kernel_rfl) (by kernel_rfl)) ?_
  intro W base args ds gs before hval0 hW hcnd _
  have hval : ∀ (j : Nat) t v, Try.f3.params[j]? = some t → args[j]? = some v → Value.okWide Try.prog W .any base t v := hval0
  have hW' := hW
  obtain ⟨p, q, hA0, hV, rfl, hfz, hnd⟩ := hW
  have hA : DataW.TrodAll enc Try.prog W 0 (fun _ => true) true Try.f3.params.toList args.toList ds p := hA0
  rw [Try.params3] at hA hval
  obtain ⟨v0, vs0, d0, ds0, p0, q0, hargs, rfl, rfl, h0, r0⟩ := trodAll_cons hA
  obtain ⟨rfl, rfl, rfl⟩ := trodAll_nil r0
  obtain rfl : args = #[v0] := by cases args; simp_all
  obtain ⟨rfl, rfl⟩ := trodVars_none hV
  obtain ⟨a0, len0, cap0, rfl⟩ := okWide_slice Try.underlying22 (hval 0 22 v0 rfl rfl)
  have k0 := h0
  have lt0 : ∀ x ∈ p0, x.block < W.heap.size := by obtain ⟨m, hm⟩ := k0; exact DataW.trod_lt m _ _ _ hm
  have w0 := open0 h0
  clear hA0 hval0
  refine (walk a0 len0 cap0 W w0).mono fun e W' ⟨he, bel⟩ => ?_
  subst he
  exact ⟨_, rfl, _, _, _, [], _, [], hW', trodAll_mk1 (shut_bool Try.underlying4 _), (trodAll_cons_mk (Below.trod laidOut (by kernel_rfl) (of_decide_eq_true (by kernel_rfl)) k0 bel lt0) trodAll_mk0), rfl, bel.frame _, fun h => by cases h⟩

theorem over : Rows.rtcpJoinsRow.holds Try.pinned (OpenSpec.ofChange Rows.rtcpJoinsSpec) :=
  OpenClaim.holds_of_wide 3 Try.f3 rfl rfl rfl rfl rfl rfl rfl ⟨rfl, rfl, rfl, rfl, rfl⟩ rfl rfl rfl rfl rfl (by kernel_rfl) Try.func3 (by kernel_rfl)
    (of_decide_eq_true (by kernel_rfl)) (by unfold Func.isWrapper; first | (rw [if_pos (by decide +kernel)]; kernel_rfl) | (rw [if_neg (by decide +kernel)]; exact ⟨rfl, rfl⟩))
    (fun os started H enc _ => lifted os started H enc)
end Go.Proofs.Ythapkeokgpnjgaa.rtcpJoins
namespace Go.Proofs.Ythapkeokgpnjgaa
/-- The statement. -/
theorem rtcpJoins_holds : Rows.RtcpJoinsSaid := rtcpJoins.over
#print axioms rtcpJoins_holds
end Go.Proofs.Ythapkeokgpnjgaa
