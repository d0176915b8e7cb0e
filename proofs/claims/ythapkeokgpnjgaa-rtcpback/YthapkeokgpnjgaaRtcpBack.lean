/-
  RtcpBack: parts that were joined are split as they were; parts that were split are joined to what splits alike.
-/
import Derived.Test.YthapkeokgpnjgaaRows
import Derived.WalkKit
import Derived.ProofKit
import Derived.OpenShut
import Derived.ShutString
import Derived.ChangeOld
import Derived.Below
import Derived.Deep.Slices
import Derived.Test.YthapkeokgpnjgaaRcV
import Derived.Test.YthapkeokgpnjgaaRcO
namespace Go.Proofs.Ythapkeokgpnjgaa.rtcpBack
open Go.ChangeShapes Go.WideShapes Go.ChangeAt Go.RowKit
open Go.ChangeMaps (open_string shut_string)
set_option linter.unusedVariables false

theorem own : ownKnob Try.prog.godebug = none := by kernel_rfl
theorem laidOut : laidOutB Try.prog = true := by kernel_rfl

theorem open0 {H : Type} {enc : TypeId × Value → H} {W : World} {a : Option Addr} {len cap : Nat} {d : DataW H} {p : List MemPlace}
    (h : DataW.Trod enc Try.prog W 0 (fun _ => true) true 22 (.slice a len cap) d p) : ∃ l : List Pt, l.length = len ∧ PA W.heap.size W a l := open_parts h
set_option maxRecDepth 100000 in
set_option maxHeartbeats 1000000 in
theorem walk (a0 : Option Addr) (len0 cap0 : Nat) (a1 : ByteArray) (w : World) (w0 : ∃ l : List Pt, l.length = len0 ∧ PA w.heap.size w a0 l) (w1 : a1.size ≤ maxLen) : Calls Try.prog 5 #[.slice a0 len0 cap0, .string a1] w fun e w' => e = .returned (.bool true) ∧ Below w.heap.size w w' := by
  obtain ⟨l, rfl, hp⟩ := w0
  have P0 := mkHid hp
  unfold maxLen at w1
  have hs0 : (a1.size : Int) ≤ 9223372036854775807 := by omega
  clear hp w1
  obtain ⟨n, HN⟩ : ∃ n, Hid (l.length = n) := ⟨_, rfl⟩
  have LG := mkHid (large_any a0 cap0 l w P0.out)
  rw [HN.out] at LG ⊢
  go_enter Try.func5, Try.ntmps5
  go_wp2_with fail
  refine (LG.out).mono ?_
  rintro e w2 ⟨⟨g, rfl, hg⟩, rfl⟩
  clear LG
  cases g with
  | true =>
    clear hg
    go_wp2_with fail
    refine (wakes_any _).mono ?_
    rintro e w2 ⟨rfl, p2⟩
    have B2 := mkHid p2
    clear p2
    go_wp2
    go_ret
    exact ⟨rfl, B2.out⟩
  | false =>
    obtain ⟨l1, l2⟩ := hg rfl
    have L1 := mkHid l1
    have L2 := mkHid l2
    clear hg l1 l2
    by_cases hs : (70000 : Int) < a1.size
    · go_wp2_with fail
      refine (wakes_any _).mono ?_
      rintro e w3 ⟨rfl, p2⟩
      have B2 := mkHid p2
      clear p2
      go_wp2
      go_ret
      exact ⟨rfl, B2.out⟩
    · have HSZ := mkHid (show a1.size ≤ 1000000 by omega)
      have FW := mkHid (few_any a0 cap0 l w2 (by have := L1.out; omega) P0.out)
      rw [HN.out] at FW
      go_wp2_with fail
      refine (FW.out).mono ?_
      rintro e w3 ⟨a', c', rfl, p3, _, b3⟩
      have P3 := mkHid p3
      have B3 := mkHid b3
      have Q3 := mkHid (P0.out.on b3)
      clear p3 b3 FW
      have JN := mkHid (join_any a' c' l (by have := L2.out; omega) _ P3.out)
      rw [HN.out] at JN
      obtain ⟨S, HS⟩ : ∃ S, Hid (jS l = S) := ⟨_, rfl⟩
      obtain ⟨E, HE⟩ : ∃ E, Hid (jE l = E) := ⟨_, rfl⟩
      rw [HS.out, HE.out] at JN
      go_wp2_with fail
      refine (JN.out).mono ?_
      rintro e w4 ⟨rfl, b4⟩
      have Q4 := mkHid (Q3.out.on b4)
      have B4 := mkHid (B3.out.trans (b4.mono B3.out.size))
      clear b4 JN P3 Q3 B3
      go_upto_if 30 with fail
      go_cut [6] (fun s6 wc => s6 = .int .i64 E ∧ Below w2.heap.size w2 wc)
      case first =>
        by_cases hE : E = 0
        · have HBK := mkHid (back (l := l) (by rw [HE.out]; exact hE))
          have SP := mkHid (split_any S (by rw [← HS.out, jS_is (by rw [HE.out]; exact hE), bA_size]; have := (jE_zero (by rw [HE.out]; exact hE)).2.2; omega) w4)
          unfold SplitPost at SP
          rw [HS.out] at HBK
          rw [HBK.out.1, HBK.out.2, HN.out] at SP
          go_wp2_with fail
          refine (SP.out).mono ?_
          rintro e w5 ⟨⟨a5, c5, rfl, p5⟩, b5⟩
          have Q5 := mkHid (Q4.out.on b5)
          have P5 := mkHid p5
          have B5 := mkHid (B4.out.trans (b5.mono B4.out.size))
          clear b5 p5 SP Q4 B4
          have SM := mkHid (same_any a5 a0 c5 cap0 l _ P5.out Q5.out)
          rw [HN.out] at SM
          go_wp2_with fail
          refine (SM.out).mono ?_
          rintro e w6 ⟨rfl, b6⟩
          have B6 := mkHid (B5.out.trans (b6.mono B5.out.size))
          clear b6 SM
          go_wp2
          go_meet
          case rel => exact ⟨by rw [hE], B6.out⟩
        · go_wp2
          go_meet
          case rel => exact ⟨rfl, B4.out⟩
      case rest =>
        obtain ⟨rfl, hbc⟩ := hcut
        have BC := mkHid hbc
        clear hbc Q4 B4
        have SP := mkHid (split_any a1 HSZ.out wc)
        unfold SplitPost at SP
        obtain ⟨F, HF⟩ : ∃ F, Hid (rE a1 = F) := ⟨_, rfl⟩
        obtain ⟨k, HK⟩ : ∃ k, Hid (rL a1 = k) := ⟨_, rfl⟩
        obtain ⟨m, HM⟩ : ∃ m, Hid (k.length = m) := ⟨_, rfl⟩
        rw [HF.out, HK.out, HM.out] at SP
        go_wp2_with fail
        refine (SP.out).mono ?_
        rintro e w5 ⟨⟨a5, c5, rfl, p5⟩, b5⟩
        have P5 := mkHid p5
        have B5 := mkHid (BC.out.trans (b5.mono BC.out.size))
        clear b5 p5 SP BC
        by_cases hF : F = 0
        · obtain ⟨g1, g2, g3⟩ := again (s := a1) (by rw [HF.out]; exact hF)
          rw [HK.out] at g1 g2 g3
          have G1 := mkHid g1
          have HB := mkHid (back g1)
          have hms : (m : Int) ≤ 1000000 := by have := sz_len k; have := HM.out; have := HSZ.out; omega
          have JN := mkHid (join_any a5 c5 k (by have := HSZ.out; omega) _ P5.out)
          obtain ⟨U, HU⟩ : ∃ U, Hid (jS k = U) := ⟨_, rfl⟩
          rw [G1.out, HU.out, HM.out] at JN
          rw [HU.out] at g2 HB
          have hu : (U.size : Int) ≤ a1.size := by omega
          have hu2 : (U.size : Int) ≤ 9223372036854775807 := by omega
          have SP := mkHid (fun w => split_any U (by have := HSZ.out; omega) w)
          unfold SplitPost at SP
          rw [HB.out.1, HB.out.2, HM.out] at SP
          clear g1 g2 g3
          go_wp2_with fail
          refine (JN.out).mono ?_
          rintro e w6 ⟨rfl, b6⟩
          have P6 := mkHid (P5.out.on b6)
          have B6 := mkHid (B5.out.trans (b6.mono B5.out.size))
          clear b6 JN P5 B5
          go_wp2_with fail
          refine (SP.out _).mono ?_
          rintro e w7 ⟨⟨a7, c7, rfl, p7⟩, b7⟩
          have P7 := mkHid (P6.out.on b7)
          have R7 := mkHid p7
          have B7 := mkHid (B6.out.trans (b7.mono B6.out.size))
          clear b7 p7 SP P6 B6
          have SM := mkHid (same_any a7 a5 c7 c5 k _ R7.out P7.out)
          rw [HM.out] at SM
          go_wp2_with fail
          refine (SM.out).mono ?_
          rintro e w8 ⟨rfl, b8⟩
          have B8 := mkHid (B7.out.trans (b8.mono B7.out.size))
          clear b8 SM
          go_wp2_with fail
          refine (wakes_any _).mono ?_
          rintro e w9 ⟨rfl, b9⟩
          have B9 := mkHid (B8.out.trans (b9.mono B8.out.size))
          clear b9
          go_wp2
          go_ret
          exact ⟨rfl, B9.out⟩
        · have hm0 : m = 0 := by
            have h1 := HK.out
            unfold rL at h1
            rw [HF.out, if_neg hF] at h1
            rw [← HM.out, ← h1]; rfl
          subst hm0
          go_wp2_with fail
          refine (wakes_any _).mono ?_
          rintro e w9 ⟨rfl, b9⟩
          have B9 := mkHid (B5.out.trans (b9.mono B5.out.size))
          clear b9
          go_wp2
          go_ret
          exact ⟨rfl, B9.out⟩

set_option maxRecDepth 100000 in
theorem lifted (os : Os) (started : os.Started) (H : Type) (enc : TypeId × Value → H) :
    ReturnsInHanded {} Try.checked os 5 .any (Rows.rtcpBackSpec.pre6 enc Try.prog Try.f5 Rows.rtcpBackRow.domain false) (Rows.rtcpBackSpec.post enc Try.prog Try.f5 false true false false) := by
  refine returnsInHanded_of_change (C := Try.checked) own started (by kernel_rfl) Try.func5
    (ChangeSpec.witness6 (enc := enc) (C := Try.checked) false ⟨#[], #[.slice none 0 0, .string ByteArray.empty], []⟩ 8 (by kernel_rfl) (by kernel_rfl) (by kernel_rfl) (by kernel_rfl)) ?_
  intro W base args ds gs before hval0 hW hcnd _
  have hval : ∀ (j : Nat) t v, Try.f5.params[j]? = some t → args[j]? = some v → Value.okWide Try.prog W .any base t v := hval0
  have hW' := hW
  obtain ⟨p, q, hA0, hV, rfl, hfz, hnd⟩ := hW
  have hA : DataW.TrodAll enc Try.prog W 0 (fun _ => true) true Try.f5.params.toList args.toList ds p := hA0
  rw [Try.params5] at hA hval
  obtain ⟨v0, vs0, d0, ds0, p0, q0, hargs, rfl, rfl, h0, r0⟩ := trodAll_cons hA
  obtain ⟨v1, vs1, d1, ds1, p1, q1, rfl, rfl, rfl, h1, r1⟩ := trodAll_cons r0
  obtain ⟨rfl, rfl, rfl⟩ := trodAll_nil r1
  obtain rfl : args = #[v0, v1] := by cases args; simp_all
  obtain ⟨rfl, rfl⟩ := trodVars_none hV
  obtain ⟨a0, len0, cap0, rfl⟩ := okWide_slice Try.underlying22 (hval 0 22 v0 rfl rfl)
  have k0 := h0
  have lt0 : ∀ x ∈ p0, x.block < W.heap.size := by obtain ⟨m, hm⟩ := k0; exact DataW.trod_lt m _ _ _ hm
  have w0 := open0 h0
  obtain ⟨a1, rfl, rfl, rfl, w1⟩ := open_string Try.underlying9 (hval 1 9 v1 rfl rfl) h1
  clear hA0 hval0
  refine (walk a0 len0 cap0 a1 W w0 w1).mono fun e W' ⟨he, bel⟩ => ?_
  subst he
  exact ⟨_, rfl, _, _, _, [], _, [], hW', trodAll_mk1 (shut_bool Try.underlying4 _), (trodAll_cons_mk (Below.trod laidOut (by kernel_rfl) (of_decide_eq_true (by kernel_rfl)) k0 bel lt0) (trodAll_cons_mk (shut_string Try.underlying9 w1) trodAll_mk0)), rfl, bel.frame _, fun h => by cases h⟩

theorem over : Rows.rtcpBackRow.holds Try.pinned (OpenSpec.ofChange Rows.rtcpBackSpec) :=
  OpenClaim.holds_of_wide 5 Try.f5 rfl rfl rfl rfl rfl rfl rfl ⟨rfl, rfl, rfl, rfl, rfl⟩ rfl rfl rfl rfl rfl (by kernel_rfl) Try.func5 (by kernel_rfl)
    (of_decide_eq_true (by kernel_rfl)) (by unfold Func.isWrapper; first | (rw [if_pos (by decide +kernel)]; kernel_rfl) | (rw [if_neg (by decide +kernel)]; exact ⟨rfl, rfl⟩))
    (fun os started H enc _ => lifted os started H enc)
end Go.Proofs.Ythapkeokgpnjgaa.rtcpBack
namespace Go.Proofs.Ythapkeokgpnjgaa
/-- The statement. -/
theorem rtcpBack_holds : Rows.RtcpBackSaid := rtcpBack.over
#print axioms rtcpBack_holds
end Go.Proofs.Ythapkeokgpnjgaa
