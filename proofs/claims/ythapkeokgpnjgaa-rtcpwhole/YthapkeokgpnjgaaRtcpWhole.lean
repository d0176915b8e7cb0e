/-
  RtcpWhole: a message that is split has no byte that belongs to no part; what is behind a part changes nothing of it.
-/
import Derived.Test.YthapkeokgpnjgaaRows
import Derived.WalkKit
import Derived.ProofKit
import Derived.OpenShut
import Derived.ShutString
import Derived.ChangeOld
import Derived.Below
import Derived.Deep.Slices
import Derived.Test.YthapkeokgpnjgaaRcN
namespace Go.Proofs.Ythapkeokgpnjgaa.rtcpWhole
open Go.ChangeShapes Go.WideShapes Go.ChangeAt Go.RowKit
open Go.ChangeMaps (open_string shut_string)
set_option linter.unusedVariables false

theorem own : ownKnob Try.prog.godebug = none := by kernel_rfl
theorem laidOut : laidOutB Try.prog = true := by kernel_rfl

set_option maxRecDepth 100000 in
set_option maxHeartbeats 1000000 in
theorem walk (a0 a1 : ByteArray) (w : World) (w0 : a0.size ≤ maxLen) (w1 : a1.size ≤ maxLen) : Calls Try.prog 7 #[.string a0, .string a1] w fun e w' => e = .returned (.bool true) ∧ Below w.heap.size w w' := by
  unfold maxLen at w0 w1
  have hs0 : (a0.size : Int) ≤ 9223372036854775807 := by omega
  have hs1 : (a1.size : Int) ≤ 9223372036854775807 := by omega
  clear w0 w1
  by_cases h0 : (70000 : Int) < a0.size
  · go_enter Try.func7, Try.ntmps7
    go_wp2_with fail
    refine (wakes_any _).mono ?_
    rintro e w2 ⟨rfl, p2⟩
    have B2 := mkHid p2
    clear p2
    go_wp2
    go_ret
    exact ⟨rfl, B2.out⟩
  by_cases h1 : (70000 : Int) < a1.size
  · go_enter Try.func7, Try.ntmps7
    go_wp2_with fail
    refine (wakes_any _).mono ?_
    rintro e w2 ⟨rfl, p2⟩
    have B2 := mkHid p2
    clear p2
    go_wp2
    go_ret
    exact ⟨rfl, B2.out⟩
  have Z0 := mkHid (show a0.size ≤ 70000 by omega)
  have Z1 := mkHid (show a1.size ≤ 70000 by omega)
  have SP := mkHid (split_any a0 (by omega) w)
  have SQ := mkHid (fun w => split_any a1 (by omega) w)
  unfold SplitPost at SP SQ
  obtain ⟨E, HE⟩ : ∃ E, Hid (rE a0 = E) := ⟨_, rfl⟩
  obtain ⟨l, HL⟩ : ∃ l, Hid (rL a0 = l) := ⟨_, rfl⟩
  obtain ⟨n, HN⟩ : ∃ n, Hid (l.length = n) := ⟨_, rfl⟩
  obtain ⟨F, HF⟩ : ∃ F, Hid (rE a1 = F) := ⟨_, rfl⟩
  obtain ⟨k, HK⟩ : ∃ k, Hid (rL a1 = k) := ⟨_, rfl⟩
  obtain ⟨m, HM⟩ : ∃ m, Hid (k.length = m) := ⟨_, rfl⟩
  rw [HE.out, HL.out, HN.out] at SP
  rw [HF.out, HK.out, HM.out] at SQ
  go_enter Try.func7, Try.ntmps7
  go_wp2_with fail
  refine (SP.out).mono ?_
  rintro e w2 ⟨⟨a2, c2, rfl, p2⟩, b2⟩
  have P2 := mkHid p2
  have B2 := mkHid b2
  clear p2 b2 SP
  go_wp2_with fail
  refine (SQ.out _).mono ?_
  rintro e w3 ⟨⟨a3, c3, rfl, q3⟩, b3⟩
  have P3 := mkHid (P2.out.on b3)
  have Q3 := mkHid q3
  have B3 := mkHid (B2.out.trans (b3.mono B2.out.size))
  clear q3 b3 SQ P2 B2
  have HSL := mkHid (show sz l ≤ 70000 by
    by_cases hE : rE a0 = 0
    · have := (whole_has hE).2.1; rw [HL.out] at this; have := Z0.out; omega
    · have : l = [] := by rw [← HL.out]; unfold rL; rw [if_neg hE]
      rw [this]; simp [sz])
  have hn : (n : Int) ≤ 70000 := by have := sz_len l; have := HN.out; have := HSL.out; omega
  go_wp2
  go_loopw [9, 10] (fun x i wr => ∃ (j : Nat) (y : Int), j ≤ n ∧ i = .int .i64 (j : Int) ∧ x = .int .i64 y ∧ y = (sz (l.take j) : Int) ∧ wr = w3) (fun _ i _ => n - (intOf i).toNat)
  case atStart => exact ⟨0, 0, Nat.zero_le _, rfl, rfl, rfl, rfl⟩
  case round =>
    obtain ⟨j, y, hj, rfl, rfl, hy, rfl⟩ := hrel
    have HY := mkHid hy
    have hy0 : 0 ≤ y := by omega
    have hy1 : y ≤ 70000 := by have := sz_take l j; have := HSL.out; omega
    clear hy
    by_cases hlt : j < n
    · obtain ⟨b, off, p, rfl, hbl, hp, hc⟩ := P3.out.at j (by rw [HN.out]; exact hlt)
      have HS := mkHid (sz_next hp)
      have hd : (p.d.size : Int) ≤ 70000 := by have := sz_take l (j + 1); have := HSL.out; have := HS.out; omega
      obtain ⟨c0, c1, c2, c3⟩ := hc
      obtain ⟨c, t, d⟩ := p
      simp only at *
      clear c3 hp
      go_wp2
      go_roundw
      case rel => exact ⟨j + 1, y + (4 + d.size), by omega, by go_num, by go_num, by have := HY.out; have := HS.out; omega, by first | rfl | trivial⟩
      case measure => simp [intOf]; omega
    · obtain rfl : j = n := by omega
      have hy := HY.out
      rw [← HN.out, List.take_length] at hy
      have HY2 := mkHid hy
      clear hy HY hlt
      by_cases hE : E = 0
      · obtain ⟨g1, g2, g3⟩ := whole_has (s := a0) (by rw [HE.out]; exact hE)
        rw [HL.out] at g1 g2 g3
        have hj0 : ¬ (j : Int) = 0 := by have := HN.out; have := List.length_pos_iff.2 g1; omega
        have hya : ¬ (a0.size : Int) < y := by have := HY2.out; omega
        have hyb : ¬ (255 : Int) < a0.size - y := by have := HY2.out; omega
        have HEE := mkHid hE
        clear g1 g2 g3
        by_cases hF : F = 0
        · by_cases hya2 : y = a0.size
          · by_cases hmm : (65536 : Int) < a0.size + a1.size
            · go_wp2_with fail
              refine (wakes_any _).mono ?_
              rintro e w4 ⟨rfl, b4⟩
              have B4 := mkHid (B3.out.trans (b4.mono B3.out.size))
              clear b4
              go_wp2
              go_ret
              exact ⟨rfl, B4.out⟩
            · have WB := mkHid (whole_both (s := a0) (t := a1) (by rw [HE.out]; exact hE) (by rw [HF.out]; exact hF) (by rw [HL.out]; have := HY2.out; omega) (by omega))
              rw [HL.out, HK.out] at WB
              have SP := mkHid (fun w => split_any (a0 ++ a1) (by rw [ByteArray.size_append]; omega) w)
              unfold SplitPost at SP
              rw [WB.out.1, WB.out.2] at SP
              have HLK := mkHid (show (l ++ k).length = j + m by rw [List.length_append, HN.out, HM.out])
              rw [HLK.out] at SP
              obtain ⟨u, HU⟩ : ∃ u, Hid (a0 ++ a1 = u) := ⟨_, rfl⟩
              have hu := HU.out
              rw [HU.out] at SP
              have hm : (m : Int) ≤ 70000 := by
                have h5 := (whole_has (s := a1) (by rw [HF.out]; exact hF)).2.1
                rw [HK.out] at h5
                have := sz_len k; have := HM.out; have := Z1.out; omega
              go_wp2_with fail
              refine (SP.out _).mono ?_
              rintro e w4 ⟨⟨a4, c4, rfl, r4⟩, b4⟩
              have P4 := mkHid (P3.out.on b4)
              have Q4 := mkHid (Q3.out.on b4)
              have R4 := mkHid r4
              have B4 := mkHid (B3.out.trans (b4.mono B3.out.size))
              clear r4 b4 SP P3 Q3 B3
              have FW := mkHid (few_any a2 c2 l w4 (by rw [HN.out]; omega) P4.out)
              rw [HN.out] at FW
              go_wp2_with fail
              refine (FW.out).mono ?_
              rintro e w5 ⟨a5, c5, rfl, _, o5, b5⟩
              have O5 := mkHid o5
              have S5 := mkHid (pa_src (cap := c3) (Q4.out.on b5))
              have BB5 := mkHid b5
              have B5 := mkHid (B4.out.trans (b5.mono B4.out.size))
              have hz5 : w4.heap.size ≤ w5.heap.size := b5.size
              have hz4 : w.heap.size ≤ w4.heap.size := B4.out.size
              rw [HM.out] at S5
              clear o5 b5 FW
              obtain ⟨i0, hi, hz0, hz1, hz2⟩ := info_parts info40
              have N1 := mkHid (show j + m ≤ maxLen by unfold maxLen; omega)
              have N2 := mkHid (show (j + m) * 32 ≤ 140737488355328 by omega)
              go_wp2_with (at_builtin; (refine wpList_append_want _ (by rfl) (.tmp 100) (.tmp 101) 22 rfl w4.heap.size 40 i0 (.agg #[.int .i64 0, .int .i64 0, .string ⟨#[]⟩]) 3 32 Try.underlying22 hi hz0 hz1 hz2 rfl (by decide) (.slice a5 j c5) j (pC l) rfl O5.out (.slice a3 m c3) m (pC k) rfl S5.out (pC_one k) N1.out N2.out hz5 ?_); intro v6 w6 hown6 hgrow6; have O6 := mkHid hown6; have B6 := mkHid (Below.grown (Below.refl w4.heap.size w5) hgrow6 hz5 (fun k e => (O5.out.lt k e).1)); clear hown6 hgrow6)
              have o6 := O6.out
              rw [← pC_app, ← HLK.out] at o6
              obtain ⟨a6, c6, hv6, q6, _⟩ := own_pa o6 (Nat.le_refl _) (by rw [HLK.out]; exact N1.out) R4.out.sizes
              subst hv6
              have Q6 := mkHid q6
              have R6 := mkHid ((R4.out.kept (BB5.out.trans B6.out)).up (BB5.out.trans B6.out).size)
              have B7 := mkHid (B4.out.trans ((BB5.out.trans B6.out).mono hz4))
              clear o6 q6 O6 O5 S5
              have SM := mkHid (same_any a4 a6 c4 c6 (l ++ k) _ R6.out Q6.out)
              rw [HLK.out] at SM ⊢
              refine (SM.out).mono ?_
              rintro e w7 ⟨rfl, b7⟩
              have B8 := mkHid (B7.out.trans (b7.mono B7.out.size))
              clear b7 SM
              go_wp2_with fail
              refine (wakes_any _).mono ?_
              rintro e w8 ⟨rfl, b8⟩
              have B9 := mkHid (B8.out.trans (b8.mono B8.out.size))
              clear b8
              go_wp2
              go_ret
              exact ⟨rfl, B9.out⟩
          · go_wp2_with fail
            refine (wakes_any _).mono ?_
            rintro e w4 ⟨rfl, b4⟩
            have B4 := mkHid (B3.out.trans (b4.mono B3.out.size))
            clear b4
            go_wp2
            go_ret
            exact ⟨rfl, B4.out⟩
        · go_wp2_with fail
          refine (wakes_any _).mono ?_
          rintro e w4 ⟨rfl, b4⟩
          have B4 := mkHid (B3.out.trans (b4.mono B3.out.size))
          clear b4
          go_wp2
          go_ret
          exact ⟨rfl, B4.out⟩
      · go_wp2_with fail
        refine (wakes_any _).mono ?_
        rintro e w4 ⟨rfl, b4⟩
        have B4 := mkHid (B3.out.trans (b4.mono B3.out.size))
        clear b4
        go_wp2
        go_ret
        exact ⟨rfl, B4.out⟩

set_option maxRecDepth 100000 in
theorem lifted (os : Os) (started : os.Started) (H : Type) (enc : TypeId × Value → H) :
    ReturnsInHanded {} Try.checked os 7 .any (Rows.rtcpWholeSpec.pre6 enc Try.prog Try.f7 Rows.rtcpWholeRow.domain false) (Rows.rtcpWholeSpec.post enc Try.prog Try.f7 false true false false) := by
  refine returnsInHanded_of_change (C := Try.checked) own started (by kernel_rfl) Try.func7
    (ChangeSpec.witness6 (enc := enc) (C := Try.checked) false ⟨#[], #[.string ByteArray.empty, .string ByteArray.empty], []⟩ 8 (by kernel_rfl) (by kernel_rfl) (by kernel_rfl) (by kernel_rfl)) ?_
  intro W base args ds gs before hval0 hW hcnd _
  have hval : ∀ (j : Nat) t v, Try.f7.params[j]? = some t → args[j]? = some v → Value.okWide Try.prog W .any base t v := hval0
  have hW' := hW
  obtain ⟨p, q, hA0, hV, rfl, hfz, hnd⟩ := hW
  have hA : DataW.TrodAll enc Try.prog W 0 (fun _ => true) true Try.f7.params.toList args.toList ds p := hA0
  rw [Try.params7] at hA hval
  obtain ⟨v0, vs0, d0, ds0, p0, q0, hargs, rfl, rfl, h0, r0⟩ := trodAll_cons hA
  obtain ⟨v1, vs1, d1, ds1, p1, q1, rfl, rfl, rfl, h1, r1⟩ := trodAll_cons r0
  obtain ⟨rfl, rfl, rfl⟩ := trodAll_nil r1
  obtain rfl : args = #[v0, v1] := by cases args; simp_all
  obtain ⟨rfl, rfl⟩ := trodVars_none hV
  obtain ⟨a0, rfl, rfl, rfl, w0⟩ := open_string Try.underlying9 (hval 0 9 v0 rfl rfl) h0
  obtain ⟨a1, rfl, rfl, rfl, w1⟩ := open_string Try.underlying9 (hval 1 9 v1 rfl rfl) h1
  clear hA0 hval0
  refine (walk a0 a1 W w0 w1).mono fun e W' ⟨he, bel⟩ => ?_
  subst he
  exact ⟨_, rfl, _, _, _, [], _, [], hW', trodAll_mk1 (shut_bool Try.underlying4 _), (trodAll_cons_mk (shut_string Try.underlying9 w0) (trodAll_cons_mk (shut_string Try.underlying9 w1) trodAll_mk0)), rfl, bel.frame _, fun h => by cases h⟩

theorem over : Rows.rtcpWholeRow.holds Try.pinned (OpenSpec.ofChange Rows.rtcpWholeSpec) :=
  OpenClaim.holds_of_wide 7 Try.f7 rfl rfl rfl rfl rfl rfl rfl ⟨rfl, rfl, rfl, rfl, rfl⟩ rfl rfl rfl rfl rfl (by kernel_rfl) Try.func7 (by kernel_rfl)
    (of_decide_eq_true (by kernel_rfl)) (by unfold Func.isWrapper; first | (rw [if_pos (by decide +kernel)]; kernel_rfl) | (rw [if_neg (by decide +kernel)]; exact ⟨rfl, rfl⟩))
    (fun os started H enc _ => lifted os started H enc)
end Go.Proofs.Ythapkeokgpnjgaa.rtcpWhole
namespace Go.Proofs.Ythapkeokgpnjgaa
/-- The statement. -/
theorem rtcpWhole_holds : Rows.RtcpWholeSaid := rtcpWhole.over
#print axioms rtcpWhole_holds
end Go.Proofs.Ythapkeokgpnjgaa
