/-
  RtcpPads: a last part that is padded tells the same without what pads.
-/
import Derived.Test.YthapkeokgpnjgaaRows
import Derived.WalkKit
import Derived.ProofKit
import Derived.OpenShut
import Derived.ShutString
import Derived.ChangeOld
import Derived.Below
import Derived.Deep.Slices
import Derived.Test.YthapkeokgpnjgaaRcZ
import Derived.Test.YthapkeokgpnjgaaRcO
namespace Go.Proofs.Ythapkeokgpnjgaa.rtcpPads
open Go.ChangeShapes Go.WideShapes Go.ChangeAt Go.RowKit
open Go.ChangeMaps (open_string shut_string)
set_option linter.unusedVariables false

theorem own : ownKnob Try.prog.godebug = none := by kernel_rfl
theorem laidOut : laidOutB Try.prog = true := by kernel_rfl

theorem open0 {H : Type} {enc : TypeId × Value → H} {W : World} {a : Option Addr} {len cap : Nat} {d : DataW H} {p : List MemPlace}
    (h : DataW.Trod enc Try.prog W 0 (fun _ => true) true 22 (.slice a len cap) d p) : ∃ l : List Pt, l.length = len ∧ PA W.heap.size W a l := open_parts h
theorem or32 (c : Nat) (h : c ≤ 31) : bits .or .u8 (128 + (c : Int)) 32 = 160 + (c : Int) := by
  have h1 : ∀ c : Fin 32, ((128 + c.val) ||| 32) = 160 + c.val := by decide
  have h2 := h1 ⟨c, by omega⟩
  simp only at h2
  have := u8_or_nat (128 + c) 32 (by omega) (by decide)
  rw [h2] at this
  exact this
theorem q_bd (x : Int) : ∃ r : Int, (IntKind.u64.wrap x).tmod 8 = r ∧ 0 ≤ r ∧ r < 8 := by
  refine ⟨_, rfl, ?_, ?_⟩
  · rw [IntKind.wrap_u64, Int.tmod_eq_emod_of_nonneg (by omega)]; omega
  · rw [IntKind.wrap_u64, Int.tmod_eq_emod_of_nonneg (by omega)]; omega
set_option maxRecDepth 100000 in
set_option maxHeartbeats 1000000 in
theorem walk (a0 : Option Addr) (len0 cap0 : Nat) (a1 : Int) (w : World) (w0 : ∃ l : List Pt, l.length = len0 ∧ PA w.heap.size w a0 l) (w1 : (Lit.int .i64 a1).wf = true) : Calls Try.prog 6 #[.slice a0 len0 cap0, .int .i64 a1] w fun e w' => e = .returned (.bool true) ∧ Below w.heap.size w w' := by
  obtain ⟨l, rfl, hp⟩ := w0
  have P0 := mkHid hp
  have hm0 := hp.1
  unfold maxLen at hm0
  clear hp w1
  obtain ⟨n, HN⟩ : ∃ n, Hid (l.length = n) := ⟨_, rfl⟩
  have LG := mkHid (large_any a0 cap0 l w P0.out)
  rw [HN.out] at LG hm0 ⊢
  have hn0 : (n : Int) ≤ 9223372036854775807 := by omega
  clear hm0
  go_enter Try.func6, Try.ntmps6
  go_wp2_with fail
  refine (LG.out).mono ?_
  rintro e w2 ⟨⟨g, rfl, hg⟩, rfl⟩
  clear LG
  cases g with
  | true =>
    clear hg
    go_wp2_with fail
    refine (wakes_any _).mono ?_
    rintro e w2 ⟨rfl, p2⟩
    have B2 := mkHid p2
    clear p2
    go_wp2
    go_ret
    exact ⟨rfl, B2.out⟩
  | false =>
    obtain ⟨l1, l2⟩ := hg rfl
    have L1 := mkHid l1
    have L2 := mkHid l2
    clear hg l1 l2
    by_cases hn : (n : Int) = 0
    · go_wp2_with fail
      refine (wakes_any _).mono ?_
      rintro e w3 ⟨rfl, p2⟩
      have B2 := mkHid p2
      clear p2
      go_wp2
      go_ret
      exact ⟨rfl, B2.out⟩
    · have FW := mkHid (few_any a0 cap0 l w2 (by have := L1.out; omega) P0.out)
      rw [HN.out] at FW
      go_wp2_with fail
      refine (FW.out).mono ?_
      rintro e w3 ⟨a', c', rfl, p3, _, b3⟩
      have P3 := mkHid p3
      have B3 := mkHid b3
      have Q3 := mkHid (P0.out.on b3)
      clear p3 b3 FW
      have JN := mkHid (join_any a' c' l (by have := L2.out; omega) _ P3.out)
      rw [HN.out] at JN
      obtain ⟨S, HS⟩ : ∃ S, Hid (jS l = S) := ⟨_, rfl⟩
      obtain ⟨E, HE⟩ : ∃ E, Hid (jE l = E) := ⟨_, rfl⟩
      rw [HS.out, HE.out] at JN
      go_wp2_with fail
      refine (JN.out).mono ?_
      rintro e w4 ⟨rfl, b4⟩
      have Q4 := mkHid (Q3.out.on b4)
      have B4 := mkHid (B3.out.trans (b4.mono B3.out.size))
      clear b4 JN P3 Q3 B3
      obtain ⟨r, hr, hr0, hr1⟩ := q_bd a1
      have hnn : 0 < n := by omega
      obtain ⟨ab, off, p, rfl, hbl, hp, hc⟩ := Q4.out.at (n - 1) (by rw [HN.out]; omega)
      have hi1 : (n : Int) - 1 = ((n - 1 : Nat) : Int) := by omega
      have hi2 : ((n - 1 : Nat) : Int) < n := by omega
      obtain ⟨c0, c1, c2, c3⟩ := hc
      have hdz := sz_next hp
      have hdz2 := sz_take l (n - 1 + 1)
      have hdm : (p.d.size : Int) ≤ 601200 := by have := L2.out; omega
      have HP := mkHid hp
      obtain ⟨pc, pt, d⟩ := p
      simp only at *
      clear c3 hp hdz hdz2
      obtain ⟨K, eK⟩ : ∃ K : Nat, 4 * (1 + r) = (K : Int) := ⟨(4 * (1 + r)).toNat, by omega⟩
      have hK0 : (4 : Int) ≤ K := by omega
      have hK1 : (K : Int) ≤ 32 := by omega
      have HK4 := mkHid (show K % 4 = 0 by omega)
      obtain ⟨bx, HBX⟩ : ∃ bx, Hid (w4.heap.size = bx) := ⟨_, rfl⟩
      have BA := mkHid (B4.out.alloc B4.out.size (.cells #[.int .i64 pc, .int .i64 pt, .string d] 40))
      by_cases hE : E = 0
      · obtain ⟨j1, j2, j3⟩ := jE_zero (l := l) (by rw [HE.out]; exact hE)
        have HSB := mkHid (show S = bA l by rw [← HS.out, jS_is (by rw [HE.out]; exact hE)])
        have hSz : S.size = sz l := by rw [HSB.out, bA_size]
        have hS1 : (S.size : Int) ≤ 65536 := by omega
        by_cases h5 : (262140 : Int) < d.size + K
        · go_wp2_with fail
          refine (wakes_any _).mono ?_
          rintro e w5 ⟨rfl, b5⟩
          have B5 := mkHid (BA.out.trans (b5.mono BA.out.size))
          clear b5
          go_wp2
          go_ret
          exact ⟨rfl, B5.out⟩
        by_cases h6 : (65536 : Int) < S.size + K
        · go_wp2_with fail
          refine (wakes_any _).mono ?_
          rintro e w5 ⟨rfl, b5⟩
          have B5 := mkHid (BA.out.trans (b5.mono BA.out.size))
          clear b5
          go_wp2
          go_ret
          exact ⟨rfl, B5.out⟩
        obtain ⟨k, HKK⟩ : ∃ k, Hid (l.take (n - 1) = k) := ⟨_, rfl⟩
        have hlk : l = k ++ [⟨pc, pt, d⟩] := by
          have := take_next HP.out
          rw [show n - 1 + 1 = l.length by rw [HN.out]; omega, List.take_length, HKK.out] at this
          exact this
        have HLK := mkHid hlk
        have hok := allOk_iff.1 j2 ⟨pc, pt, d⟩ (by rw [hlk]; simp)
        obtain ⟨o0, o1, o2, o3, o4, o5⟩ := Pt.ok_iff.1 hok
        simp only at o0 o1 o2 o3 o4 o5
        obtain ⟨c, rfl⟩ : ∃ c : Nat, pc = c := ⟨pc.toNat, by omega⟩
        obtain ⟨A, HA⟩ : ∃ A, Hid ((mb k).length = A) := ⟨_, rfl⟩
        have hSA : S.size = A + (4 + d.size) := by rw [hSz, hlk, sz_app, ← mb_len, HA.out]; simp [sz]
        have PB := mkHid (pad_back (k := k) (p := ⟨c, pt, d⟩) (by rw [← hlk]; exact j2) K (by omega) (by omega) HK4.out (by show d.size + K ≤ 262140; omega) (by rw [← hlk]; omega))
        rw [← HLK.out] at PB
        have SP := mkHid (fun w => split_any ⟨(mb k ++ padB ⟨c, pt, d⟩ K).toArray⟩ (by rw [ba_size, List.length_append, HA.out]; simp only [padB, List.length_cons, List.length_append, pads_len K (show 0 < K by omega), toList_len]; omega) w)
        unfold SplitPost at SP
        rw [PB.out.1, PB.out.2, HN.out] at SP
        obtain ⟨R, HR⟩ : ∃ R, Hid ((⟨(mb k ++ padB ⟨c, pt, d⟩ K).toArray⟩ : ByteArray) = R) := ⟨_, rfl⟩
        rw [HR.out] at SP
        have eat : (S.size : Int) - d.size - 4 = (A : Int) := by omega
        have elt : ¬ (S.size : Int) < d.size + 4 := by omega
        have HSA := mkHid hSA
        have bl0 := (Below.refl w4.heap.size w4).alloc (Nat.le_refl _) (.cells #[.int .i64 (c : Int), .int .i64 pt, .string d] 40)
        have S5 := mkHid (show St w2 (w4.alloc (.cells #[.int .i64 (c : Int), .int .i64 pt, .string d] 40)) bx c pt d (some ⟨ab, off, none⟩) l from ⟨by rw [← HBX.out]; exact heap_alloc_new w4 _, by rw [← HBX.out]; exact Q4.out.kept bl0, BA.out, by rw [← HBX.out]; exact B4.out.size⟩)
        have Z5 := mkHid (show (w4.alloc (.cells #[.int .i64 (c : Int), .int .i64 pt, .string d] 40)).heap.size = bx + 1 by rw [← HBX.out]; simp)
        have R6 := Row.made (w4.alloc (.cells #[.int .i64 (c : Int), .int .i64 pt, .string d] 40)) K
        have S6 := S5.out.next ((Below.refl _ _).alloc (by rw [Z5.out]; exact Nat.le_refl _) (.cells (Array.replicate K (ub 0)) 5))
        rw [Z5.out] at R6
        have hmk := mk_pad K (by omega)
        clear j1 j2 j3 hSz hlk hok o0 o2 o3 o4 o5 hSA B4 Q4 bl0
        go_upto_region 11 with fail
        rw [HBX.out]
        obtain ⟨W6, HW6⟩ : ∃ W6, Hid (((w4.alloc (.cells #[.int .i64 (c : Int), .int .i64 pt, .string d] 40)).alloc (.cells (Array.replicate K (ub 0)) 5)) = W6) := ⟨_, rfl⟩
        rw [HW6.out] at R6 S6 ⊢
        clear hmk S5 Z5 c0 c1 c2 BA HW6
        have hK2 : (K : Int) - 1 = ((K - 1 : Nat) : Int) := by omega
        have hK3 : ((K - 1 : Nat) : Int) < K := by omega
        obtain ⟨x6, y6⟩ := R6.2 (K - 1) (by simp; omega)
        have R7 := mkHid (R6.set (K - 1) (UInt8.ofNat K) (x := .int .u8 (K : Int)) (ub_eq (by omega)))
        rw [pad_set K (by omega)] at R7
        have S7 := mkHid (S6.next ((Below.refl (bx + 1) W6).setCell (p := ⟨bx + 1, K - 1, none⟩) (Nat.le_refl _) (.int .u8 (K : Int))))
        clear S6 R6
        go_upto_region 12 with fail
        obtain ⟨W7, HW7⟩ : ∃ W7, Hid (W6.setCell ⟨bx + 1, K - 1, none⟩ (.int .u8 (K : Int)) = W7) := ⟨_, rfl⟩
        rw [HW7.out] at R7 S7 ⊢
        clear x6 y6
        have hcv := R7.out.conv K
        rw [pads_len K (by omega)] at hcv
        have hPs : (⟨(pads K).toArray⟩ : ByteArray).size = K := by rw [ba_size (pads K), pads_len K (by omega)]
        obtain ⟨PS, HPS⟩ : ∃ PS, Hid ((⟨(pads K).toArray⟩ : ByteArray) = PS) := ⟨_, rfl⟩
        rw [HPS.out] at hcv hPs
        obtain ⟨T, hT⟩ : ∃ T, S ++ PS = T := ⟨_, rfl⟩
        have HT := mkHid hT
        have hsb := sb_run W7 T
        obtain ⟨g, HG⟩ : ∃ g, Hid (W7.heap.size = g) := ⟨_, rfl⟩
        have hTs : T.size = A + (4 + d.size) + K := by rw [← hT, ByteArray.size_append, HSA.out, hPs]
        have R8 := mkHid (sb_row W7 T)
        have B8 := sb_below W7 T (bx + 1) S7.out.lt
        have S8 := mkHid (S7.out.next B8)
        rw [HG.out] at hsb R8
        obtain ⟨gc, HGC⟩ : ∃ gc, Hid (grownCap W7 T.size 0 5 = gc) := ⟨_, rfl⟩
        rw [HGC.out] at hsb
        obtain ⟨W8, HW8⟩ : ∃ W8, Hid (Lib.bytesWorld W7 5 T = W8) := ⟨_, rfl⟩
        rw [HW8.out] at hsb R8 S8
        have hgb : bx + 1 ≤ g := by rw [← HG.out]; exact S7.out.lt
        clear B8
        have HTL := mkHid (show T.data.toList = mb (k ++ [⟨c, pt, d⟩]) ++ pads K by
          rw [← hT, HSB.out, HLK.out, ← HPS.out]
          simp [bA])
        go_upto_region 13 with fail
        clear hsb hcv
        obtain ⟨m, HM⟩ : ∃ m, Hid (A + (4 + d.size) + K = m) := ⟨_, rfl⟩
        rw [HM.out] at hTs ⊢
        have HTS := mkHid hTs
        have hm1 : (A : Int) + 3 < m := by have := HM.out; omega
        have hm2 : (m : Int) ≤ 1000000 := by have := HM.out; have := HSA.out; omega
        clear hTs hT HW7 HW8 S7 R7
        obtain ⟨c0, c1, c2, f0, f1, f2⟩ := cells3 S8.out.n
        obtain ⟨q, hq⟩ : ∃ q : Nat, ((d.size : Int) + K) / 4 = (q : Int) := ⟨(d.size + K) / 4, by omega⟩
        have hq1 : (q : Int) < 65536 := by omega
        have HQ := mkHid (show (d.size + K) / 4 = q by omega)
        have hAl : A < T.data.toList.length := by rw [toList_len, HTS.out]; omega
        obtain ⟨x8, y8⟩ := R8.out.2 A hAl
        have hx8 : ub (T.data.toList[A]) = .int .u8 (128 + (c : Int)) := by
          have e1 : T.data.toList[A]? = some (UInt8.ofNat (128 + c)) := by
            rw [HTL.out, mb_app, List.append_assoc, List.getElem?_append_right (by rw [HA.out]; exact Nat.le_refl _), HA.out, Nat.sub_self]
            simp [mb, pb, ph]
          rw [List.getElem?_eq_getElem hAl, Option.some.injEq] at e1
          rw [e1]
          unfold ub
          rw [UInt8.toNat_ofNat']
          congr 1
          omega
        rw [hx8] at x8
        have hor := or32 c (by omega)
        have hA0 : (A : Int) < m := by omega
        have R9 := R8.out.set A (UInt8.ofNat (160 + c)) (x := .int .u8 (160 + (c : Int))) (ub_eq (by omega))
        have S9 := mkHid (S8.out.next ((Below.refl (bx + 1) W8).setCell (p := ⟨g, A, none⟩) hgb (.int .u8 (160 + (c : Int)))))
        clear hx8
        go_upto_region 16 with fail
        rw [hq]
        obtain ⟨W9, HW9⟩ : ∃ W9, Hid (W8.setCell ⟨g, A, none⟩ (.int .u8 (160 + (c : Int))) = W9) := ⟨_, rfl⟩
        rw [HW9.out] at R9 S9 ⊢
        have R9 := mkHid R9
        clear hq x8 y8 hor c0 c1 c2 f0 f1 f2 R8 S8
        have hl2 : A + 2 < (T.data.toList.set A (UInt8.ofNat (160 + c))).length := by rw [List.length_set, toList_len, HTS.out]; omega
        have hl3 : A + 3 < (T.data.toList.set A (UInt8.ofNat (160 + c))).length := by rw [List.length_set, toList_len, HTS.out]; omega
        obtain ⟨x9, y9⟩ := R9.out.2 (A + 2) hl2
        obtain ⟨z9, v9⟩ := R9.out.2 (A + 3) hl3
        have k20 : (0 : Int) ≤ (A : Int) + 2 := by omega
        have k21 : (A : Int) + 2 < m := by omega
        have k30 : (0 : Int) ≤ (A : Int) + 3 := by omega
        obtain ⟨u2, hu2⟩ : ∃ u, ub ((T.data.toList.set A (UInt8.ofNat (160 + c)))[A + 2]) = u := ⟨_, rfl⟩
        obtain ⟨u3, hu3⟩ : ∃ u, ub ((T.data.toList.set A (UInt8.ofNat (160 + c)))[A + 3]) = u := ⟨_, rfl⟩
        rw [hu2] at x9
        rw [hu3] at z9
        clear hl2 hl3 hu2 hu3
        have R10 := (R9.out.set (A + 2) (UInt8.ofNat (q / 256)) (x := .int .u8 ((q : Int) / 256)) (ub_eq (by omega))).set (A + 3) (UInt8.ofNat q) (x := .int .u8 ((q : Int) % 256)) (ub_eq (by omega))
        have S10 := mkHid (S9.out.next (((Below.refl (bx + 1) W9).setCell (p := ⟨g, A + 2, none⟩) hgb (.int .u8 ((q : Int) / 256))).setCell (p := ⟨g, A + 3, none⟩) hgb (.int .u8 ((q : Int) % 256))))
        have hcv := R10.conv gc
        have htl := turn_last k ⟨c, pt, d⟩ K
        rw [HA.out] at htl
        simp only [Int.toNat_natCast] at htl
        rw [HQ.out] at htl
        have hlen : (((T.data.toList.set A (UInt8.ofNat (160 + c))).set (A + 2) (UInt8.ofNat (q / 256))).set (A + 3) (UInt8.ofNat q)).length = m := by
          rw [List.length_set, List.length_set, List.length_set, toList_len, HTS.out]
        rw [hlen, HTL.out, htl, HR.out] at hcv
        have HCV := mkHid hcv
        clear R10 hcv htl hlen R9 S9
        go_upto_region 17 with fail
        have hcv := HCV.out
        obtain ⟨W10, HW10⟩ : ∃ W10, Hid ((W9.setCell ⟨g, A + 2, none⟩ (.int .u8 ((q : Int) / 256))).setCell ⟨g, A + 3, none⟩ (.int .u8 ((q : Int) % 256)) = W10) := ⟨_, rfl⟩
        rw [HW10.out] at hcv S10 ⊢
        clear x9 y9 z9 v9 HCV
        have Q10 := mkHid (S10.out.q.up (Nat.le_of_lt S10.out.lt))
        have B10 := mkHid S10.out.b
        go_wp2_with fail
        refine (SP.out _).mono ?_
        rintro e w11 ⟨⟨a11, c11, rfl, p11⟩, b11⟩
        have P11 := mkHid p11
        have Q11 := mkHid (Q10.out.on b11)
        have B11 := mkHid (B10.out.trans (b11.mono B10.out.size))
        clear p11 b11 SP
        have SM := mkHid (same_any a11 (some ⟨ab, off, none⟩) c11 cap0 l _ P11.out Q11.out)
        rw [HN.out] at SM
        go_wp2_with fail
        refine (SM.out).mono ?_
        rintro e w12 ⟨rfl, b12⟩
        have B12 := mkHid (B11.out.trans (b12.mono B11.out.size))
        clear b12 SM
        go_wp2_with fail
        refine (wakes_any _).mono ?_
        rintro e w13 ⟨rfl, b13⟩
        have B13 := mkHid (B12.out.trans (b13.mono B12.out.size))
        clear b13
        go_wp2
        go_ret
        exact ⟨rfl, B13.out⟩
      · go_wp2_with fail
        refine (wakes_any _).mono ?_
        rintro e w5 ⟨rfl, b5⟩
        have B5 := mkHid (BA.out.trans (b5.mono BA.out.size))
        clear b5
        go_wp2
        go_ret
        exact ⟨rfl, B5.out⟩

set_option maxRecDepth 100000 in
theorem lifted (os : Os) (started : os.Started) (H : Type) (enc : TypeId × Value → H) :
    ReturnsInHanded {} Try.checked os 6 .any (Rows.rtcpPadsSpec.pre6 enc Try.prog Try.f6 Rows.rtcpPadsRow.domain false) (Rows.rtcpPadsSpec.post enc Try.prog Try.f6 false true false false) := by
  refine returnsInHanded_of_change (C := Try.checked) own started (by kernel_rfl) Try.func6
    (ChangeSpec.witness6 (enc := enc) (C := Try.checked) false ⟨#[], #[.slice none 0 0, .int .i64 0], []⟩ 8 (by kernel_rfl) (by kernel_rfl) (by kernel_rfl) (by kernel_rfl)) ?_
  intro W base args ds gs before hval0 hW hcnd _
  have hval : ∀ (j : Nat) t v, Try.f6.params[j]? = some t → args[j]? = some v → Value.okWide Try.prog W .any base t v := hval0
  have hW' := hW
  obtain ⟨p, q, hA0, hV, rfl, hfz, hnd⟩ := hW
  have hA : DataW.TrodAll enc Try.prog W 0 (fun _ => true) true Try.f6.params.toList args.toList ds p := hA0
  rw [Try.params6] at hA hval
  obtain ⟨v0, vs0, d0, ds0, p0, q0, hargs, rfl, rfl, h0, r0⟩ := trodAll_cons hA
  obtain ⟨v1, vs1, d1, ds1, p1, q1, rfl, rfl, rfl, h1, r1⟩ := trodAll_cons r0
  obtain ⟨rfl, rfl, rfl⟩ := trodAll_nil r1
  obtain rfl : args = #[v0, v1] := by cases args; simp_all
  obtain ⟨rfl, rfl⟩ := trodVars_none hV
  obtain ⟨a0, len0, cap0, rfl⟩ := okWide_slice Try.underlying22 (hval 0 22 v0 rfl rfl)
  have k0 := h0
  have lt0 : ∀ x ∈ p0, x.block < W.heap.size := by obtain ⟨m, hm⟩ := k0; exact DataW.trod_lt m _ _ _ hm
  have w0 := open0 h0
  obtain ⟨a1, rfl, rfl, rfl, w1⟩ := open_int Try.underlying3 (hval 1 3 v1 rfl rfl) h1
  clear hA0 hval0
  refine (walk a0 len0 cap0 a1 W w0 w1).mono fun e W' ⟨he, bel⟩ => ?_
  subst he
  exact ⟨_, rfl, _, _, _, [], _, [], hW', trodAll_mk1 (shut_bool Try.underlying4 _), (trodAll_cons_mk (Below.trod laidOut (by kernel_rfl) (of_decide_eq_true (by kernel_rfl)) k0 bel lt0) (trodAll_cons_mk (shut_int Try.underlying3 w1) trodAll_mk0)), rfl, bel.frame _, fun h => by cases h⟩

theorem over : Rows.rtcpPadsRow.holds Try.pinned (OpenSpec.ofChange Rows.rtcpPadsSpec) :=
  OpenClaim.holds_of_wide 6 Try.f6 rfl rfl rfl rfl rfl rfl rfl ⟨rfl, rfl, rfl, rfl, rfl⟩ rfl rfl rfl rfl rfl (by kernel_rfl) Try.func6 (by kernel_rfl)
    (of_decide_eq_true (by kernel_rfl)) (by unfold Func.isWrapper; first | (rw [if_pos (by decide +kernel)]; kernel_rfl) | (rw [if_neg (by decide +kernel)]; exact ⟨rfl, rfl⟩))
    (fun os started H enc _ => lifted os started H enc)
end Go.Proofs.Ythapkeokgpnjgaa.rtcpPads
namespace Go.Proofs.Ythapkeokgpnjgaa
/-- The statement. -/
theorem rtcpPads_holds : Rows.RtcpPadsSaid := rtcpPads.over
#print axioms rtcpPads_holds
end Go.Proofs.Ythapkeokgpnjgaa
