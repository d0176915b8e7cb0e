/-
  FeedOthers: a message of other parts alone is no feedback; among them feedback tells what it tells alone.
-/
import Derived.Test.YtdhbakknplnnkaaGreatRows
import Derived.WalkKit
import Derived.ProofKit
import Derived.OpenShut
import Derived.ShutString
import Derived.ChangeOld
import Derived.Below
import Derived.Deep.Slices
import Derived.Test.YtdhbakknplnnkaaGreatFdZ
import Derived.Test.YtdhbakknplnnkaaGreatRc4
import Derived.Test.YtdhbakknplnnkaaGreatNk2
import Derived.Deep.DeepCutAuto
namespace Go.Proofs.YtdhbakknplnnkaaGreat.feedOthers
open Go.ChangeShapes Go.WideShapes Go.ChangeAt Go.RowKit
open Go.ChangeMaps (open_string shut_string)
set_option linter.unusedVariables false

theorem own : ownKnob Tryz.prog.godebug = none := by kernel_rfl
theorem laidOut : laidOutB Tryz.prog = true := by kernel_rfl

open Go.Proofs.YtdhbakknplnnkaaGreat.Fd Go.Proofs.YtdhbakknplnnkaaGreat.Nk
set_option maxRecDepth 100000 in
set_option maxHeartbeats 8000000 in
theorem walk (a0 : ByteArray) (a1 : Int) (a2 : Int) (w : World) (w0 : a0.size ≤ maxLen) (w1 : (Lit.int .i64 a1).wf = true) (w2 : (Lit.int .u8 a2).wf = true) : Calls Tryz.prog 6 #[.string a0, .int .i64 a1, .int .u8 a2] w fun e w' => e = .returned (.bool true) ∧ Below w.heap.size w w' := by
  have hw0 : (a0.size : Int) ≤ 9223372036854775807 := by unfold maxLen at w0; omega
  obtain ⟨y0, y1⟩ := bounds_u8 w2
  clear w0 w1 w2
  by_cases h7 : (30000 : Int) < a0.size
  · go_enter Tryz.func6, Tryz.ntmps6
    go_wp2_with fail
    refine (Fd.wakes_any _).mono ?_
    rintro e w9 ⟨rfl, p9⟩
    go_wp2
    go_ret
    exact ⟨rfl, p9⟩
  · have SP := mkHid (Rc.rsplit_any a0 (by omega))
    have HZ0 := mkHid (show a0.size ≤ 30000 by omega)
    obtain ⟨c, HC⟩ : ∃ c, Hid (a2 % 32 = c) := ⟨_, rfl⟩
    obtain ⟨t, HT⟩ : ∃ c, Hid (200 + a2 % 5 = c) := ⟨_, rfl⟩
    have c0 : 0 ≤ c := by have := HC.out; omega
    have c1 : c ≤ 31 := by have := HC.out; omega
    have t0 : 200 ≤ t := by have := HT.out; omega
    have t1 : t ≤ 204 := by have := HT.out; omega
    go_enter Tryz.func6, Tryz.ntmps6
    go_wp2_with fail
    refine (SP.out _).mono ?_
    rintro e w1 ⟨⟨a, cp, rfl, pa⟩, b1⟩
    have PA1 := mkHid pa
    have K1 := mkHid b1
    clear pa b1 SP
    obtain ⟨SD, HSD⟩ : ∃ d : ByteArray, Hid ((⟨#[97, 98, 99, 100]⟩ : ByteArray) = d) := ⟨_, rfl⟩
    have hsd : SD.size = 4 := by rw [← HSD.out]; rfl
    have HOK := mkHid (pt_ok (c := c) (t := t) (d := SD) c0 c1 (by omega) (by omega) hsd)
    have HJ := mkHid (oo_join HOK.out hsd)
    have HAL := mkHid (fun near => o_alone (o := ⟨c, t, SD⟩) (by show ¬ t = 205; omega) HJ.out near)
    have HAM := mkHid (fun (h : Rc.rE a0 = 0) near => o_among (o := ⟨c, t, SD⟩) (by show ¬ t = 205; omega) h (olo_join HOK.out hsd h HZ0.out) near)
    have HJ2 := mkHid (fun (h : Rc.rE a0 = 0) => olo_join HOK.out hsd h HZ0.out)
    have hml : SD.size ≤ maxLen := by rw [hsd]; unfold maxLen; omega
    go_upto_region 5 with fail
    rw [HC.out, HT.out, HSD.out]
    have E2 := mkHid (heap_alloc_new w1 (.cells #[.int .i64 c, .int .i64 t, .string SD] 56))
    have B2 := mkHid (al_below w1 (.cells #[.int .i64 c, .int .i64 t, .string SD] 56))
    have K2 := mkHid (K1.out.trans (B2.out.mono K1.out.size))
    have PA2 := mkHid ((PA1.out.kept B2.out).up B2.out.size)
    obtain ⟨bo, HBO⟩ : ∃ b, Hid (w1.heap.size = b) := ⟨_, rfl⟩
    obtain ⟨W2, HW2⟩ : ∃ W, Hid (w1.alloc (.cells #[.int .i64 c, .int .i64 t, .string SD] 56) = W) := ⟨_, rfl⟩
    rw [HW2.out] at PA2 K2
    rw [HW2.out, HBO.out] at E2
    rw [HW2.out, HBO.out]
    clear PA1 K1 B2
    obtain ⟨o0, o1, o2, -⟩ := cells3 E2.out
    have JC := mkHid (Rc.rjoin_any (some ⟨W2.heap.size, 0, none⟩) 2 [⟨c, t, SD⟩, ⟨c, t, SD⟩] (by simp) (by simp only [Rc.sz]; omega) _ (pa_two W2 ⟨c, t, SD⟩ hml))
    rw [HJ.out] at JC
    obtain ⟨T, HTT⟩ : ∃ T, Hid (Rc.jS [⟨c, t, SD⟩, ⟨c, t, SD⟩] = T) := ⟨_, rfl⟩
    rw [HTT.out] at JC HAL
    have HTZ := mkHid (show T.size ≤ 1000000 by rw [← HTT.out]; exact Nat.le_trans (Rc.rE_zero (Rc.back HJ.out).1).1 (by decide))
    go_wp2_with fail
    refine (JC.out).mono ?_
    rintro e w3 ⟨rfl, b3⟩
    have B3 := mkHid ((al_below W2 (.cells #[.int .i64 c, .int .i64 t, .string SD, .int .i64 c, .int .i64 t, .string SD] 56)).trans (b3.mono (by simp)))
    have E3 := mkHid ((below_apart B3.out).heap E2.out (fun h => h))
    have K3 := mkHid (K2.out.trans (B3.out.mono K2.out.size))
    have PA3 := mkHid ((PA2.out.kept B3.out).up B3.out.size)
    clear b3 B3 E2 K2 PA2 o0 o1 o2 JC
    have RT := mkHid (Fd.read_any T HTZ.out a1)
    unfold RdPost fv at RT
    rw [HAL.out] at RT
    go_wp2_with fail
    refine (RT.out _).mono ?_
    rintro e w4 ⟨⟨a4, c4, a4', c4', rfl, -, -⟩, b4⟩
    have B4 := mkHid (b4.trans ((al_below w4 (.cells #[.slice a4 (fdR T a1).length c4, .slice a4' (fdA T a1).length c4'] 26)).mono b4.size))
    have E4 := mkHid ((below_apart B4.out).heap E3.out (fun h => h))
    have K4 := mkHid (K3.out.trans (B4.out.mono K3.out.size))
    have PA4 := mkHid ((PA3.out.kept B4.out).up B4.out.size)
    obtain ⟨W4, HW4⟩ : ∃ W, Hid (w4.alloc (.cells #[.slice a4 (fdR T a1).length c4, .slice a4' (fdA T a1).length c4'] 26) = W) := ⟨_, rfl⟩
    rw [HW4.out] at E4 K4 PA4
    clear b4 B4 E3 K3 PA3 RT
    go_upto_region 9 with fail
    rw [HW4.out]
    by_cases hE : Rc.rE a0 = 0
    · rw [hE]
      have JE := mkHid (HJ2.out hE)
      have HM := mkHid (HAM.out hE a1)
      have hzl := rL_sz a0
      have hll := len_sz (Rc.rL a0)
      obtain ⟨l, HL⟩ : ∃ l, Hid (Rc.rL a0 = l) := ⟨_, rfl⟩
      rw [HL.out] at JE HM PA4 hzl hll ⊢
      obtain ⟨n, HN⟩ : ∃ n, Hid (l.length = n) := ⟨_, rfl⟩
      have hn : n ≤ 30000 := by have := HN.out; have := HZ0.out; omega
      obtain ⟨i0, hi, hz0, hz1, hz2⟩ := info56'
      have OW1 := mkHid (show ((W4.alloc (.cells #[.int .i64 c, .int .i64 t, .string SD] 56)).drew).ownsRow W4.heap.size 56 3 (.slice (some ⟨W4.heap.size, 0, none⟩) 1 1) 1 (Rc.pC [⟨c, t, SD⟩]) from own_part W4 ⟨c, t, SD⟩ W4.heap.size (Nat.le_refl _))
      have PA5 := mkHid (show Rc.PA W4.heap.size ((W4.alloc (.cells #[.int .i64 c, .int .i64 t, .string SD] 56)).drew) a l from PA4.out.kept ((al_below W4 _).drew))
      have SR5 := mkHid (Rc.pa_src (cap := cp) PA5.out)
      have X2 := mkHid (build_two W4 c t SD)
      have PA6 := mkHid (show Rc.PA W4.heap.size (((W4.alloc (.cells #[.int .i64 c, .int .i64 t, .string SD] 56)).alloc (.cells #[.int .i64 c, .int .i64 t, .string SD] 56)).drew) a l from PA4.out.kept X2.out.2.2)
      have SR6 := mkHid (Rc.pa_src (cap := cp) PA6.out)
      rw [HN.out] at SR5 SR6 ⊢
      have JC2 := mkHid (fun (a : Option Addr) (cp : Nat) (w : World) (h : Rc.PA w.heap.size w a (⟨c, t, SD⟩ :: l ++ [⟨c, t, SD⟩])) => Rc.rjoin_any a cp (⟨c, t, SD⟩ :: l ++ [⟨c, t, SD⟩]) (by have := HN.out; simp; omega) (by rw [List.cons_append]; simp only [Rc.sz]; rw [Fd.sz_app]; simp only [Rc.sz]; have := HZ0.out; omega) w h)
      rw [JE.out, show ((⟨c, t, SD⟩ :: l ++ [⟨c, t, SD⟩] : List Rc.Pt)).length = 1 + n + 1 by have := HN.out; simp; omega] at JC2
      obtain ⟨U, HU⟩ : ∃ U, Hid (Rc.jS ((⟨c, t, SD⟩ : Rc.Pt) :: l ++ [(⟨c, t, SD⟩ : Rc.Pt)]) = U) := ⟨_, rfl⟩
      rw [HU.out] at JC2 HM
      obtain ⟨p0, p1, p2, -⟩ := cells3 (T := 56) (show (W4.alloc (.cells #[.int .i64 c, .int .i64 t, .string SD] 56)).drew.heap[bo]? = some (.cells #[.int .i64 c, .int .i64 t, .string SD] 56 (0, 0)) from heap_below (al_below W4 _) E4.out (lt_of_heap E4.out))
      obtain ⟨o0, o1, o2, -⟩ := cells3 (T := 56) (show W4.drew.heap[bo]? = some (.cells #[.int .i64 c, .int .i64 t, .string SD] 56 (0, 0)) from E4.out)
      go_upto_region 11 with fail
      go_cut [14, 15] (fun u k wc => u = .string U ∧ k = .int .i64 0 ∧ Below W4.heap.size W4 wc)
      case first =>
        go_region_law (first
          | (refine step_append_told _ (by kernel_rfl) (.tmp 57) (.tmp 58) 36 (by kernel_rfl) W4.heap.size 56 i0 (.agg #[.int .i64 0, .int .i64 0, .string ByteArray.empty]) 3 32 Tryz.underlying36 hi hz0 hz1 hz2 rfl (by decide) (.slice (some ⟨W4.heap.size, 0, none⟩) 1 1) 1 (Rc.pC [⟨c, t, SD⟩]) (by kernel_rfl) OW1.out (.slice a n cp) n (Rc.pC l) (by kernel_rfl) SR5.out (Rc.pC_one _) (by unfold maxLen; omega) (by omega) (by simp) ?_; intro v5 w5 hown hgr hxx; obtain ⟨ad5, cp5, rfl⟩ := ownsRow_slice hown; have O5 := mkHid hown; have B5 := mkHid (show Below W4.heap.size W4 w5 from grow_below hgr (Nat.le_refl _)); have E5 := mkHid (heap_below B5.out E4.out (lt_of_heap E4.out)); clear hown hgr hxx; obtain ⟨q0, q1, q2, -⟩ := cells3 E5.out)
          | (refine step_append_told _ (by kernel_rfl) (.tmp 57) (.tmp 58) 36 (by kernel_rfl) W4.heap.size 56 i0 (.agg #[.int .i64 0, .int .i64 0, .string ByteArray.empty]) 3 32 Tryz.underlying36 hi hz0 hz1 hz2 rfl (by decide) (.slice (some ⟨W4.heap.size, 0, none⟩) 1 1) 1 (Rc.pC [⟨c, t, SD⟩]) ?_ ?_ (.slice a n cp) n (Rc.pC l) (by kernel_rfl) ?_ (Rc.pC_one _) (by unfold maxLen; omega) (by omega) ?_ ?_; simp [Act.eval]; exact own_at (p := ⟨c, t, SD⟩) X2.out.1 (by omega); exact SR6.out; exact X2.out.2.2.size; intro v5 w5 hown hgr hxx; obtain ⟨ad5, cp5, rfl⟩ := ownsRow_slice hown; have O5 := mkHid hown; have B5 := mkHid (show Below W4.heap.size W4 w5 from grow_at X2.out.2.2 hgr (by omega) X2.out.2.2.size); have S5 := mkHid (src_at (p := ⟨c, t, SD⟩) (keep_at hgr X2.out.2.1 (by omega))); clear hown hgr hxx)
          | (refine step_append_told _ (by kernel_rfl) (.tmp 57) (.tmp 58) 36 (by kernel_rfl) W4.heap.size 56 i0 (.agg #[.int .i64 0, .int .i64 0, .string ByteArray.empty]) 3 32 Tryz.underlying36 hi hz0 hz1 hz2 rfl (by decide) (.slice (some ⟨W4.heap.size + 1, 0, none⟩) 1 1) 1 (Rc.pC [⟨c, t, SD⟩]) ?_ ?_ (.slice a n cp) n (Rc.pC l) (by kernel_rfl) ?_ (Rc.pC_one _) (by unfold maxLen; omega) (by omega) ?_ ?_; simp [Act.eval]; exact own_at (p := ⟨c, t, SD⟩) X2.out.2.1 (by omega); exact SR6.out; exact X2.out.2.2.size; intro v5 w5 hown hgr hxx; obtain ⟨ad5, cp5, rfl⟩ := ownsRow_slice hown; have O5 := mkHid hown; have B5 := mkHid (show Below W4.heap.size W4 w5 from grow_at X2.out.2.2 hgr (by omega) X2.out.2.2.size); have S5 := mkHid (src_at (p := ⟨c, t, SD⟩) (keep_at hgr X2.out.1 (by omega))); clear hown hgr hxx)
          | (refine step_append_told _ (by kernel_rfl) (.tmp 59) (.tmp 61) 36 (by kernel_rfl) W4.heap.size 56 i0 (.agg #[.int .i64 0, .int .i64 0, .string ByteArray.empty]) 3 32 Tryz.underlying36 hi hz0 hz1 hz2 rfl (by decide) (.slice ad5 (1 + n) cp5) (1 + n) (Rc.pC [⟨c, t, SD⟩] ++ Rc.pC l) (by kernel_rfl) (O5.out.alloc _) (.slice (some ⟨w5.heap.size, 0, none⟩) 1 1) 1 (Rc.pC [⟨c, t, SD⟩]) (by kernel_rfl) (src_part w5 ⟨c, t, SD⟩) (Rc.pC_one _) (by unfold maxLen; omega) (by omega) (by simp; have := B5.out.size; omega) ?_; intro v6 w6 hown hgr hxx; obtain ⟨ad6, cp6, rfl⟩ := ownsRow_slice hown; have B6 := mkHid (show Below W4.heap.size W4 w6 from B5.out.trans (grow_own (o := .cells #[.int .i64 c, .int .i64 t, .string SD] 56) O5.out B5.out.size hgr)); obtain ⟨a6', c6', hv6, hp6⟩ := olo_pa hown HN.out hml PA5.out (by omega); simp only [Value.slice.injEq] at hv6; obtain ⟨rfl, -, rfl⟩ := hv6; have P6 := mkHid hp6; clear hown hgr hxx hp6)
          | (refine step_append_told _ (by kernel_rfl) (.tmp 59) (.tmp 61) 36 (by kernel_rfl) W4.heap.size 56 i0 (.agg #[.int .i64 0, .int .i64 0, .string ByteArray.empty]) 3 32 Tryz.underlying36 hi hz0 hz1 hz2 rfl (by decide) (.slice ad5 (1 + n) cp5) (1 + n) (Rc.pC [⟨c, t, SD⟩] ++ Rc.pC l) (by kernel_rfl) O5.out (.slice (some ⟨W4.heap.size + 1, 0, none⟩) 1 1) 1 (Rc.pC [⟨c, t, SD⟩]) (by kernel_rfl) S5.out (Rc.pC_one _) (by unfold maxLen; omega) (by omega) B5.out.size ?_; intro v6 w6 hown hgr hxx; obtain ⟨ad6, cp6, rfl⟩ := ownsRow_slice hown; have B6 := mkHid (show Below W4.heap.size W4 w6 from B5.out.trans (grow_row O5.out B5.out.size hgr)); obtain ⟨a6', c6', hv6, hp6⟩ := olo_pa hown HN.out hml PA5.out (by omega); simp only [Value.slice.injEq] at hv6; obtain ⟨rfl, -, rfl⟩ := hv6; have P6 := mkHid hp6; clear hown hgr hxx hp6)
          | (refine step_append_told _ (by kernel_rfl) (.tmp 59) (.tmp 61) 36 (by kernel_rfl) W4.heap.size 56 i0 (.agg #[.int .i64 0, .int .i64 0, .string ByteArray.empty]) 3 32 Tryz.underlying36 hi hz0 hz1 hz2 rfl (by decide) (.slice ad5 (1 + n) cp5) (1 + n) (Rc.pC [⟨c, t, SD⟩] ++ Rc.pC l) (by kernel_rfl) O5.out (.slice (some ⟨W4.heap.size, 0, none⟩) 1 1) 1 (Rc.pC [⟨c, t, SD⟩]) (by kernel_rfl) S5.out (Rc.pC_one _) (by unfold maxLen; omega) (by omega) B5.out.size ?_; intro v6 w6 hown hgr hxx; obtain ⟨ad6, cp6, rfl⟩ := ownsRow_slice hown; have B6 := mkHid (show Below W4.heap.size W4 w6 from B5.out.trans (grow_row O5.out B5.out.size hgr)); obtain ⟨a6', c6', hv6, hp6⟩ := olo_pa hown HN.out hml PA5.out (by omega); simp only [Value.slice.injEq] at hv6; obtain ⟨rfl, -, rfl⟩ := hv6; have P6 := mkHid hp6; clear hown hgr hxx hp6)
          | (go_simp; refine (JC2.out ad6 cp6 w6 P6.out).mono ?_; rintro e w7 ⟨rfl, b7⟩; have B7 := mkHid (B6.out.trans (b7.mono B6.out.size)); clear b7))
        all_goals
          go_wp2_with fail
          go_meet
          case rel => exact ⟨rfl, rfl, B7.out⟩
      case rest =>
        obtain ⟨rfl, rfl, hb7⟩ := hcut
        have K5 := mkHid (K4.out.trans (hb7.mono K4.out.size))
        clear o0 o1 o2 p0 p1 p2 hb7
        have HUZ := mkHid (show U.size ≤ 1000000 by rw [← HU.out]; exact Nat.le_trans (Rc.rE_zero (Rc.back JE.out).1).1 (by decide))
        have RP := mkHid (Fd.read_any a0 (by omega) a1)
        have RU := mkHid (Fd.read_any U HUZ.out a1)
        unfold RdPost fv at RP RU
        obtain ⟨hm1, hm2, hm3⟩ := HM.out
        rw [hm1, hm2, hm3] at RU
        obtain ⟨R, HR⟩ : ∃ R, Hid (fdR a0 a1 = R) := ⟨_, rfl⟩
        obtain ⟨A, HA⟩ : ∃ R, Hid (fdA a0 a1 = R) := ⟨_, rfl⟩
        obtain ⟨E, HE⟩ : ∃ R, Hid (fdE a0 a1 = R) := ⟨_, rfl⟩
        rw [HR.out, HA.out, HE.out] at RP RU
        clear hm1 hm2 hm3
        go_wp2_with fail
        refine (RP.out _).mono ?_
        rintro e x1 ⟨⟨xa, xc, xa', xc', rfl, ra, ia⟩, bx1⟩
        have F1 := mkHid (Fb.new (w := w) (c := xc) 26 ra ia (K5.out.trans (bx1.mono K5.out.size)))
        obtain ⟨bx, HBX⟩ : ∃ bx, Hid (x1.heap.size = bx) := ⟨_, rfl⟩
        obtain ⟨X1, HX1⟩ : ∃ W, Hid (x1.alloc (.cells #[.slice xa R.length xc, .slice xa' A.length xc'] 26) = W) := ⟨_, rfl⟩
        rw [HX1.out, HBX.out] at F1
        clear ra ia bx1 RP
        go_upto_region 13 with fail
        rw [HX1.out, HBX.out]
        go_wp2_with fail
        refine (RU.out _).mono ?_
        rintro e x2 ⟨⟨xb, xd, xb', xd', rfl, ra, ia⟩, bx2⟩
        have F2 := mkHid (F1.out.next bx2)
        have G2 := mkHid (Fb.new (c := xd) 26 ra ia (Below.refl _ x2))
        have F3 := mkHid (F2.out.next (al_below x2 (.cells #[.slice xb R.length xd, .slice xb' A.length xd'] 26)))
        obtain ⟨by_, HBY⟩ : ∃ bx, Hid (x2.heap.size = bx) := ⟨_, rfl⟩
        obtain ⟨W3, HW3⟩ : ∃ W, Hid (x2.alloc (.cells #[.slice xb R.length xd, .slice xb' A.length xd'] 26) = W) := ⟨_, rfl⟩
        rw [HW3.out, HBY.out] at G2
        rw [HW3.out] at F3
        clear ra ia bx2 RU F1 F2
        have RS := mkHid (reports_self W3.heap.size xa xc xb xd R W3 (Nat.le_refl _) F3.out.r G2.out.r)
        obtain ⟨⟨c0, c1⟩, -⟩ := Fd.cells2 F3.out.d
        obtain ⟨⟨d0, d1⟩, -⟩ := Fd.cells2 G2.out.d
        go_upto_region 14 with fail
        rw [HW3.out, HBY.out]
        go_wp2_with fail
        refine (RS.out).mono ?_
        rintro e x4 ⟨rfl, b4⟩
        have F4 := mkHid (F3.out.next b4)
        have G4 := mkHid (G2.out.next b4)
        clear b4 RS c0 c1 d0 d1 F3 G2
        have IS := mkHid (ints_self x4.heap.size xa' xc' xb' xd' A x4 (Nat.le_refl _) F4.out.i G4.out.i)
        obtain ⟨⟨c0, c1⟩, -⟩ := Fd.cells2 F4.out.d
        obtain ⟨⟨d0, d1⟩, -⟩ := Fd.cells2 G4.out.d
        go_wp2_with fail
        refine (IS.out).mono ?_
        rintro e x5 ⟨rfl, a5⟩
        have F5 := mkHid (F4.out.next a5.belowZ)
        clear a5 IS c0 c1 d0 d1 F4 G4
        go_wp2_with fail
        refine (Fd.wakes_any _).mono ?_
        rintro e w9 ⟨rfl, p9⟩
        have F9 := mkHid (F5.out.next p9)
        clear p9
        go_wp2
        go_ret
        exact ⟨rfl, F9.out.k⟩
    · obtain ⟨E, HE⟩ : ∃ E, Hid (Rc.rE a0 = E) := ⟨_, rfl⟩
      rw [HE.out] at hE ⊢
      go_wp2_with fail
      refine (Fd.wakes_any _).mono ?_
      rintro e w9 ⟨rfl, p9⟩
      go_wp2
      go_ret
      exact ⟨rfl, K4.out.trans (p9.mono K4.out.size)⟩

set_option maxRecDepth 100000 in
theorem lifted (os : Os) (started : os.Started) (H : Type) (enc : TypeId × Value → H) :
    ReturnsInHanded {} Tryz.checked os 6 .any (Rows.feedOthersSpec.pre6 enc Tryz.prog Tryz.f6 Rows.feedOthersRow.domain false) (Rows.feedOthersSpec.post enc Tryz.prog Tryz.f6 false true false false) := by
  refine returnsInHanded_of_change (C := Tryz.checked) own started (by kernel_rfl) Tryz.func6
    (ChangeSpec.witness6 (enc := enc) (C := Tryz.checked) false ⟨#[], #[.string ByteArray.empty, .int .i64 0, .int .u8 0], []⟩ 8 (by kernel_rfl) (by kernel_rfl) (by kernel_rfl) (by kernel_rfl)) ?_
  intro W base args ds gs before hval0 hW hcnd _
  have hval : ∀ (j : Nat) t v, Tryz.f6.params[j]? = some t → args[j]? = some v → Value.okWide Tryz.prog W .any base t v := hval0
  have hW' := hW
  obtain ⟨p, q, hA0, hV, rfl, hfz, hnd⟩ := hW
  have hA : DataW.TrodAll enc Tryz.prog W 0 (fun _ => true) true Tryz.f6.params.toList args.toList ds p := hA0
  rw [Tryz.params6] at hA hval
  obtain ⟨v0, vs0, d0, ds0, p0, q0, hargs, rfl, rfl, h0, r0⟩ := trodAll_cons hA
  obtain ⟨v1, vs1, d1, ds1, p1, q1, rfl, rfl, rfl, h1, r1⟩ := trodAll_cons r0
  obtain ⟨v2, vs2, d2, ds2, p2, q2, rfl, rfl, rfl, h2, r2⟩ := trodAll_cons r1
  obtain ⟨rfl, rfl, rfl⟩ := trodAll_nil r2
  obtain rfl : args = #[v0, v1, v2] := by cases args; simp_all
  obtain ⟨rfl, rfl⟩ := trodVars_none hV
  obtain ⟨a0, rfl, rfl, rfl, w0⟩ := open_string Tryz.underlying9 (hval 0 9 v0 rfl rfl) h0
  obtain ⟨a1, rfl, rfl, rfl, w1⟩ := open_int Tryz.underlying2 (hval 1 2 v1 rfl rfl) h1
  obtain ⟨a2, rfl, rfl, rfl, w2⟩ := open_int Tryz.underlying5 (hval 2 5 v2 rfl rfl) h2
  clear hA0 hval0
  refine (walk a0 a1 a2 W w0 w1 w2).mono fun e W' ⟨he, bel⟩ => ?_
  subst he
  exact ⟨_, rfl, _, _, _, [], _, [], hW', trodAll_mk1 (shut_bool Tryz.underlying4 _), (trodAll_cons_mk (shut_string Tryz.underlying9 w0) (trodAll_cons_mk (shut_int Tryz.underlying2 w1) (trodAll_cons_mk (shut_int Tryz.underlying5 w2) trodAll_mk0))), rfl, bel.frame _, fun h => by cases h⟩

theorem over : Rows.feedOthersRow.holds Tryz.pinned (OpenSpec.ofChange Rows.feedOthersSpec) :=
  OpenClaim.holds_of_wide 6 Tryz.f6 rfl rfl rfl rfl rfl rfl rfl ⟨rfl, rfl, rfl, rfl, rfl⟩ rfl rfl rfl rfl rfl (by kernel_rfl) Tryz.func6 (by kernel_rfl)
    (of_decide_eq_true (by kernel_rfl)) (by unfold Func.isWrapper; first | (rw [if_pos (by decide +kernel)]; kernel_rfl) | (rw [if_neg (by decide +kernel)]; exact ⟨rfl, rfl⟩))
    (fun os started H enc _ => lifted os started H enc)
end Go.Proofs.YtdhbakknplnnkaaGreat.feedOthers
namespace Go.Proofs.YtdhbakknplnnkaaGreat
/-- The statement. -/
theorem feedOthers_holds : Rows.FeedOthersSaid := feedOthers.over
#print axioms feedOthers_holds
end Go.Proofs.YtdhbakknplnnkaaGreat
