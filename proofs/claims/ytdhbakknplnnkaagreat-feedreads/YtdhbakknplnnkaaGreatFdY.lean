/-
  What the reference's Read hands back: the walk.
-/
import Derived.Test.YtdhbakknplnnkaaGreatFdX
import Derived.Test.YtdhbakknplnnkaaGreatRc4
import Derived.Test.YtdhbakknplnnkaaGreatCc5
import Derived.Test.YtdhbakknplnnkaaGreatTw4
import Derived.Test.YtdhbakknplnnkaaGreatNk3
namespace Go.Proofs.YtdhbakknplnnkaaGreat.Fd
open Go.RowKit Go.Proofs.YtdhbakknplnnkaaGreat.Nk

theorem info30 : (Tryz.prog.info? 30).map (fun i => (i.zero, i.size)) = some (some (.agg #[.slice none 0 0, .slice none 0 0]), 2) := by kernel_rfl
theorem lt_clV (n : Int) : 0 ≤ nrH n ∧ nrH n ≤ 1125899906842624 := by unfold nrH Un.clV; repeat' split <;> omega
set_option maxRecDepth 100000 in
set_option maxHeartbeats 8000000 in
theorem rread_any (s : ByteArray) (hs : s.size ≤ 1000000) (near : Int) (w : World) : Calls Tryz.prog 9 #[.string s, .int .i64 near] w (RdPost s near w) := by
  have Q0 := mkHid (show Qw w (w.alloc (.cells #[.slice none 0 0, .slice none 0 0] 30)) w.heap.size from ⟨heap_alloc_new _ _, (Apart.refl (fun _ => False) w).alloc _, Nat.le_refl _⟩)
  have Z0 := mkHid (show (w.alloc (.cells #[.slice none 0 0, .slice none 0 0] 30)).heap.size = w.heap.size + 1 by simp)
  obtain ⟨q, HQ⟩ : ∃ q, Hid (w.heap.size = q) := ⟨_, rfl⟩
  obtain ⟨W, HW⟩ : ∃ W, Hid (w.alloc (.cells #[.slice none 0 0, .slice none 0 0] 30) = W) := ⟨_, rfl⟩
  rw [HQ.out, HW.out] at Q0 Z0
  have SP := mkHid (Rc.rsplit_any s hs W)
  go_enter Tryz.func9, Tryz.ntmps9
  go_wp2_with fail
  rw [HW.out, HQ.out]
  go_wp2_with fail
  refine (SP.out).mono ?_
  rintro e w2 ⟨⟨a, cp, rfl, p2⟩, b2⟩
  have Q2 := mkHid (Q0.out.next b2)
  have P2 := mkHid p2
  have HZ2 := mkHid (show q + 1 ≤ w2.heap.size by have := b2.size; have := Z0.out; omega)
  clear b2 p2 SP Q0
  obtain ⟨⟨c0, c1⟩, f0, f1⟩ := cells2 Q2.out.r
  by_cases hE : Rc.rE s = 0
  · rw [hE]
    have RC := mkHid (Un.rclamp_any near 0 1125899906842624 (by omega))
    go_wp2_with fail
    refine (RC.out _).mono ?_
    rintro e w3 ⟨rfl, rfl⟩
    have V0 := mkHid (show Vw 30 w (w3.alloc (.cells #[.slice none 0 0, .slice none 0 0] 30)) q w3.heap.size (w3.heap.size + 1) a (Rc.rL s) (.slice none 0 0) (.slice none 0 0) [] [] from
      ⟨((Apart.refl (fun _ => False) w3).alloc _).heap Q2.out.r (fun h => h), heap_alloc_new _ _, OR.nil _ _, OI.nil _ _, (by intro k hk; simp [Value.ownBlock] at hk), P2.out.kept (((Apart.refl (fun _ => False) w3).alloc _).belowZ), Q2.out.k.zz ((Apart.refl (fun _ => False) w3).alloc _), Q2.out.z, by have := HZ2.out; omega, by omega, by simp⟩)
    obtain ⟨fb, HFB⟩ : ∃ fb, Hid (w3.heap.size = fb) := ⟨_, rfl⟩
    obtain ⟨W3, HW3⟩ : ∃ W3, Hid (w3.alloc (.cells #[.slice none 0 0, .slice none 0 0] 30) = W3) := ⟨_, rfl⟩
    rw [HFB.out, HW3.out] at V0
    have HFW := mkHid (rL_few s)
    have HLS := mkHid (show fdE s near = if lsE (Rc.rL s) = 0 then (if lsK (Rc.rL s) = true then (if 4096 < (lsR (nrH near) (Rc.rL s)).length ∨ 4096 < (lsA (Rc.rL s)).length then 3 else 0) else 120) else lsE (Rc.rL s) by unfold fdE; rw [if_pos hE])
    have HN0 := mkHid (lt_clV near)
    have HND := mkHid (show Un.clV near 0 1125899906842624 = nrH near from rfl)
    have HFR := mkHid (show fdE s near = 0 → fdR s near = lsR (nrH near) (Rc.rL s) ∧ fdA s near = lsA (Rc.rL s) from fun h => by unfold fdR fdA; rw [if_pos h, if_pos h]; exact ⟨rfl, rfl⟩)
    have HR0 := mkHid (show Rest (nrH near) (Rc.rL s) 0 [] [] false (lsE (Rc.rL s)) (lsR (nrH near) (Rc.rL s)) (lsA (Rc.rL s)) (lsK (Rc.rL s)) from ⟨rfl, rfl, rfl, rfl⟩)
    obtain ⟨l, HL⟩ : ∃ l, Hid (Rc.rL s = l) := ⟨_, rfl⟩
    obtain ⟨nr, HNR⟩ : ∃ nr, Hid (nrH near = nr) := ⟨_, rfl⟩
    rw [HL.out] at V0 HFW HLS HR0 HFR
    rw [HNR.out] at HLS HR0 HFR HN0 HND
    obtain ⟨E, HE⟩ : ∃ E, Hid (lsE l = E) := ⟨_, rfl⟩
    obtain ⟨R, HR⟩ : ∃ R, Hid (lsR nr l = R) := ⟨_, rfl⟩
    obtain ⟨A, HA⟩ : ∃ A, Hid (lsA l = A) := ⟨_, rfl⟩
    obtain ⟨K, HK⟩ : ∃ K, Hid (lsK l = K) := ⟨_, rfl⟩
    rw [HE.out, HR.out, HA.out, HK.out] at HLS HR0
    rw [HR.out, HA.out] at HFR
    obtain ⟨n, HN⟩ : ∃ n, Hid (l.length = n) := ⟨_, rfl⟩
    have hn : n ≤ 16384 := by have := HFW.out.1; have := HN.out; omega
    have HRB := mkHid (show R.length ≤ 1073741824 by have := lsR_len nr l; rw [HR.out] at this; have := HN.out; omega)
    have HAB := mkHid (show A.length ≤ 67108864 by have := lsA_len l; rw [HA.out] at this; have := HN.out; omega)
    have hn1 : (n : Int) ≤ 16384 := by omega
    rw [HND.out, HL.out, HN.out]
    clear c0 c1 f0 f1 P2 RC hE
    go_wp2_with fail
    rw [HW3.out, HFB.out]
    go_loopw [9, 10, 11, 12, 13, 14, 15, 16] (fun sn x _ _ _ _ _ _ wr => ∃ (i : Nat) (sb : Bool) (vr va : Value) (aR : List Rt) (aA : List Int), i ≤ n ∧ x = .int .i64 (i : Int) ∧ sn = .bool sb ∧ Rest nr l i aR aA sb E R A K ∧ Vw 30 w wr q fb (fb + 1) a l vr va aR aA) (fun _ x _ _ _ _ _ _ _ => n - (intOf x).toNat)
    case atStart => exact ⟨0, false, _, _, [], [], Nat.zero_le _, rfl, rfl, HR0.out, V0.out⟩
    case round =>
      obtain ⟨i, sb, vr, va, aR, aA, hi, rfl, rfl, hr, hv⟩ := hrel
      have HR1 := mkHid hr
      have V1 := mkHid hv
      clear hr hv V0 HR0 Q2 Z0 HZ2
      by_cases hlt : i < n
      · have i0' : (0 : Int) ≤ i := by omega
        have i1 : (i : Int) < n := by omega
        obtain ⟨ab, off, p, rfl, hbl, hp, hc⟩ := V1.out.p.at i (by rw [HN.out]; exact hlt)
        have HP := mkHid hp
        have HDZ := mkHid (HFW.out.2 p (List.mem_of_getElem? hp))
        obtain ⟨p0, p1, p2, -⟩ := hc
        obtain ⟨pc, pt, d⟩ := p
        simp only at *
        have d1 : (d.size : Int) ≤ 1000000 := by have := HDZ.out; omega
        clear hp hbl
        by_cases ht : pt = 205
        · subst ht
          by_cases h11 : pc = 11
          · subst h11
            have PX := mkHid (p_11 d nr)
            have DC := mkHid (Cc.rdec_any d HDZ.out)
            go_wp2_with fail
            refine (DC.out _).mono ?_
            rintro e w4 ⟨⟨a2, c2, rfl, ba⟩, b4⟩
            unfold Cc.rv
            have V4 := mkHid (V1.out.next b4)
            have BA4 := mkHid ba
            clear ba b4 p0 p1 p2 DC
            by_cases hde : Cc.decE d = 0
            · rw [hde]
              have HFF := mkHid (first_fits d nr)
              have FC := mkHid (fun (w5 : World) (hb : Cc.BA w5.heap.size w5 a2 (Cc.decL d)) => rfirst_any (Cc.decSd d) (Cc.decSt d) (Cc.decL d) a2 c2 nr w5 hb (Cc.decSt_bd d).1 (Cc.decSt_bd d).2 HFF.out.1 HFF.out.2.1 (by have := HFF.out.2.2; omega))
              obtain ⟨sd, HSD⟩ : ∃ x, Hid (Cc.decSd d = x) := ⟨_, rfl⟩
              obtain ⟨st, HST⟩ : ∃ x, Hid (Cc.decSt d = x) := ⟨_, rfl⟩
              obtain ⟨bl, HBL⟩ : ∃ x, Hid (Cc.decL d = x) := ⟨_, rfl⟩
              rw [HSD.out, HST.out, HBL.out] at FC
              rw [HBL.out] at BA4
              rw [HSD.out, HST.out, HBL.out]
              obtain ⟨m, HM⟩ : ∃ x, Hid (bl.length = x) := ⟨_, rfl⟩
              rw [HM.out] at FC
              rw [HM.out]
              have V5 := mkHid (V4.out.next ((Apart.refl (fun _ => False) w4).alloc (.cells #[.int .u32 sd, .slice a2 m c2, .int .u32 st] 53)).belowZ)
              have BX5 := mkHid (Cc.Rv.new w4 sd (.slice a2 m c2) st)
              have BA5 := mkHid (BA4.out.on ((Apart.refl (fun _ => False) w4).alloc (.cells #[.int .u32 sd, .slice a2 m c2, .int .u32 st] 53)).belowZ)
              obtain ⟨bx, HBX⟩ : ∃ bx, Hid (w4.heap.size = bx) := ⟨_, rfl⟩
              obtain ⟨W5, HW5⟩ : ∃ W5, Hid (w4.alloc (.cells #[.int .u32 sd, .slice a2 m c2, .int .u32 st] 53) = W5) := ⟨_, rfl⟩
              rw [HW5.out] at V5 BA5
              rw [HW5.out, HBX.out] at BX5
              have V5d := mkHid (V5.out.next ((Below.refl _ W5).drew))
              have BA5d := mkHid (BA5.out.on ((Below.refl _ W5).drew))
              obtain ⟨c0, c1, c2', -⟩ := cells3 (T := 53) (show W5.drew.heap[bx]? = some (.cells #[.int .u32 sd, .slice a2 m c2, .int .u32 st] 53 (0, 0)) from BX5.out)
              obtain ⟨⟨x0, x1⟩, f0, f1⟩ := cells2 V5d.out.f
              have HRN := mkHid (HR1.out.next HP.out (by rw [PX.out.1]; exact hde))
              rw [PX.out.2.1, PX.out.2.2.1, PX.out.2.2.2, Bool.or_true, List.append_nil, HST.out, HBL.out] at HRN
              have HLN := mkHid (show (aR ++ firstL (Un.frV st nr) bl).length ≤ 1073741824 by have := HRN.out.len.1; have := HRB.out; omega)
              obtain ⟨nw, HNW⟩ : ∃ x, Hid (firstL (Un.frV st nr) bl = x) := ⟨_, rfl⟩
              rw [HNW.out] at FC HRN HLN
              obtain ⟨i0, hj, hz0, hz1, hz2⟩ := info46'
              clear V4 V5 BA4 BA5 hde
              go_wp2_with fail
              rw [HW5.out, HBX.out]
              go_region_law (first
                | (refine step_append_told _ (by kernel_rfl) (.tmp 62) (.tmp 65) 23 (by kernel_rfl) (fb + 1) 58 i0 (.agg #[.int .i64 0, .bool false, .int .i64 0, .bool false, .bool false]) 5 32 Tryz.underlying23 hj hz0 hz1 hz2 rfl (by decide) vr aR.length (rC aR) (by kernel_rfl) V6.out.oR v6 nw.length (rC nw) (by kernel_rfl) (or_src O6.out) (rC_one _) (by have := HLN.out; rw [List.length_append] at this; unfold maxLen; omega) (by have := HLN.out; rw [List.length_append] at this; omega) V6.out.z.2.2.2 ?_; intro v7 w7 hown hgr hxx; obtain ⟨ad7, cp7, rfl⟩ := ownsRow_slice hown; have V7 := mkHid (V6.out.appR (rs := nw) (by rw [rC_app]; exact hown) (List.length_append ..).symm hgr hxx); have B7 := mkHid (V6.out.fR hgr); clear hown hgr hxx; obtain ⟨⟨k0, k1⟩, l0, l1⟩ := cells2 B7.out)
                | (go_simp; refine (FC.out _ BA5d.out).mono ?_; rintro e w6 ⟨⟨v6, rfl, o6⟩, b6⟩; have V6 := mkHid (V5d.out.next b6); have O6 := mkHid o6; clear o6; obtain ⟨⟨g0, g1⟩, h0, h1⟩ := cells2 V6.out.f))
              all_goals
                go_wp2
                go_roundw
                case rel => exact ⟨i + 1, true, _, va, aR ++ nw, aA, by omega, by go_num, rfl, HRN.out, V7.out⟩
                case measure => simp [intOf]; omega
            · obtain ⟨E1, HE1⟩ : ∃ x, Hid (Cc.decE d = x) := ⟨_, rfl⟩
              have HEE := mkHid (HR1.out.no HP.out (by rw [PX.out.1]; exact hde))
              rw [HE1.out] at hde ⊢
              have hde' : (E1 != 0) = true := by simpa using hde
              have HDE := mkHid (show fdE s near = E1 by rw [HLS.out, HEE.out, PX.out.1, HE1.out, if_neg hde])
              have Q4 := mkHid ((V4.out.qw).next ((Apart.refl (fun _ => False) w4).alloc (.cells #[.int .u32 (Cc.decSd d), .slice a2 (Cc.decL d).length c2, .int .u32 (Cc.decSt d)] 53)).belowZ)
              obtain ⟨⟨c0, c1⟩, f0, f1⟩ := cells2 Q4.out.r
              clear V4
              go_wp2_with fail
              rw [put2_eq]
              exact Q4.out.rno HDE.out hde _ rfl rfl _ rfl
          · by_cases h15 : pc = 15
            · subst h15
              have PX := mkHid (p_15 d nr)
              have DC := mkHid (Tw.rdec_any d HDZ.out)
              go_wp2_with fail
              refine (DC.out _).mono ?_
              rintro e w4 ⟨⟨a2, c2, a3, c3, rfl, ia, ja⟩, b4⟩
              unfold Tw.rv
              have V4 := mkHid (V1.out.next b4)
              have IA4 := mkHid (show IA w4.heap.size w4 a2 c2 (Tw.decR d).st from ia)
              have JA4 := mkHid (show IA w4.heap.size w4 a3 c3 (Tw.decR d).dl from ja)
              clear ia ja b4 p0 p1 p2 DC
              by_cases hde : Tw.decE d = 0
              · rw [hde]
                have HFF := mkHid (second_fits hde)
                have FC := mkHid (fun (w5 : World) (hb : IA w5.heap.size w5 a2 c2 (Tw.decR d).st) (hb' : IA w5.heap.size w5 a3 c3 (Tw.decR d).dl) => rsecond_any (Tw.decR d) a2 c2 a3 c3 nr w5 hb hb' HFF.out.1 HFF.out.2.1.1 HFF.out.2.1.2 HN0.out.1 HN0.out.2 HFF.out.2.2.1.1 HFF.out.2.2.1.2 HFF.out.2.2.2)
                obtain ⟨r, HRR⟩ : ∃ x, Hid (Tw.decR d = x) := ⟨_, rfl⟩
                rw [HRR.out] at FC IA4 JA4 ⊢
                obtain ⟨m, HM⟩ : ∃ x, Hid (r.st.length = x) := ⟨_, rfl⟩
                obtain ⟨m', HM'⟩ : ∃ x, Hid (r.dl.length = x) := ⟨_, rfl⟩
                rw [HM.out, HM'.out] at FC ⊢
                have V5 := mkHid (V4.out.next ((Apart.refl (fun _ => False) w4).alloc (.cells #[.int .u32 r.sd, .int .u32 r.md, .int .i64 r.fi, .int .i64 r.ba, .int .i64 r.co, .slice a2 m c2, .slice a3 m' c3] 63)).belowZ)
                have BX5 := mkHid (heap_alloc_new w4 (.cells #[.int .u32 r.sd, .int .u32 r.md, .int .i64 r.fi, .int .i64 r.ba, .int .i64 r.co, .slice a2 m c2, .slice a3 m' c3] 63))
                have IA5 := mkHid (IA4.out.on ((Apart.refl (fun _ => False) w4).alloc (.cells #[.int .u32 r.sd, .int .u32 r.md, .int .i64 r.fi, .int .i64 r.ba, .int .i64 r.co, .slice a2 m c2, .slice a3 m' c3] 63)).belowZ)
                have JA5 := mkHid (JA4.out.on ((Apart.refl (fun _ => False) w4).alloc (.cells #[.int .u32 r.sd, .int .u32 r.md, .int .i64 r.fi, .int .i64 r.ba, .int .i64 r.co, .slice a2 m c2, .slice a3 m' c3] 63)).belowZ)
                obtain ⟨bx, HBX⟩ : ∃ bx, Hid (w4.heap.size = bx) := ⟨_, rfl⟩
                obtain ⟨W5, HW5⟩ : ∃ W5, Hid (w4.alloc (.cells #[.int .u32 r.sd, .int .u32 r.md, .int .i64 r.fi, .int .i64 r.ba, .int .i64 r.co, .slice a2 m c2, .slice a3 m' c3] 63) = W5) := ⟨_, rfl⟩
                rw [HW5.out] at V5 IA5 JA5
                rw [HW5.out, HBX.out] at BX5
                have V5d := mkHid (V5.out.next ((Below.refl _ W5).drew))
                have IA5d := mkHid (IA5.out.on ((Below.refl _ W5).drew))
                have JA5d := mkHid (JA5.out.on ((Below.refl _ W5).drew))
                obtain ⟨y0, y1, y2, y3, y4, y5, y6⟩ := Tw.cells7 (T := 63) (show W5.drew.heap[bx]? = some (.cells #[.int .u32 r.sd, .int .u32 r.md, .int .i64 r.fi, .int .i64 r.ba, .int .i64 r.co, .slice a2 m c2, .slice a3 m' c3] 63 (0, 0)) from BX5.out)
                obtain ⟨⟨x0, x1⟩, f0, f1⟩ := cells2 V5d.out.f
                have HRN := mkHid (HR1.out.next HP.out (by rw [PX.out.1]; exact hde))
                rw [PX.out.2.1, PX.out.2.2.1, PX.out.2.2.2, Bool.or_true, List.append_nil, HRR.out] at HRN
                have HLN := mkHid (show (aR ++ secondL nr r).length ≤ 1073741824 by have := HRN.out.len.1; have := HRB.out; omega)
                obtain ⟨nw, HNW⟩ : ∃ x, Hid (secondL nr r = x) := ⟨_, rfl⟩
                rw [HNW.out] at FC HRN HLN
                obtain ⟨i0, hj, hz0, hz1, hz2⟩ := info46'
                clear V4 V5 IA4 JA4 IA5 JA5 hde
                go_wp2_with fail
                rw [HW5.out, HBX.out]
                go_region_law (first
                  | (refine step_append_told _ (by kernel_rfl) (.tmp 84) (.tmp 87) 23 (by kernel_rfl) (fb + 1) 58 i0 (.agg #[.int .i64 0, .bool false, .int .i64 0, .bool false, .bool false]) 5 32 Tryz.underlying23 hj hz0 hz1 hz2 rfl (by decide) vr aR.length (rC aR) (by kernel_rfl) V6.out.oR v6 nw.length (rC nw) (by kernel_rfl) (or_src O6.out) (rC_one _) (by have := HLN.out; rw [List.length_append] at this; unfold maxLen; omega) (by have := HLN.out; rw [List.length_append] at this; omega) V6.out.z.2.2.2 ?_; intro v7 w7 hown hgr hxx; obtain ⟨ad7, cp7, rfl⟩ := ownsRow_slice hown; have V7 := mkHid (V6.out.appR (rs := nw) (by rw [rC_app]; exact hown) (List.length_append ..).symm hgr hxx); have B7 := mkHid (V6.out.fR hgr); clear hown hgr hxx; obtain ⟨⟨k0, k1⟩, l0, l1⟩ := cells2 B7.out)
                  | (go_simp; refine (FC.out _ IA5d.out JA5d.out).mono ?_; rintro e w6 ⟨⟨v6, rfl, o6⟩, b6⟩; have V6 := mkHid (V5d.out.next b6); have O6 := mkHid o6; clear o6; obtain ⟨⟨g0, g1⟩, h0, h1⟩ := cells2 V6.out.f))
                all_goals
                  go_wp2
                  go_roundw
                  case rel => exact ⟨i + 1, true, _, va, aR ++ nw, aA, by omega, by go_num, rfl, HRN.out, V7.out⟩
                  case measure => simp [intOf]; omega
              · obtain ⟨E1, HE1⟩ : ∃ x, Hid (Tw.decE d = x) := ⟨_, rfl⟩
                have HEE := mkHid (HR1.out.no HP.out (by rw [PX.out.1]; exact hde))
                obtain ⟨r, HRR⟩ : ∃ x, Hid (Tw.decR d = x) := ⟨_, rfl⟩
                rw [HE1.out] at hde ⊢
                rw [HRR.out]
                have hde' : (E1 != 0) = true := by simpa using hde
                have HDE := mkHid (show fdE s near = E1 by rw [HLS.out, HEE.out, PX.out.1, HE1.out, if_neg hde])
                have Q4 := mkHid ((V4.out.qw).next ((Apart.refl (fun _ => False) w4).alloc (.cells #[.int .u32 r.sd, .int .u32 r.md, .int .i64 r.fi, .int .i64 r.ba, .int .i64 r.co, .slice a2 r.st.length c2, .slice a3 r.dl.length c3] 63)).belowZ)
                obtain ⟨⟨c0, c1⟩, f0, f1⟩ := cells2 Q4.out.r
                clear V4
                go_wp2_with fail
                rw [put2_eq]
                exact Q4.out.rno HDE.out hde _ rfl rfl _ rfl
            · by_cases h1 : pc = 1
              · subst h1
                have PX := mkHid (p_1 d nr)
                have DC := mkHid (Nk.rdec_any d (by omega))
                go_wp2_with fail
                refine (DC.out _).mono ?_
                rintro e w4 ⟨⟨a2, c2, rfl, ia⟩, b4⟩
                unfold nv
                have V4 := mkHid (V1.out.next b4)
                have IA4 := mkHid ia
                clear ia b4 p0 p1 p2 DC
                by_cases hde : Nk.decE d = 0
                · rw [hde]
                  obtain ⟨r, HRR⟩ : ∃ x, Hid (Nk.decR d = x) := ⟨_, rfl⟩
                  rw [HRR.out] at IA4 ⊢
                  have V5 := mkHid (V4.out.next ((Apart.refl (fun _ => False) w4).alloc (.cells #[.int .u32 r.sd, .int .u32 r.md, .slice a2 r.lo.length c2] 78)).belowZ)
                  have BX5 := mkHid (heap_alloc_new w4 (.cells #[.int .u32 r.sd, .int .u32 r.md, .slice a2 r.lo.length c2] 78))
                  have IA5 := mkHid (IA4.out.on ((Apart.refl (fun _ => False) w4).alloc (.cells #[.int .u32 r.sd, .int .u32 r.md, .slice a2 r.lo.length c2] 78)).belowZ)
                  have HRN := mkHid (HR1.out.next HP.out (by rw [PX.out.1]; exact hde))
                  rw [PX.out.2.1, PX.out.2.2.1, PX.out.2.2.2, Bool.or_true, List.append_nil, HRR.out] at HRN
                  have HLN := mkHid (show (aA ++ r.lo).length ≤ 67108864 by have := HRN.out.len.2; have := HAB.out; omega)
                  have HSR := mkHid (ia_src IA5.out)
                  obtain ⟨m, HM⟩ : ∃ x, Hid (r.lo.length = x) := ⟨_, rfl⟩
                  rw [HM.out] at V5 BX5 HSR ⊢
                  obtain ⟨bx, HBX⟩ : ∃ bx, Hid (w4.heap.size = bx) := ⟨_, rfl⟩
                  obtain ⟨W5, HW5⟩ : ∃ W5, Hid (w4.alloc (.cells #[.int .u32 r.sd, .int .u32 r.md, .slice a2 m c2] 78) = W5) := ⟨_, rfl⟩
                  rw [HW5.out] at V5 HSR
                  rw [HW5.out, HBX.out] at BX5
                  obtain ⟨y0, y1, y2, -⟩ := cells3 (T := 78) BX5.out
                  obtain ⟨⟨x0, x1⟩, f0, f1⟩ := cells2 V5.out.f
                  obtain ⟨i0, hj, hz0, hz1, hz2⟩ := info3'
                  clear V4 IA4 IA5 hde
                  go_upto_region 23 with fail
                  rw [HW5.out, HBX.out]
                  go_wp2_with (at_builtin; refine wpList_append_told _ rfl (.tmp 106) (.tmp 108) 24 rfl (fb + 1) 3 i0 (.int .i64 0) 1 8 Tryz.underlying24 hj hz0 hz1 hz2 rfl (by decide) va aA.length (IC aA) rfl V5.out.oA (.slice a2 m c2) m (IC r.lo) rfl HSR.out IC_one (by have := HLN.out; have := HM.out; rw [List.length_append] at *; unfold maxLen; omega) (by have := HLN.out; have := HM.out; rw [List.length_append] at *; omega) V5.out.z.2.2.2 ?_; intro v7 w7 hown hgr hxx; obtain ⟨ad7, cp7, rfl⟩ := ownsRow_slice hown; have V7 := mkHid (V5.out.appA (rs := r.lo) (by rw [IC_app]; exact hown) (by rw [List.length_append, HM.out]) hgr hxx); have B7 := mkHid (V5.out.fA hgr); clear hown hgr hxx; obtain ⟨⟨k0, k1⟩, l0, l1⟩ := cells2 B7.out)
                  go_roundw
                  case rel => exact ⟨i + 1, true, vr, _, aR, aA ++ r.lo, by omega, by go_num, rfl, HRN.out, V7.out⟩
                  case measure => simp [intOf]; omega
                · obtain ⟨E1, HE1⟩ : ∃ x, Hid (Nk.decE d = x) := ⟨_, rfl⟩
                  have HEE := mkHid (HR1.out.no HP.out (by rw [PX.out.1]; exact hde))
                  obtain ⟨r, HRR⟩ : ∃ x, Hid (Nk.decR d = x) := ⟨_, rfl⟩
                  rw [HE1.out] at hde ⊢
                  rw [HRR.out]
                  have hde' : (E1 != 0) = true := by simpa using hde
                  have HDE := mkHid (show fdE s near = E1 by rw [HLS.out, HEE.out, PX.out.1, HE1.out, if_neg hde])
                  have Q4 := mkHid ((V4.out.qw).next ((Apart.refl (fun _ => False) w4).alloc (.cells #[.int .u32 r.sd, .int .u32 r.md, .slice a2 r.lo.length c2] 78)).belowZ)
                  obtain ⟨⟨c0, c1⟩, f0, f1⟩ := cells2 Q4.out.r
                  clear V4
                  go_wp2_with fail
                  rw [put2_eq]
                  exact Q4.out.rno HDE.out hde _ rfl rfl _ rfl
              · obtain ⟨e1, e2, e3, e4⟩ := p_else (d := d) (near := nr) h11 h15 h1
                have HRN := mkHid (HR1.out.next HP.out e1)
                rw [e2, e3, e4, List.append_nil, List.append_nil, Bool.or_false] at HRN
                clear e1 e2 e3 e4
                go_wp2
                go_roundw
                case rel => exact ⟨i + 1, sb, vr, va, aR, aA, by omega, by go_num, rfl, HRN.out, V1.out⟩
                case measure => simp [intOf]; omega
        · obtain ⟨e1, e2, e3, e4⟩ := p_other (c := pc) (d := d) (near := nr) ht
          have HRN := mkHid (HR1.out.next HP.out e1)
          rw [e2, e3, e4, List.append_nil, List.append_nil, Bool.or_false] at HRN
          clear e1 e2 e3 e4
          go_wp2
          go_roundw
          case rel => exact ⟨i + 1, sb, vr, va, aR, aA, by omega, by go_num, rfl, HRN.out, V1.out⟩
          case measure => simp [intOf]; omega
      · obtain rfl : i = n := by omega
        have HL0 := mkHid (show l.drop i = [] by rw [← HN.out]; exact List.drop_length)
        have HR2 := mkHid HR1.out
        have HE2 := mkHid (show E = 0 by have := HR1.out.e; rw [HL0.out] at this; exact this.symm)
        have HRR := mkHid (show R = aR by have := HR1.out.r; rw [HL0.out] at this; rw [← this]; exact List.append_nil _)
        have HAA := mkHid (show A = aA by have := HR1.out.a; rw [HL0.out] at this; rw [← this]; exact List.append_nil _)
        have HKK := mkHid (show K = sb by have := HR1.out.k; rw [HL0.out] at this; rw [← this]; exact Bool.or_false _)
        rw [HE2.out, HRR.out, HAA.out, HKK.out, if_pos rfl] at HLS
        rw [HRR.out, HAA.out] at HFR
        have Q4 := mkHid V1.out.qw
        cases sb with
        | false =>
          have HDE := mkHid (show fdE s near = 120 from HLS.out)
          obtain ⟨⟨c0, c1⟩, f0, f1⟩ := cells2 Q4.out.r
          go_wp2_with fail
          rw [put2_eq]
          exact Q4.out.rno HDE.out (by decide) _ rfl rfl _ rfl
        | true =>
          rw [if_pos rfl] at HLS
          obtain ⟨a1, k1, rfl, -⟩ := or_ra V1.out.oR
          obtain ⟨a2, k2, rfl, -⟩ := own_ia V1.out.oA
          obtain ⟨⟨c0, c1⟩, f0, f1⟩ := cells2 Q4.out.r
          obtain ⟨⟨d0, d1⟩, g0, g1⟩ := cells2 V1.out.f
          have HM1 := mkHid (show aR.length ≤ 1073741824 by have := HR1.out.len.1; have := HRB.out; omega)
          have HM2 := mkHid (show aA.length ≤ 67108864 by have := HR1.out.len.2; have := HAB.out; omega)
          obtain ⟨m1, H1⟩ : ∃ x, Hid (aR.length = x) := ⟨_, rfl⟩
          obtain ⟨m2, H2⟩ : ∃ x, Hid (aA.length = x) := ⟨_, rfl⟩
          rw [H1.out, H2.out] at HLS
          rw [H1.out] at d0 HM1
          rw [H2.out] at d1 HM2
          by_cases q1 : (4096 : Int) < m1
          · have HDE := mkHid (show fdE s near = 3 by rw [HLS.out, if_pos (.inl (by omega))])
            go_wp2_with fail
            rw [put2_eq]
            exact Q4.out.rno HDE.out (by decide) _ rfl rfl _ rfl
          · by_cases q2 : (4096 : Int) < m2
            · have HDE := mkHid (show fdE s near = 3 by rw [HLS.out, if_pos (.inr (by omega))])
              go_wp2_with fail
              rw [put2_eq]
              exact Q4.out.rno HDE.out (by decide) _ rfl rfl _ rfl
            · have HDE := mkHid (show fdE s near = 0 by rw [HLS.out, if_neg (by omega)])
              go_wp2_with fail
              rw [put2_eq]
              rw [← H1.out, ← H2.out]
              have hz := V1.out.z
              have OF := ownsRow_apart2 V1.out.oR (put2_ap wr q (.slice a1 aR.length k1) (.slice a2 aA.length k2)) (fun k hk e => by have := (V1.out.oR.lt k hk).1; omega)
              have OG := ownsRow_apart2 V1.out.oA (put2_ap wr q (.slice a1 aR.length k1) (.slice a2 aA.length k2)) (fun k hk e => by have := (V1.out.oA.lt k hk).1; omega)
              obtain ⟨_, _, hv, ra⟩ := or_ra OF
              simp only [Value.slice.injEq] at hv
              obtain ⟨rfl, -, rfl⟩ := hv
              obtain ⟨_, _, hv, ib⟩ := own_ia OG
              simp only [Value.slice.injEq] at hv
              obtain ⟨rfl, -, rfl⟩ := hv
              obtain ⟨r1, r2⟩ := HFR.out HDE.out
              refine bodyPost_ret (res6 _ rfl (put2_is Q4.out.r _ _)) rfl ⟨⟨a1, k1, a2, k2, ?_, ?_, ?_⟩, (Q4.out.k.trans (put2_ap wr q _ _) (fun i hi e => by have := Q4.out.z; omega)).belowZ⟩
              · rw [r1, r2, HDE.out]; rfl
              · rw [r1]; exact ra
              · rw [r2]; exact ib
  · have HDE := mkHid (show fdE s near = Rc.rE s by unfold fdE; rw [if_neg hE])
    obtain ⟨E, HEE⟩ : ∃ E, Hid (Rc.rE s = E) := ⟨_, rfl⟩
    rw [HEE.out] at hE HDE ⊢
    have hE' : (E != 0) = true := by simpa using hE
    go_wp2_with fail
    rw [put2_eq]
    exact Q2.out.rno HDE.out hE _ rfl rfl _ rfl
end Go.Proofs.YtdhbakknplnnkaaGreat.Fd
