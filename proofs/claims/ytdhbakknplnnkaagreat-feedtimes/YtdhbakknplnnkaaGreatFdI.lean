/-
  What the program's (second).told hands back.
-/
import Derived.Test.YtdhbakknplnnkaaGreatFdH
import Derived.Test.YtdhbakknplnnkaaGreatWr1
namespace Go.Proofs.YtdhbakknplnnkaaGreat.Fd
open Go.RowKit Go.Proofs.YtdhbakknplnnkaaGreat.Nk

/-- The time from which the deltas go on. -/
def bgn (near ba : Int) : Int := wrap64 (64000 * Wr.nV (Wr.hf 24) (Wr.clV (Un.mdV near 1 64000 1)) ba)
set_option maxHeartbeats 2000000 in
theorem begin_any (u0 u1 u2 u4 u5 u6 : Value) (ba near : Int) (n0 : 0 ≤ near) (n1 : near ≤ 1125899906842624) (w : World) :
    Calls Tryz.prog 151 #[.agg #[u0, u1, u2, .int .i64 ba, u4, u5, u6], .int .i64 near] w fun e w' => e = .returned (.int .i64 (bgn near ba)) ∧ Below w.heap.size w w' := by
  unfold bgn
  have N0 := mkHid (heap_alloc_new w (.cells #[u0, u1, u2, .int .i64 ba, u4, u5, u6] 100))
  have B0 := mkHid ((Below.refl w.heap.size w).alloc (Nat.le_refl _) (.cells #[u0, u1, u2, .int .i64 ba, u4, u5, u6] 100))
  obtain ⟨W, HW⟩ : ∃ W, Hid (w.alloc (.cells #[u0, u1, u2, .int .i64 ba, u4, u5, u6] 100) = W) := ⟨_, rfl⟩
  have Z0 := mkHid (show w.heap.size ≤ W.heap.size by rw [← HW.out]; simp)
  rw [HW.out] at N0 B0
  obtain ⟨bx, HBX⟩ : ∃ b, Hid (w.heap.size = b) := ⟨_, rfl⟩
  rw [HBX.out] at N0
  obtain ⟨dv, HDV⟩ : ∃ dv, Hid (Un.mdV near 1 64000 1 = dv) := ⟨_, rfl⟩
  have DC := mkHid (Un.do_any near 1 64000 1 (by omega) (by omega) (by omega) (by omega) (by omega) (by omega))
  rw [HDV.out] at DC ⊢
  have NC := mkHid (Wr.near_any dv ba 24 (by omega) (by omega))
  obtain ⟨ns, HNS⟩ : ∃ ns, Hid (Wr.nV (Wr.hf 24) (Wr.clV dv) ba = ns) := ⟨_, rfl⟩
  rw [HNS.out] at NC ⊢
  rw [Int.mul_comm 64000 ns]
  obtain ⟨tt, HTT⟩ : ∃ x, Hid (wrap64 (ns * 64000) = x) := ⟨_, rfl⟩
  rw [HTT.out]
  go_enter Tryz.func151, Tryz.ntmps151
  go_wp2_with fail
  rw [HW.out, HBX.out]
  refine (DC.out _).mono ?_
  rintro e w1 ⟨rfl, b1⟩
  have N1 := mkHid ((below_apart b1).heap N0.out (fun h => h))
  have B1 := mkHid (B0.out.trans (b1.mono Z0.out))
  obtain ⟨c0, c1, c2, c3, c4, c5, c6⟩ := Tw.cells7 N1.out
  clear b1
  go_wp2_with fail
  refine (NC.out _).mono ?_
  rintro e w2 ⟨rfl, rfl⟩
  go_wp2
  go_ret
  rw [HTT.out]
  exact ⟨rfl, B1.out⟩
set_option maxRecDepth 100000 in
set_option maxHeartbeats 4000000 in
theorem second_any (r : Tw.Rp) (a : Option Addr) (c : Nat) (a' : Option Addr) (c' : Nat) (near : Int) (w : World) (h : IA w.heap.size w a c r.st) (h' : IA w.heap.size w a' c' r.dl) (hf : fits r.st r.dl = true) (h0 : ∀ s ∈ r.st, 0 ≤ s)
    (f0 : 0 ≤ r.fi) (f1 : r.fi ≤ 65535) (n0 : 0 ≤ near) (n1 : near ≤ 1125899906842624) (hs : r.st.length ≤ 4096) :
    Calls Tryz.prog 152 #[.agg #[.int .u32 r.sd, .int .u32 r.md, .int .i64 r.fi, .int .i64 r.ba, .int .i64 r.co, .slice a r.st.length c, .slice a' r.dl.length c'], .int .i64 near] w fun e w' => (∃ v, e = .returned v ∧ OR w.heap.size w' v (secondL near r)) ∧ Below w.heap.size w w' := by
  unfold secondL
  have BG := mkHid (fun (w : World) => begin_any (.int .u32 r.sd) (.int .u32 r.md) (.int .i64 r.fi) (.int .i64 r.co) (.slice a r.st.length c) (.slice a' r.dl.length c') r.ba near n0 n1 w)
  unfold bgn at BG
  obtain ⟨sd, md, fi, ba, co, st, dl⟩ := r
  simp only at *
  have A0 := mkHid ((Apart.refl (fun _ => False) w).alloc (.cells #[.int .u32 sd, .int .u32 md, .int .i64 fi, .int .i64 ba, .int .i64 co, .slice a st.length c, .slice a' dl.length c'] 100))
  have T0 := mkHid (heap_alloc_new w (.cells #[.int .u32 sd, .int .u32 md, .int .i64 fi, .int .i64 ba, .int .i64 co, .slice a st.length c, .slice a' dl.length c'] 100))
  have HZ := mkHid (show (w.alloc (.cells #[.int .u32 sd, .int .u32 md, .int .i64 fi, .int .i64 ba, .int .i64 co, .slice a st.length c, .slice a' dl.length c'] 100)).heap.size = w.heap.size + 1 by simp)
  have I0 := mkHid (h.on A0.out.belowZ)
  have J0 := mkHid (h'.on A0.out.belowZ)
  have m1 := h.len
  have m2 := h'.len
  have HF := mkHid hf
  have HS := mkHid hs
  have H0 := mkHid h0
  obtain ⟨n, HN⟩ : ∃ n, Hid (st.length = n) := ⟨_, rfl⟩
  obtain ⟨m, HM⟩ : ∃ m, Hid (dl.length = m) := ⟨_, rfl⟩
  rw [HN.out] at A0 T0 I0 J0 HZ m1 BG ⊢
  rw [HM.out] at A0 T0 I0 J0 HZ m2 BG ⊢
  obtain ⟨bx, HBX⟩ : ∃ bx, Hid (w.heap.size = bx) := ⟨_, rfl⟩
  obtain ⟨W, HW⟩ : ∃ W, Hid (w.alloc (.cells #[.int .u32 sd, .int .u32 md, .int .i64 fi, .int .i64 ba, .int .i64 co, .slice a n c, .slice a' m c'] 100) = W) := ⟨_, rfl⟩
  rw [HBX.out, HW.out] at T0 HZ
  rw [HW.out] at A0 I0 J0
  obtain ⟨B, HB⟩ : ∃ B, Hid (W.heap.size = B) := ⟨_, rfl⟩
  rw [HB.out] at I0 J0 HZ
  have K0 := mkHid (Below.refl B W)
  obtain ⟨c0, c1, c2, c3, c4, c5, c6⟩ := Tw.cells7 T0.out
  obtain ⟨i0, hi, hz0, hz1, hz2⟩ := info46'
  have hbB : bx < B := by have := HZ.out; omega
  clear h h' hf hs h0
  obtain ⟨t0, HT0⟩ : ∃ x, Hid (wrap64 (64000 * Wr.nV (Wr.hf 24) (Wr.clV (Un.mdV near 1 64000 1)) ba) = x) := ⟨_, rfl⟩
  rw [HT0.out] at BG ⊢
  obtain ⟨R, HR⟩ : ∃ R, Hid (secL fi t0 0 st dl = R) := ⟨_, rfl⟩
  rw [HR.out, HBX.out]
  go_enter Tryz.func152, Tryz.ntmps152
  go_wp2_with fail
  rw [HW.out, HBX.out]
  go_wp2_with fail
  refine (BG.out _).mono ?_
  rintro e w2 ⟨rfl, b2⟩
  rw [HB.out] at b2
  have K2 := mkHid b2
  have T2 := mkHid ((Apart.heap (X := (B ≤ ·)) ⟨b2.os, b2.tape, b2.output, b2.size, fun i _ hx => b2.block i (by omega)⟩ T0.out (by omega)))
  have HFR := mkHid (show fits (st.drop 0) (dl.drop 0) = true from HF.out)
  have HRR := mkHid (show [] ++ secL fi t0 0 (st.drop 0) (dl.drop 0) = R from HR.out)
  clear c0 c1 c2 c3 c4 c5 c6 b2
  obtain ⟨c0, c1, c2, c3, c4, c5, c6⟩ := Tw.cells7 T2.out
  go_wp2
  clear c0 c1 c2 c3 c4 c5 c6
  go_loopw [5, 6, 7, 8, 9, 10, 19] (fun v t6 t7 _ _ _ i wr => ∃ (k : Nat) (tt : Int) (acc : List Rt) (dr : List Int) (a3 : Option Addr) (c3 : Nat), k ≤ n ∧ i = .int .i64 (k : Int) ∧ t7 = .slice a3 dr.length c3 ∧ t6 = .int .i64 tt ∧ acc ++ secL fi tt k (st.drop k) dr = R ∧ fits (st.drop k) dr = true ∧ IA B wr a3 c3 dr ∧ OR B wr v acc ∧ Below B W wr ∧ acc.length = k) (fun _ _ _ _ _ _ i _ => n - (intOf i).toNat)
  case atStart => exact ⟨0, _, [], dl, a', c', Nat.zero_le _, rfl, by rw [HM.out], rfl, HRR.out, HFR.out, J0.out.kept K2.out, OR.nil _ _, K2.out, rfl⟩
  case round =>
    obtain ⟨k, tt, acc, dr, a3, c3, hk, rfl, rfl, rfl, hr, hft, hia, ho, hb, hl⟩ := hrel
    have HRK := mkHid hr
    have HFK := mkHid hft
    have HO := mkHid ho
    have HBW := mkHid hb
    have HL := mkHid hl
    have HIA := mkHid hia
    obtain ⟨ad, cp, hv⟩ := ownsRow_slice ho
    subst hv
    rw [HL.out]
    rw [HL.out] at HO
    have hbs : B ≤ wr.heap.size := by rw [← HB.out]; exact hb.size
    have TK := mkHid ((Apart.heap (X := (B ≤ ·)) ⟨hb.os, hb.tape, hb.output, hb.size, fun i _ hx => hb.block i (by omega)⟩ T0.out (by omega)))
    have IK := mkHid (I0.out.kept hb)
    obtain ⟨c0, c1, c2, c3', c4, c5, c6⟩ := Tw.cells7 TK.out
    have HN4 := mkHid (show n ≤ 4096 by rw [← HN.out]; exact HS.out)
    clear hr hft ho hb hl hia
    by_cases hlt : k < n
    · obtain ⟨bs, off, s, rfl, _, hx, cs⟩ := IK.out.at k (by rw [HN.out]; exact hlt)
      have HV := mkHid (drop_at hx)
      have hs0' := H0.out s (List.mem_of_getElem? hx)
      have k0 : (0 : Int) ≤ k := by omega
      have k1 : (k : Int) < n := by omega
      have kn : (k : Int) ≤ 4096 := by have := HN4.out; omega
      have CR := mkHid (fun (w : World) => seq_any fi k f0 f1 (by omega) w)
      obtain ⟨y, HY⟩ : ∃ y, Hid ((fi + k) % 65536 = y) := ⟨_, rfl⟩
      rw [HY.out] at CR
      clear hx
      go_wp2_with fail
      refine (CR.out _).mono ?_
      rintro e w3 ⟨rfl, rfl⟩
      have hal := (Below.refl w3.heap.size w3).alloc (Nat.le_refl _) (.cells #[.int .i64 y, .bool false, .int .i64 0, .bool false, .bool false] 58)
      have E3 := mkHid (Ed.box w3 ⟨y, false, 0, false, false⟩)
      have BW3 := mkHid (HBW.out.trans (hal.mono hbs))
      have I3 := mkHid (HIA.out.kept (hal.mono hbs))
      have O3 := mkHid (HO.out.below hal)
      have HOE := mkHid (show ∀ b, (Value.slice ad k cp).ownBlock = some b → b ≠ w3.heap.size from fun b hb => by have := (HO.out.lt b hb).2; omega)
      have HWZ := mkHid (show B ≤ (w3.alloc (.cells #[.int .i64 y, .bool false, .int .i64 0, .bool false, .bool false] 58)).heap.size by simp; omega)
      obtain ⟨ee, HEE⟩ : ∃ ee, Hid (w3.heap.size = ee) := ⟨_, rfl⟩
      have HEB := mkHid (show B ≤ ee by rw [← HEE.out]; exact hbs)
      obtain ⟨W3, HW3⟩ : ∃ W3, Hid (w3.alloc (.cells #[.int .i64 y, .bool false, .int .i64 0, .bool false, .bool false] 58) = W3) := ⟨_, rfl⟩
      rw [HW3.out] at BW3 I3 O3 HWZ
      rw [HW3.out, HEE.out] at E3
      rw [HEE.out] at HOE
      clear hal TK IK HBW HO HIA c0 c1 c2 c3' c4 c5 c6 cs
      obtain ⟨e0, e1, e2, e3, e4⟩ := E3.out.c
      obtain ⟨g0, g1, g2, g3, g4⟩ := E3.out.f
      go_upto_region 8 with fail
      rw [HW3.out, HEE.out]
      by_cases hs0 : s = 0
      · subst hs0
        have OW3 := mkHid (show W3.ownsRow B 58 5 (.slice ad k cp) k (rC acc) by have := O3.out; unfold OR at this; rw [HL.out] at this; exact this)
        have HRN := mkHid (show (acc ++ [⟨y, false, 0, false, false⟩]) ++ secL fi tt (k + 1) (st.drop (k + 1)) dr = R by
          have := HRK.out
          rw [HV.out, secL_no (by omega), HY.out] at this
          simpa [List.append_assoc] using this)
        have HFN := mkHid (show fits (st.drop (k + 1)) dr = true by
          have := HFK.out
          rw [HV.out, fits_no (by omega)] at this
          exact this)
        go_wp2_with (at_builtin; refine wpList_append_own2 _ rfl (.tmp 42) (.tmp 44) 23 rfl B 58 i0 (.agg #[.int .i64 0, .bool false, .int .i64 0, .bool false, .bool false]) 5 32 Tryz.underlying23 hi hz0 hz1 hz2 rfl (by decide) (.slice ad k cp) k (rC acc) rfl (OW3.out.alloc _) ⟨W3.heap.size, 0, none⟩ 1 1 [.int .i64 y, .bool false, .int .i64 0, .bool false, .bool false] rfl rfl (cell_five_new _ _ _ _ _ _ _) (by intro u hu; simp at hu; rcases hu with rfl | rfl | rfl | rfl | rfl <;> rfl) (by unfold maxLen; have := HN4.out; omega) (by have := HN4.out; omega) (by simp; have := HWZ.out; omega) ?_; intro v5 w9 hown4 hgrow4 _; have OG := mkHid (OR.grown (r := ⟨y, false, 0, false, false⟩) hown4 HL.out.symm); have BGG := mkHid (or_below (v := .slice ad k cp) (l := acc) (by unfold OR; rw [HL.out]; exact OW3.out) HWZ.out hgrow4); clear hown4 hgrow4)
        go_roundw
        case rel => exact ⟨k + 1, tt, _, dr, a3, c3, by omega, by go_num, rfl, rfl, HRN.out, HFN.out, I3.out.kept BGG.out, OG.out, BW3.out.trans BGG.out, by rw [List.length_append, HL.out]; rfl⟩
        case measure => simp [intOf]; omega
      · have hsp : 0 < s := by omega
        cases hd : dr with
        | nil => have := HFK.out; rw [HV.out, hd, fits_none hsp] at this; cases this
        | cons d dr' =>
          subst hd
          obtain ⟨tn, HTN⟩ : ∃ tn, Hid (wrap64 (tt + wrap64 (d * 250)) = tn) := ⟨_, rfl⟩
          have HRN := mkHid (show (acc ++ [⟨y, true, tn, false, false⟩]) ++ secL fi tn (k + 1) (st.drop (k + 1)) dr' = R by
            have := HRK.out
            rw [HV.out, secL_yes hsp, HY.out, Int.mul_comm 250 d, HTN.out] at this
            simpa [List.append_assoc] using this)
          have HFN := mkHid (show fits (st.drop (k + 1)) dr' = true by
            have := HFK.out
            rw [HV.out, fits_yes hsp] at this
            exact this)
          obtain ⟨b2, off2, d', ha3, _, hxd, cd⟩ := I3.out.at 0 (by simp)
          subst ha3
          obtain rfl : d = d' := by simpa using hxd
          rw [Nat.add_zero] at cd
          have IT := mkHid (I3.out.tail 1 (by have := I3.out.1; simp at this; omega))
          rw [List.drop_succ_cons, List.drop_zero] at IT
          have hc := I3.out.1
          have hcm := I3.out.2.1
          obtain ⟨m3, HM3⟩ : ∃ m3, Hid ((d :: dr').length = m3) := ⟨_, rfl⟩
          obtain ⟨m4, HM4⟩ : ∃ m4, Hid (dr'.length = m4) := ⟨_, rfl⟩
          rw [HM3.out] at hc ⊢
          have hmn : m3 - 1 = m4 := by have := HM3.out; have := HM4.out; simp at *; omega
          have hm1 : (1 : Int) ≤ m3 := by have := HM3.out; simp at *; omega
          have hm2 : (m3 : Int) ≤ 9223372036854775807 := by unfold maxLen at hcm; omega
          have hm3 : (m3 : Int) ≤ c3 := by omega
          obtain ⟨a4, HA4⟩ : ∃ a4 : Option Addr, Hid ((if c3 = 1 then some ⟨b2, off2, none⟩ else some ⟨b2, off2 + 1, none⟩ : Option Addr) = a4) := ⟨_, rfl⟩
          rw [HA4.out] at IT
          clear hxd hcm
          by_cases hc1 : c3 = 1
          · subst hc1
            have ha4 := HA4.out
            rw [if_pos rfl] at ha4
            subst ha4
            obtain rfl : m3 = 1 := by omega
            obtain rfl : m4 = 0 := by omega
            go_upto_region 12 with fail
            rw [HTN.out]
            have E5 := mkHid ((E3.out.set1 true).set2 tn)
            have O5 := mkHid ((O3.out.set (e := ee) (o := 1) (u := .bool true) HOE.out).set (e := ee) (o := 2) (u := .int .i64 tn) HOE.out)
            have BS5 := mkHid (show Below B W3 ((W3.setCell ⟨ee, 1, none⟩ (.bool true)).setCell ⟨ee, 2, none⟩ (.int .i64 tn)) from (((Below.refl B W3).setCell (p := ⟨ee, 1, none⟩) HEB.out (.bool true)).setCell (p := ⟨ee, 2, none⟩) HEB.out (.int .i64 tn)))
            have HWZ5 := mkHid (show B ≤ ((W3.setCell ⟨ee, 1, none⟩ (.bool true)).setCell ⟨ee, 2, none⟩ (.int .i64 tn)).heap.size by have := HWZ.out; simp; omega)
            obtain ⟨W5, HW5⟩ : ∃ W5, Hid ((W3.setCell ⟨ee, 1, none⟩ (.bool true)).setCell ⟨ee, 2, none⟩ (.int .i64 tn) = W5) := ⟨_, rfl⟩
            rw [HW5.out] at E5 O5 BS5 HWZ5 ⊢
            clear e0 e1 e2 e3 e4 g0 g1 g2 g3 g4 cd
            obtain ⟨e0, e1, e2, e3, e4⟩ := E5.out.c
            have OW5 := mkHid (show W5.ownsRow B 58 5 (.slice ad k cp) k (rC acc) by have := O5.out; unfold OR at this; rw [HL.out] at this; exact this)
            go_wp2_with (at_builtin; refine wpList_append_own2 _ rfl (.tmp 42) (.tmp 44) 23 rfl B 58 i0 (.agg #[.int .i64 0, .bool false, .int .i64 0, .bool false, .bool false]) 5 32 Tryz.underlying23 hi hz0 hz1 hz2 rfl (by decide) (.slice ad k cp) k (rC acc) rfl (OW5.out.alloc _) ⟨W5.heap.size, 0, none⟩ 1 1 [.int .i64 y, .bool true, .int .i64 tn, .bool false, .bool false] rfl rfl (cell_five_new _ _ _ _ _ _ _) (by intro u hu; simp at hu; rcases hu with rfl | rfl | rfl | rfl | rfl <;> rfl) (by unfold maxLen; have := HN4.out; omega) (by have := HN4.out; omega) (by simp; have := HWZ5.out; omega) ?_; intro v5 w9 hown4 hgrow4 _; have OG := mkHid (OR.grown (r := ⟨y, true, tn, false, false⟩) hown4 HL.out.symm); have BGG := mkHid (or_below (v := .slice ad k cp) (l := acc) (by unfold OR; rw [HL.out]; exact OW5.out) HWZ5.out hgrow4); clear hown4 hgrow4)
            go_roundw
            case rel => exact ⟨k + 1, tn, _, dr', _, 0, by omega, by go_num, by rw [HM4.out], rfl, HRN.out, HFN.out, IT.out.kept (BS5.out.trans BGG.out), OG.out, (BW3.out.trans BS5.out).trans BGG.out, by rw [List.length_append, HL.out]; rfl⟩
            case measure => simp [intOf]; omega
          · have ha4 := HA4.out
            rw [if_neg hc1] at ha4
            have hc1' : ¬ (c3 : Int) = 1 := by omega
            go_upto_region 12 with fail
            rw [HTN.out]
            have E5 := mkHid ((E3.out.set1 true).set2 tn)
            have O5 := mkHid ((O3.out.set (e := ee) (o := 1) (u := .bool true) HOE.out).set (e := ee) (o := 2) (u := .int .i64 tn) HOE.out)
            have BS5 := mkHid (show Below B W3 ((W3.setCell ⟨ee, 1, none⟩ (.bool true)).setCell ⟨ee, 2, none⟩ (.int .i64 tn)) from (((Below.refl B W3).setCell (p := ⟨ee, 1, none⟩) HEB.out (.bool true)).setCell (p := ⟨ee, 2, none⟩) HEB.out (.int .i64 tn)))
            have HWZ5 := mkHid (show B ≤ ((W3.setCell ⟨ee, 1, none⟩ (.bool true)).setCell ⟨ee, 2, none⟩ (.int .i64 tn)).heap.size by have := HWZ.out; simp; omega)
            obtain ⟨W5, HW5⟩ : ∃ W5, Hid ((W3.setCell ⟨ee, 1, none⟩ (.bool true)).setCell ⟨ee, 2, none⟩ (.int .i64 tn) = W5) := ⟨_, rfl⟩
            rw [HW5.out] at E5 O5 BS5 HWZ5 ⊢
            clear e0 e1 e2 e3 e4 g0 g1 g2 g3 g4 cd
            obtain ⟨e0, e1, e2, e3, e4⟩ := E5.out.c
            have OW5 := mkHid (show W5.ownsRow B 58 5 (.slice ad k cp) k (rC acc) by have := O5.out; unfold OR at this; rw [HL.out] at this; exact this)
            go_wp2_with (at_builtin; refine wpList_append_own2 _ rfl (.tmp 42) (.tmp 44) 23 rfl B 58 i0 (.agg #[.int .i64 0, .bool false, .int .i64 0, .bool false, .bool false]) 5 32 Tryz.underlying23 hi hz0 hz1 hz2 rfl (by decide) (.slice ad k cp) k (rC acc) rfl (OW5.out.alloc _) ⟨W5.heap.size, 0, none⟩ 1 1 [.int .i64 y, .bool true, .int .i64 tn, .bool false, .bool false] rfl rfl (cell_five_new _ _ _ _ _ _ _) (by intro u hu; simp at hu; rcases hu with rfl | rfl | rfl | rfl | rfl <;> rfl) (by unfold maxLen; have := HN4.out; omega) (by have := HN4.out; omega) (by simp; have := HWZ5.out; omega) ?_; intro v5 w9 hown4 hgrow4 _; have OG := mkHid (OR.grown (r := ⟨y, true, tn, false, false⟩) hown4 HL.out.symm); have BGG := mkHid (or_below (v := .slice ad k cp) (l := acc) (by unfold OR; rw [HL.out]; exact OW5.out) HWZ5.out hgrow4); clear hown4 hgrow4)
            go_roundw
            case rel => exact ⟨k + 1, tn, _, dr', _, _, by omega, by go_num, by rw [HM4.out], rfl, HRN.out, HFN.out, IT.out.kept (BS5.out.trans BGG.out), OG.out, (BW3.out.trans BS5.out).trans BGG.out, by rw [List.length_append, HL.out]; rfl⟩
            case measure => simp [intOf]; omega
    · obtain rfl : n = k := by omega
      have HAR := mkHid (show acc = R by have := HRK.out; rw [← HN.out, List.drop_length, secL, List.append_nil] at this; exact this)
      go_wp2
      go_ret
      refine ⟨⟨_, rfl, ?_⟩, ?_⟩
      · have := HO.out
        rw [HAR.out] at this
        exact ownsRow_base this (by have := HZ.out; have := HBX.out; omega)
      · exact (A0.out.belowF bx (by rw [HBX.out]; exact Nat.le_refl _)).trans (HBW.out.mono (by omega))
end Go.Proofs.YtdhbakknplnnkaaGreat.Fd
