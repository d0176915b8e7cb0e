/-
  What the reference's Second hands back.
-/
import Derived.Test.YtdhbakknplnnkaaGreatFdA
import Derived.Test.YtdhbakknplnnkaaGreatTw2
import Derived.Test.YtdhbakknplnnkaaGreatWr1
import Derived.Test.YtdhbakknplnnkaaGreatUn4
import Derived.Test.YtdhbakknplnnkaaGreatNk3
import Derived.Deep.RegionHeld3
namespace Go.Proofs.YtdhbakknplnnkaaGreat.Fd
open Go.RowKit Go.Proofs.YtdhbakknplnnkaaGreat.Nk

def secondL (near : Int) (r : Tw.Rp) : List Rt := secL r.fi (wrap64 (64000 * Wr.nV (Wr.hf 24) (Wr.clV (Un.mdV near 1 64000 1)) r.ba)) 0 r.st r.dl
theorem below_set {B b o : Nat} {w : World} {v : Value} (hb : B ≤ b) : Below B w (w.setCell ⟨b, o, none⟩ v) :=
  (ap_set w b o v).below (min B w.heap.size) (by omega) (fun k e => by subst e; omega) |> fun h => ⟨h.os, h.tape, h.output, h.size, fun k hk => Below.heap_setCell w _ _ k (by simp; omega)⟩
theorem OR.set {B : Nat} {w : World} {v : Value} {l : List Rt} (h : OR B w v l) {e o : Nat} {u : Value} (hk : ∀ k, v.ownBlock = some k → k ≠ e) : OR B (w.setCell ⟨e, o, none⟩ u) v l :=
  ownsRow_apart2 h (ap_set w e o u) (fun k hk' e' => hk k hk' e')
set_option maxRecDepth 100000 in
set_option maxHeartbeats 2000000 in
theorem rsecond_any (r : Tw.Rp) (a : Option Addr) (c : Nat) (a' : Option Addr) (c' : Nat) (near : Int) (w : World) (h : IA w.heap.size w a c r.st) (h' : IA w.heap.size w a' c' r.dl) (hf : fits r.st r.dl = true)
    (f0 : 0 ≤ r.fi) (f1 : r.fi ≤ 65535) (n0 : 0 ≤ near) (n1 : near ≤ 1125899906842624) (b0 : -9223372036854775808 ≤ r.ba) (b1 : r.ba ≤ 9223372036854775807) (hs : r.st.length ≤ 4096) :
    Calls Tryz.prog 26 #[.agg #[.int .u32 r.sd, .int .u32 r.md, .int .i64 r.fi, .int .i64 r.ba, .int .i64 r.co, .slice a r.st.length c, .slice a' r.dl.length c'], .int .i64 near] w fun e w' => (∃ v, e = .returned v ∧ OR w.heap.size w' v (secondL near r)) ∧ Below w.heap.size w w' := by
  unfold secondL
  obtain ⟨sd, md, fi, ba, co, st, dl⟩ := r
  simp only at *
  have A0 := mkHid ((Apart.refl (fun _ => False) w).alloc (.cells #[.int .u32 sd, .int .u32 md, .int .i64 fi, .int .i64 ba, .int .i64 co, .slice a st.length c, .slice a' dl.length c'] 63))
  have T0 := mkHid (show Tw.Td (w.alloc (.cells #[.int .u32 sd, .int .u32 md, .int .i64 fi, .int .i64 ba, .int .i64 co, .slice a st.length c, .slice a' dl.length c'] 63)) w.heap.size (.int .u32 sd) (.int .u32 md) (.int .i64 fi) (.int .i64 ba) (.int .i64 co) (.slice a st.length c) (.slice a' dl.length c') from heap_alloc_new _ _)
  have HZ := mkHid (show (w.alloc (.cells #[.int .u32 sd, .int .u32 md, .int .i64 fi, .int .i64 ba, .int .i64 co, .slice a st.length c, .slice a' dl.length c'] 63)).heap.size = w.heap.size + 1 by simp)
  have I0 := mkHid (h.on A0.out.belowZ)
  have J0 := mkHid (h'.on A0.out.belowZ)
  have m1 := h.len
  have m2 := h'.len
  have HF := mkHid hf
  have HS := mkHid hs
  obtain ⟨n, HN⟩ : ∃ n, Hid (st.length = n) := ⟨_, rfl⟩
  obtain ⟨m, HM⟩ : ∃ m, Hid (dl.length = m) := ⟨_, rfl⟩
  rw [HN.out] at A0 T0 I0 J0 HZ m1 ⊢
  rw [HM.out] at A0 T0 I0 J0 HZ m2 ⊢
  obtain ⟨bx, HBX⟩ : ∃ bx, Hid (w.heap.size = bx) := ⟨_, rfl⟩
  obtain ⟨W, HW⟩ : ∃ W, Hid (w.alloc (.cells #[.int .u32 sd, .int .u32 md, .int .i64 fi, .int .i64 ba, .int .i64 co, .slice a n c, .slice a' m c'] 63) = W) := ⟨_, rfl⟩
  rw [HBX.out, HW.out] at T0 HZ
  rw [HW.out] at A0 I0 J0
  obtain ⟨B, HB⟩ : ∃ B, Hid (W.heap.size = B) := ⟨_, rfl⟩
  rw [HB.out] at I0 J0 HZ
  have K0 := mkHid (Below.refl B W)
  obtain ⟨c0, c1, c2, c3, c4, c5, c6⟩ := T0.out.c
  obtain ⟨i0, hi, hz0, hz1, hz2⟩ := info46'
  have hbB : bx < B := by have := HZ.out; omega
  clear h h' hf hs
  obtain ⟨dv, HDV⟩ : ∃ dv, Hid (Un.mdV near 1 64000 1 = dv) := ⟨_, rfl⟩
  have DC := mkHid (Un.rdo_any near 1 64000 1 (by omega) (by omega) (by omega) (by omega) (by omega) (by omega))
  rw [HDV.out] at DC ⊢
  have NC := mkHid (Wr.rnear_any dv ba 24 (by omega) (by omega))
  obtain ⟨ns, HNS⟩ : ∃ ns, Hid (Wr.nV (Wr.hf 24) (Wr.clV dv) ba = ns) := ⟨_, rfl⟩
  rw [HNS.out] at NC ⊢
  obtain ⟨R, HR⟩ : ∃ R, Hid (secL fi (wrap64 (64000 * ns)) 0 st dl = R) := ⟨_, rfl⟩
  rw [HR.out, HBX.out]
  go_enter Tryz.func26, Tryz.ntmps26
  go_wp2_with fail
  rw [HW.out, HBX.out]
  have HS0 := mkHid (show W.cell? ⟨bx, 3, none⟩ = some (.int .i64 ba) ∧ Below B W W from ⟨c3, Below.refl _ _⟩)
  have HS1 := mkHid (show W.drew.cell? ⟨bx, 3, none⟩ = some (.int .i64 ba) ∧ Below B W W.drew from ⟨c3, (Below.refl _ _).drew⟩)
  have HNY := mkHid (fun (w1 w2 : World) (h1 : w1.cell? ⟨bx, 3, none⟩ = some (.int .i64 ba) ∧ Below B W w1) (h2 : Below w1.heap.size w1 w2) => (show w2.cell? ⟨bx, 3, none⟩ = some (.int .i64 ba) ∧ Below B W w2 from by
    have hs := h1.2.size
    rw [HB.out] at hs
    exact ⟨by rw [h2.cell (p := ⟨bx, 3, none⟩) (show bx < w1.heap.size by omega)]; exact h1.1, h1.2.trans (h2.mono hs)⟩))
  go_region_held3 (fun w' => w'.cell? ⟨bx, 3, none⟩ = some (.int .i64 ba) ∧ Below B W w')
    (first | exact HS0.out | exact HS1.out | exact HNY.out _ _ (by assumption) (by assumption))
    (first | (go_at_call 48; refine (DC.out _).mono ?_; rintro e w' ⟨rfl, hbx⟩) | (go_at_call 51; refine (NC.out _).mono ?_; rintro e w' ⟨rfl, hbx⟩))
  have K2 := mkHid (show w'.cell? ⟨bx, 3, none⟩ = some (.int .i64 ba) ∧ Below B W w' by assumption).2
  obtain ⟨W2, HW2⟩ : ∃ W2, Hid (w' = W2) := ⟨_, rfl⟩
  have HFR := mkHid (show fits (st.drop 0) (dl.drop 0) = true from HF.out)
  have HRR := mkHid (show [] ++ secL fi (wrap64 (64000 * ns)) 0 (st.drop 0) (dl.drop 0) = R from HR.out)
  clear c0 c1 c2 c3 c4 c5 c6
  go_wp2
  go_loopw [5, 7, 8, 9, 10] (fun v t8 x i _ wr => ∃ (k j : Nat) (tt : Int) (acc : List Rt), k ≤ n ∧ i = .int .i64 (k : Int) ∧ x = .int .i64 (j : Int) ∧ t8 = .int .i64 tt ∧ acc ++ secL fi tt k (st.drop k) (dl.drop j) = R ∧ fits (st.drop k) (dl.drop j) = true ∧ OR B wr v acc ∧ Below B W wr ∧ acc.length = k ∧ j ≤ k) (fun _ _ _ i _ _ => n - (intOf i).toNat)
  case atStart => exact ⟨0, 0, _, [], Nat.zero_le _, rfl, rfl, rfl, HRR.out, HFR.out, OR.nil _ _, K2.out, rfl, Nat.le_refl _⟩
  case round =>
    obtain ⟨k, j, tt, acc, hk, rfl, rfl, rfl, hr, hft, ho, hb, hl, hjk⟩ := hrel
    have HRK := mkHid hr
    have HFK := mkHid hft
    have HO := mkHid ho
    have HBW := mkHid hb
    have HL := mkHid hl
    obtain ⟨ad, cp, hv⟩ := ownsRow_slice ho
    subst hv
    rw [HL.out]
    rw [HL.out] at HO
    have hbs : B ≤ wr.heap.size := by rw [← HB.out]; exact hb.size
    have TK := mkHid (T0.out.kept (X := (B ≤ ·)) ⟨hb.os, hb.tape, hb.output, hb.size, fun i _ hx => hb.block i (by omega)⟩ (by omega))
    have IK := mkHid (I0.out.kept hb)
    have JK := mkHid (J0.out.kept hb)
    obtain ⟨c0, c1, c2, c3, c4, c5, c6⟩ := TK.out.c
    have HN4 := mkHid (show n ≤ 4096 by rw [← HN.out]; exact HS.out)
    clear hr hft ho hb hl HS0 HS1 HNY
    by_cases hlt : k < n
    · obtain ⟨bs, off, s, rfl, _, hx, cs⟩ := IK.out.at k (by rw [HN.out]; exact hlt)
      have HV := mkHid (drop_at hx)
      have k0 : (0 : Int) ≤ k := by omega
      have k1 : (k : Int) < n := by omega
      have kn : (k : Int) ≤ 4096 := by have := HN4.out; omega
      have CR := mkHid (rcrop16 (fi + k))
      obtain ⟨y, HY⟩ : ∃ y, Hid ((fi + k) % 65536 = y) := ⟨_, rfl⟩
      rw [HY.out] at CR
      clear hx
      go_wp2_with fail
      refine (CR.out _).mono ?_
      rintro e w3 ⟨rfl, rfl⟩
      have hal := (Below.refl w3.heap.size w3).alloc (Nat.le_refl _) (.cells #[.int .i64 y, .bool false, .int .i64 0, .bool false, .bool false] 58)
      have E3 := mkHid (Ed.box w3 ⟨y, false, 0, false, false⟩)
      have T3 := mkHid (TK.out.kept (X := fun _ => False) ⟨hal.os, hal.tape, hal.output, hal.size, fun i hi _ => hal.block i hi⟩ (fun h => h))
      have BW3 := mkHid (HBW.out.trans (hal.mono hbs))
      have I3 := mkHid (I0.out.kept BW3.out)
      have J3 := mkHid (J0.out.kept BW3.out)
      have O3 := mkHid (HO.out.below hal)
      have HOE := mkHid (show ∀ b, (Value.slice ad k cp).ownBlock = some b → b ≠ w3.heap.size from fun b hb => by have := (HO.out.lt b hb).2; omega)
      have HWZ := mkHid (show B ≤ (w3.alloc (.cells #[.int .i64 y, .bool false, .int .i64 0, .bool false, .bool false] 58)).heap.size by simp; omega)
      obtain ⟨ee, HEE⟩ : ∃ ee, Hid (w3.heap.size = ee) := ⟨_, rfl⟩
      have HEB := mkHid (show B ≤ ee by rw [← HEE.out]; exact hbs)
      obtain ⟨W3, HW3⟩ : ∃ W3, Hid (w3.alloc (.cells #[.int .i64 y, .bool false, .int .i64 0, .bool false, .bool false] 58) = W3) := ⟨_, rfl⟩
      rw [HW3.out] at T3 BW3 I3 J3 O3 HWZ
      rw [HW3.out, HEE.out] at E3
      rw [HEE.out] at HOE
      clear hal TK IK JK HBW HO c0 c1 c2 c3 c4 c5 c6 cs
      obtain ⟨c0, c1, c2, c3, c4, c5, c6⟩ := T3.out.c
      obtain ⟨e0, e1, e2, e3, e4⟩ := E3.out.c
      obtain ⟨g0, g1, g2, g3, g4⟩ := E3.out.f
      obtain ⟨bs', off', s', hbs', _, hx', cs⟩ := I3.out.at k (by rw [HN.out]; exact hlt)
      simp only [Option.some.injEq, Addr.mk.injEq, and_true] at hbs'
      obtain ⟨rfl, rfl⟩ := hbs'
      obtain rfl : s = s' := by have := (drop_at hx').symm.trans HV.out; simpa using this.symm
      clear hx'
      go_upto_region 8 with fail
      rw [HW3.out, HEE.out]
      by_cases hs0 : 0 < s
      · cases hd : dl.drop j with
        | nil => have := HFK.out; rw [HV.out, hd, fits_none hs0] at this; cases this
        | cons d dr =>
          have hjm : j < m := by
            have h1 := congrArg List.length hd
            rw [List.length_drop, HM.out, List.length_cons] at h1
            omega
          have HD := mkHid hd
          have HDR := mkHid (show dl.drop (j + 1) = dr by rw [← List.drop_drop, hd]; rfl)
          obtain ⟨b2, off2, d', rfl, _, hxd, cd⟩ := J3.out.at j (by rw [HM.out]; exact hjm)
          obtain rfl : d = d' := by have := (drop_at hxd).symm.trans hd; simp only [List.cons.injEq] at this; exact this.1.symm
          have j0 : (0 : Int) ≤ j := by omega
          have j1 : (j : Int) < m := by omega
          have jn : (j : Int) ≤ 4096 := by omega
          obtain ⟨tn, HTN⟩ : ∃ tn, Hid (wrap64 (tt + wrap64 (250 * d)) = tn) := ⟨_, rfl⟩
          have HRN := mkHid (show (acc ++ [⟨y, true, tn, false, false⟩]) ++ secL fi tn (k + 1) (st.drop (k + 1)) (dl.drop (j + 1)) = R by
            have := HRK.out
            rw [HV.out, HD.out, secL_yes hs0, HY.out, HTN.out] at this
            rw [HDR.out]
            simpa [List.append_assoc] using this)
          have HFN := mkHid (show fits (st.drop (k + 1)) (dl.drop (j + 1)) = true by
            have := HFK.out
            rw [HV.out, HD.out, fits_yes hs0] at this
            rw [HDR.out]
            exact this)
          clear hd hxd
          go_upto_region 12 with fail
          rw [HTN.out]
          have E5 := mkHid ((E3.out.set1 true).set2 tn)
          have O5 := mkHid ((O3.out.set (e := ee) (o := 1) (u := .bool true) HOE.out).set (e := ee) (o := 2) (u := .int .i64 tn) HOE.out)
          have BW5 := mkHid ((BW3.out.setCell (p := ⟨ee, 1, none⟩) HEB.out (.bool true)).setCell (p := ⟨ee, 2, none⟩) HEB.out (.int .i64 tn))
          have HWZ5 := mkHid (show B ≤ ((W3.setCell ⟨ee, 1, none⟩ (.bool true)).setCell ⟨ee, 2, none⟩ (.int .i64 tn)).heap.size by have := HWZ.out; simp; omega)
          obtain ⟨W5, HW5⟩ : ∃ W5, Hid ((W3.setCell ⟨ee, 1, none⟩ (.bool true)).setCell ⟨ee, 2, none⟩ (.int .i64 tn) = W5) := ⟨_, rfl⟩
          rw [HW5.out] at E5 O5 BW5 HWZ5 ⊢
          clear e0 e1 e2 e3 e4 g0 g1 g2 g3 g4 c0 c1 c2 c3 c4 c5 c6 cs cd T3 I3 J3
          obtain ⟨e0, e1, e2, e3, e4⟩ := E5.out.c
          have OW5 := mkHid (show W5.ownsRow B 58 5 (.slice ad k cp) k (rC acc) by have := O5.out; unfold OR at this; rw [HL.out] at this; exact this)
          go_wp2_with (at_builtin; refine wpList_append_own2 _ rfl (.tmp 50) (.tmp 52) 23 rfl B 58 i0 (.agg #[.int .i64 0, .bool false, .int .i64 0, .bool false, .bool false]) 5 32 Tryz.underlying23 hi hz0 hz1 hz2 rfl (by decide) (.slice ad k cp) k (rC acc) rfl (OW5.out.alloc _) ⟨W5.heap.size, 0, none⟩ 1 1 [.int .i64 y, .bool true, .int .i64 tn, .bool false, .bool false] rfl rfl (cell_five_new _ _ _ _ _ _ _) (by intro u hu; simp at hu; rcases hu with rfl | rfl | rfl | rfl | rfl <;> rfl) (by unfold maxLen; have := HN4.out; omega) (by have := HN4.out; omega) (by simp; have := HWZ5.out; omega) ?_; intro v5 w9 hown4 hgrow4 _; have OG := mkHid (OR.grown (r := ⟨y, true, tn, false, false⟩) hown4 HL.out.symm); have BG := mkHid (or_below (v := .slice ad k cp) (l := acc) (by unfold OR; rw [HL.out]; exact OW5.out) HWZ5.out hgrow4); clear hown4 hgrow4)
          refine ⟨⟨k + 1, j + 1, tn, _, by omega, by go_num, by go_num, rfl, HRN.out, HFN.out, OG.out, BW5.out.trans BG.out, by rw [List.length_append, HL.out]; rfl, by omega⟩, by simp [intOf]; omega⟩
      · have OW3 := mkHid (show W3.ownsRow B 58 5 (.slice ad k cp) k (rC acc) by have := O3.out; unfold OR at this; rw [HL.out] at this; exact this)
        have HRN := mkHid (show (acc ++ [⟨y, false, 0, false, false⟩]) ++ secL fi tt (k + 1) (st.drop (k + 1)) (dl.drop j) = R by
          have := HRK.out
          rw [HV.out, secL_no hs0, HY.out] at this
          simpa [List.append_assoc] using this)
        have HFN := mkHid (show fits (st.drop (k + 1)) (dl.drop j) = true by
          have := HFK.out
          rw [HV.out, fits_no hs0] at this
          exact this)
        go_wp2_with (at_builtin; refine wpList_append_own2 _ rfl (.tmp 50) (.tmp 52) 23 rfl B 58 i0 (.agg #[.int .i64 0, .bool false, .int .i64 0, .bool false, .bool false]) 5 32 Tryz.underlying23 hi hz0 hz1 hz2 rfl (by decide) (.slice ad k cp) k (rC acc) rfl (OW3.out.alloc _) ⟨W3.heap.size, 0, none⟩ 1 1 [.int .i64 y, .bool false, .int .i64 0, .bool false, .bool false] rfl rfl (cell_five_new _ _ _ _ _ _ _) (by intro u hu; simp at hu; rcases hu with rfl | rfl | rfl | rfl | rfl <;> rfl) (by unfold maxLen; have := HN4.out; omega) (by have := HN4.out; omega) (by simp; have := HWZ.out; omega) ?_; intro v5 w9 hown4 hgrow4 _; have OG := mkHid (OR.grown (r := ⟨y, false, 0, false, false⟩) hown4 HL.out.symm); have BG := mkHid (or_below (v := .slice ad k cp) (l := acc) (by unfold OR; rw [HL.out]; exact OW3.out) HWZ.out hgrow4); clear hown4 hgrow4)
        refine ⟨⟨k + 1, j, tt, _, by omega, by go_num, rfl, rfl, HRN.out, HFN.out, OG.out, BW3.out.trans BG.out, by rw [List.length_append, HL.out]; rfl, by omega⟩, by simp [intOf]; omega⟩
    · obtain rfl : n = k := by omega
      have HAR := mkHid (show acc = R by have := HRK.out; rw [← HN.out, List.drop_length, secL, List.append_nil] at this; exact this)
      go_wp2
      go_ret
      refine ⟨⟨_, rfl, ?_⟩, ?_⟩
      · have := HO.out
        rw [HAR.out] at this
        exact ownsRow_base this (by have := HZ.out; have := HBX.out; omega)
      · exact (A0.out.belowF bx (by rw [HBX.out]; exact Nat.le_refl _)).trans (HBW.out.mono (by omega))
end Go.Proofs.YtdhbakknplnnkaaGreat.Fd
