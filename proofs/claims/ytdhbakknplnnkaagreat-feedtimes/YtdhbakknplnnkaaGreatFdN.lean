/-
  What the program's Read hands back.
-/
import Derived.Test.YtdhbakknplnnkaaGreatFdL
import Derived.Test.YtdhbakknplnnkaaGreatRc2
namespace Go.Proofs.YtdhbakknplnnkaaGreat.Fd
open Go.RowKit Go.Proofs.YtdhbakknplnnkaaGreat.Nk

/-- The same list, or both have too many. -/
def Cap {α : Type} (x y : List α) : Prop := x = y ∨ (4096 < x.length ∧ 4096 < y.length)
theorem Cap.refl {α : Type} (x : List α) : Cap x x := .inl rfl
theorem Cap.app {α : Type} {x y : List α} (h : Cap x y) (n : List α) : Cap (if 4096 < x.length then x else x ++ n) (y ++ n) := by
  rcases h with rfl | ⟨h1, h2⟩
  · split
    · exact .inr ⟨by assumption, by rw [List.length_append]; omega⟩
    · exact .inl rfl
  · rw [if_pos h1]
    exact .inr ⟨h1, by rw [List.length_append]; omega⟩
theorem Cap.more {α : Type} {x y : List α} (h : Cap x y) : 4096 < x.length ↔ 4096 < y.length := by
  rcases h with rfl | ⟨h1, h2⟩
  · exact Iff.rfl
  · exact ⟨fun _ => h2, fun _ => h1⟩
theorem Cap.eq {α : Type} {x y : List α} (h : Cap x y) (hx : ¬ 4096 < x.length) : x = y := by
  rcases h with rfl | ⟨h1, h2⟩
  · rfl
  · exact absurd h1 hx
theorem grR_len {near : Int} {aR : List Rt} {p : Rc.Pt} (h : aR.length ≤ 70000) : (grR near aR p).length ≤ 70000 := by
  unfold grR
  split
  · exact h
  · have := pR_len near p; rw [List.length_append]; omega
theorem grA_len {aA : List Int} {p : Rc.Pt} (h : aA.length ≤ 70000) : (grA aA p).length ≤ 70000 := by
  unfold grA
  split
  · exact h
  · have := pA_len p; rw [List.length_append]; omega
theorem neq97 (v : Value) (w : World) : (binOp .neq 20 (.iface 97 v) .nilIface).run Tryz.prog w = .ok (.bool true) w := by kernel_rfl
theorem neq100 (v : Value) (w : World) : (binOp .neq 20 (.iface 100 v) .nilIface).run Tryz.prog w = .ok (.bool true) w := by kernel_rfl
theorem neq78 (v : Value) (w : World) : (binOp .neq 20 (.iface 78 v) .nilIface).run Tryz.prog w = .ok (.bool true) w := by kernel_rfl
theorem neqnil (w : World) : (binOp .neq 20 .nilIface .nilIface).run Tryz.prog w = .ok (.bool false) w := by kernel_rfl
/-- Is it a kind? As the program asks it. -/
theorem told_neq {w : World} {x : Value} {p : Rc.Pt} (h : Told w x p) : ∀ w : World, (binOp .neq 20 x .nilIface).run Tryz.prog w = .ok (.bool (pK p)) w := by
  obtain ⟨c, t, d⟩ := p
  by_cases ht : t = 205
  · subst ht
    by_cases h11 : c = 11
    · subst h11
      rw [told_11] at h
      obtain ⟨a, q, rfl, _⟩ := h
      rw [(p_11 d 0).2.2.2]
      exact neq97 _
    · by_cases h15 : c = 15
      · subst h15
        rw [told_15] at h
        obtain ⟨a, q, a', q', rfl, _⟩ := h
        rw [(p_15 d 0).2.2.2]
        exact neq100 _
      · by_cases h1 : c = 1
        · subst h1
          rw [told_1] at h
          obtain ⟨a, q, rfl, _⟩ := h
          rw [(p_1 d 0).2.2.2]
          exact neq78 _
        · rw [told_else _ _ _ _ h11 h15 h1] at h
          subst h
          rw [(p_else (d := d) (near := 0) h11 h15 h1).2.2.2]
          exact neqnil
  · rw [told_other _ _ _ _ _ ht] at h
    subst h
    rw [(p_other (c := c) (d := d) (near := 0) ht).2.2.2]
    exact neqnil
theorem eqg97 (t : TypeId) (v : Value) (w : World) : (eqGuard .neq 20 (.tmp 43) (.const .nilIface) (.iface t v) .nilIface).run Tryz.prog w = .ok () w := by kernel_rfl
theorem eqgnil (w : World) : (eqGuard .neq 20 (.tmp 43) (.const .nilIface) .nilIface .nilIface).run Tryz.prog w = .ok () w := by kernel_rfl
theorem told_eqg {w : World} {x : Value} {p : Rc.Pt} (h : Told w x p) : ∀ w : World, (eqGuard .neq 20 (.tmp 43) (.const .nilIface) x .nilIface).run Tryz.prog w = .ok () w := by
  unfold Told at h
  split at h
  · split at h
    · obtain ⟨a, q, rfl, _⟩ := h
      exact eqg97 _ _
    · split at h
      · obtain ⟨a, q, a', q', rfl, _⟩ := h
        exact eqg97 _ _
      · split at h
        · obtain ⟨a, q, rfl, _⟩ := h
          exact eqg97 _ _
        · subst h
          exact eqgnil
  · subst h
    exact eqgnil
theorem Vw.more {T : TypeId} {w wr w2 : World} {q fb B : Nat} {a : Option Addr} {l : List Rc.Pt} {vr va vr2 va2 : Value} {aR aR2 : List Rt} {aA aA2 : List Int} (h : Vw T w wr q fb B a l vr va aR aA) (hb : Below B wr w2) (oR : OR B w2 vr2 aR2) (oA : OI B w2 va2 aA2) (ne : ∀ k, vr2.ownBlock = some k → ¬ va2.ownBlock = some k) : Vw T w (put2 w2 fb vr2 va2) q fb B a l vr2 va2 aR2 aA2 := by
  have hz := h.z
  have ha : Apart (B ≤ ·) wr w2 := ⟨hb.os, hb.tape, hb.output, hb.size, fun k _ hx => hb.block k (by omega)⟩
  have hs := put2_ap w2 fb vr2 va2
  refine ⟨hs.heap (ha.heap h.r (by omega)) (by omega), put2_is (ha.heap h.f (by omega)) _ _, ownsRow_apart2 oR hs (fun k hk e => by have := (oR.lt k hk).1; omega), ownsRow_apart2 oA hs (fun k hk e => by have := (oA.lt k hk).1; omega), ne, ?_, (h.k.trans ha (fun i hi e => by omega)).trans hs (fun i hi e => by omega), hz.1, hz.2.1, hz.2.2.1, Nat.le_trans (Nat.le_trans hz.2.2.2 hb.size) hs.size⟩
  exact (h.p.kept (hb.mono (by omega))).kept (hs.below fb (by have := hb.size; omega) (fun k e => by omega))
/-- Where the function stands, its result in q. -/
structure Qp (w wr : World) (q : Nat) : Prop where
  r : Bd 26 wr q (.slice none 0 0) (.slice none 0 0)
  k : Apart (fun _ => False) w wr
  z : w.heap.size ≤ q
theorem Vw.qp {w wr : World} {q fb B : Nat} {a : Option Addr} {l : List Rc.Pt} {vr va : Value} {aR : List Rt} {aA : List Int} (h : Vw 26 w wr q fb B a l vr va aR aA) : Qp w wr q := ⟨h.r, h.k, h.z.1⟩
theorem Qp.next {w wr w2 : World} {q : Nat} (h : Qp w wr q) (hb : Below wr.heap.size wr w2) : Qp w w2 q := ⟨(below_apart hb).heap h.r (fun h => h), h.k.zz (below_apart hb), h.z⟩
theorem res8 {W : World} {bx : Nat} {a : Option Addr} {n c : Nat} {a' : Option Addr} {n' c' : Nat} (tmps : Array Value) (h2 : tmps.getD 4 undef = .pointer (some ⟨bx, 0, none⟩)) (hd : Bd 26 W bx (.slice a n c) (.slice a' n' c')) :
    (results Tryz.f8 tmps).run Tryz.prog W = .ok (.tuple #[fv a n c a' n' c', tmps.getD 5 undef]) W := by
  obtain ⟨⟨c0, c1⟩, -⟩ := cells2 hd
  clear hd
  have h2' : tmps[4]?.getD undef = .pointer (some ⟨bx, 0, none⟩) := by rw [← h2]; simp
  unfold fv
  simp [results, Tryz.results8, h2', c0, c1, go_sem]
theorem Qp.rno {w wr : World} {q : Nat} {s : ByteArray} {near : Int} (h : Qp w wr q) {E : Int} (hE : fdE s near = E) (h0 : ¬ E = 0) (tmps : Array Value) (h2 : tmps.getD 4 undef = .pointer (some ⟨q, 0, none⟩)) (h3 : tmps.getD 5 undef = .int .i64 E) (d : List Deferred) (hd : d = []) :
    bodyPost Tryz.prog Tryz.f8 (RdPost s near w) Exit.ret { tmps := tmps, defers := d } (put2 wr q (.slice none 0 0) (.slice none 0 0)) := by
  subst hd
  exact bodyPost_ret (res8 _ h2 (put2_is h.r _ _)) rfl (rd_none (by rw [hE]; exact h0) (by rw [hE, h3]) ((h.k.trans (put2_ap wr q _ _) (fun i hi e => by have := h.z; omega)).belowZ))
theorem lt_nrH (n : Int) : 0 ≤ nrH n ∧ nrH n ≤ 1125899906842624 := by unfold nrH Un.clV; repeat' split <;> omega
set_option maxRecDepth 100000 in
set_option maxHeartbeats 8000000 in
theorem read_any (s : ByteArray) (hs : s.size ≤ 1000000) (near : Int) (w : World) : Calls Tryz.prog 8 #[.string s, .int .i64 near] w (RdPost s near w) := by
  have Q0 := mkHid (show Qp w (w.alloc (.cells #[.slice none 0 0, .slice none 0 0] 26)) w.heap.size from ⟨heap_alloc_new _ _, (Apart.refl (fun _ => False) w).alloc _, Nat.le_refl _⟩)
  have Z0 := mkHid (show (w.alloc (.cells #[.slice none 0 0, .slice none 0 0] 26)).heap.size = w.heap.size + 1 by simp)
  obtain ⟨q, HQ⟩ : ∃ q, Hid (w.heap.size = q) := ⟨_, rfl⟩
  obtain ⟨W, HW⟩ : ∃ W, Hid (w.alloc (.cells #[.slice none 0 0, .slice none 0 0] 26) = W) := ⟨_, rfl⟩
  rw [HQ.out, HW.out] at Q0 Z0
  have SP := mkHid (Rc.split_any s hs W)
  go_enter Tryz.func8, Tryz.ntmps8
  go_wp2_with fail
  rw [HW.out, HQ.out]
  go_wp2_with fail
  refine (SP.out).mono ?_
  rintro e w2 ⟨⟨a, cp, rfl, p2⟩, b2⟩
  have Q2 := mkHid (Q0.out.next b2)
  have P2 := mkHid p2
  have HZ2 := mkHid (show q + 1 ≤ w2.heap.size by have := b2.size; have := Z0.out; omega)
  clear b2 p2 SP Q0
  obtain ⟨⟨c0, c1⟩, f0, f1⟩ := cells2 Q2.out.r
  by_cases hE : Rc.rE s = 0
  · rw [hE]
    have RC := mkHid (Un.clamp_any near 0 1125899906842624 (by omega))
    go_wp2_with fail
    refine (RC.out _).mono ?_
    rintro e w3 ⟨rfl, rfl⟩
    have V0 := mkHid (show Vw 26 w (w3.alloc (.cells #[.slice none 0 0, .slice none 0 0] 26)) q w3.heap.size (w3.heap.size + 1) a (Rc.rL s) (.slice none 0 0) (.slice none 0 0) [] [] from
      ⟨((Apart.refl (fun _ => False) w3).alloc _).heap Q2.out.r (fun h => h), heap_alloc_new _ _, OR.nil _ _, OI.nil _ _, (by intro k hk; simp [Value.ownBlock] at hk), P2.out.kept (((Apart.refl (fun _ => False) w3).alloc _).belowZ), Q2.out.k.zz ((Apart.refl (fun _ => False) w3).alloc _), Q2.out.z, by have := HZ2.out; omega, by omega, by simp⟩)
    obtain ⟨fb, HFB⟩ : ∃ fb, Hid (w3.heap.size = fb) := ⟨_, rfl⟩
    obtain ⟨W3, HW3⟩ : ∃ W3, Hid (w3.alloc (.cells #[.slice none 0 0, .slice none 0 0] 26) = W3) := ⟨_, rfl⟩
    rw [HFB.out, HW3.out] at V0
    have HFW := mkHid (rL_few s)
    have HLS := mkHid (show fdE s near = if lsE (Rc.rL s) = 0 then (if lsK (Rc.rL s) = true then (if 4096 < (lsR (nrH near) (Rc.rL s)).length ∨ 4096 < (lsA (Rc.rL s)).length then 3 else 0) else 120) else lsE (Rc.rL s) by unfold fdE; rw [if_pos hE])
    have HN0 := mkHid (lt_nrH near)
    have HND := mkHid (show Un.clV near 0 1125899906842624 = nrH near from rfl)
    have HFR := mkHid (show fdE s near = 0 → fdR s near = lsR (nrH near) (Rc.rL s) ∧ fdA s near = lsA (Rc.rL s) from fun h => by unfold fdR fdA; rw [if_pos h, if_pos h]; exact ⟨rfl, rfl⟩)
    have HR0 := mkHid (show Rest (nrH near) (Rc.rL s) 0 [] [] false (lsE (Rc.rL s)) (lsR (nrH near) (Rc.rL s)) (lsA (Rc.rL s)) (lsK (Rc.rL s)) from ⟨rfl, rfl, rfl, rfl⟩)
    obtain ⟨l, HL⟩ : ∃ l, Hid (Rc.rL s = l) := ⟨_, rfl⟩
    obtain ⟨nr, HNR⟩ : ∃ nr, Hid (nrH near = nr) := ⟨_, rfl⟩
    rw [HL.out] at V0 HFW HLS HR0 HFR
    rw [HNR.out] at HLS HR0 HFR HN0 HND
    obtain ⟨E, HE⟩ : ∃ E, Hid (lsE l = E) := ⟨_, rfl⟩
    obtain ⟨R, HR⟩ : ∃ R, Hid (lsR nr l = R) := ⟨_, rfl⟩
    obtain ⟨A, HA⟩ : ∃ A, Hid (lsA l = A) := ⟨_, rfl⟩
    obtain ⟨K, HK⟩ : ∃ K, Hid (lsK l = K) := ⟨_, rfl⟩
    rw [HE.out, HR.out, HA.out, HK.out] at HLS HR0
    rw [HR.out, HA.out] at HFR
    obtain ⟨n, HN⟩ : ∃ n, Hid (l.length = n) := ⟨_, rfl⟩
    have hn : n ≤ 16384 := by have := HFW.out.1; have := HN.out; omega
    have hn1 : (n : Int) ≤ 16384 := by omega
    rw [HND.out, HL.out, HN.out]
    clear c0 c1 f0 f1 P2 RC hE
    go_wp2_with fail
    rw [HW3.out, HFB.out]
    go_loopw [9, 11, 12, 13, 28] (fun sn _ _ _ x wr => ∃ (i : Nat) (sb : Bool) (vr va : Value) (aR yR : List Rt) (aA yA : List Int), i ≤ n ∧ x = .int .i64 (i : Int) ∧ sn = .bool sb ∧ Rest nr l i yR yA sb E R A K ∧ Cap aR yR ∧ Cap aA yA ∧ aR.length ≤ 70000 ∧ aA.length ≤ 70000 ∧ Vw 26 w wr q fb (fb + 1) a l vr va aR aA) (fun _ _ _ _ x _ => n - (intOf x).toNat)
    case atStart => exact ⟨0, false, _, _, [], [], [], [], Nat.zero_le _, rfl, rfl, HR0.out, Cap.refl _, Cap.refl _, Nat.zero_le _, Nat.zero_le _, V0.out⟩
    case round =>
      obtain ⟨i, sb, vr, va, aR, yR, aA, yA, hi, rfl, rfl, hr, hcr, hca, hlr, hla, hv⟩ := hrel
      have HR1 := mkHid hr
      have V1 := mkHid hv
      have HCR := mkHid hcr
      have HCA := mkHid hca
      have HLR := mkHid hlr
      have HLA := mkHid hla
      clear hr hv hcr hca hlr hla V0 HR0 Q2 Z0 HZ2
      by_cases hlt : i < n
      · have i0' : (0 : Int) ≤ i := by omega
        have i1 : (i : Int) < n := by omega
        obtain ⟨ab, off, p, rfl, hbl, hp, hc⟩ := V1.out.p.at i (by rw [HN.out]; exact hlt)
        have HP := mkHid hp
        have HDZ := mkHid (HFW.out.2 p (List.mem_of_getElem? hp))
        obtain ⟨p0, p1, p2, -⟩ := hc
        have DC := mkHid (decoded_any p HDZ.out)
        clear hp hbl
        go_upto_region 10 with fail
        have X4 := mkHid ((Below.refl wr.heap.size wr).alloc (Nat.le_refl _) (.cells #[.int .i64 p.c, .int .i64 p.t, .string p.d] 56))
        have V4 := mkHid (V1.out.next X4.out)
        obtain ⟨y0, y1, y2, -⟩ := cells3 (heap_alloc_new wr (.cells #[.int .i64 p.c, .int .i64 p.t, .string p.d] 56))
        obtain ⟨W4, HW4⟩ : ∃ W4, Hid (wr.alloc (.cells #[.int .i64 p.c, .int .i64 p.t, .string p.d] 56) = W4) := ⟨_, rfl⟩
        rw [HW4.out] at V4 y0 y1 y2 ⊢
        clear p0 p1 p2 X4
        go_wp2_with fail
        refine (DC.out _).mono ?_
        rintro e w5 ⟨⟨x, rfl, ht⟩, b5⟩
        have V5 := mkHid (V4.out.next b5)
        have HT := mkHid ht
        clear ht b5 y0 y1 y2 V4 V1 DC
        by_cases hde : pE p = 0
        · have HRN := mkHid (HR1.out.next HP.out hde)
          have nq := told_neq HT.out
          have ng := told_eqg HT.out
          have HKP := mkHid (rfl : pK p = pK p)
          obtain ⟨kk, HKK⟩ : ∃ x, Hid (pK p = x) := ⟨_, rfl⟩
          rw [HKK.out] at nq HRN
          rw [hde]
          obtain ⟨a1, k1, rfl, -⟩ := or_ra V5.out.oR
          obtain ⟨a2, k2, rfl, -⟩ := own_ia V5.out.oA
          have MA := mkHid (more_any (fb + 1) w5 a1 k1 aR a2 k2 aA x p nr V5.out.oR V5.out.oA V5.out.ne V5.out.z.2.2.2 HT.out hde HN0.out.1 HN0.out.2 (by have := HLR.out; omega) (by have := HLA.out; omega))
          obtain ⟨⟨x0, x1⟩, f0, f1⟩ := cells2 V5.out.f
          obtain ⟨m1, H1⟩ : ∃ x, Hid (aR.length = x) := ⟨_, rfl⟩
          obtain ⟨m2, H2⟩ : ∃ x, Hid (aA.length = x) := ⟨_, rfl⟩
          rw [H1.out] at x0 MA
          rw [H2.out] at x1 MA
          cases sb with
          | false =>
            rw [Bool.false_or] at HRN
            go_wp2_with fail
            refine (MA.out).mono ?_
            rintro e w6 ⟨⟨vr2, va2, rfl, oR, oA, hne⟩, b6⟩
            obtain ⟨ad2, cp2, rfl⟩ := ownsRow_slice oR
            obtain ⟨ad3, cp3, rfl⟩ := ownsRow_slice oA
            have F6 := mkHid (Apart.heap (X := (fb + 1 ≤ ·)) ⟨b6.os, b6.tape, b6.output, b6.size, fun k _ hx => b6.block k (by omega)⟩ V5.out.f (by omega))
            have V6 := mkHid (V5.out.more b6 oR oA hne)
            clear oR oA hne b6 x0 x1 f0 f1
            obtain ⟨⟨x0, x1⟩, f0, f1⟩ := cells2 F6.out
            go_wp2
            rw [put2_eq]
            go_roundw
            case rel => exact ⟨i + 1, kk, _, _, _, _, _, _, by omega, by go_num, rfl, HRN.out, HCR.out.app _, HCA.out.app _, grR_len HLR.out, grA_len HLA.out, V6.out⟩
            case measure => simp [intOf]; omega
          | true =>
            rw [Bool.true_or] at HRN
            go_wp2_with fail
            refine (MA.out).mono ?_
            rintro e w6 ⟨⟨vr2, va2, rfl, oR, oA, hne⟩, b6⟩
            obtain ⟨ad2, cp2, rfl⟩ := ownsRow_slice oR
            obtain ⟨ad3, cp3, rfl⟩ := ownsRow_slice oA
            have F6 := mkHid (Apart.heap (X := (fb + 1 ≤ ·)) ⟨b6.os, b6.tape, b6.output, b6.size, fun k _ hx => b6.block k (by omega)⟩ V5.out.f (by omega))
            have V6 := mkHid (V5.out.more b6 oR oA hne)
            clear oR oA hne b6 x0 x1 f0 f1
            obtain ⟨⟨x0, x1⟩, f0, f1⟩ := cells2 F6.out
            go_wp2
            rw [put2_eq]
            go_roundw
            case rel => exact ⟨i + 1, true, _, _, _, _, _, _, by omega, by go_num, rfl, HRN.out, HCR.out.app _, HCA.out.app _, grR_len HLR.out, grA_len HLA.out, V6.out⟩
            case measure => simp [intOf]; omega
        · obtain ⟨E1, HE1⟩ : ∃ x, Hid (pE p = x) := ⟨_, rfl⟩
          have HEE := mkHid (HR1.out.no HP.out hde)
          rw [HE1.out] at hde ⊢
          have hde' : (E1 != 0) = true := by simpa using hde
          have HDE := mkHid (show fdE s near = E1 by rw [HLS.out, HEE.out, HE1.out, if_neg hde])
          have Q5 := mkHid V5.out.qp
          obtain ⟨⟨c0, c1⟩, f0, f1⟩ := cells2 Q5.out.r
          go_wp2_with fail
          rw [put2_eq]
          exact Q5.out.rno HDE.out hde _ rfl rfl _ rfl
      · obtain rfl : i = n := by omega
        have HL0 := mkHid (show l.drop i = [] by rw [← HN.out]; exact List.drop_length)
        have HE2 := mkHid (show E = 0 by have := HR1.out.e; rw [HL0.out] at this; exact this.symm)
        have HRR := mkHid (show R = yR by have := HR1.out.r; rw [HL0.out] at this; rw [← this]; exact List.append_nil _)
        have HAA := mkHid (show A = yA by have := HR1.out.a; rw [HL0.out] at this; rw [← this]; exact List.append_nil _)
        have HKK := mkHid (show K = sb by have := HR1.out.k; rw [HL0.out] at this; rw [← this]; exact Bool.or_false _)
        rw [HE2.out, HRR.out, HAA.out, HKK.out, if_pos rfl] at HLS
        rw [HRR.out, HAA.out] at HFR
        obtain ⟨a1, k1, rfl, -⟩ := or_ra V1.out.oR
        obtain ⟨a2, k2, rfl, -⟩ := own_ia V1.out.oA
        have HDE := mkHid (show fdE s near = whE sb aR.length aA.length by
          rw [HLS.out]; unfold whE
          have h1 := HCR.out.more
          have h2 := HCA.out.more
          simp only [h1, h2])
        obtain ⟨⟨x0, x1⟩, f0, f1⟩ := cells2 V1.out.f
        have WH := mkHid (whole_any a1 aR.length k1 a2 aA.length k2 sb (by have := HLR.out; omega) (by have := HLA.out; omega))
        unfold fv at WH
        obtain ⟨m1, H1⟩ : ∃ x, Hid (aR.length = x) := ⟨_, rfl⟩
        obtain ⟨m2, H2⟩ : ∃ x, Hid (aA.length = x) := ⟨_, rfl⟩
        rw [H1.out] at x0 WH HDE
        rw [H2.out] at x1 WH HDE
        obtain ⟨E1, HE1⟩ : ∃ x, Hid (whE sb m1 m2 = x) := ⟨_, rfl⟩
        rw [HE1.out] at WH HDE
        go_wp2_with fail
        refine (WH.out _).mono ?_
        rintro e w5 ⟨rfl, b5⟩
        have V5 := mkHid (V1.out.next b5)
        have Q5 := mkHid V5.out.qp
        clear b5 x0 x1 f0 f1 V1
        obtain ⟨⟨c0, c1⟩, g0, g1⟩ := cells2 Q5.out.r
        obtain ⟨⟨x0, x1⟩, f0, f1⟩ := cells2 V5.out.f
        rw [H1.out] at x0
        rw [H2.out] at x1
        by_cases h0 : E1 = 0
        · rw [h0] at HDE ⊢
          have HM1 : ¬ 4096 < aR.length ∧ ¬ 4096 < aA.length := by
            have := HE1.out
            rw [h0] at this
            unfold whE at this
            rw [H1.out, H2.out]
            split at this
            · split at this
              · simp at this
              · omega
            · simp at this
          have HYR := HCR.out.eq HM1.1
          have HYA := HCA.out.eq HM1.2
          go_wp2_with fail
          rw [put2_eq]
          rw [← H1.out, ← H2.out]
          have hz := V5.out.z
          have OF := ownsRow_apart2 V5.out.oR (put2_ap w5 q (.slice a1 aR.length k1) (.slice a2 aA.length k2)) (fun k hk e => by have := (V5.out.oR.lt k hk).1; omega)
          have OG := ownsRow_apart2 V5.out.oA (put2_ap w5 q (.slice a1 aR.length k1) (.slice a2 aA.length k2)) (fun k hk e => by have := (V5.out.oA.lt k hk).1; omega)
          obtain ⟨_, _, hv, ra⟩ := or_ra OF
          simp only [Value.slice.injEq] at hv
          obtain ⟨rfl, -, rfl⟩ := hv
          obtain ⟨_, _, hv, ib⟩ := own_ia OG
          simp only [Value.slice.injEq] at hv
          obtain ⟨rfl, -, rfl⟩ := hv
          obtain ⟨r1, r2⟩ := HFR.out HDE.out
          refine bodyPost_ret (res8 _ rfl (put2_is Q5.out.r _ _)) rfl ⟨⟨a1, k1, a2, k2, ?_, ?_, ?_⟩, (Q5.out.k.trans (put2_ap w5 q _ _) (fun i hi e => by have := Q5.out.z; omega)).belowZ⟩
          · rw [r1, r2, HDE.out, ← HYR, ← HYA]; rfl
          · rw [r1, ← HYR]; exact ra
          · rw [r2, ← HYA]; exact ib
        · have h0' : (E1 != 0) = true := by simpa using h0
          go_wp2_with fail
          rw [put2_eq]
          exact Q5.out.rno HDE.out h0 _ rfl rfl _ rfl
  · have HDE := mkHid (show fdE s near = Rc.rE s by unfold fdE; rw [if_neg hE])
    obtain ⟨E, HEE⟩ : ∃ E, Hid (Rc.rE s = E) := ⟨_, rfl⟩
    rw [HEE.out] at hE HDE ⊢
    have hE' : (E != 0) = true := by simpa using hE
    go_wp2_with fail
    rw [put2_eq]
    exact Q2.out.rno HDE.out hE _ rfl rfl _ rfl
end Go.Proofs.YtdhbakknplnnkaaGreat.Fd
