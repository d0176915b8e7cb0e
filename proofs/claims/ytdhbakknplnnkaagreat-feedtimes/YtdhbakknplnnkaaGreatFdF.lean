/-
  What the reference's first hands back.
-/
import Derived.Test.YtdhbakknplnnkaaGreatFdS
import Derived.Test.YtdhbakknplnnkaaGreatCc1
namespace Go.Proofs.YtdhbakknplnnkaaGreat.Fd
open Go.RowKit Go.Proofs.YtdhbakknplnnkaaGreat.Nk

theorem r1L_at {a f : Int} {i : Nat} {l : List Cc.Mt} {j : Nat} {m : Cc.Mt} (h : l[j]? = some m) : r1L a f i (l.drop j) = r1 a f i m :: r1L a f (i + 1) (l.drop (j + 1)) := by
  obtain ⟨hj, rfl⟩ := List.getElem?_eq_some_iff.1 h
  rw [List.drop_eq_getElem_cons hj, r1L]
theorem firstL_at {a : Int} {l : List Cc.Bk} {i : Nat} {k : Cc.Bk} (h : l[i]? = some k) : firstL a (l.drop i) = r1L a k.f 0 k.m ++ firstL a (l.drop (i + 1)) := by
  obtain ⟨hi, rfl⟩ := List.getElem?_eq_some_iff.1 h
  unfold firstL
  rw [List.drop_eq_getElem_cons hi, List.flatMap_cons]
theorem cc_apart {w w' : World} (h : Below w.heap.size w w') : Cc.Apart (fun _ => False) w w' := ⟨h.os, h.tape, h.output, h.size, fun k hk _ => h.block k hk⟩
set_option maxRecDepth 100000 in
set_option maxHeartbeats 4000000 in
theorem rfirst_any (sd st : Int) (l : List Cc.Bk) (a : Option Addr) (c : Nat) (near : Int) (w : World) (h : Cc.BA w.heap.size w a l) (s0 : 0 ≤ st) (s1 : st < 4294967296)
    (hb : ∀ k ∈ l, 0 ≤ k.f ∧ k.f ≤ 65535 ∧ k.m.length ≤ 65536 ∧ ∀ m ∈ k.m, 0 ≤ m.a ∧ m.a ≤ 65535) (hl : l.length ≤ 65536) (hR : (firstL (Un.frV st near) l).length ≤ 100000000) :
    Calls Tryz.prog 24 #[.agg #[.int .u32 sd, .slice a l.length c, .int .u32 st], .int .i64 near] w fun e w' => (∃ v, e = .returned v ∧ OR w.heap.size w' v (firstL (Un.frV st near) l)) ∧ Below w.heap.size w w' := by
  have A0 := mkHid ((Apart.refl (fun _ => False) w).alloc (.cells #[.int .u32 sd, .slice a l.length c, .int .u32 st] 53))
  have T0 := mkHid (Cc.Rv.new w sd (.slice a l.length c) st)
  have HZ := mkHid (show (w.alloc (.cells #[.int .u32 sd, .slice a l.length c, .int .u32 st] 53)).heap.size = w.heap.size + 1 by simp)
  have I0 := mkHid (h.on A0.out.belowZ)
  have HBD := mkHid hb
  have hl2 : (l.length : Int) ≤ 65536 := by omega
  obtain ⟨n, HN⟩ : ∃ n, Hid (l.length = n) := ⟨_, rfl⟩
  rw [HN.out] at A0 T0 I0 HZ hl2 ⊢
  obtain ⟨bx, HBX⟩ : ∃ bx, Hid (w.heap.size = bx) := ⟨_, rfl⟩
  obtain ⟨W, HW⟩ : ∃ W, Hid (w.alloc (.cells #[.int .u32 sd, .slice a n c, .int .u32 st] 53) = W) := ⟨_, rfl⟩
  rw [HBX.out, HW.out] at T0 HZ
  rw [HW.out] at A0 I0
  obtain ⟨B, HB⟩ : ∃ B, Hid (W.heap.size = B) := ⟨_, rfl⟩
  rw [HB.out] at I0 HZ
  obtain ⟨c0, c1, c2, -⟩ := cells3 T0.out
  obtain ⟨i0, hi, hz0, hz1, hz2⟩ := info46'
  have hbB : bx < B := by have := HZ.out; omega
  have FR := mkHid (Un.rfrom_any st near s0 s1)
  obtain ⟨at0, HAT⟩ : ∃ x, Hid (Un.frV st near = x) := ⟨_, rfl⟩
  rw [HAT.out] at FR hR ⊢
  obtain ⟨R, HR⟩ : ∃ R, Hid (firstL at0 l = R) := ⟨_, rfl⟩
  rw [HR.out] at hR
  rw [HR.out, HBX.out]
  have HRL := mkHid hR
  clear h hb hl hR
  go_enter Tryz.func24, Tryz.ntmps24
  go_wp2_with fail
  rw [HW.out, HBX.out]
  go_wp2_with fail
  refine (FR.out _).mono ?_
  rintro e w2 ⟨rfl, b2⟩
  have K2 := mkHid (show Below B W w2 by rw [HB.out] at b2; exact b2)
  have HRR := mkHid (show [] ++ firstL at0 (l.drop 0) = R from HR.out)
  clear b2 c0 c1 c2 FR
  go_wp2
  go_loopw [5, 7, 8, 9, 10] (fun v x _ _ _ wr => ∃ (i : Nat) (acc : List Rt), i ≤ n ∧ x = .int .i64 (i : Int) ∧ acc ++ firstL at0 (l.drop i) = R ∧ OR B wr v acc ∧ Below B W wr) (fun _ x _ _ _ _ => n - (intOf x).toNat)
  case atStart => exact ⟨0, [], Nat.zero_le _, rfl, HRR.out, OR.nil _ _, K2.out⟩
  case round =>
    obtain ⟨i, acc, hin, rfl, hr, ho, hbw⟩ := hrel
    have HRI := mkHid hr
    have HO := mkHid ho
    have HBW := mkHid hbw
    obtain ⟨c0, c1, c2, -⟩ := cells3 (T0.out.kept (X := (B ≤ ·)) ⟨hbw.os, hbw.tape, hbw.output, hbw.size, fun i _ hx => hbw.block i (by omega)⟩ (by omega))
    clear hr ho hbw
    by_cases hlt : i < n
    · have i0' : (0 : Int) ≤ i := by omega
      have i1 : (i : Int) < n := by omega
      obtain ⟨b, off, k, rfl, _, hk, q0, q1, ⟨ma, mc, q2, hma⟩, _⟩ := (I0.out.kept HBW.out).at i (by rw [HN.out]; exact hlt)
      have HK := mkHid hk
      obtain ⟨f0, f1, ml, mbd⟩ := HBD.out k (List.mem_of_getElem? hk)
      have HMB := mkHid mbd
      obtain ⟨M, HM⟩ : ∃ M, Hid (k.m.length = M) := ⟨_, rfl⟩
      rw [HM.out] at q2 ml
      have ml' : (M : Int) ≤ 65536 := by omega
      have HRJ := mkHid (show acc ++ (r1L at0 k.f 0 (k.m.drop 0) ++ firstL at0 (l.drop (i + 1))) = R by rw [List.drop_zero, ← firstL_at hk]; exact HRI.out)
      obtain ⟨D, HD⟩ : ∃ D, Hid (firstL at0 (l.drop (i + 1)) = D) := ⟨_, rfl⟩
      rw [HD.out] at HRJ
      clear hk mbd ml hma q0 q1 q2 HRI
      go_wp2
      clear c0 c1 c2
      go_loopw [5, 8, 9, 10] (fun v x _ _ wi => ∃ (j : Nat) (acc : List Rt), j ≤ M ∧ x = .int .i64 (j : Int) ∧ acc ++ (r1L at0 k.f j (k.m.drop j) ++ D) = R ∧ OR B wi v acc ∧ Below B W wi) (fun _ x _ _ _ => M - (intOf x).toNat)
      case atStart => exact ⟨0, acc, Nat.zero_le _, rfl, HRJ.out, HO.out, HBW.out⟩
      case round =>
        obtain ⟨j, acc, hjM, rfl, hr, ho, hbw⟩ := hrel
        have HRK := mkHid hr
        have HO := mkHid ho
        have HBW := mkHid hbw
        have hbs : B ≤ wr.heap.size := by rw [← HB.out]; exact hbw.size
        obtain ⟨ad, cp, hv⟩ := ownsRow_slice ho
        subst hv
        obtain ⟨L, HL⟩ : ∃ L, Hid (acc.length = L) := ⟨_, rfl⟩
        rw [HL.out] at HO ⊢
        have TB := mkHid (fun (w1 : World) (h1 : Below B W w1) => (show Cc.Rv w1 bx sd (.slice (some ⟨b, off, none⟩) n c) st from T0.out.kept (X := (B ≤ ·)) ⟨h1.os, h1.tape, h1.output, h1.size, fun i _ hx => h1.block i (by omega)⟩ (by omega)))
        have KB := mkHid (fun (w1 : World) (h1 : Below B W w1) => (show w1.cell? ⟨b, off + i * 3 + 1, none⟩ = some (.int .i64 k.f) ∧ ∃ ma mc, w1.cell? ⟨b, off + i * 3 + 2, none⟩ = some (.slice ma M mc) ∧ Cc.MA B w1 ma k.m from by
          obtain ⟨b', off', k', ha, _, hk', q0, q1, ⟨ma, mc, q2, hma⟩, _⟩ := (I0.out.kept h1).at i (by rw [HN.out]; exact hlt)
          simp only [Option.some.injEq, Addr.mk.injEq, and_true] at ha
          obtain ⟨rfl, rfl⟩ := ha
          obtain rfl : k = k' := by have := HK.out; rw [hk'] at this; exact (Option.some.inj this).symm
          exact ⟨q1, ma, mc, by rw [← HM.out]; exact q2, hma⟩))
        obtain ⟨c0, c1, c2, -⟩ := cells3 (TB.out wr hbw)
        obtain ⟨q1, ma, mc, q2, hma⟩ := KB.out wr hbw
        clear hr ho hbw
        by_cases hjl : j < M
        · have j0 : (0 : Int) ≤ j := by omega
          have j1 : (j : Int) < M := by omega
          obtain ⟨mb, moff, m, rfl, _, hm, p0, p1, p2⟩ := hma.at j (by rw [HM.out]; exact hjl)
          have HMG := mkHid hm
          obtain ⟨ma0, ma1⟩ := HMB.out m (List.mem_of_getElem? hm)
          have HRN := mkHid (show acc ++ (r1 at0 k.f j m :: (r1L at0 k.f (j + 1) (k.m.drop (j + 1)) ++ D)) = R by have := HRK.out; rw [r1L_at hm, List.cons_append] at this; exact this)
          clear hm
          obtain ⟨mg, me, mt⟩ := m
          simp only at p0 p1 p2 ma0 ma1 HRN
          have HLB := mkHid (show L ≤ 100000000 by have h1 := congrArg List.length HRN.out; rw [List.length_append, HL.out] at h1; have := HRL.out; omega)
          go_upto_region 10 with fail
          have hal := (Below.refl wr.heap.size wr).alloc (Nat.le_refl _) (.cells #[.bool mg, .int .i64 me, .int .i64 mt] 45)
          have E9 := mkHid (heap_alloc_new wr (.cells #[.bool mg, .int .i64 me, .int .i64 mt] 45))
          have BW3 := mkHid (HBW.out.trans (hal.mono hbs))
          have O3 := mkHid (HO.out.below hal)
          obtain ⟨e9, HE9⟩ : ∃ e9, Hid (wr.heap.size = e9) := ⟨_, rfl⟩
          have h9B : B ≤ e9 := by rw [← HE9.out]; exact hbs
          obtain ⟨W3, HW3⟩ : ∃ W3, Hid (wr.alloc (.cells #[.bool mg, .int .i64 me, .int .i64 mt] 45) = W3) := ⟨_, rfl⟩
          have HZ3 := mkHid (show W3.heap.size = e9 + 1 by rw [← HW3.out, ← HE9.out]; simp)
          rw [HW3.out] at BW3 O3
          rw [HW3.out, HE9.out] at E9
          rw [HW3.out, HE9.out]
          clear hal c0 c1 c2 q1 q2 p0 p1 p2 hma HO HBW
          obtain ⟨c0, c1, c2, -⟩ := cells3 (TB.out W3 BW3.out)
          obtain ⟨q1, -⟩ := KB.out W3 BW3.out
          have CR := mkHid (rcrop16 (k.f + j))
          obtain ⟨y, HY⟩ : ∃ y, Hid ((k.f + j) % 65536 = y) := ⟨_, rfl⟩
          rw [HY.out] at CR
          go_wp2_with fail
          refine (CR.out _).mono ?_
          rintro e w4 ⟨rfl, hw4⟩
          obtain rfl : w4 = W3 := hw4
          go_upto_region 11 with fail
          have hal := (Below.refl w4.heap.size w4).alloc (Nat.le_refl _) (.cells #[.int .i64 y, .bool false, .int .i64 0, .bool false, .bool false] 58)
          have E10 := mkHid (Ed.box w4 ⟨y, false, 0, false, false⟩)
          have BW4 := mkHid (BW3.out.trans (hal.mono (by have := HZ3.out; omega)))
          have O4 := mkHid (O3.out.below hal)
          have F9 := mkHid ((below_apart hal).heap E9.out (fun h => h))
          have HOE := mkHid (show ∀ b, (Value.slice ad L cp).ownBlock = some b → b ≠ w4.heap.size from fun b hb => by have := (O3.out.lt b hb).2; omega)
          obtain ⟨ee, HEE⟩ : ∃ ee, Hid (w4.heap.size = ee) := ⟨_, rfl⟩
          have HEB := mkHid (show B ≤ ee by have := HEE.out; have := HZ3.out; omega)
          have h9e : ¬ e9 = ee := by have := HEE.out; have := HZ3.out; omega
          obtain ⟨W4, HW4⟩ : ∃ W4, Hid (w4.alloc (.cells #[.int .i64 y, .bool false, .int .i64 0, .bool false, .bool false] 58) = W4) := ⟨_, rfl⟩
          have HWZ := mkHid (show B ≤ W4.heap.size by rw [← HW4.out]; simp; have := HZ3.out; omega)
          rw [HW4.out] at BW4 O4 F9
          rw [HW4.out, HEE.out] at E10
          rw [HEE.out] at HOE
          rw [HW4.out, HEE.out]
          clear hal c0 c1 c2 q1 E9 O3 BW3
          obtain ⟨d0, d1, d2, -⟩ := cells3 F9.out
          obtain ⟨e0, e1, e2, e3, e4⟩ := E10.out.c
          obtain ⟨g0, g1, g2, g3, g4⟩ := E10.out.f
          cases mg with
          | false =>
            have OW4 := mkHid (show W4.ownsRow B 58 5 (.slice ad L cp) L (rC acc) by have := O4.out; unfold OR at this; rw [HL.out] at this; exact this)
            have HRM := mkHid (show (acc ++ [⟨y, false, 0, false, false⟩]) ++ (r1L at0 k.f (j + 1) (k.m.drop (j + 1)) ++ D) = R by
              have := HRN.out
              unfold r1 at this
              rw [if_neg (by simp), HY.out] at this
              simpa [List.append_assoc] using this)
            go_wp2_with (at_builtin; refine wpList_append_own2 _ rfl (.tmp 69) (.tmp 71) 23 rfl B 58 i0 (.agg #[.int .i64 0, .bool false, .int .i64 0, .bool false, .bool false]) 5 32 Tryz.underlying23 hi hz0 hz1 hz2 rfl (by decide) (.slice ad L cp) L (rC acc) rfl (OW4.out.alloc _) ⟨W4.heap.size, 0, none⟩ 1 1 [.int .i64 y, .bool false, .int .i64 0, .bool false, .bool false] rfl rfl (cell_five_new _ _ _ _ _ _ _) (by intro u hu; simp at hu; rcases hu with rfl | rfl | rfl | rfl | rfl <;> rfl) (by unfold maxLen; have := HLB.out; omega) (by have := HLB.out; omega) (by simp; have := HWZ.out; omega) ?_; intro v5 w9 hown4 hgrow4 _; have OG := mkHid (OR.grown (r := ⟨y, false, 0, false, false⟩) hown4 HL.out.symm); have BG := mkHid (or_below (v := .slice ad L cp) (l := acc) (by unfold OR; rw [HL.out]; exact OW4.out) HWZ.out hgrow4); clear hown4 hgrow4)
            refine ⟨⟨j + 1, _, by omega, by go_num, HRM.out, OG.out, BW4.out.trans BG.out⟩, by simp [intOf]; omega⟩
          | true =>
            go_upto_region 12 with fail
            go_region
            obtain ⟨ec, HEC⟩ : ∃ ec : Bool, Hid ((me == 3) = ec) := ⟨_, rfl⟩
            rw [HEC.out]
            have E5 := mkHid (show Ed (((W4.setCell ⟨ee, 1, none⟩ (.bool true)).setCell ⟨ee, 4, none⟩ (.bool ec)).drew) ee ⟨y, true, 0, false, ec⟩ from (E10.out.set1 true).set4 ec)
            have O5 := mkHid (show OR B (((W4.setCell ⟨ee, 1, none⟩ (.bool true)).setCell ⟨ee, 4, none⟩ (.bool ec)).drew) (.slice ad L cp) acc from ((O4.out.set (e := ee) (o := 1) (u := .bool true) HOE.out).set (e := ee) (o := 4) (u := .bool ec) HOE.out).below ((Below.refl _ _).drew))
            have BW5 := mkHid (((BW4.out.setCell (p := ⟨ee, 1, none⟩) HEB.out (.bool true)).setCell (p := ⟨ee, 4, none⟩) HEB.out (.bool ec)).drew)
            have HWZ5 := mkHid (show B ≤ (((W4.setCell ⟨ee, 1, none⟩ (.bool true)).setCell ⟨ee, 4, none⟩ (.bool ec)).drew).heap.size by have := HWZ.out; simp; omega)
            have G9 := mkHid (show (((W4.setCell ⟨ee, 1, none⟩ (.bool true)).setCell ⟨ee, 4, none⟩ (.bool ec)).drew).heap[e9]? = some (.cells #[.bool true, .int .i64 me, .int .i64 mt] 45 (0, 0)) from (ap_set _ ee 4 (.bool ec)).heap ((ap_set W4 ee 1 (.bool true)).heap F9.out h9e) h9e)
            obtain ⟨W5, HW5⟩ : ∃ W5, Hid (((W4.setCell ⟨ee, 1, none⟩ (.bool true)).setCell ⟨ee, 4, none⟩ (.bool ec)).drew = W5) := ⟨_, rfl⟩
            rw [HW5.out] at E5 O5 BW5 HWZ5 G9 ⊢
            clear d0 d1 d2 e0 e1 e2 e3 e4 g0 g1 g2 g3 g4
            obtain ⟨d0, d1, d2, -⟩ := cells3 G9.out
            obtain ⟨e0, e1, e2, e3, e4⟩ := E5.out.c
            obtain ⟨g0, g1, g2, g3, g4⟩ := E5.out.f
            have HEL := mkHid (show ee < W5.heap.size from lt_of_heap E5.out)
            by_cases h8 : (8190 : Int) ≤ mt
            · have HRM := mkHid (show (acc ++ [⟨y, true, 0, true, ec⟩]) ++ (r1L at0 k.f (j + 1) (k.m.drop (j + 1)) ++ D) = R by
                have := HRN.out
                unfold r1 at this
                rw [if_pos rfl, if_pos h8, HY.out] at this
                simp only [HEC.out] at this
                simpa [List.append_assoc] using this)
              go_upto_region 16 with fail
              have E6 := mkHid (E5.out.set3 true)
              have O6 := mkHid (O5.out.set (e := ee) (o := 3) (u := .bool true) HOE.out)
              have BW6 := mkHid (BW5.out.setCell (p := ⟨ee, 3, none⟩) HEB.out (.bool true))
              have HWZ6 := mkHid (show B ≤ (W5.setCell ⟨ee, 3, none⟩ (.bool true)).heap.size by have := HWZ5.out; simp; omega)
              obtain ⟨W6, HW6⟩ : ∃ W6, Hid (W5.setCell ⟨ee, 3, none⟩ (.bool true) = W6) := ⟨_, rfl⟩
              rw [HW6.out] at E6 O6 BW6 HWZ6 ⊢
              clear d0 d1 d2 e0 e1 e2 e3 e4 g0 g1 g2 g3 g4
              obtain ⟨e0, e1, e2, e3, e4⟩ := E6.out.c
              have OW6 := mkHid (show W6.ownsRow B 58 5 (.slice ad L cp) L (rC acc) by have := O6.out; unfold OR at this; rw [HL.out] at this; exact this)
              go_wp2_with (at_builtin; refine wpList_append_own2 _ rfl (.tmp 69) (.tmp 71) 23 rfl B 58 i0 (.agg #[.int .i64 0, .bool false, .int .i64 0, .bool false, .bool false]) 5 32 Tryz.underlying23 hi hz0 hz1 hz2 rfl (by decide) (.slice ad L cp) L (rC acc) rfl (OW6.out.alloc _) ⟨W6.heap.size, 0, none⟩ 1 1 [.int .i64 y, .bool true, .int .i64 0, .bool true, .bool ec] rfl rfl (cell_five_new _ _ _ _ _ _ _) (by intro u hu; simp at hu; rcases hu with rfl | rfl | rfl | rfl | rfl <;> rfl) (by unfold maxLen; have := HLB.out; omega) (by have := HLB.out; omega) (by simp; have := HWZ6.out; omega) ?_; intro v5 w9 hown4 hgrow4 _; have OG := mkHid (OR.grown (r := ⟨y, true, 0, true, ec⟩) hown4 HL.out.symm); have BG := mkHid (or_below (v := .slice ad L cp) (l := acc) (by unfold OR; rw [HL.out]; exact OW6.out) HWZ6.out hgrow4); clear hown4 hgrow4)
              refine ⟨⟨j + 1, _, by omega, by go_num, HRM.out, OG.out, BW6.out.trans BG.out⟩, by simp [intOf]; omega⟩
            · obtain ⟨dv, HDV⟩ : ∃ dv, Hid (Un.mdV mt 1000000 1024 1 = dv) := ⟨_, rfl⟩
              have DC := mkHid (Un.rdo_any mt 1000000 1024 1 (by omega) (by omega) (by omega) (by omega) (by omega) (by omega))
              rw [HDV.out] at DC
              obtain ⟨tt, HTT⟩ : ∃ tt, Hid (wrap64 (at0 - dv) = tt) := ⟨_, rfl⟩
              have HRM := mkHid (show (acc ++ [⟨y, true, tt, false, ec⟩]) ++ (r1L at0 k.f (j + 1) (k.m.drop (j + 1)) ++ D) = R by
                have := HRN.out
                unfold r1 at this
                rw [if_pos rfl, if_neg h8, HY.out] at this
                simp only [HEC.out, HDV.out, HTT.out] at this
                simpa [List.append_assoc] using this)
              go_wp2_with fail
              refine (DC.out _).mono ?_
              rintro e w7 ⟨rfl, b7⟩
              have E7 := mkHid ((below_apart b7).heap E5.out (fun h => h))
              have O7 := mkHid (O5.out.below b7)
              have BW7 := mkHid (BW5.out.trans (b7.mono HWZ5.out))
              have HWZ7 := mkHid (Nat.le_trans HWZ5.out b7.size)
              clear b7 d0 d1 d2 e0 e1 e2 e3 e4 g0 g1 g2 g3 g4
              have E7' := mkHid (show Ed w7 ee ⟨y, true, 0, false, ec⟩ from E7.out)
              obtain ⟨e0, e1, e2, e3, e4⟩ := E7'.out.c
              obtain ⟨g0, g1, g2, g3, g4⟩ := E7'.out.f
              go_upto_region 16 with fail
              rw [HTT.out]
              have E8 := mkHid (E7'.out.set2 tt)
              have O8 := mkHid (O7.out.set (e := ee) (o := 2) (u := .int .i64 tt) HOE.out)
              have BW8 := mkHid (BW7.out.setCell (p := ⟨ee, 2, none⟩) HEB.out (.int .i64 tt))
              have HWZ8 := mkHid (show B ≤ (w7.setCell ⟨ee, 2, none⟩ (.int .i64 tt)).heap.size by have := HWZ7.out; simp; omega)
              obtain ⟨W8, HW8⟩ : ∃ W8, Hid (w7.setCell ⟨ee, 2, none⟩ (.int .i64 tt) = W8) := ⟨_, rfl⟩
              rw [HW8.out] at E8 O8 BW8 HWZ8 ⊢
              clear e0 e1 e2 e3 e4 g0 g1 g2 g3 g4
              obtain ⟨e0, e1, e2, e3, e4⟩ := E8.out.c
              have OW8 := mkHid (show W8.ownsRow B 58 5 (.slice ad L cp) L (rC acc) by have := O8.out; unfold OR at this; rw [HL.out] at this; exact this)
              go_wp2_with (at_builtin; refine wpList_append_own2 _ rfl (.tmp 69) (.tmp 71) 23 rfl B 58 i0 (.agg #[.int .i64 0, .bool false, .int .i64 0, .bool false, .bool false]) 5 32 Tryz.underlying23 hi hz0 hz1 hz2 rfl (by decide) (.slice ad L cp) L (rC acc) rfl (OW8.out.alloc _) ⟨W8.heap.size, 0, none⟩ 1 1 [.int .i64 y, .bool true, .int .i64 tt, .bool false, .bool ec] rfl rfl (cell_five_new _ _ _ _ _ _ _) (by intro u hu; simp at hu; rcases hu with rfl | rfl | rfl | rfl | rfl <;> rfl) (by unfold maxLen; have := HLB.out; omega) (by have := HLB.out; omega) (by simp; have := HWZ8.out; omega) ?_; intro v5 w9 hown4 hgrow4 _; have OG := mkHid (OR.grown (r := ⟨y, true, tt, false, ec⟩) hown4 HL.out.symm); have BG := mkHid (or_below (v := .slice ad L cp) (l := acc) (by unfold OR; rw [HL.out]; exact OW8.out) HWZ8.out hgrow4); clear hown4 hgrow4)
              refine ⟨⟨j + 1, _, by omega, by go_num, HRM.out, OG.out, BW8.out.trans BG.out⟩, by simp [intOf]; omega⟩
        · obtain rfl : M = j := by omega
          have HRE := mkHid (show acc ++ firstL at0 (l.drop (i + 1)) = R by
            have := HRK.out
            rw [← HM.out, List.drop_length, r1L, List.nil_append] at this
            rw [HD.out]; exact this)
          go_wp2
          go_roundw
          case rel => exact ⟨i + 1, acc, by omega, by go_num, HRE.out, by rw [← HL.out] at HO ⊢; exact HO.out, HBW.out⟩
          case measure => simp [intOf]; omega
    · obtain rfl : n = i := by omega
      have HAR := mkHid (show acc = R by have := HRI.out; rw [← HN.out, List.drop_length] at this; simpa [firstL] using this)
      go_wp2
      go_ret
      refine ⟨⟨_, rfl, ?_⟩, ?_⟩
      · have := HO.out
        rw [HAR.out] at this
        exact ownsRow_base this (by have := HZ.out; have := HBX.out; omega)
      · exact (A0.out.belowF bx (by rw [HBX.out]; exact Nat.le_refl _)).trans (HBW.out.mono (by omega))
end Go.Proofs.YtdhbakknplnnkaaGreat.Fd
