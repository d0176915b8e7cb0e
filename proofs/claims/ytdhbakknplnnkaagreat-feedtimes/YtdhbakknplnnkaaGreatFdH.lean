/-
  What the program's (first).told hands back.
-/
import Derived.Test.YtdhbakknplnnkaaGreatFdG
import Derived.Test.YtdhbakknplnnkaaGreatFdF
import Derived.Test.YtdhbakknplnnkaaGreatFdW
namespace Go.Proofs.YtdhbakknplnnkaaGreat.Fd
open Go.RowKit Go.Proofs.YtdhbakknplnnkaaGreat.Nk

/-- A new row of one report can be read. -/
theorem src_five (w : World) (r : Rt) (t : TypeId) : SrcN (w.alloc (.cells #[.int .i64 r.q, .bool r.g, .int .i64 r.t, .bool r.la, .bool r.ec] t)) 5 (.slice (some ⟨w.heap.size, 0, none⟩) 1 1) 1 (rC [r]) :=
  .inr ⟨_, 1, rfl, rfl, fun j u hj => cell_five_new w _ _ _ _ _ t j u hj⟩
set_option maxRecDepth 100000 in
set_option maxHeartbeats 4000000 in
theorem first_any (sd st : Int) (l : List Cc.Bk) (a : Option Addr) (c : Nat) (near : Int) (w : World) (h : Cc.BA w.heap.size w a l) (s0 : 0 ≤ st) (s1 : st < 4294967296)
    (hb : ∀ k ∈ l, 0 ≤ k.f ∧ k.f ≤ 65535 ∧ k.m.length ≤ 65536 ∧ ∀ m ∈ k.m, 0 ≤ m.a ∧ m.a ≤ 65535) (hl : l.length ≤ 65536) (hR : (firstL (Un.frV st near) l).length ≤ 100000000) :
    Calls Tryz.prog 125 #[.agg #[.int .u32 sd, .slice a l.length c, .int .u32 st], .int .i64 near] w fun e w' => (∃ v, e = .returned v ∧ OR w.heap.size w' v (firstL (Un.frV st near) l)) ∧ Below w.heap.size w w' := by
  have A0 := mkHid ((Apart.refl (fun _ => False) w).alloc (.cells #[.int .u32 sd, .slice a l.length c, .int .u32 st] 97))
  have T0 := mkHid (heap_alloc_new w (.cells #[.int .u32 sd, .slice a l.length c, .int .u32 st] 97))
  have HZ := mkHid (show (w.alloc (.cells #[.int .u32 sd, .slice a l.length c, .int .u32 st] 97)).heap.size = w.heap.size + 1 by simp)
  have I0 := mkHid (h.on A0.out.belowZ)
  have HBD := mkHid hb
  have hl2 : (l.length : Int) ≤ 65536 := by omega
  obtain ⟨n, HN⟩ : ∃ n, Hid (l.length = n) := ⟨_, rfl⟩
  rw [HN.out] at A0 T0 I0 HZ hl2 ⊢
  obtain ⟨bx, HBX⟩ : ∃ bx, Hid (w.heap.size = bx) := ⟨_, rfl⟩
  obtain ⟨W, HW⟩ : ∃ W, Hid (w.alloc (.cells #[.int .u32 sd, .slice a n c, .int .u32 st] 97) = W) := ⟨_, rfl⟩
  rw [HBX.out, HW.out] at T0 HZ
  rw [HW.out] at A0 I0
  obtain ⟨B, HB⟩ : ∃ B, Hid (W.heap.size = B) := ⟨_, rfl⟩
  rw [HB.out] at I0 HZ
  obtain ⟨c0, c1, c2, -⟩ := cells3 T0.out
  obtain ⟨i0, hi, hz0, hz1, hz2⟩ := info46'
  have hbB : bx < B := by have := HZ.out; omega
  have FR := mkHid (Un.from_any st near s0 s1)
  obtain ⟨at0, HAT⟩ : ∃ x, Hid (Un.frV st near = x) := ⟨_, rfl⟩
  rw [HAT.out] at FR hR ⊢
  obtain ⟨R, HR⟩ : ∃ R, Hid (firstL at0 l = R) := ⟨_, rfl⟩
  rw [HR.out] at hR
  rw [HR.out, HBX.out]
  have HRL := mkHid hR
  clear h hb hl hR
  go_enter Tryz.func125, Tryz.ntmps125
  go_wp2_with fail
  rw [HW.out, HBX.out]
  go_wp2_with fail
  refine (FR.out _).mono ?_
  rintro e w2 ⟨rfl, b2⟩
  have K2 := mkHid (show Below B W w2 by rw [HB.out] at b2; exact b2)
  have HRR := mkHid (show [] ++ firstL at0 (l.drop 0) = R from HR.out)
  have T2 := mkHid ((below_apart b2).heap T0.out (fun h => h))
  clear b2 c0 c1 c2 FR
  obtain ⟨c0, c1, c2, -⟩ := cells3 T2.out
  go_wp2
  clear c0 c1 c2 T2
  go_loopw [5, 8, 9, 10, 18] (fun v _ _ _ x wr => ∃ (i : Nat) (acc : List Rt), i ≤ n ∧ x = .int .i64 (i : Int) ∧ acc ++ firstL at0 (l.drop i) = R ∧ OR B wr v acc ∧ Below B W wr) (fun _ _ _ _ x _ => n - (intOf x).toNat)
  case atStart => exact ⟨0, [], Nat.zero_le _, rfl, HRR.out, OR.nil _ _, K2.out⟩
  case round =>
    obtain ⟨i, acc, hin, rfl, hr, ho, hbw⟩ := hrel
    have HRI := mkHid hr
    have HO := mkHid ho
    have HBW := mkHid hbw
    have hbs : B ≤ wr.heap.size := by rw [← HB.out]; exact hbw.size
    clear hr ho hbw
    by_cases hlt : i < n
    · have i0' : (0 : Int) ≤ i := by omega
      have i1 : (i : Int) < n := by omega
      obtain ⟨b, off, k, rfl, hbB', hk, q0', q1', ⟨ma, mc, q2', hma⟩, _⟩ := I0.out.at i (by rw [HN.out]; exact hlt)
      have q0 := (HBW.out.cell (p := ⟨b, off + i * 3, none⟩) hbB').trans q0'
      have q1 := (HBW.out.cell (p := ⟨b, off + i * 3 + 1, none⟩) hbB').trans q1'
      have q2 := (HBW.out.cell (p := ⟨b, off + i * 3 + 2, none⟩) hbB').trans q2'
      have KB := mkHid hbB'
      clear q0' q1' q2' hbB'
      have HK := mkHid hk
      have HMA := mkHid hma
      obtain ⟨f0, f1, ml, mbd⟩ := HBD.out k (List.mem_of_getElem? hk)
      have HMB := mkHid mbd
      have HRJ := mkHid (show acc ++ (r1L at0 k.f 0 (k.m.drop 0) ++ firstL at0 (l.drop (i + 1))) = R by rw [List.drop_zero, ← firstL_at hk]; exact HRI.out)
      obtain ⟨D, HD⟩ : ∃ D, Hid (firstL at0 (l.drop (i + 1)) = D) := ⟨_, rfl⟩
      rw [HD.out] at HRJ
      have SQ := mkHid (fun (j : Nat) (hj : j ≤ 65536) (w : World) => seq_any k.f j f0 f1 hj w)
      obtain ⟨M, HM⟩ : ∃ M, Hid (k.m.length = M) := ⟨_, rfl⟩
      rw [HM.out] at q2 ml
      have ml' : (M : Int) ≤ 65536 := by omega
      clear hk mbd hma HRI
      obtain ⟨ks, kf, km⟩ := k
      simp only at q0 q1 q2 f0 f1 HM HMA HMB HRJ SQ
      go_upto_region 6 with fail
      have hal := (Below.refl wr.heap.size wr).alloc (Nat.le_refl _) (.cells #[.int .u32 ks, .int .i64 kf, .slice ma M mc] 49)
      have E8 := mkHid (heap_alloc_new wr (.cells #[.int .u32 ks, .int .i64 kf, .slice ma M mc] 49))
      have BW3 := mkHid (HBW.out.trans (hal.mono hbs))
      have O3 := mkHid (HO.out.below hal)
      have HX3 := mkHid (show ∀ g, u5.ownBlock = some g → g ≠ wr.heap.size from fun g hg => by have := (HO.out.lt g hg).2; omega)
      obtain ⟨e8, HE8⟩ : ∃ e8, Hid (wr.heap.size = e8) := ⟨_, rfl⟩
      have h8B : B ≤ e8 := by rw [← HE8.out]; exact hbs
      obtain ⟨W3, HW3⟩ : ∃ W3, Hid (wr.alloc (.cells #[.int .u32 ks, .int .i64 kf, .slice ma M mc] 49) = W3) := ⟨_, rfl⟩
      have HZ3 := mkHid (show W3.heap.size = e8 + 1 by rw [← HW3.out, ← HE8.out]; simp)
      rw [HW3.out] at BW3 O3
      rw [HW3.out, HE8.out] at E8
      rw [HE8.out] at HX3
      have HMB3 := mkHid (fun (w1 : World) (h1 : Below B W w1) => (show Cc.MA B w1 ma km from HMA.out.kept h1))
      rw [HW3.out, HE8.out]
      clear hal q0 q1 q2 HO HBW
      obtain ⟨d0, d1, d2, -⟩ := cells3 E8.out
      go_wp2
      clear d0 d1 d2
      go_loopw [5, 9, 10, 25] (fun v _ _ x wi => ∃ (j : Nat) (acc : List Rt), j ≤ M ∧ x = .int .i64 (j : Int) ∧ acc ++ (r1L at0 kf j (km.drop j) ++ D) = R ∧ OR B wi v acc ∧ Below B W wi ∧ wi.heap[e8]? = some (.cells #[.int .u32 ks, .int .i64 kf, .slice ma M mc] 49 (0, 0)) ∧ (∀ g, v.ownBlock = some g → g ≠ e8)) (fun _ _ _ x _ => M - (intOf x).toNat)
      case atStart => exact ⟨0, acc, Nat.zero_le _, rfl, HRJ.out, O3.out, BW3.out, E8.out, HX3.out⟩
      case round =>
        obtain ⟨j, acc, hjM, rfl, hr, ho, hbw, he8, hx8⟩ := hrel
        have HRK := mkHid hr
        have HO := mkHid ho
        have HBW := mkHid hbw
        have E8' := mkHid he8
        have HX8 := mkHid hx8
        have h8s : e8 < wr.heap.size := lt_of_heap he8
        obtain ⟨ad, cp, hv⟩ := ownsRow_slice ho
        subst hv
        obtain ⟨L, HL⟩ : ∃ L, Hid (acc.length = L) := ⟨_, rfl⟩
        rw [HL.out] at HO HX8 ⊢
        clear hr ho hbw he8 hx8
        by_cases hjl : j < M
        · have j0 : (0 : Int) ≤ j := by omega
          have j1 : (j : Int) < M := by omega
          obtain ⟨mb, moff, m, hma', _, hm, p0, p1, p2⟩ := (HMB3.out wr HBW.out).at j (by rw [HM.out]; exact hjl)
          subst hma'
          obtain ⟨ma0, ma1⟩ := HMB.out m (List.mem_of_getElem? hm)
          have HRN := mkHid (show acc ++ (mr ((kf + j) % 65536) at0 m :: (r1L at0 kf (j + 1) (km.drop (j + 1)) ++ D)) = R by have := HRK.out; rw [r1L_at hm, List.cons_append, r1_mr] at this; exact this)
          clear hm
          have MC := mkHid (fun (w : World) => metric_any ((kf + j) % 65536) at0 m ma0 ma1 w)
          have SC := mkHid (fun (w : World) => SQ.out j (by omega) w)
          obtain ⟨rr, HRR'⟩ : ∃ r, Hid (mr ((kf + j) % 65536) at0 m = r) := ⟨_, rfl⟩
          obtain ⟨y, HY⟩ : ∃ y, Hid ((kf + j) % 65536 = y) := ⟨_, rfl⟩
          rw [HRR'.out] at HRN MC
          rw [HY.out] at MC SC
          have HLB := mkHid (show L ≤ 100000000 by have h1 := congrArg List.length HRN.out; rw [List.length_append, HL.out] at h1; have := HRL.out; omega)
          have HRM := mkHid (show (acc ++ [rr]) ++ (r1L at0 kf (j + 1) (km.drop (j + 1)) ++ D) = R by rw [List.append_assoc]; exact HRN.out)
          obtain ⟨mg, me, mt⟩ := m
          simp only at p0 p1 p2 ma0 ma1 MC
          unfold rV at MC
          obtain ⟨d0, d1, d2, -⟩ := cells3 E8'.out
          go_upto_region 9 with fail
          have hal := (Below.refl wr.heap.size wr).alloc (Nat.le_refl _) (.cells #[.bool mg, .int .i64 me, .int .i64 mt] 45)
          have E9 := mkHid (heap_alloc_new wr (.cells #[.bool mg, .int .i64 me, .int .i64 mt] 45))
          have BW4 := mkHid (HBW.out.trans (hal.mono (by rw [← HB.out]; exact HBW.out.size)))
          have O4 := mkHid (HO.out.below hal)
          have E84 := mkHid ((below_apart hal).heap E8'.out (fun h => h))
          obtain ⟨e9, HE9⟩ : ∃ e9, Hid (wr.heap.size = e9) := ⟨_, rfl⟩
          obtain ⟨W4, HW4⟩ : ∃ W3, Hid (wr.alloc (.cells #[.bool mg, .int .i64 me, .int .i64 mt] 45) = W3) := ⟨_, rfl⟩
          have HZ4 := mkHid (show W4.heap.size = e9 + 1 by rw [← HW4.out, ← HE9.out]; simp)
          have h9B : e8 < e9 := by rw [← HE9.out]; exact h8s
          rw [HW4.out] at BW4 O4 E84
          rw [HW4.out, HE9.out] at E9
          rw [HW4.out, HE9.out]
          clear hal d0 d1 d2 p0 p1 p2 HO HBW E8'
          have hw4 : B ≤ W4.heap.size := by rw [← HB.out]; exact BW4.out.size
          obtain ⟨d0, d1, d2, -⟩ := cells3 (T := 49) (show W4.drew.heap[e8]? = some (.cells #[.int .u32 ks, .int .i64 kf, .slice (some ⟨mb, moff, none⟩) M mc] 49 (0, 0)) from E84.out)
          obtain ⟨k0, k1, k2, -⟩ := cells3 (T := 45) (show W4.drew.heap[e9]? = some (.cells #[.bool mg, .int .i64 me, .int .i64 mt] 45 (0, 0)) from E9.out)
          go_region_law (first
            | (refine step_append_told _ (by kernel_rfl) (.tmp 30) (.tmp 38) 23 (by kernel_rfl) B 58 i0 (.agg #[.int .i64 0, .bool false, .int .i64 0, .bool false, .bool false]) 5 32 Tryz.underlying23 hi hz0 hz1 hz2 rfl (by decide) (.slice ad L cp) L (rC acc) (by kernel_rfl) (O7.out.alloc _) (.slice (some ⟨w7.heap.size, 0, none⟩) 1 1) 1 (rC [rr]) (by kernel_rfl) (src_five w7 rr 58) (rC_one _) (by unfold maxLen; have := HLB.out; omega) (by have := HLB.out; omega) (by simp; have := HS7.out; omega) ?_; intro v8 w8 hown hgr hxx; have OG := mkHid (show OR B w8 v8 (acc ++ [rr]) by unfold OR; rw [rC_app, List.length_append, HL.out]; exact hown); have G8 := mkHid hgr; have X8 := mkHid hxx; clear hown hgr hxx)
            | (go_simp; refine (SC.out _).mono ?_; rintro e w6 ⟨rfl, rfl⟩)
            | (go_simp; refine (MC.out _).mono ?_; rintro e w7 ⟨rfl, b7⟩; have BW7 := mkHid (BW4.out.trans (((Below.refl _ W4).drew.trans b7).mono hw4)); have E87 := mkHid ((below_apart ((Below.refl _ W4).drew.trans b7)).heap E84.out (fun h => h)); have O7 := mkHid (show w7.ownsRow B 58 5 (.slice ad L cp) L (rC acc) from by have := O4.out.below ((Below.refl _ W4).drew.trans b7); unfold OR at this; rw [HL.out] at this; exact this); have HS7 := mkHid (show B ≤ w7.heap.size from Nat.le_trans hw4 b7.size); clear b7))
          all_goals
            have BW8 := mkHid (BW7.out.trans (or_below (v := .slice ad L cp) (l := acc) (by unfold OR; rw [HL.out]; exact O7.out) HS7.out G8.out))
            have E88 := mkHid (show w8.heap[e8]? = some (.cells #[.int .u32 ks, .int .i64 kf, .slice (some ⟨mb, moff, none⟩) M mc] 49 (0, 0)) by
              have h1 := lt_of_heap E87.out
              rw [G8.out.block e8 (by simp; omega) (fun e => HX8.out e8 e.symm rfl), Below.heap_alloc w7 _ e8 h1]
              exact E87.out)
            have HX9 := mkHid (show ∀ g, v8.ownBlock = some g → g ≠ e8 from fun g hg e => by
              rcases X8.out g hg with h1 | h1
              · exact HX8.out g h1 e
              · have h2 := lt_of_heap E87.out; simp at h1; omega)
            go_wp2
            go_roundw
            case rel => exact ⟨j + 1, _, by omega, by go_num, HRM.out, OG.out, BW8.out, E88.out, HX9.out⟩
            case measure => simp [intOf]; omega
        · obtain rfl : M = j := by omega
          have HRE := mkHid (show acc ++ firstL at0 (l.drop (i + 1)) = R by
            have := HRK.out
            rw [← HM.out, List.drop_length, r1L, List.nil_append] at this
            rw [HD.out]; exact this)
          go_wp2
          go_roundw
          case rel => exact ⟨i + 1, acc, by omega, by go_num, HRE.out, by rw [← HL.out] at HO ⊢; exact HO.out, HBW.out⟩
          case measure => simp [intOf]; omega
    · obtain rfl : n = i := by omega
      have HAR := mkHid (show acc = R by have := HRI.out; rw [← HN.out, List.drop_length] at this; simpa [firstL] using this)
      go_wp2
      go_ret
      refine ⟨⟨_, rfl, ?_⟩, ?_⟩
      · have := HO.out
        rw [HAR.out] at this
        exact ownsRow_base this (by have := HZ.out; have := HBX.out; omega)
      · exact (A0.out.belowF bx (by rw [HBX.out]; exact Nat.le_refl _)).trans (HBW.out.mono (by omega))
end Go.Proofs.YtdhbakknplnnkaaGreat.Fd
