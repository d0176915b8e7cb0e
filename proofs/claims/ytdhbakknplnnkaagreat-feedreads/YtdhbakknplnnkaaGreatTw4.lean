/-
  What the reference's Decode hands back: the walk.
-/
import Derived.Test.YtdhbakknplnnkaaGreatTw3
import Derived.Deep.RegionHeld3
namespace Go.Proofs.YtdhbakknplnnkaaGreat.Tw
open Go.RowKit

theorem decE_2 {s : ByteArray} (h : 65536 < s.size) : decE s = 2 := by
  have e : lenE s.size = 2 := by unfold lenE; rw [if_pos h]
  rw [decE_len (by rw [e]; decide), e]
theorem decE_90 {s : ByteArray} (h : ¬ 65536 < s.size) (h1 : ¬ s.size % 4 = 0) : decE s = 90 := by
  have e : lenE s.size = 90 := by unfold lenE; rw [if_neg h, if_pos h1]
  rw [decE_len (by rw [e]; decide), e]
theorem decE_60 {s : ByteArray} (h : ¬ 65536 < s.size) (h1 : s.size % 4 = 0) (h2 : s.size < 16) : decE s = 60 := by
  have e : lenE s.size = 60 := by unfold lenE; rw [if_neg h, if_neg (by omega), if_pos h2]
  rw [decE_len (by rw [e]; decide), e]
set_option maxRecDepth 100000 in
set_option maxHeartbeats 8000000 in
theorem rdec_any (s : ByteArray) (hs : s.size ≤ 1000000) (w : World) : Calls Tryz.prog 25 #[.string s] w (DecPost s w) := by
  have N0 := mkHid (show Td (w.alloc (.cells #[.int .u32 0, .int .u32 0, .int .i64 0, .int .i64 0, .int .i64 0, .slice none 0 0, .slice none 0 0] 63)) w.heap.size (.int .u32 0) (.int .u32 0) (.int .i64 0) (.int .i64 0) (.int .i64 0) (.slice none 0 0) (.slice none 0 0) from heap_alloc_new _ _)
  have A0 := mkHid ((Apart.refl (fun _ => False) w).alloc (.cells #[.int .u32 0, .int .u32 0, .int .i64 0, .int .i64 0, .int .i64 0, .slice none 0 0, .slice none 0 0] 63))
  have Z0 := mkHid (show (w.alloc (.cells #[.int .u32 0, .int .u32 0, .int .i64 0, .int .i64 0, .int .i64 0, .slice none 0 0, .slice none 0 0] 63)).heap.size = w.heap.size + 1 by simp)
  obtain ⟨q, HQ⟩ : ∃ q, Hid (w.heap.size = q) := ⟨_, rfl⟩
  obtain ⟨W, HW⟩ : ∃ W, Hid (w.alloc (.cells #[.int .u32 0, .int .u32 0, .int .i64 0, .int .i64 0, .int .i64 0, .slice none 0 0, .slice none 0 0] 63) = W) := ⟨_, rfl⟩
  rw [HQ.out, HW.out] at N0 Z0
  rw [HW.out] at A0
  have HS := mkHid hs
  have hs' : (s.size : Int) ≤ 9223372036854775807 := by omega
  have BW0 := mkHid (show Bw w W q from ⟨N0.out, A0.out, by rw [HQ.out]; exact Nat.le_refl _⟩)
  clear hs
  by_cases h1 : (65536 : Int) < s.size
  · have HF := mkHid (decE_2 (s := s) (by omega))
    go_enter Tryz.func25, Tryz.ntmps25
    go_wp2
    rw [HW.out, HQ.out]
    refine bodyPost_ret (res17 _ rfl N0.out) rfl (dec_none (by rw [HF.out]; decide) (by rw [HF.out]; rfl) A0.out.belowZ)
  · by_cases h2 : (s.size : Int) % 4 = 0
    · by_cases h3 : (s.size : Int) < 16
      · have HF := mkHid (decE_60 (s := s) (by omega) (by omega) (by omega))
        go_enter Tryz.func25, Tryz.ntmps25
        go_wp2
        rw [HW.out, HQ.out]
        refine bodyPost_ret (res17 _ rfl N0.out) rfl (dec_none (by rw [HF.out]; decide) (by rw [HF.out]; rfl) A0.out.belowZ)
      · have HEL := mkHid (show s.size ≤ 65536 ∧ s.size % 4 = 0 ∧ 16 ≤ s.size by omega)
        have HE := mkHid (lenE_is HEL.out.1 HEL.out.2.1 HEL.out.2.2)
        have h2' : (s.size : Int) % 4 = 0 := h2
        go_enter Tryz.func25, Tryz.ntmps25
        go_wp2_with fail
        rw [HW.out, HQ.out]
        refine (rread_any s _).mono ?_
        rw [Z0.out]
        rintro e w2 ⟨rfl, r2, a2, z2⟩
        have R2 := mkHid r2
        have N2 := mkHid (N0.out.kept a2 (fun h => h))
        have A2 := mkHid (A0.out.zz a2)
        clear r2 a2 z2 N0 A0 BW0 h1 h2 h2' h3 hs'
        obtain ⟨rb, HRB⟩ : ∃ rb, Hid (q + 1 = rb) := ⟨_, rfl⟩
        rw [HRB.out] at R2 ⊢
        have HZ := mkHid (show w.heap.size ≤ q ∧ q < rb by rw [HQ.out]; have := HRB.out; omega)
        obtain ⟨sd, HSD⟩ : ∃ x : Int, Hid ((gv s 0 32 : Int) = x) := ⟨_, rfl⟩
        obtain ⟨md, HMD⟩ : ∃ x : Int, Hid ((gv s 32 32 : Int) = x) := ⟨_, rfl⟩
        obtain ⟨fi, HFI⟩ : ∃ x : Int, Hid ((gv s 64 16 : Int) = x) := ⟨_, rfl⟩
        obtain ⟨N, HNN⟩ : ∃ x : Nat, Hid (nS s = x) := ⟨_, rfl⟩
        obtain ⟨bz, HBZ⟩ : ∃ x : Nat, Hid (gv s 96 24 = x) := ⟨_, rfl⟩
        obtain ⟨ba, HBA⟩ : ∃ x : Int, Hid (sg bz 24 = x) := ⟨_, rfl⟩
        obtain ⟨co, HCO⟩ : ∃ x : Int, Hid ((gv s 120 8 : Int) = x) := ⟨_, rfl⟩
        have HL16 := mkHid (show 0 ≤ fi ∧ fi < 65536 by have h := gv_lt s 64 16; simp only [Nat.reducePow] at h; have := HFI.out; omega)
        have HLN := mkHid (show N < 65536 by have h := gv_lt s 80 16; simp only [Nat.reducePow] at h; rw [← HNN.out]; exact h)
        have HLB := mkHid (show bz < 16777216 by have h := gv_lt s 96 24; simp only [Nat.reducePow] at h; rw [HBZ.out] at h; exact h)
        have HLC := mkHid (show 0 ≤ co ∧ co < 256 by have h := gv_lt s 120 8; simp only [Nat.reducePow] at h; have := HCO.out; omega)
        have G0 := mkHid (fun w h => rget_fit rb s HS.out 0 32 32 rfl (by omega) (by have := HEL.out; omega) w h)
        have G1 := mkHid (fun w h => rget_fit rb s HS.out 32 32 32 rfl (by omega) (by have := HEL.out; omega) w h)
        have G2 := mkHid (fun w h => rget_fit rb s HS.out 64 16 16 rfl (by omega) (by have := HEL.out; omega) w h)
        have G3 := mkHid (fun w h => rget_fit rb s HS.out 80 16 16 rfl (by omega) (by have := HEL.out; omega) w h)
        have G4 := mkHid (fun w h => rget_fit rb s HS.out 96 24 24 rfl (by omega) (by have := HEL.out; omega) w h)
        have G5 := mkHid (fun w h => rget_fit rb s HS.out 120 8 8 rfl (by omega) (by have := HEL.out; omega) w h)
        rw [HSD.out] at G0
        rw [HMD.out] at G1
        rw [HFI.out] at G2
        rw [show gv s 80 16 = N from HNN.out] at G3
        rw [HBZ.out] at G4
        rw [HCO.out] at G5
        have SG := mkHid (rsigned24_any bz HLB.out)
        rw [HBA.out] at SG
        have l0 : 0 ≤ fi := HL16.out.1
        have l1 : fi < 65536 := HL16.out.2
        go_wp2_with fail
        refine (G0.out _ R2.out).mono ?_
        rintro e w3 ⟨rfl, r3, a3⟩
        have R3 := mkHid r3
        have N3 := mkHid (N2.out.kept a3 (by have := HZ.out; omega))
        have A3 := mkHid (A2.out.trans a3 (fun i hi e => by have := HZ.out; omega))
        clear r3 a3 R2 N2 A2 G0
        go_wp2_with fail
        refine (G1.out _ R3.out).mono ?_
        rintro e w4 ⟨rfl, r4, a4⟩
        have R4 := mkHid r4
        have N4 := mkHid (N3.out.kept a4 (by have := HZ.out; omega))
        have A4 := mkHid (A3.out.trans a4 (fun i hi e => by have := HZ.out; omega))
        clear r4 a4 R3 N3 A3 G1
        go_wp2_with fail
        refine (G2.out _ R4.out).mono ?_
        rintro e w5 ⟨rfl, r5, a5⟩
        have R5 := mkHid r5
        have N5 := mkHid (N4.out.kept a5 (by have := HZ.out; omega))
        have A5 := mkHid (A4.out.trans a5 (fun i hi e => by have := HZ.out; omega))
        clear r5 a5 R4 N4 A4 G2
        have hr5 := R5.out.heap
        obtain ⟨ob, HOB⟩ : ∃ ob, Hid (w5.heap.size = ob) := ⟨_, rfl⟩
        rw [HOB.out] at hr5
        have AL := (Apart.refl (fun _ => False) w5).alloc (.cells #[.int .u32 sd, .int .u32 md, .int .i64 fi, .int .i64 0, .int .i64 0, .slice none 0 0, .slice none 0 0] 63)
        have F5 := mkHid (show Fw w (w5.alloc (.cells #[.int .u32 sd, .int .u32 md, .int .i64 fi, .int .i64 0, .int .i64 0, .slice none 0 0, .slice none 0 0] 63)) q rb ob (ob + 1) s 80 (.int .u32 sd) (.int .u32 md) (.int .i64 fi) (.int .i64 0) (.int .i64 0) none 0 0 [] from
          ⟨R5.out.kept AL (fun h => h), by rw [← HOB.out]; exact heap_alloc_new _ _, N5.out.kept AL (fun h => h), World.ownsRow_nil _ _ _ _, A5.out.zz AL, HZ.out.1, HZ.out.2, hr5, by omega, by rw [World.size_alloc, HOB.out]; exact Nat.le_refl _⟩)
        obtain ⟨W5, HW5⟩ : ∃ W5, Hid (w5.alloc (.cells #[.int .u32 sd, .int .u32 md, .int .i64 fi, .int .i64 0, .int .i64 0, .slice none 0 0, .slice none 0 0] 63) = W5) := ⟨_, rfl⟩
        rw [HW5.out] at F5
        clear hr5 R5 N5 A5 AL
        obtain ⟨B, HB⟩ : ∃ B, Hid (ob + 1 = B) := ⟨_, rfl⟩
        rw [HB.out] at F5
        have ln : (N : Int) < 65536 := by have := HLN.out; omega
        go_wp2_with fail
        rw [HW5.out, HOB.out]
        go_wp2_with fail
        refine (G3.out _ F5.out.rd).mono ?_
        rintro e w6 ⟨rfl, r6, a6⟩
        have F6 := mkHid (F5.out.move a6 r6)
        clear r6 a6 F5 G3 l0 l1
        go_wp2_with fail
        refine (G4.out _ F6.out.rd).mono ?_
        rintro e w7 ⟨rfl, r7, a7⟩
        have F7 := mkHid (F6.out.move a7 r7)
        clear r7 a7 F6 G4
        go_wp2_with fail
        refine (SG.out _).mono ?_
        rintro e w8 ⟨rfl, rfl⟩
        go_wp2_with fail
        refine (G5.out _ F7.out.rd).mono ?_
        rintro e w9 ⟨rfl, r9, a9⟩
        have F9 := mkHid (F7.out.move a9 r9)
        clear r9 a9 F7 G5 SG
        obtain ⟨c0, c1, c2, c3, c4, c5, c6⟩ := F9.out.o.c
        obtain ⟨f0, f1, f2, f3, f4, f5, f6⟩ := F9.out.o.f
        have l2 : 0 ≤ co := HLC.out.1
        have l3 : co < 256 := HLC.out.2
        have FX := mkHid (show Fw w ((w9.setCell ⟨ob, 3, none⟩ (.int .i64 ba)).setCell ⟨ob, 4, none⟩ (.int .i64 co)) q rb ob B s 128 (.int .u32 sd) (.int .u32 md) (.int .i64 fi) (.int .i64 ba) (.int .i64 co) none 0 0 [] by
          have z := F9.out.z
          have S := (ap_set w9 ob 3 (.int .i64 ba)).trans (ap_set _ ob 4 (.int .i64 co)) (fun _ _ h => h)
          exact ⟨F9.out.rd.kept S (by omega), (F9.out.o.set3 _).set4 _, F9.out.r.kept S (by omega), World.ownsRow_nil _ _ _ _, F9.out.a.trans S (fun i hi e => by omega), by simpa using z⟩)
        obtain ⟨W9, HW9⟩ : ∃ W9, Hid ((w9.setCell ⟨ob, 3, none⟩ (.int .i64 ba)).setCell ⟨ob, 4, none⟩ (.int .i64 co) = W9) := ⟨_, rfl⟩
        rw [HW9.out] at FX
        clear F9
        go_upto_region 11 with fail
        rw [HW9.out]
        clear c0 c1 c2 c3 c4 c5 c6 f0 f1 f2 f3 f4 f5 f6 l2 l3
        have BX := mkHid FX.out.bad
        by_cases hN0 : (N : Int) = 0
        · have HF := mkHid (show decE s = 90 by rw [decE_many HE.out (by rw [HNN.out]; unfold manyE; rw [if_pos (by omega)]; decide), HNN.out]; unfold manyE; rw [if_pos (by omega)])
          obtain ⟨f0, f1, f2, f3, f4, f5, f6⟩ := BX.out.r.f
          obtain ⟨b0, b1, b2, b3, b4, b5, b6⟩ := BX.out.r.c
          obtain rfl : N = 0 := by omega
          go_wp2
          exact BX.out.rno HF.out (by decide) _ rfl rfl _ rfl
        · by_cases hN4 : (4096 : Int) < N
          · have HF := mkHid (show decE s = 3 by rw [decE_many HE.out (by rw [HNN.out]; unfold manyE; rw [if_neg (by omega), if_pos (by omega)]; decide), HNN.out]; unfold manyE; rw [if_neg (by omega), if_pos (by omega)])
            obtain ⟨f0, f1, f2, f3, f4, f5, f6⟩ := BX.out.r.f
            obtain ⟨b0, b1, b2, b3, b4, b5, b6⟩ := BX.out.r.c
            have hN0' : ((N : Int) == 0) = false := by simp; omega
            go_wp2
            exact BX.out.rno HF.out (by decide) _ rfl rfl _ rfl
          · have HME := mkHid (show manyE (nS s) = 0 by rw [HNN.out]; exact manyE_is (by omega) (by omega))
            have HN1 := mkHid (show 0 < N ∧ N ≤ 4096 by omega)
            have hN0' : ((N : Int) == 0) = false := by simp; omega
            have hN4' : (N : Int) ≤ 4096 := by omega
            have HSR := mkHid (show stR s = stD s N 128 N by unfold stR; rw [HNN.out])
            clear BX hN0 ln hN4
            go_wp2
            clear hN0'
            go_loopg [] N (fun k wr => ∃ (p n : Nat) (va : Option Addr) (vc : Nat) (acc : List Int), k = N - n ∧ acc.length = n ∧ n ≤ N ∧ stR s = ⟨(stD s (N - n) p (N - n)).e, acc ++ (stD s (N - n) p (N - n)).l, (stD s (N - n) p (N - n)).p⟩ ∧ Fw w wr q rb ob B s p (.int .u32 sd) (.int .u32 md) (.int .i64 fi) (.int .i64 ba) (.int .i64 co) va n vc acc)
            case atStart => exact ⟨128, 0, none, 0, [], rfl, rfl, Nat.zero_le _, HSR.out, FX.out⟩
            case round =>
              obtain ⟨p, n, va, vc, acc, rfl, hacc, hn, hst, hF⟩ := hrel
              have HAC := mkHid hacc
              have HN := mkHid hn
              have HST := mkHid hst
              have HFW := mkHid hF
              clear hacc hn hst hF FX
              obtain ⟨c0, c1, c2, c3, c4, c5, c6⟩ := HFW.out.o.c
              have hnN : (n : Int) ≤ N := by have := HN.out; omega
              by_cases hlt : (n : Int) < N
              · have HLT := mkHid (show n < N by omega)
                obtain ⟨K, HK⟩ : ∃ K, Hid (N - n = K) := ⟨_, rfl⟩
                have HK0 := mkHid (show 0 < K ∧ K ≤ 4096 by have := HK.out; have := HLT.out; have := HN1.out; omega)
                rw [HK.out] at HST
                obtain ⟨L, HLL⟩ : ∃ L : Int, Hid (8 * (s.size : Int) - p = L) := ⟨_, rfl⟩
                have LF := mkHid (rleft_at rb s HS.out p wr HFW.out.rd L HLL.out)
                by_cases h16 : L < 16
                · have HF := mkHid (show decE s = 60 by
                    have e := stD_short (s := s) (p := p) HK0.out.1 (by have := HLL.out; omega)
                    have e2 := HST.out
                    rw [e] at e2
                    rw [decE_st HE.out HME.out (by rw [e2]; simp), e2])
                  go_wp2_with fail
                  refine (LF.out).mono ?_
                  rintro e w4 ⟨rfl, k4, rfl⟩
                  have BX := mkHid (HFW.out.drewN k4).bad
                  obtain ⟨w4, HW4⟩ : ∃ w4, Hid (wr.drewN k4 = w4) := ⟨_, rfl⟩
                  rw [HW4.out] at BX ⊢
                  obtain ⟨f0, f1, f2, f3, f4, f5, f6⟩ := BX.out.r.f
                  obtain ⟨b0, b1, b2, b3, b4, b5, b6⟩ := BX.out.r.c
                  clear c0 c1 c2 c3 c4 c5 c6
                  go_wp2
                  exact BX.out.rno HF.out (by decide) _ rfl rfl _ rfl
                · have HP16 := mkHid (show p + 16 ≤ 8 * s.size by have := HLL.out; omega)
                  go_wp2_with fail
                  refine (LF.out).mono ?_
                  rintro e w4 ⟨rfl, k4, rfl⟩
                  have F4 := mkHid (HFW.out.drewN k4)
                  obtain ⟨w4, HW4⟩ : ∃ w4, Hid (wr.drewN k4 = w4) := ⟨_, rfl⟩
                  rw [HW4.out] at F4 ⊢
                  clear c0 c1 c2 c3 c4 c5 c6 LF HFW
                  obtain ⟨y, HY⟩ : ∃ y : Int, Hid ((gv s p 16 : Int) = y) := ⟨_, rfl⟩
                  obtain ⟨o, HO⟩ : ∃ o, Hid (ckD s p K = o) := ⟨_, rfl⟩
                  have F4d := mkHid (F4.out.move (w2 := w4.drew) ((Apart.refl _ _).drew) (F4.out.rd.kept ((Apart.refl (fun _ => False) _).drew) (fun h => h)))
                  have GT := mkHid (rget_fit rb s HS.out p 16 16 rfl (by omega) HP16.out w4.drew F4d.out.rd)
                  rw [HY.out] at GT
                  have CK := mkHid (show ∀ w, Calls Tryz.prog 50 #[.int .u32 y, .int .i64 (IntKind.i64.wrap (K : Int))] w fun e w' => ∃ v E, e = .returned (.tuple #[v, .int .i64 E]) ∧ RcRes o w' v E ∧ Below w.heap.size w w' from by
                    rw [show IntKind.i64.wrap (K : Int) = K by rw [IntKind.wrap_i64]; have := HK0.out; omega]
                    exact fun w => rchunk_at s p K HK0.out.1 HK0.out.2 HY.out HO.out w)
                  have C4 := mkHid (show w4.cell? ⟨ob, 5, none⟩ = some (.slice va n vc) from by obtain ⟨_, _, _, _, _, h, _⟩ := F4.out.o.c; exact h)
                  have C4d := mkHid (show w4.drew.cell? ⟨ob, 5, none⟩ = some (.slice va n vc) from by obtain ⟨_, _, _, _, _, h, _⟩ := F4d.out.o.c; exact h)
                  have hk : (N : Int) - n = (K : Int) := by have := HK.out; omega
                  go_wp2_with fail
                  go_region_held3 (fun w' => w'.cell? ⟨ob, 5, none⟩ = some (.slice va n vc))
                    (first | exact C4.out | exact C4d.out | assumption)
                    (first
                      | (go_at_call 44; refine (GT.out).mono ?_; rintro e w5 ⟨rfl, r5, a5⟩; have F5 := mkHid (F4d.out.move a5 r5); have k5 : w5.cell? ⟨ob, 5, none⟩ = some (.slice va n vc) := (by obtain ⟨_, _, _, _, _, h, _⟩ := F5.out.o.c; exact h); clear r5 a5)
                      | (go_at_call 50; refine (CK.out _).mono ?_; rintro e w6 ⟨rv, RE, rfl, hres, b6⟩; have F6 := mkHid (F5.out.on b6); have HRES := mkHid hres; have k6 : w6.cell? ⟨ob, 5, none⟩ = some (.slice va n vc) := (by obtain ⟨_, _, _, _, _, h, _⟩ := F6.out.o.c; exact h); clear hres b6))
                  clear C4 C4d F4 F4d F5 GT CK
                  obtain ⟨c0, c1, c2, c3, c4, c5, c6⟩ := F6.out.o.c
                  obtain ⟨f0, f1, f2, f3, f4, f5, f6⟩ := F6.out.o.f
                  rcases HRES.out with ⟨l, la, lc, rfl, rfl, rfl, hsrc⟩ | ⟨rfl, rfl, rfl⟩
                  · have SRC := mkHid hsrc
                    have HCL := mkHid (ckD_len HO.out HK0.out.1)
                    have HMO := mkHid (stD_more HK0.out.1 HP16.out HO.out)
                    clear hsrc HRES
                    obtain ⟨m, HM⟩ : ∃ m, Hid (l.length = m) := ⟨_, rfl⟩
                    rw [HM.out] at SRC HCL HMO ⊢
                    have HMK := mkHid (show 0 < m ∧ m ≤ K from ⟨HCL.out.1, HCL.out.2.1⟩)
                    obtain ⟨i0, hi, hz0, hz1, hz2⟩ := info3'
                    go_wp2_with (at_builtin; refine wpList_append_onto _ rfl (.tmp 77) (.tmp 78) 24 rfl B 3 i0 (.int .i64 0) 1 8 Tryz.underlying24 hi hz0 hz1 hz2 rfl (by decide) (.slice va n vc) n (IC acc) rfl F6.out.ow (.slice la m lc) m (IC l) rfl SRC.out IC_one (by unfold maxLen; have := HMK.out; have := HK.out; have := HN1.out; omega) (by have := HMK.out; have := HK.out; have := HN1.out; omega) F6.out.z.2.2.2.2 ?_; intro v3 w7 hown3 hgrow3; obtain ⟨va3, vc3, hv3⟩ := ownsRow_slice hown3; subst hv3; have F8 := mkHid (F6.out.app hown3 hgrow3); have NB := mkHid (F6.out.nb hgrow3); clear hown3 hgrow3 c0 c1 c2 c3 c4 c5 c6 f0 f1 f2 f3 f4 f5 f6; obtain ⟨c0, c1, c2, c3, c4, c5, c6⟩ := NB.out.c; obtain ⟨f0, f1, f2, f3, f4, f5, f6⟩ := NB.out.f)
                    go_roundg (N - (n + m))
                    case measure => have := HMK.out; have := HK.out; omega
                    case rel =>
                      have e : N - (n + m) = K - m := by have := HK.out; omega
                      refine ⟨p + 16, n + m, va3, vc3, acc ++ l, rfl, by rw [List.length_append, HAC.out, HM.out], by have := HMK.out; have := HK.out; have := HN.out; omega, ?_, F8.out⟩
                      rw [HST.out, HMO.out, e, List.append_assoc]
                  · have HF := mkHid (show decE s = 100 by
                      have e := stD_bad HK0.out.1 HP16.out HO.out
                      have e2 := HST.out
                      rw [e] at e2
                      rw [decE_st HE.out HME.out (by rw [e2]; simp), e2])
                    have BX := mkHid F6.out.bad
                    clear c0 c1 c2 c3 c4 c5 c6 f0 f1 f2 f3 f4 f5 f6
                    obtain ⟨f0, f1, f2, f3, f4, f5, f6⟩ := BX.out.r.f
                    obtain ⟨b0, b1, b2, b3, b4, b5, b6⟩ := BX.out.r.c
                    go_wp2
                    exact BX.out.rno HF.out (by decide) _ rfl rfl _ rfl
              · obtain rfl : n = N := by have := HN.out; omega
                have HS0 := mkHid (show stR s = ⟨0, acc, p⟩ by have e := HST.out; rw [Nat.sub_self, stD_end, List.append_nil] at e; exact e)
                have GW := mkHid HFW.out.gw
                obtain ⟨D, HD⟩ : ∃ D, Hid (wr.heap.size = D) := ⟨_, rfl⟩
                rw [HD.out] at GW
                have H2 := mkHid (show ∀ x ∈ acc, 0 ≤ x ∧ x ≤ 2 by
                  have e := stD_good s n 128 n (Nat.le_refl _) (by rw [← HSR.out, HS0.out])
                  rw [← HSR.out, HS0.out] at e
                  exact e.2)
                have HDL0 := mkHid (show dlR s = dlD s p acc by unfold dlR; rw [HS0.out])
                have HSZ := mkHid (show (stR s).e = 0 by rw [HS0.out])
                obtain ⟨wx, HWX⟩ : ∃ wx, wx = wr := ⟨_, rfl⟩
                subst HWX
                go_wp2
                clear hlt c0 c1 c2 c3 c4 c5 c6 HFW
                go_loopw [9] (fun i wr => ∃ (j p2 : Nat) (da : Option Addr) (m dc : Nat) (dl : List Int), j ≤ n ∧ i = .int .i64 (j : Int) ∧ m ≤ j ∧ dlR s = ⟨(dlD s p2 (acc.drop j)).e, dl ++ (dlD s p2 (acc.drop j)).l, (dlD s p2 (acc.drop j)).p⟩ ∧ Gw w wr q rb ob B D s p2 (.int .u32 sd) (.int .u32 md) (.int .i64 fi) (.int .i64 ba) (.int .i64 co) va n vc acc da m dc dl) (fun i _ => n - (intOf i).toNat)
                case atStart => exact ⟨0, p, none, 0, 0, [], Nat.zero_le _, rfl, Nat.le_refl _, by rw [List.drop_zero, HDL0.out]; rfl, GW.out⟩
                case round =>
                  obtain ⟨j, p2, da, m, dc, dl, hj, rfl, hmj, hdl, hgw⟩ := hrel
                  have HDL := mkHid hdl
                  have HG := mkHid hgw
                  have HMJ := mkHid hmj
                  clear hdl hgw GW hmj
                  obtain ⟨c0, c1, c2, c3, c4, c5, c6⟩ := HG.out.o.c
                  by_cases hlt : j < n
                  · obtain ⟨hil, hia⟩ := HG.out.ia
                    obtain ⟨bq, off, x, rfl, _, hx, e0⟩ := hia.at j (by omega)
                    have HX := mkHid (drop_at hx)
                    obtain ⟨x0, x2⟩ := H2.out x (List.mem_of_getElem? hx)
                    have k0 : (0 : Int) ≤ j := by omega
                    have k1 : (j : Int) < n := by omega
                    clear hx hia hil
                    by_cases xz : x = 0
                    · subst xz
                      have HDN := mkHid (show dlR s = ⟨(dlD s p2 (acc.drop (j + 1))).e, dl ++ (dlD s p2 (acc.drop (j + 1))).l, (dlD s p2 (acc.drop (j + 1))).p⟩ by rw [HDL.out, HX.out, dlD_zero])
                      go_wp2
                      go_roundw
                      case rel => exact ⟨j + 1, p2, da, m, dc, dl, by omega, by go_num, by have := HMJ.out; omega, HDN.out, HG.out⟩
                      case measure => simp [intOf]; omega
                    · have hxz : (x == 0) = false := by simpa using xz
                      obtain ⟨L, HLL⟩ : ∃ L : Int, Hid (8 * (s.size : Int) - p2 = L) := ⟨_, rfl⟩
                      have LF := mkHid (rleft_at rb s HS.out p2 wr HG.out.rd L HLL.out)
                      obtain ⟨b8, HB8⟩ : ∃ b : Nat, Hid (dW x = b) := ⟨_, rfl⟩
                      by_cases hsh : L < b8
                      · have HF := mkHid (show decE s = 60 by
                          have e := dlD_short (s := s) (p := p2) (st := acc.drop (j + 1)) xz (by rw [HB8.out]; have := HLL.out; omega)
                          have e2 := HDL.out
                          rw [HX.out, e] at e2
                          rw [decE_dl HE.out HME.out HSZ.out (by rw [e2]; simp), e2])
                        rcases (by omega : x = 1 ∨ x = 2) with rfl | rfl
                        · obtain rfl : b8 = 8 := HB8.out.symm
                          go_wp2_with fail
                          refine (LF.out).mono ?_
                          rintro e w4 ⟨rfl, k4, rfl⟩
                          have BX := mkHid (HG.out.drewN k4).bad
                          obtain ⟨w4, HW4⟩ : ∃ w4, Hid (wr.drewN k4 = w4) := ⟨_, rfl⟩
                          rw [HW4.out] at BX ⊢
                          obtain ⟨f0, f1, f2, f3, f4, f5, f6⟩ := BX.out.r.f
                          obtain ⟨b0, b1, b2, b3, b4, b5, b6⟩ := BX.out.r.c
                          clear c0 c1 c2 c3 c4 c5 c6 e0
                          go_wp2
                          exact BX.out.rno HF.out (by decide) _ rfl rfl _ rfl
                        · obtain rfl : b8 = 16 := HB8.out.symm
                          go_wp2_with fail
                          refine (LF.out).mono ?_
                          rintro e w4 ⟨rfl, k4, rfl⟩
                          have BX := mkHid (HG.out.drewN k4).bad
                          obtain ⟨w4, HW4⟩ : ∃ w4, Hid (wr.drewN k4 = w4) := ⟨_, rfl⟩
                          rw [HW4.out] at BX ⊢
                          obtain ⟨f0, f1, f2, f3, f4, f5, f6⟩ := BX.out.r.f
                          obtain ⟨b0, b1, b2, b3, b4, b5, b6⟩ := BX.out.r.c
                          clear c0 c1 c2 c3 c4 c5 c6 e0
                          go_wp2
                          exact BX.out.rno HF.out (by decide) _ rfl rfl _ rfl
                      · have HPW := mkHid (show p2 + b8 ≤ 8 * s.size by have := HLL.out; omega)
                        have HM1 := mkHid (dlD_more (s := s) (p := p2) (st := acc.drop (j + 1)) xz (by rw [HB8.out]; exact HPW.out))
                        rw [HB8.out] at HM1
                        have HDN := mkHid (show dlR s = ⟨(dlD s (p2 + b8) (acc.drop (j + 1))).e, (dl ++ [dV s p2 x]) ++ (dlD s (p2 + b8) (acc.drop (j + 1))).l, (dlD s (p2 + b8) (acc.drop (j + 1))).p⟩ by rw [HDL.out, HX.out, HM1.out, List.append_assoc]; rfl)
                        clear HM1
                        obtain ⟨i0, hi, hz0, hz1, hz2⟩ := info3'
                        rcases (by omega : x = 1 ∨ x = 2) with rfl | rfl
                        · obtain rfl : b8 = 8 := HB8.out.symm
                          obtain ⟨y, HY⟩ : ∃ y : Int, Hid ((gv s p2 8 : Int) = y) := ⟨_, rfl⟩
                          rw [show dV s p2 1 = y from HY.out] at HDN
                          have hy0 : 0 ≤ y := by have := HY.out; omega
                          have hy1 : y < 256 := by have h := gv_lt s p2 8; simp only [Nat.reducePow] at h; have := HY.out; omega
                          go_wp2_with fail
                          refine (LF.out).mono ?_
                          rintro e w4 ⟨rfl, k4, rfl⟩
                          have G4 := mkHid (HG.out.drewN k4)
                          obtain ⟨w4, HW4⟩ : ∃ w4, Hid (wr.drewN k4 = w4) := ⟨_, rfl⟩
                          rw [HW4.out] at G4 ⊢
                          clear LF HG c0 c1 c2 c3 c4 c5 c6 e0
                          go_wp2_with fail
                          have K1 := rget_fit rb s HS.out p2 8 8 rfl (by omega) (by have := HPW.out; omega) _ G4.out.rd
                          rw [HY.out] at K1
                          refine K1.mono ?_
                          clear K1
                          rintro e w5 ⟨rfl, r5, a5⟩
                          have G5 := mkHid (G4.out.move a5 r5)
                          clear r5 a5 G4
                          obtain ⟨c0, c1, c2, c3, c4, c5, c6⟩ := G5.out.o.c
                          have GA := mkHid (G5.out.alloc (.cells #[.int .i64 y] 3))
                          go_wp2_with (at_builtin; refine wpList_append_own2 _ rfl (.tmp 109) (.tmp 112) 24 rfl D 3 i0 (.int .i64 0) 1 8 Tryz.underlying24 hi hz0 hz1 hz2 rfl (by decide) (.slice da m dc) m (IC dl) rfl GA.out.od ⟨w5.heap.size, 0, none⟩ 1 1 [.int .i64 y] rfl rfl (cell_one_new _ _ _) (by intro u hu; simp at hu; subst hu; rfl) (by unfold maxLen; have := HMJ.out; have := HN1.out; omega) (by have := HMJ.out; have := HN1.out; omega) GA.out.z.2.2.2.2.2 ?_; intro v3 w7 hown3 hgrow3 _; obtain ⟨da3, dc3, hv3⟩ := ownsRow_slice hown3; subst hv3; have G8 := mkHid (GA.out.app hown3 hgrow3); have NB := mkHid (GA.out.nb hgrow3); clear hown3 hgrow3 c0 c1 c2 c3 c4 c5 c6; obtain ⟨c0, c1, c2, c3, c4, c5, c6⟩ := NB.out.c; obtain ⟨f0, f1, f2, f3, f4, f5, f6⟩ := NB.out.f)
                          go_roundw
                          case rel => exact ⟨j + 1, p2 + 8, da3, m + 1, dc3, dl ++ [y], by omega, by go_num, by have := HMJ.out; omega, HDN.out, G8.out⟩
                          case measure => simp [intOf]; omega
                        · obtain rfl : b8 = 16 := HB8.out.symm
                          obtain ⟨v, HV⟩ : ∃ v : Nat, Hid (gv s p2 16 = v) := ⟨_, rfl⟩
                          obtain ⟨y, HY⟩ : ∃ y : Int, Hid (sg v 16 = y) := ⟨_, rfl⟩
                          rw [show dV s p2 2 = y by rw [← HY.out, ← HV.out]; rfl] at HDN
                          have SG := mkHid (rsigned16_any v (by have h := gv_lt s p2 16; simp only [Nat.reducePow] at h; have := HV.out; omega))
                          rw [HY.out] at SG
                          go_wp2_with fail
                          refine (LF.out).mono ?_
                          rintro e w4 ⟨rfl, k4, rfl⟩
                          have G4 := mkHid (HG.out.drewN k4)
                          obtain ⟨w4, HW4⟩ : ∃ w4, Hid (wr.drewN k4 = w4) := ⟨_, rfl⟩
                          rw [HW4.out] at G4 ⊢
                          clear LF HG c0 c1 c2 c3 c4 c5 c6 e0
                          go_wp2_with fail
                          have K1 := rget_fit rb s HS.out p2 16 16 rfl (by omega) (by have := HPW.out; omega) _ G4.out.rd
                          rw [HV.out] at K1
                          refine K1.mono ?_
                          clear K1
                          rintro e w5 ⟨rfl, r5, a5⟩
                          have G5 := mkHid (G4.out.move a5 r5)
                          clear r5 a5 G4
                          obtain ⟨c0, c1, c2, c3, c4, c5, c6⟩ := G5.out.o.c
                          have GA := mkHid ((G5.out.alloc (.cells #[.int .i64 y] 3)).drew)
                          obtain ⟨_, _, _, _, _, _, d7⟩ := GA.out.o.c
                          obtain ⟨_, _, _, _, _, _, d6⟩ := G5.out.drew.o.c
                          go_wp2_with fail
                          go_region_law (first
                            | (go_simp; refine (SG.out _).mono ?_; rintro e w6 ⟨rfl, rfl⟩)
                            | (refine step_append_lies _ (by kernel_rfl) (.tmp 116) (.tmp 119) 24 (by kernel_rfl) D 3 i0 (.int .i64 0) 1 8 Tryz.underlying24 hi hz0 hz1 hz2 rfl (by decide) (.slice da m dc) m (IC dl) (by kernel_rfl) GA.out.od ⟨w5.heap.size, 0, none⟩ 1 1 [.int .i64 y] (by kernel_rfl) (by rfl) (cell_one_new _ _ _) (by intro u hu; simp at hu; subst hu; rfl) (by decide) (by unfold maxLen; have := HMJ.out; have := HN1.out; omega) (by have := HMJ.out; have := HN1.out; omega) GA.out.z.2.2.2.2.2 _ rfl ?_; intro g cap w7 hown3 hgrow3 hat10 hlt10; have G8 := mkHid (GA.out.app hown3 hgrow3); have NB := mkHid (GA.out.nb hgrow3); clear hown3 hgrow3 hat10 hlt10; obtain ⟨_, _, _, _, _, _, k6⟩ := NB.out.c; obtain ⟨_, _, _, _, _, _, l6⟩ := NB.out.f))
                          all_goals
                            go_wp2
                            go_roundw
                            case rel => exact ⟨j + 1, p2 + 16, some ⟨g, 0, none⟩, m + 1, cap, dl ++ [y], by omega, by go_num, by have := HMJ.out; omega, HDN.out, G8.out⟩
                            case measure => simp [intOf]; omega
                  · obtain rfl : j = n := by omega
                    have HD1 := mkHid (show dlR s = ⟨0, dl, p2⟩ by rw [HDL.out, List.drop_of_length_le (by rw [HAC.out]; exact Nat.le_refl _), dlD, List.append_nil])
                    have HP2 := mkHid (show p2 ≤ 8 * s.size from HG.out.rd.2)
                    have HP8 := mkHid (show p2 % 8 = 0 by have := dlR_mod s; rw [HD1.out] at this; exact this)
                    have HDE := mkHid (show decE s = padE s p2 by rw [decE_pad HE.out HME.out HSZ.out (by rw [HD1.out]), HD1.out])
                    obtain ⟨K, HK⟩ : ∃ K : Nat, Hid ((8 * s.size - p2) / 8 = K) := ⟨_, rfl⟩
                    have HKK := mkHid (show 8 * s.size - p2 = 8 * K by have := HK.out; have := HP8.out; omega)
                    obtain ⟨L, HLL⟩ : ∃ L : Int, Hid (8 * (s.size : Int) - p2 = L) := ⟨_, rfl⟩
                    have HLK := mkHid (show L = 8 * K by have := HLL.out; have := HKK.out; have := HP2.out; omega)
                    have LF := mkHid (rleft_at rb s HS.out p2 wr HG.out.rd L HLL.out)
                    clear hj c0 c1 c2 c3 c4 c6
                    by_cases h24 : 24 < L
                    · have HF := mkHid (show decE s = 91 by rw [HDE.out]; unfold padE; rw [if_pos (.inl (by have := HKK.out; have := HLK.out; omega))])
                      go_wp2_with fail
                      refine (LF.out).mono ?_
                      rintro e w4 ⟨rfl, k4, rfl⟩
                      have BX := mkHid (HG.out.drewN k4).bad
                      obtain ⟨w4, HW4⟩ : ∃ w4, Hid (wr.drewN k4 = w4) := ⟨_, rfl⟩
                      rw [HW4.out] at BX ⊢
                      obtain ⟨f0, f1, f2, f3, f4, f5, f6⟩ := BX.out.r.f
                      obtain ⟨b0, b1, b2, b3, b4, b5, b6⟩ := BX.out.r.c
                      clear c5
                      go_wp2
                      exact BX.out.rno HF.out (by decide) _ rfl rfl _ rfl
                    · have HK3 := mkHid (show K ≤ 3 by have := HLK.out; omega)
                      go_wp2_with fail
                      refine (LF.out).mono ?_
                      rintro e w4 ⟨rfl, k4, rfl⟩
                      have G4 := mkHid (HG.out.drewN k4)
                      obtain ⟨w4, HW4⟩ : ∃ w4, Hid (wr.drewN k4 = w4) := ⟨_, rfl⟩
                      rw [HW4.out] at G4 ⊢
                      clear LF HG c5
                      go_wp2
                      clear h24
                      go_loopg [] K (fun k wr => ∃ i : Nat, k = K - i ∧ i ≤ K ∧ gv s p2 (8 * i) = 0 ∧ Gw w wr q rb ob B D s (p2 + 8 * i) (.int .u32 sd) (.int .u32 md) (.int .i64 fi) (.int .i64 ba) (.int .i64 co) va j vc acc da m dc dl)
                      case atStart => exact ⟨0, rfl, Nat.zero_le _, rfl, G4.out⟩
                      case round =>
                        obtain ⟨i, rfl, hi, hz, hgw⟩ := hrel
                        have HZ0 := mkHid hz
                        have HG := mkHid hgw
                        have HI := mkHid hi
                        clear hz hgw hi G4
                        obtain ⟨L2, HL2⟩ : ∃ L : Int, Hid (8 * (s.size : Int) - ((p2 + 8 * i : Nat) : Int) = L) := ⟨_, rfl⟩
                        have HLI := mkHid (show L2 = 8 * ((K - i : Nat) : Int) by have := HL2.out; have := HKK.out; have := HP2.out; have := HI.out; omega)
                        have LF := mkHid (rleft_at rb s HS.out (p2 + 8 * i) wr HG.out.rd L2 HL2.out)
                        by_cases hpos : 0 < L2
                        · have HIK := mkHid (show i < K by have := HLI.out; omega)
                          obtain ⟨y, HY⟩ : ∃ y : Int, Hid ((gv s (p2 + 8 * i) 8 : Int) = y) := ⟨_, rfl⟩
                          have HGA := mkHid (gv_add s p2 (8 * i) 8)
                          go_wp2_with fail
                          refine (LF.out).mono ?_
                          rintro e w5 ⟨rfl, k5, rfl⟩
                          have G5 := mkHid (HG.out.drewN k5)
                          obtain ⟨w5, HW5⟩ : ∃ w5, Hid (wr.drewN k5 = w5) := ⟨_, rfl⟩
                          rw [HW5.out] at G5 ⊢
                          clear LF HG
                          go_wp2_with fail
                          have K1 := rget_fit rb s HS.out (p2 + 8 * i) 8 8 rfl (by omega) (by have := HKK.out; have := HIK.out; have := HP2.out; omega) _ G5.out.rd
                          rw [HY.out] at K1
                          refine K1.mono ?_
                          clear K1
                          rintro e w6 ⟨rfl, r6, a6⟩
                          have G6 := mkHid (G5.out.move a6 r6)
                          clear r6 a6 G5
                          by_cases hy : y = 0
                          · subst hy
                            go_wp2
                            go_roundg (K - (i + 1))
                            case measure => have := HIK.out; omega
                            case rel => exact ⟨i + 1, rfl, HIK.out, by rw [Nat.mul_add, Nat.mul_one, HGA.out, HZ0.out]; have := HY.out; omega, G6.out⟩
                          · have hy' : (y != 0) = true := bne_iff_ne.2 hy
                            have HF := mkHid (show decE s = 91 by
                              rw [HDE.out]; unfold padE
                              rw [if_pos]
                              right
                              have e : 8 * s.size - p2 = 8 * i + 8 + 8 * (K - i - 1) := by have := HKK.out; have := HIK.out; omega
                              rw [e, gv_add s p2 (8 * i + 8), HGA.out, HZ0.out]
                              have h1 : 1 ≤ gv s (p2 + 8 * i) 8 := by have := HY.out; omega
                              have h2 : 1 * 1 ≤ gv s (p2 + 8 * i) 8 * 2 ^ (8 * (K - i - 1)) := Nat.mul_le_mul h1 Nat.one_le_two_pow
                              rw [Nat.zero_mul, Nat.zero_add]
                              omega)
                            have BX := mkHid G6.out.bad
                            obtain ⟨f0, f1, f2, f3, f4, f5, f6⟩ := BX.out.r.f
                            obtain ⟨b0, b1, b2, b3, b4, b5, b6⟩ := BX.out.r.c
                            go_wp2
                            exact BX.out.rno HF.out (by decide) _ rfl rfl _ rfl
                        · have HIK := mkHid (show i = K by have := HLI.out; have := HI.out; omega)
                          have HDZ := mkHid (show decE s = 0 by
                            rw [HDE.out]; unfold padE
                            rw [HKK.out, ← HIK.out, HZ0.out, if_neg (by have := HK3.out; have := HIK.out; omega)])
                          have DR := mkHid (show decR s = ⟨sd, md, fi, ba, co, acc, dl⟩ by
                            unfold decR; rw [if_pos HDZ.out]; unfold decG
                            rw [HSD.out, HMD.out, HFI.out, HBZ.out, HBA.out, HCO.out, HS0.out, HD1.out])
                          go_wp2_with fail
                          refine (LF.out).mono ?_
                          rintro e w5 ⟨rfl, k5, rfl⟩
                          have G5 := mkHid (HG.out.drewN k5)
                          obtain ⟨w5, HW5⟩ : ∃ w5, Hid (wr.drewN k5 = w5) := ⟨_, rfl⟩
                          rw [HW5.out] at G5 ⊢
                          clear LF HG
                          obtain ⟨c0, c1, c2, c3, c4, c5, c6⟩ := G5.out.o.c
                          obtain ⟨f0, f1, f2, f3, f4, f5, f6⟩ := G5.out.r.f
                          obtain ⟨b0, b1, b2, b3, b4, b5, b6⟩ := G5.out.r.c
                          have hzq : q < ob := by have := G5.out.z; omega
                          go_wp2
                          have dd := put7_is G5.out.r (.int .u32 sd) (.int .u32 md) (.int .i64 fi) (.int .i64 ba) (.int .i64 co) (.slice va j vc) (.slice da m dc)
                          have ap := put7_ap w5 q (.int .u32 sd) (.int .u32 md) (.int .i64 fi) (.int .i64 ba) (.int .i64 co) (.slice va j vc) (.slice da m dc)
                          have o10 := ownsRow_apart G5.out.ow ap (by intro k hk e; have := G5.out.z; omega)
                          have p10 := ownsRow_apart G5.out.od ap (by intro k hk e; have := G5.out.z; omega)
                          obtain ⟨_, _, hv1, ia1⟩ := own_ia o10
                          obtain ⟨_, _, hv2, ia2⟩ := own_ia p10
                          simp only [Value.slice.injEq] at hv1 hv2
                          obtain ⟨rfl, hl1, rfl⟩ := hv1
                          obtain ⟨rfl, hl2, rfl⟩ := hv2
                          refine bodyPost_ret (res17 _ rfl dd) rfl ⟨⟨va, vc, da, dc, ?_, by rw [DR.out]; exact ia1, by rw [DR.out]; exact ia2⟩, ?_⟩
                          · rw [DR.out, HDZ.out]
                            simp only
                            rw [← hl1, ← hl2]
                            rfl
                          · exact (G5.out.a.trans ap (fun i hi e => by have := G5.out.z; omega)).belowZ
    · have HF := mkHid (decE_90 (s := s) (by omega) (by omega))
      obtain ⟨r, hr, hr0⟩ : ∃ r : Int, (s.size : Int) % 4 = r ∧ (r == 0) = false := ⟨_, rfl, by simpa using h2⟩
      go_enter Tryz.func25, Tryz.ntmps25
      go_wp2
      rw [HW.out, HQ.out]
      refine bodyPost_ret (res17 _ rfl N0.out) rfl (dec_none (by rw [HF.out]; decide) (by rw [HF.out]; rfl) A0.out.belowZ)
end Go.Proofs.YtdhbakknplnnkaaGreat.Tw
