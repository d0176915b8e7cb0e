/-
  What the reference's Decode hands back: the walk.
-/
import Derived.Test.YtdhbakknplnnkaaGreatCc3
namespace Go.Proofs.YtdhbakknplnnkaaGreat.Cc
open Go.RowKit

set_option maxRecDepth 100000 in
set_option maxHeartbeats 8000000 in
theorem rdec_any (s : ByteArray) (hs : s.size ≤ 1000000) (w : World) : Calls Tryz.prog 23 #[.string s] w (DecPost s w) := by
  have N0 := mkHid (heap_alloc_new w (.cells #[.int .u32 0, .slice none 0 0, .int .u32 0] 53))
  have A0 := mkHid ((Apart.refl (fun _ => False) w).alloc (.cells #[.int .u32 0, .slice none 0 0, .int .u32 0] 53))
  have Z0 := mkHid (show (w.alloc (.cells #[.int .u32 0, .slice none 0 0, .int .u32 0] 53)).heap.size = w.heap.size + 1 by simp)
  obtain ⟨q, HQ⟩ : ∃ q, Hid (w.heap.size = q) := ⟨_, rfl⟩
  obtain ⟨W, HW⟩ : ∃ W, Hid (w.alloc (.cells #[.int .u32 0, .slice none 0 0, .int .u32 0] 53) = W) := ⟨_, rfl⟩
  rw [HQ.out, HW.out] at N0 Z0
  rw [HW.out] at A0
  have HS := mkHid hs
  have hs' : (s.size : Int) ≤ 9223372036854775807 := by omega
  clear hs
  by_cases h1 : (65536 : Int) < s.size
  · have HF := mkHid (decE_2 (s := s) (by omega))
    go_enter Tryz.func23, Tryz.ntmps23
    go_wp2
    rw [HW.out, HQ.out]
    refine bodyPost_ret (res17 _ rfl N0.out) rfl (dec_none (by rw [HF.out]; decide) (by rw [HF.out]; rfl) A0.out.belowZ)
  · by_cases h2 : (s.size : Int) % 4 = 0
    · by_cases h3 : (s.size : Int) < 8
      · have HF := mkHid (decE_60 (s := s) (by omega) (by omega) (by omega))
        go_enter Tryz.func23, Tryz.ntmps23
        go_wp2
        rw [HW.out, HQ.out]
        refine bodyPost_ret (res17 _ rfl N0.out) rfl (dec_none (by rw [HF.out]; decide) (by rw [HF.out]; rfl) A0.out.belowZ)
      · have HEL := mkHid (show s.size ≤ 65536 ∧ s.size % 4 = 0 ∧ 8 ≤ s.size by omega)
        have HDE := mkHid (decE_in (lenE_is HEL.out.1 HEL.out.2.1 HEL.out.2.2))
        go_enter Tryz.func23, Tryz.ntmps23
        go_wp2_with fail
        rw [HW.out, HQ.out]
        refine (rread_any s _).mono ?_
        rw [Z0.out]
        rintro e w2 ⟨rfl, r2, a2, z2⟩
        have R2 := mkHid r2
        have N2 := mkHid (a2.heap N0.out (fun h => h))
        have A2 := mkHid (A0.out.zz a2)
        clear r2 a2 z2 N0 A0 h1 h2 h3 hs'
        obtain ⟨rb, HRB⟩ : ∃ rb, Hid (q + 1 = rb) := ⟨_, rfl⟩
        rw [HRB.out] at R2 ⊢
        obtain ⟨g0, G0⟩ : ∃ g0 : Int, Hid ((gv s 0 32 : Int) = g0) := ⟨_, rfl⟩
        have HL0 := mkHid (show 0 ≤ g0 ∧ g0 < 4294967296 by have := gv_lt s 0 32; have := G0.out; omega)
        go_wp2_with fail
        have K1 := rget_fit rb s HS.out 0 32 32 rfl (by omega) (by have := HEL.out; omega) _ R2.out
        rw [G0.out] at K1
        refine K1.mono ?_
        clear K1
        rintro e w3 ⟨rfl, r3, a3⟩
        have R3 := mkHid (show Rd 136 w3 rb s (some 32) from r3)
        have N3 := mkHid (a3.heap N2.out (by have := HRB.out; omega))
        have A3 := mkHid (A2.out.trans a3 (fun i hi e => by rw [HQ.out] at hi; have := HRB.out; omega))
        clear r3 a3 R2 N2 A2
        have hr3 := R3.out.heap
        obtain ⟨ob, HOB⟩ : ∃ ob, Hid (w3.heap.size = ob) := ⟨_, rfl⟩
        obtain ⟨B, HB⟩ : ∃ B, Hid (ob + 1 = B) := ⟨_, rfl⟩
        rw [HOB.out] at hr3
        have D0 := mkHid (show Dw w (w3.alloc (.cells #[.int .u32 g0, .slice none 0 0, .int .u32 0] 53)) q rb ob B s 32 g0 none 0 0 [] from by
          have E := (Apart.refl (fun _ => False) w3).alloc (.cells #[.int .u32 g0, .slice none 0 0, .int .u32 0] 53)
          refine ⟨R3.out.kept E (fun h => h), by rw [← HOB.out]; exact heap_alloc_new _ _, E.heap N3.out (fun h => h), World.ownsRow_nil _ _ _ _, KX.nil _ _, A3.out.zz E, ?_⟩
          rw [HQ.out]; have := HRB.out; have := HB.out; omega)
        have HBW := mkHid (show B ≤ (w3.alloc (.cells #[.int .u32 g0, .slice none 0 0, .int .u32 0] 53)).heap.size by rw [World.size_alloc, HOB.out]; have := HB.out; omega)
        obtain ⟨W3, HW3⟩ : ∃ W3, Hid (w3.alloc (.cells #[.int .u32 g0, .slice none 0 0, .int .u32 0] 53) = W3) := ⟨_, rfl⟩
        rw [HW3.out] at D0 HBW
        clear hr3 R3 N3 A3
        go_wp2
        rw [HW3.out, HOB.out]
        go_loopg [] 17 (fun k wr => ∃ (p n : Nat) (va : Option Addr) (vc : Nat) (acc : List Kx), k = 17 - n ∧ Rw w wr q rb ob B s g0 p n va vc acc)
        case atStart => exact ⟨32, 0, none, 0, [], rfl, rfl, by omega, rfl, by have := HEL.out; omega, rfl, rfl, D0.out, HBW.out⟩
        case round =>
          obtain ⟨p, n, va, vc, acc, rfl, hacc, hn, hpm, hpl, hE, hL, hD, hBw⟩ := hrel
          have HAC := mkHid hacc
          have HN := mkHid hn
          have HPM := mkHid hpm
          have HPL := mkHid hpl
          have HE := mkHid hE
          have HL := mkHid hL
          have HD := mkHid hD
          have HBW2 := mkHid hBw
          clear hacc hn hpm hpl hE hL hD hBw D0 HBW
          obtain ⟨L, HLL⟩ : ∃ L : Int, Hid (8 * (s.size : Int) - p = L) := ⟨_, rfl⟩
          have LF := mkHid (rleft_at rb s HS.out p wr HD.out.rd L HLL.out)
          by_cases h1 : 32 < L
          · have H1 := mkHid (show p + 32 < 8 * s.size by have := HLL.out; omega)
            go_wp2_with fail
            refine (LF.out).mono ?_
            rintro e w4 ⟨rfl, k4, rfl⟩
            have D4 := mkHid (HD.out.drewN k4)
            have HB4 := mkHid (show B ≤ (wr.drewN k4).heap.size from HBW2.out)
            obtain ⟨w4, HW4⟩ : ∃ w4, Hid (wr.drewN k4 = w4) := ⟨_, rfl⟩
            rw [HW4.out] at D4 HB4 ⊢
            clear LF HD HBW2
            obtain ⟨⟨c0, c1, c2⟩, f0, f1, f2⟩ := cells3' D4.out.o
            obtain ⟨⟨d0, d1, d2⟩, e0, e1, e2⟩ := cells3' D4.out.r
            by_cases h16 : (n : Int) = 16
            · have HF := mkHid (show decE s = 3 by rw [HDE.out, HE.out, show 16 - n = 0 by omega]; exact dE_many H1.out)
              go_wp2
              exact D4.out.bad HF.out (by decide) _ rfl rfl _ rfl
            · have HN16 := mkHid (show 16 - n = 15 - n + 1 by have := HN.out; omega)
              have HBAD := mkHid (show ∀ E, bkE s p = E → ¬ E = 0 → decE s = E by
                intro E h0 h1
                rw [HDE.out, HE.out, HN16.out, dE_wrong H1.out (by rw [h0]; exact h1), h0])
              have LF := mkHid (rleft_at rb s HS.out p w4 D4.out.rd L HLL.out)
              by_cases h96 : L < 96
              · have HF := mkHid (HBAD.out 60 (bkE_short (by have := HLL.out; omega)) (by decide))
                go_wp2_with fail
                refine (LF.out).mono ?_
                rintro e w5 ⟨rfl, k5, rfl⟩
                have D5 := mkHid (D4.out.drewN k5)
                obtain ⟨w5, HW5⟩ : ∃ w5, Hid (w4.drewN k5 = w5) := ⟨_, rfl⟩
                rw [HW5.out] at D5 ⊢
                clear c0 c1 c2 f0 f1 f2 d0 d1 d2 e0 e1 e2
                obtain ⟨⟨d0, d1, d2⟩, e0, e1, e2⟩ := cells3' D5.out.r
                go_wp2
                exact D5.out.bad HF.out (by decide) _ rfl rfl _ rfl
              · have H96 := mkHid (show p + 96 ≤ 8 * s.size by have := HLL.out; omega)
                obtain ⟨y0, Y0⟩ : ∃ y : Int, Hid ((gv s p 32 : Int) = y) := ⟨_, rfl⟩
                obtain ⟨y1, Y1⟩ : ∃ y : Int, Hid ((gv s (p + 32) 16 : Int) = y) := ⟨_, rfl⟩
                obtain ⟨M, HM⟩ : ∃ M : Nat, Hid (cnt s p = M) := ⟨_, rfl⟩
                obtain ⟨N, HNN⟩ : ∃ N : Int, Hid ((M : Int) = N) := ⟨_, rfl⟩
                have LY0 := mkHid (show 0 ≤ y0 ∧ y0 < 4294967296 by have := gv_lt s p 32; have := Y0.out; omega)
                have LY1 := mkHid (show 0 ≤ y1 ∧ y1 < 65536 by have := gv_lt s (p + 32) 16; have := Y1.out; omega)
                have l10 : 0 ≤ y1 := LY1.out.1
                have l11 : y1 < 65536 := LY1.out.2
                have HMN := mkHid (show cnt s p = gv s (p + 32 + 16) 16 from rfl)
                have LN := mkHid (show 0 ≤ N ∧ N < 65536 by have := gv_lt s (p + 32 + 16) 16; have := HMN.out; have := HM.out; have := HNN.out; omega)
                have l20 : 0 ≤ N := LN.out.1
                have l21 : N < 65536 := LN.out.2
                have G2 := mkHid (show ((gv s (p + 32 + 16) 16 : Nat) : Int) = N by rw [← HMN.out, HM.out, HNN.out])
                clear c0 c1 c2 f0 f1 f2 d0 d1 d2 e0 e1 e2
                obtain ⟨⟨c0, c1, c2⟩, f0, f1, f2⟩ := cells3' D4.out.o
                go_wp2_with fail
                refine (LF.out).mono ?_
                rintro e w5 ⟨rfl, k5, rfl⟩
                have D5 := mkHid (D4.out.drewN k5)
                have HB5 := mkHid (show B ≤ (w4.drewN k5).heap.size from HB4.out)
                obtain ⟨w5, HW5⟩ : ∃ w5, Hid (w4.drewN k5 = w5) := ⟨_, rfl⟩
                rw [HW5.out] at D5 HB5 ⊢
                clear c0 c1 c2 f0 f1 f2 LF HB4
                go_wp2_with fail
                have K1 := rget_fit rb s HS.out p 32 32 rfl (by omega) (by have := H96.out; omega) _ D5.out.rd
                rw [Y0.out] at K1
                refine K1.mono ?_
                clear K1
                rintro e w6 ⟨rfl, r6, a6⟩
                have D6 := mkHid (D5.out.move a6 r6)
                have HB6 := mkHid (Nat.le_trans HB5.out a6.size)
                clear r6 a6
                go_wp2_with fail
                have K1 := rget_fit rb s HS.out (p + 32) 16 16 rfl (by omega) (by have := H96.out; omega) _ D6.out.rd
                rw [Y1.out] at K1
                refine K1.mono ?_
                clear K1
                rintro e w7 ⟨rfl, r7, a7⟩
                have D7 := mkHid (D6.out.move a7 r7)
                have HB7 := mkHid (Nat.le_trans HB6.out a7.size)
                clear r7 a7 HB5 HB6
                obtain ⟨bb, HBB⟩ : ∃ bb, Hid (w7.heap.size = bb) := ⟨_, rfl⟩
                have I7 := mkHid (show Iw w7 (w7.alloc (.cells #[.int .u32 y0, .int .i64 y1, .slice none 0 0] 49)) rb bb s (p + 32 + 16) y0 y1 none 0 0 [] from by
                  have E := (Apart.refl (fun _ => False) w7).alloc (.cells #[.int .u32 y0, .int .i64 y1, .slice none 0 0] 49)
                  exact ⟨D7.out.rd.kept E (fun h => h), by rw [← HBB.out]; exact heap_alloc_new _ _, World.ownsRow_nil _ _ _ _, (Apart.refl _ _).alloc _, D7.out.rd.heap, by rw [HBB.out]; exact Nat.le_refl _⟩)
                obtain ⟨W7, HW7⟩ : ∃ W7, Hid (w7.alloc (.cells #[.int .u32 y0, .int .i64 y1, .slice none 0 0] 49) = W7) := ⟨_, rfl⟩
                rw [HW7.out] at I7
                go_wp2_with fail
                rw [HW7.out, HBB.out]
                have K1 := rget_fit rb s HS.out (p + 32 + 16) 16 16 rfl (by omega) (by have := H96.out; omega) _ I7.out.rd
                rw [G2.out] at K1
                refine K1.mono ?_
                clear K1
                rintro e w8 ⟨rfl, r8, a8⟩
                have I8 := mkHid (show Iw w7 w8 rb bb s (p + 64) y0 y1 none 0 0 [] from I7.out.move a8 r8)
                have D8 := mkHid (D7.out.move I8.out.a I8.out.rd)
                clear r8 a8 I7 l10 l11
                obtain ⟨⟨d0, d1, d2⟩, e0, e1, e2⟩ := cells3' D8.out.r
                by_cases h4 : 4096 < N
                · have HF := mkHid (HBAD.out 3 (bkE_many H96.out (by rw [HM.out]; have := HNN.out; omega)) (by decide))
                  go_wp2
                  exact D8.out.bad HF.out (by decide) _ rfl rfl _ rfl
                · have H4 := mkHid (show M ≤ 4096 by have := HNN.out; omega)
                  have HBN := mkHid (show bkN s p = p + 64 + 8 * mb M by unfold bkN; rw [HM.out])
                  obtain ⟨L2, HL2⟩ : ∃ L : Int, Hid (8 * (s.size : Int) - ((p + 64 : Nat) : Int) = L) := ⟨_, rfl⟩
                  have LF := mkHid (rleft_at rb s HS.out (p + 64) w8 I8.out.rd L2 HL2.out)
                  have hN4 : N ≤ 4096 := by omega
                  clear h4
                  by_cases h5 : L2 < (N + 1) / 2 * 32 + 32
                  · have HF := mkHid (HBAD.out 60 (bkE_lacks H96.out (by rw [HM.out]; exact H4.out) (by rw [HBN.out]; have := HL2.out; have := HNN.out; unfold mb; omega)) (by decide))
                    clear d0 d1 d2 e0 e1 e2
                    go_wp2_with fail
                    refine (LF.out).mono ?_
                    rintro e w9 ⟨rfl, k9, rfl⟩
                    have D9 := mkHid (D8.out.drewN k9)
                    obtain ⟨w9, HW9⟩ : ∃ w9, Hid (w8.drewN k9 = w9) := ⟨_, rfl⟩
                    rw [HW9.out] at D9 ⊢
                    obtain ⟨⟨d0, d1, d2⟩, e0, e1, e2⟩ := cells3' D9.out.r
                    go_wp2
                    exact D9.out.bad HF.out (by decide) _ rfl rfl _ rfl
                  · have H5 := mkHid (show bkN s p + 32 ≤ 8 * s.size by rw [HBN.out]; have := HL2.out; have := HNN.out; unfold mb; omega)
                    clear d0 d1 d2 e0 e1 e2
                    go_wp2_with fail
                    refine (LF.out).mono ?_
                    rintro e w9 ⟨rfl, k9, rfl⟩
                    have I9 := mkHid (I8.out.drewN k9)
                    obtain ⟨w9, HW9⟩ : ∃ w9, Hid (w8.drewN k9 = w9) := ⟨_, rfl⟩
                    rw [HW9.out] at I9 ⊢
                    clear I8 D8 LF
                    obtain ⟨i1, hj, hy0, hy1, hy2⟩ := info_parts info47
                    go_wp2
                    clear h5
                    go_loopw [8] (fun i wr => ∃ (j : Nat) (ma : Option Addr) (mc : Nat), j ≤ M ∧ i = .int .i64 (j : Int) ∧ Iw w7 wr rb bb s (p + 64 + 16 * j) y0 y1 ma j mc (msAt s (p + 64) j) ∧ (msAt s (p + 64) j).all mtOk = true) (fun i _ => M - (intOf i).toNat)
                    case atStart => exact ⟨0, none, 0, Nat.zero_le _, rfl, I9.out, rfl⟩
                    case round =>
                      obtain ⟨j, ma, mc, hjM, rfl, hI, hall⟩ := hrel
                      have HI := mkHid hI
                      have HALL := mkHid hall
                      have HJM := mkHid hjM
                      clear hI hall I9 hjM
                      by_cases hlt : (j : Int) < N
                      · have HLT := mkHid (show j < M by have := HNN.out; omega)
                        obtain ⟨P, HP⟩ : ∃ P, Hid (p + 64 + 16 * j = P) := ⟨_, rfl⟩
                        have HPB := mkHid (show P + 16 ≤ 8 * s.size by have := H5.out; rw [HBN.out] at this; unfold mb at this; have := HLT.out; have := HP.out; omega)
                        rw [HP.out] at HI
                        obtain ⟨ml, HML⟩ : ∃ ml, Hid (msAt s (p + 64) j = ml) := ⟨_, rfl⟩
                        have HMLL := mkHid (show ml.length = j by rw [← HML.out, msAt_len])
                        rw [HML.out] at HI
                        obtain ⟨z0, X0⟩ : ∃ y : Int, Hid ((gv s P 1 : Int) = y) := ⟨_, rfl⟩
                        obtain ⟨z1, X1⟩ : ∃ y : Int, Hid ((gv s (P + 1) 2 : Int) = y) := ⟨_, rfl⟩
                        obtain ⟨z2, X2⟩ : ∃ y : Int, Hid ((gv s (P + 1 + 2) 13 : Int) = y) := ⟨_, rfl⟩
                        have b10 : 0 ≤ z1 := by have := X1.out; omega
                        have b11 : z1 < 4 := by have := gv_lt s (P + 1) 2; have := X1.out; omega
                        have b20 : 0 ≤ z2 := by have := X2.out; omega
                        have b21 : z2 < 8192 := by have := gv_lt s (P + 1 + 2) 13; have := X2.out; omega
                        obtain ⟨gb, hgb⟩ : ∃ gb : Bool, (z0 == 1) = gb := ⟨_, rfl⟩
                        have HMT := mkHid (show mtAt s P = ⟨gb, z1, z2⟩ by
                          apply Mt.eq
                          · show decide (gv s P 1 = 1) = gb
                            rw [← hgb, ← X0.out, Bool.eq_iff_iff]; simp; omega
                          · exact X1.out
                          · exact X2.out)
                        obtain ⟨ok, HOK⟩ : ∃ ok, Hid (mtOk ⟨gb, z1, z2⟩ = ok) := ⟨_, rfl⟩
                        go_wp2_with fail
                        have K1 := rget_fit rb s HS.out P 1 1 rfl (by omega) (by have := HPB.out; omega) _ HI.out.rd
                        rw [X0.out] at K1
                        refine K1.mono ?_
                        clear K1
                        rintro e w11 ⟨rfl, r11, a11⟩
                        have I11 := mkHid (HI.out.move a11 r11)
                        clear r11 a11 HI
                        go_wp2_with fail
                        have K1 := rget_fit rb s HS.out (P + 1) 2 2 rfl (by omega) (by have := HPB.out; omega) _ I11.out.rd
                        rw [X1.out] at K1
                        refine K1.mono ?_
                        clear K1
                        rintro e w12 ⟨rfl, r12, a12⟩
                        have I12 := mkHid (I11.out.move a12 r12)
                        clear r12 a12 I11
                        go_wp2_with fail
                        have K1 := rget_fit rb s HS.out (P + 1 + 2) 13 13 rfl (by omega) (by have := HPB.out; omega) _ I12.out.rd
                        rw [X2.out] at K1
                        refine K1.mono ?_
                        clear K1
                        rintro e w13 ⟨rfl, r13, a13⟩
                        have I13 := mkHid ((I12.out.move a13 r13).alloc (.cells #[.bool gb, .int .i64 z1, .int .i64 z2] 45))
                        have NM := mkHid (heap_alloc_new w13 (.cells #[.bool gb, .int .i64 z1, .int .i64 z2] 45))
                        clear r13 a13 I12
                        obtain ⟨bm, HBM⟩ : ∃ bm, Hid (w13.heap.size = bm) := ⟨_, rfl⟩
                        obtain ⟨W13, HW13⟩ : ∃ W13, Hid (w13.alloc (.cells #[.bool gb, .int .i64 z1, .int .i64 z2] 45) = W13) := ⟨_, rfl⟩
                        rw [HBM.out] at NM
                        rw [HW13.out] at I13 NM
                        go_upto_region 24 with fail
                        rw [HW13.out, HBM.out]
                        obtain ⟨⟨m0, m1, m2⟩, q0, q1, q2⟩ := cells3' NM.out
                        go_cut [88] (fun c wc => c = .bool (!ok) ∧ wc = W13)
                        case first =>
                          clear hgb
                          cases gb with
                          | true =>
                            have E := mkHid (show ok = true by rw [← HOK.out]; simp [mtOk, inR]; omega)
                            go_wp2
                            go_meet
                            case rel => exact ⟨by rw [E.out]; rfl, rfl⟩
                          | false =>
                            by_cases x1 : z1 = 0
                            · by_cases x2 : z2 = 0
                              · have E := mkHid (show ok = true by rw [← HOK.out]; simp [mtOk, x1, x2])
                                go_wp2
                                go_meet
                                case rel => exact ⟨by rw [E.out]; first | rfl | simp [x2], rfl⟩
                              · have E := mkHid (show ok = false by rw [← HOK.out]; simp [mtOk, x2])
                                go_wp2
                                go_meet
                                case rel => exact ⟨by rw [E.out]; first | rfl | simp [x2], rfl⟩
                            · have E := mkHid (show ok = false by rw [← HOK.out]; simp [mtOk, x1])
                              go_wp2
                              go_meet
                              case rel => exact ⟨by rw [E.out]; rfl, rfl⟩
                        case rest =>
                          obtain ⟨rfl, hwc⟩ := hcut
                          replace hwc := hwc.symm
                          subst hwc
                          cases ok with
                          | false =>
                            have D13 := mkHid (D7.out.move I13.out.a I13.out.rd)
                            have HF := mkHid (HBAD.out 70 (bkE_mark H96.out (by rw [HM.out]; exact H4.out) H5.out (by rw [HM.out, all_not (mt_at HLT.out) (by rw [HP.out, HMT.out]; exact HOK.out)]; decide)) (by decide))
                            clear m0 m1 m2 q0 q1 q2
                            obtain ⟨⟨d0, d1, d2⟩, e0, e1, e2⟩ := cells3' D13.out.r
                            go_wp2
                            exact D13.out.bad HF.out (by decide) _ rfl rfl _ rfl
                          | true =>
                            have OWJ := mkHid (show W13.ownsRow (bb + 1) 45 3 (.slice ma j mc) j (mC ml) by have := I13.out.ow; rw [HMLL.out] at this; exact this)
                            have hz13 : bb + 1 ≤ W13.heap.size := lt_of_heap I13.out.b
                            have HCN := mkHid (cell_three_new W13 (.bool gb) (.int .i64 z1) (.int .i64 z2) 45)
                            have HJB := mkHid (show j ≤ 4096 by have := HLT.out; have := H4.out; omega)
                            obtain ⟨⟨c0, c1, c2⟩, f0, f1, f2⟩ := cells3' I13.out.b
                            have HSU := mkHid (msAt_succ s (p + 64) j)
                            clear hgb
                            go_wp2_with (at_builtin; refine wpList_append_own2 _ rfl (.tmp 91) (.tmp 93) 46 rfl (bb + 1) 45 i1 (.agg #[.bool false, .int .i64 0, .int .i64 0]) 3 24 Tryz.underlying46 hj hy0 hy1 hy2 rfl (by decide) (.slice ma j mc) j (mC ml) rfl (OWJ.out.alloc _) ⟨W13.heap.size, 0, none⟩ 1 1 [.bool gb, .int .i64 z1, .int .i64 z2] rfl rfl HCN.out (by intro u hu; simp at hu; rcases hu with rfl | rfl | rfl <;> rfl) (by unfold maxLen; have := HJB.out; omega) (by have := HJB.out; omega) (by simp; omega) ?_; intro v3 w3 hown3 hgrow3 hnew3; clear hnew3; obtain ⟨va3, vc3, hv3⟩ := ownsRow_slice hown3; subst hv3; have OW3 := mkHid hown3; have GR3 := mkHid hgrow3; have NB3 := mkHid ((I13.out.alloc _).nb hgrow3); obtain ⟨⟨k0, k1, k2⟩, l0, l1, l2⟩ := cells3' NB3.out; clear hown3 hgrow3)
                            have I14 := mkHid ((I13.out.alloc (.cells #[.bool gb, .int .i64 z1, .int .i64 z2] 45)).app (m := ⟨gb, z1, z2⟩) HMLL.out OW3.out GR3.out)
                            go_roundw
                            case rel =>
                              refine ⟨j + 1, va3, vc3, HLT.out, by go_num, ?_, ?_⟩
                              · rw [HSU.out, HP.out, HMT.out, HML.out]
                                have e : p + 64 + 16 * (j + 1) = P + 1 + 2 + 13 := by have := HP.out; omega
                                rw [e]; exact I14.out
                              · rw [HSU.out, HP.out, HMT.out, List.all_append, HALL.out]; simp [HOK.out]
                            case measure => have := HLT.out; simp [intOf]; omega
                      · obtain rfl : M = j := by have := HJM.out; have := HNN.out; omega
                        obtain ⟨ml, HML⟩ : ∃ ml, Hid (msAt s (p + 64) M = ml) := ⟨_, rfl⟩
                        have HMLL := mkHid (show ml.length = M by rw [← HML.out, msAt_len])
                        rw [HML.out] at HI HALL
                        obtain ⟨pd, HPD⟩ : ∃ pd, Hid (gv s (p + 64 + 16 * M) (16 * (M % 2)) = pd) := ⟨_, rfl⟩
                        obtain ⟨ok, HOK⟩ : ∃ ok, Hid (decide (pd = 0) = ok) := ⟨_, rfl⟩
                        have HBE := mkHid (show p + 64 + 16 * M + 16 * (M % 2) = bkN s p by rw [HBN.out]; unfold mb; omega)
                        go_upto_region 27 with fail
                        go_cut [103] (fun c wc => c = .bool (!ok) ∧ Iw w7 wc rb bb s (bkN s p) y0 y1 ma M mc ml)
                        case first =>
                          by_cases hodd : M % 2 = 1
                          · have o1 : N % 2 = 1 := by have := HNN.out; omega
                            have o2 : N.tmod 2 = 1 := by rw [Int.tmod_eq_emod_of_nonneg l20]; exact o1
                            have GT := mkHid (rget_fit rb s HS.out (p + 64 + 16 * M) 16 16 rfl (by omega) (by have := H5.out; have := HBE.out; omega) _ HI.out.rd)
                            rw [show gv s (p + 64 + 16 * M) 16 = pd by rw [← HPD.out, hodd]] at GT
                            have HBO := mkHid (show p + 64 + 16 * M + 16 = bkN s p by have := HBE.out; omega)
                            obtain ⟨z, HZ⟩ : ∃ z : Int, Hid ((pd : Int) = z) := ⟨_, rfl⟩
                            rw [HZ.out, HBO.out] at GT
                            clear hodd
                            go_wp2_with fail
                            refine (GT.out).mono ?_
                            rintro e w14 ⟨rfl, r14, a14⟩
                            have I14 := mkHid (HI.out.move a14 r14)
                            clear r14 a14 GT
                            by_cases hz : z = 0
                            · have E := mkHid (show ok = true by rw [← HOK.out]; have := HZ.out; simp; omega)
                              go_wp2
                              go_meet
                              case rel => exact ⟨by rw [E.out]; first | rfl | simp [hz], I14.out⟩
                            · have E := mkHid (show ok = false by rw [← HOK.out]; have := HZ.out; simp; omega)
                              go_wp2
                              go_meet
                              case rel => exact ⟨by rw [E.out]; first | rfl | simp [hz], I14.out⟩
                          · have o1 : N % 2 = 0 := by have := HNN.out; omega
                            have o2 : N.tmod 2 = 0 := by rw [Int.tmod_eq_emod_of_nonneg l20]; exact o1
                            have h20 : M % 2 = 0 := by omega
                            have E := mkHid (show ok = true by
                              have := gv_lt s (p + 64 + 16 * M) 0
                              have e := HPD.out
                              rw [h20] at e
                              rw [← HOK.out]; simp at e ⊢; omega)
                            have HBO := mkHid (show p + 64 + 16 * M = bkN s p by have := HBE.out; omega)
                            rw [HBO.out] at HI
                            clear hodd h20
                            go_wp2
                            go_meet
                            case rel => exact ⟨by rw [E.out]; rfl, HI.out⟩
                        case rest =>
                          obtain ⟨rfl, hI⟩ := hcut
                          have I14 := mkHid hI
                          have D14 := mkHid (D7.out.move hI.a hI.rd)
                          clear hI HI
                          cases ok with
                          | false =>
                            have HF := mkHid (HBAD.out 91 (bkE_pad H96.out (by rw [HM.out]; exact H4.out) H5.out (by rw [HM.out, HML.out]; exact HALL.out) (by rw [HM.out, HPD.out]; have := HOK.out; simpa using this)) (by decide))
                            obtain ⟨⟨d0, d1, d2⟩, e0, e1, e2⟩ := cells3' D14.out.r
                            go_wp2
                            exact D14.out.bad HF.out (by decide) _ rfl rfl _ rfl
                          | true =>
                            obtain ⟨i0, hi, hz0, hz1, hz2⟩ := info_parts info44
                            have HEZ := mkHid (bkE_is H96.out (by rw [HM.out]; exact H4.out) H5.out (by rw [HM.out, HML.out]; exact HALL.out) (by rw [HM.out, HPD.out]; have := HOK.out; simpa using this))
                            have HBK := mkHid (show bkAt s p = ⟨y0, y1, ml⟩ by unfold bkAt; rw [Y0.out, Y1.out, HM.out, HML.out])
                            have OWK := mkHid (show wc.ownsRow B 49 3 (.slice va n vc) n (kC acc) by have := D14.out.ow; rw [HAC.out] at this; exact this)
                            have hBc : B ≤ wc.heap.size := by have := lt_of_heap D14.out.o; have := HB.out; omega
                            have HCN := mkHid (cell_three_new wc (.int .u32 y0) (.int .i64 y1) (.slice ma M mc) 49)
                            obtain ⟨⟨c0, c1, c2⟩, f0, f1, f2⟩ := cells3' I14.out.b
                            obtain ⟨⟨d0, d1, d2⟩, e0, e1, e2⟩ := cells3' D14.out.o
                            go_wp2_with (at_builtin; refine wpList_append_own2 _ rfl (.tmp 106) (.tmp 108) 50 rfl B 49 i0 (.agg #[.int .u32 0, .int .i64 0, .slice none 0 0]) 3 40 Tryz.underlying50 hi hz0 hz1 hz2 rfl (by decide) (.slice va n vc) n (kC acc) rfl (OWK.out.alloc _) ⟨wc.heap.size, 0, none⟩ 1 1 [.int .u32 y0, .int .i64 y1, .slice ma M mc] rfl rfl HCN.out (by intro u hu; simp at hu; rcases hu with rfl | rfl | rfl <;> rfl) (by unfold maxLen; have := HN.out; omega) (by have := HN.out; omega) (by simp; omega) ?_; intro v3 w3 hown3 hgrow3 hnew3; obtain ⟨va3, vc3, hv3⟩ := ownsRow_slice hown3; subst hv3; have OW3 := mkHid hown3; have GR3 := mkHid hgrow3; have NW3 := mkHid hnew3; have NB3 := mkHid (D14.out.nb _ hgrow3); obtain ⟨⟨k0, k1, k2⟩, l0, l1, l2⟩ := cells3' NB3.out; clear hown3 hgrow3 hnew3)
                            have D15 := mkHid (D7.out.app I14.out HB7.out HAC.out HMLL.out H4.out LY0.out.1 LY0.out.2 (.cells #[.int .u32 y0, .int .i64 y1, .slice ma M mc] 49) OW3.out GR3.out NW3.out)
                            have hm := dE_more (k := 15 - n) H1.out HEZ.out
                            rw [← HN16.out] at hm
                            have HMM := mkHid hm
                            clear hm
                            go_roundg (17 - (n + 1))
                            case measure => have := HN.out; omega
                            case rel =>
                              have hn := HN.out
                              have hk : 16 - (n + 1) = 15 - n := by omega
                              refine ⟨bkN s p, n + 1, va3, vc3, acc ++ [⟨⟨y0, y1, ml⟩, ma, mc⟩], rfl, by rw [List.length_append, HAC.out]; rfl, by omega, bkN_mod HPM.out, H5.out, ?_, ?_, D15.out, ?_⟩
                              · rw [HE.out, HMM.out.1, hk]
                              · rw [HL.out, HMM.out.2, HBK.out, hk]; simp
                              · have := lt_of_heap D15.out.o; have := HB.out; omega
          · have HPE := mkHid (show p = 8 * s.size - 32 by have := HLL.out; have := HPL.out; omega)
            have HEND := mkHid (dE_end (s := s) (k := 16 - n) (p := p) (by have := HLL.out; omega))
            have HEZ := mkHid (show decE s = 0 by rw [HDE.out, HE.out]; exact HEND.out.1)
            have HDI := mkHid (decL_in HEZ.out)
            have HDL := mkHid (show decL s = acc.map (·.k) by rw [HDI.out.1, HL.out, HEND.out.2, List.append_nil])
            obtain ⟨g1, G1⟩ : ∃ g1 : Int, Hid ((gv s p 32 : Int) = g1) := ⟨_, rfl⟩
            go_wp2_with fail
            refine (LF.out).mono ?_
            rintro e w4 ⟨rfl, k4, rfl⟩
            have D4 := mkHid (HD.out.drewN k4)
            obtain ⟨w4, HW4⟩ : ∃ w4, Hid (wr.drewN k4 = w4) := ⟨_, rfl⟩
            rw [HW4.out] at D4 ⊢
            clear LF HD HBW2
            go_wp2_with fail
            have K1 := rget_fit rb s HS.out p 32 32 rfl (by omega) HPL.out _ D4.out.rd
            rw [G1.out] at K1
            refine K1.mono ?_
            clear K1
            rintro e w5 ⟨rfl, r5, a5⟩
            have D5 := mkHid (D4.out.move a5 r5)
            clear r5 a5 D4
            obtain ⟨⟨c0, c1, c2⟩, f0, f1, f2⟩ := cells3' D5.out.o
            obtain ⟨⟨d0, d1, d2⟩, e0, e1, e2⟩ := cells3' D5.out.r
            have hz := D5.out.z
            have HZ := mkHid hz
            have hqo : ¬ q = ob := by omega
            have hoq : ¬ ob = q := by omega
            clear hz
            go_wp2
            have hz := HZ.out
            have S := ap_set w5 ob 2 (.int .u32 g1)
            have dd := put3_is (S.heap D5.out.r hqo) (.int .u32 g0) (.slice va n vc) (.int .u32 g1)
            have ap := put3_ap (w5.setCell ⟨ob, 2, none⟩ (.int .u32 g1)) q 0 (.int .u32 g0) (.slice va n vc) (.int .u32 g1)
            have o6 := ownsRow_apart (ownsRow_apart D5.out.ow S (by intro k hk e; omega)) ap (by intro k hk e; omega)
            have k5 := D5.out.kx.kept (X' := (fun k => k < B ∨ (Value.slice va n vc).ownBlock = some k)) S (fun k _ e => .inl (by omega)) (fun _ _ h => h)
            have k6 := k5.kept (X' := (fun k => k < B ∨ (Value.slice va n vc).ownBlock = some k)) ap (fun k _ e => .inl (by omega)) (fun _ _ h => h)
            obtain ⟨a', c', hv, hba⟩ := own_ba o6 (by have := HAC.out; have := HN.out; unfold maxLen; omega) k6
            simp only [Value.slice.injEq] at hv
            obtain ⟨rfl, _, rfl⟩ := hv
            refine bodyPost_ret (res17 _ rfl dd) rfl ⟨⟨va, vc, ?_, by rw [HDL.out]; exact hba⟩, ?_⟩
            · rw [HEZ.out, HDI.out.2.1, HDI.out.2.2, HDL.out, List.length_map, HAC.out, ← HPE.out, G0.out, G1.out]; rfl
            · exact ((D5.out.a.trans S (fun i hi e => by omega)).trans ap (fun i hi e => by omega)).belowZ
    · have HF := mkHid (decE_90 (s := s) (by omega) (by omega))
      go_enter Tryz.func23, Tryz.ntmps23
      go_wp2
      rw [HW.out, HQ.out]
      refine bodyPost_ret (res17 _ rfl N0.out) rfl (dec_none (by rw [HF.out]; decide) (by rw [HF.out]; rfl) A0.out.belowZ)
end Go.Proofs.YtdhbakknplnnkaaGreat.Cc
