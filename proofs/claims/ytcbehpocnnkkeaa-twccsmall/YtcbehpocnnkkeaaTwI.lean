/-
  What Decode hands back: the walk.
-/
import Derived.Test.YtcbehpocnnkkeaaTwH
namespace Go.Proofs.Ytcbehpocnnkkeaa
open Go.RowKit

/-- A list of one's own beside a block that lies below it. -/
theorem own_set {w : World} {base : Nat} {v : Value} {n : Nat} {xs : List Value} (h : w.ownsRow base 3 1 v n xs) (tb i : Nat) (hb : tb < base) (u : Value) : (w.setCell ⟨tb, i, none⟩ u).ownsRow base 3 1 v n xs :=
  ownsRow_apart h (ap_set w tb i u) (by intro k hk e; omega)
set_option maxRecDepth 100000 in
set_option maxHeartbeats 2000000 in
theorem dec_any (s : ByteArray) (hs : s.size ≤ 1000000) (w : World) : Calls Try.prog 16 #[.string s] w (DecPost s w) := by
  have N0 := mkHid (show Td (w.alloc (.cells #[.int .u32 0, .int .u32 0, .int .i64 0, .int .i64 0, .int .i64 0, .slice none 0 0, .slice none 0 0] 25)) w.heap.size (.int .u32 0) (.int .u32 0) (.int .i64 0) (.int .i64 0) (.int .i64 0) (.slice none 0 0) (.slice none 0 0) from heap_alloc_new _ _)
  have A0 := mkHid ((Apart.refl (fun _ => False) w).alloc (.cells #[.int .u32 0, .int .u32 0, .int .i64 0, .int .i64 0, .int .i64 0, .slice none 0 0, .slice none 0 0] 25))
  have Z0 := mkHid (show (w.alloc (.cells #[.int .u32 0, .int .u32 0, .int .i64 0, .int .i64 0, .int .i64 0, .slice none 0 0, .slice none 0 0] 25)).heap.size = w.heap.size + 1 by simp)
  obtain ⟨q, HQ⟩ : ∃ q, Hid (w.heap.size = q) := ⟨_, rfl⟩
  obtain ⟨W, HW⟩ : ∃ W, Hid (w.alloc (.cells #[.int .u32 0, .int .u32 0, .int .i64 0, .int .i64 0, .int .i64 0, .slice none 0 0, .slice none 0 0] 25) = W) := ⟨_, rfl⟩
  rw [HQ.out, HW.out] at N0 Z0
  rw [HW.out] at A0
  have HS := mkHid hs
  have hs' : (s.size : Int) ≤ 9223372036854775807 := by omega
  have LE := mkHid (lenerr_any s.size hs')
  obtain ⟨E, HE⟩ : ∃ E, Hid (lenE s.size = E) := ⟨_, rfl⟩
  rw [HE.out] at LE
  have BW0 := mkHid (show Bw w W q from ⟨N0.out, A0.out, by rw [HQ.out]; exact Nat.le_refl _⟩)
  clear hs
  by_cases hE : E = 0
  · subst hE
    have HEL := mkHid (lenE_zero HE.out)
    go_enter Try.func16, Try.ntmps16
    go_wp2_with fail
    rw [HW.out, HQ.out]
    refine (LE.out _).mono ?_
    rintro e w1 ⟨rfl, rfl⟩
    go_wp2_with fail
    refine (read_any s _).mono ?_
    rw [Z0.out]
    rintro e w2 ⟨rfl, r2, a2, z2⟩
    have R2 := mkHid r2
    have N2 := mkHid (N0.out.kept a2 (fun h => h))
    have A2 := mkHid (A0.out.zz a2)
    clear r2 a2 z2 N0 A0 BW0
    obtain ⟨b, HBB⟩ : ∃ b, Hid (q + 1 = b) := ⟨_, rfl⟩
    rw [HBB.out] at R2 ⊢
    have GH := mkHid (gethead_any b s HS.out HEL.out.2.2 w2 R2.out)
    obtain ⟨sd, HSD⟩ : ∃ x : Int, Hid ((gv s 0 32 : Int) = x) := ⟨_, rfl⟩
    obtain ⟨md, HMD⟩ : ∃ x : Int, Hid ((gv s 32 32 : Int) = x) := ⟨_, rfl⟩
    obtain ⟨fi, HFI⟩ : ∃ x : Int, Hid ((gv s 64 16 : Int) = x) := ⟨_, rfl⟩
    obtain ⟨ba, HBA⟩ : ∃ x : Int, Hid (sg (gv s 96 24) 24 = x) := ⟨_, rfl⟩
    obtain ⟨co, HCO⟩ : ∃ x : Int, Hid ((gv s 120 8 : Int) = x) := ⟨_, rfl⟩
    rw [HSD.out, HMD.out, HFI.out, HBA.out, HCO.out] at GH
    obtain ⟨n, HNN⟩ : ∃ n, Hid (nS s = n) := ⟨_, rfl⟩
    rw [HNN.out] at GH
    unfold tv at GH
    go_wp2_with fail
    refine (GH.out).mono ?_
    rintro e w3 ⟨rfl, r3, a3⟩
    have hbl3 := r3.heap
    have AL := mkHid ((Apart.refl (fun _ => False) w3).alloc (.cells #[.int .u32 sd, .int .u32 md, .int .i64 fi, .int .i64 ba, .int .i64 co, .slice none 0 0, .slice none 0 0] 25))
    have S3 := mkHid (show Sw w (w3.alloc (.cells #[.int .u32 sd, .int .u32 md, .int .i64 fi, .int .i64 ba, .int .i64 co, .slice none 0 0, .slice none 0 0] 25)) q b w3.heap.size s 128 (.int .u32 sd) (.int .u32 md) (.int .i64 fi) (.int .i64 ba) (.int .i64 co) (.slice none 0 0) (.slice none 0 0) from
      ⟨r3.kept AL.out (fun h => h), (N2.out.kept a3 (by have := HBB.out; omega)).kept AL.out (fun h => h), heap_alloc_new _ _, (A2.out.trans a3 (fun i hi e => by have := HBB.out; rw [HQ.out] at hi; omega)).zz AL.out, by rw [HQ.out]; exact Nat.le_refl _, by have := HBB.out; omega, hbl3⟩)
    have Z3 := mkHid (show (w3.alloc (.cells #[.int .u32 sd, .int .u32 md, .int .i64 fi, .int .i64 ba, .int .i64 co, .slice none 0 0, .slice none 0 0] 25)).heap.size = w3.heap.size + 1 by simp)
    obtain ⟨tb, HTB⟩ : ∃ tb, Hid (w3.heap.size = tb) := ⟨_, rfl⟩
    obtain ⟨W3, HW3⟩ : ∃ W3, Hid (w3.alloc (.cells #[.int .u32 sd, .int .u32 md, .int .i64 fi, .int .i64 ba, .int .i64 co, .slice none 0 0, .slice none 0 0] 25) = W3) := ⟨_, rfl⟩
    rw [HTB.out, HW3.out] at S3 Z3
    clear r3 a3 hbl3 AL GH R2 N2 A2
    have ME := mkHid (manyerr_any n)
    obtain ⟨M, HM⟩ : ∃ M, Hid (manyE n = M) := ⟨_, rfl⟩
    rw [HM.out] at ME
    go_wp2_with fail
    rw [HW3.out, HTB.out]
    refine (ME.out _).mono ?_
    rintro e w4 ⟨rfl, rfl⟩
    by_cases hM : M = 0
    · subst hM
      have HME := mkHid (manyE_zero HM.out)
      have HM0 := mkHid (show manyE (nS s) = 0 by rw [HNN.out]; exact HM.out)
      have GS := mkHid (getstatus_any b s HS.out n HME.out.2 128 _ S3.out.rd)
      have HSR := mkHid (show stD s n 128 n = stR s by unfold stR; rw [HNN.out])
      rw [HSR.out] at GS
      unfold StPost at GS
      go_wp2_with fail
      refine (GS.out).mono ?_
      rintro e w5 ⟨(⟨he, a, c, rfl, r5, o5⟩ | ⟨he, rfl⟩), a5⟩
      · have HE5 := mkHid he
        have D5 := mkHid (S3.out.get a5 r5)
        have HL5 := mkHid (show (stR s).l.length = n ∧ ∀ x ∈ (stR s).l, 0 ≤ x ∧ x ≤ 2 by rw [← HSR.out] at he ⊢; exact stD_good s n 128 n (Nat.le_refl _) he)
        obtain ⟨c0, c1, c2, c3, c4, c5, c6⟩ := D5.out.t.c
        obtain ⟨f0, f1, f2, f3, f4, f5, f6⟩ := D5.out.t.f
        have D6 := mkHid (D5.out.put (ap_set w5 tb 5 (.slice a (stR s).l.length c)) (D5.out.t.set5 (.slice a (stR s).l.length c)))
        have O6 := mkHid (own_set o5 tb 5 (by rw [Z3.out]; omega) (.slice a (stR s).l.length c))
        rw [HL5.out.1, Z3.out] at O6
        rw [HL5.out.1] at D6 ⊢
        have HLT : tb + 1 ≤ (w5.setCell ⟨tb, 5, none⟩ (.slice a n c)).heap.size := by have := a5.size; simp; have := Z3.out; omega
        obtain ⟨aa, cc, hv, hia⟩ := own_ia O6.out
        rw [HL5.out.1] at hv
        simp only [Value.slice.injEq] at hv
        obtain ⟨rfl, _, rfl⟩ := hv
        have HIA := mkHid hia
        have GD := mkHid (getdeltas_any b s HS.out a c (stR s).l HL5.out.2 (by rw [HL5.out.1]; exact HME.out.2) (stR s).p _ D6.out.rd HIA.out (fun k hk => by
          right
          rw [HL5.out.1] at hk
          have := (O6.out.lt k hk).1
          have := D6.out.z
          omega))
        have HDR := mkHid (show dlD s (stR s).p (stR s).l = dlR s from rfl)
        rw [HDR.out, HL5.out.1] at GD
        clear he r5 o5 a5 GS S3 hia
        unfold StPost at GD
        go_wp2_with fail
        refine (GD.out).mono ?_
        rintro e w7 ⟨(⟨he, a', c', rfl, r7, o7⟩ | ⟨he, rfl⟩), a7⟩
        · have HE7 := mkHid he
          have D7 := mkHid (D6.out.get a7 r7)
          have hz7 := a7.size
          have O7 := mkHid (ownsRow_apart O6.out a7 (by intro k hk e; have := D6.out.z; omega))
          clear c0 c1 c2 c3 c4 c5 c6 f0 f1 f2 f3 f4 f5 f6
          obtain ⟨c0, c1, c2, c3, c4, c5, c6⟩ := D7.out.t.c
          obtain ⟨f0, f1, f2, f3, f4, f5, f6⟩ := D7.out.t.f
          obtain ⟨dl, HDL⟩ : ∃ dl, Hid ((dlR s).l = dl) := ⟨_, rfl⟩
          rw [HDL.out] at o7
          obtain ⟨m, HMM⟩ : ∃ m, Hid (dl.length = m) := ⟨_, rfl⟩
          have D8 := mkHid (D7.out.put (ap_set w7 tb 6 (.slice a' m c')) (D7.out.t.set6 (.slice a' m c')))
          have O8 := mkHid (own_set O7.out tb 6 (by omega) (.slice a' m c'))
          have P8 := mkHid (own_set o7 tb 6 (by omega) (.slice a' m c'))
          rw [HMM.out] at P8
          rw [HDL.out, HMM.out]
          have PE := mkHid (paderr_any b s HS.out (dlR s).p _ D8.out.rd)
          obtain ⟨F, HF⟩ : ∃ F, Hid (padE s (dlR s).p = F) := ⟨_, rfl⟩
          rw [HF.out] at PE
          have HDE := mkHid (show decE s = F by rw [decE_pad HE.out HM0.out HE5.out HE7.out, HF.out])
          clear he r7 o7 a7 GD D6 hz7 O6 HIA O7
          go_wp2_with fail
          refine (PE.out).mono ?_
          rintro e w9 ⟨rfl, a9⟩
          have z9 := a9.size
          by_cases hF : F = 0
          · subst hF
            have DR := mkHid (show decR s = ⟨sd, md, fi, ba, co, (stR s).l, dl⟩ by
              unfold decR; rw [if_pos HDE.out]; unfold decG
              rw [HSD.out, HMD.out, HFI.out, HBA.out, HCO.out, HDL.out])
            have hz := D8.out.z
            have N9 := mkHid (D8.out.r.kept a9 (by omega))
            have T9 := mkHid (D8.out.t.kept a9 (by omega))
            have A9 := mkHid (D8.out.a.trans a9 (fun i hi e => by omega))
            have O9 := mkHid (ownsRow_apart O8.out a9 (by intro k hk e; omega))
            have P9 := mkHid (ownsRow_apart P8.out a9 (by intro k hk e; have := D8.out.z; omega))
            have hzq : q < tb := by omega
            clear a9 PE c0 c1 c2 c3 c4 c5 c6 f0 f1 f2 f3 f4 f5 f6
            obtain ⟨c0, c1, c2, c3, c4, c5, c6⟩ := T9.out.c
            obtain ⟨f0, f1, f2, f3, f4, f5, f6⟩ := N9.out.f
            obtain ⟨b0, b1, b2, b3, b4, b5, b6⟩ := N9.out.c
            clear hz
            go_wp2
            have dd := put7_is N9.out (.int .u32 sd) (.int .u32 md) (.int .i64 fi) (.int .i64 ba) (.int .i64 co) (.slice a n c) (.slice a' m c')
            have ap := put7_ap w9 q (.int .u32 sd) (.int .u32 md) (.int .i64 fi) (.int .i64 ba) (.int .i64 co) (.slice a n c) (.slice a' m c')
            have o10 := ownsRow_apart O9.out ap (by intro k hk e; omega)
            have p10 := ownsRow_apart P9.out ap (by intro k hk e; have := D8.out.z; omega)
            obtain ⟨_, _, hv1, ia1⟩ := own_ia o10
            obtain ⟨_, _, hv2, ia2⟩ := own_ia p10
            simp only [Value.slice.injEq] at hv1 hv2
            obtain ⟨rfl, _, rfl⟩ := hv1
            obtain ⟨rfl, _, rfl⟩ := hv2
            refine bodyPost_ret (res16 _ rfl dd) rfl ⟨⟨a, c, a', c', ?_, by rw [DR.out]; exact ia1, by rw [DR.out]; exact ia2⟩, ?_⟩
            · rw [DR.out, HDE.out]
              simp only
              rw [HL5.out.1, HMM.out]
              rfl
            · exact (A9.out.trans ap (fun i hi e => by rw [HQ.out] at hi; omega)).belowZ
          · have BW := mkHid (D8.out.badd a9)
            clear a9 z9
            clear c0 c1 c2 c3 c4 c5 c6 f0 f1 f2 f3 f4 f5 f6
            obtain ⟨f0, f1, f2, f3, f4, f5, f6⟩ := BW.out.r.f
            obtain ⟨b0, b1, b2, b3, b4, b5, b6⟩ := BW.out.r.c
            go_wp2
            exact BW.out.no HDE.out hF _ rfl rfl _ rfl
        · have HDE := mkHid (show decE s = (dlR s).e by rw [decE_dl HE.out HM0.out HE5.out he])
          have D7 := mkHid (D6.out.bad a7 (.slice none 0 0) 6)
          have T7 := mkHid (D6.out.t.kept a7 (by have := D6.out.z; omega))
          obtain ⟨F, HF⟩ : ∃ F, Hid ((dlR s).e = F) := ⟨_, rfl⟩
          rw [HF.out] at HDE he ⊢
          clear a7 GD
          clear c0 c1 c2 c3 c4 c5 c6 f0 f1 f2 f3 f4 f5 f6
          obtain ⟨c0, c1, c2, c3, c4, c5, c6⟩ := T7.out.c
          obtain ⟨f0, f1, f2, f3, f4, f5, f6⟩ := T7.out.f
          obtain ⟨g0, g1, g2, g3, g4, g5, g6⟩ := D7.out.r.f
          obtain ⟨b0, b1, b2, b3, b4, b5, b6⟩ := D7.out.r.c
          go_wp2
          exact D7.out.no HDE.out he _ rfl rfl _ rfl
      · have HDE := mkHid (show decE s = (stR s).e by rw [decE_st HE.out HM0.out he])
        have D5 := mkHid (S3.out.bad a5 (.slice none 0 0) 5)
        have T5 := mkHid (S3.out.t.kept a5 (by have := S3.out.z; omega))
        obtain ⟨F, HF⟩ : ∃ F, Hid ((stR s).e = F) := ⟨_, rfl⟩
        rw [HF.out] at HDE he ⊢
        clear a5 GS
        obtain ⟨c0, c1, c2, c3, c4, c5, c6⟩ := T5.out.c
        obtain ⟨f0, f1, f2, f3, f4, f5, f6⟩ := T5.out.f
        obtain ⟨g0, g1, g2, g3, g4, g5, g6⟩ := D5.out.r.f
        obtain ⟨b0, b1, b2, b3, b4, b5, b6⟩ := D5.out.r.c
        go_wp2
        exact D5.out.no HDE.out he _ rfl rfl _ rfl
    · have HDE := mkHid (show decE s = M by rw [decE_many HE.out (by rw [HNN.out, HM.out]; exact hM), HNN.out, HM.out])
      have BW := mkHid (S3.out.badd (Apart.refl _ _))
      obtain ⟨f0, f1, f2, f3, f4, f5, f6⟩ := BW.out.r.f
      obtain ⟨b0, b1, b2, b3, b4, b5, b6⟩ := BW.out.r.c
      go_wp2
      exact BW.out.no HDE.out hM _ rfl rfl _ rfl
  · have HDE := mkHid (show decE s = E by rw [decE_len (by rw [HE.out]; exact hE), HE.out])
    obtain ⟨f0, f1, f2, f3, f4, f5, f6⟩ := BW0.out.r.f
    obtain ⟨b0, b1, b2, b3, b4, b5, b6⟩ := BW0.out.r.c
    go_enter Try.func16, Try.ntmps16
    go_wp2_with fail
    rw [HW.out, HQ.out]
    refine (LE.out _).mono ?_
    rintro e w1 ⟨rfl, rfl⟩
    go_wp2
    exact BW0.out.no HDE.out hE _ rfl rfl _ rfl
end Go.Proofs.Ytcbehpocnnkkeaa
