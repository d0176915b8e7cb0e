/-
  What the function that reads a source hands back.
-/
import Derived.Test.YtohembamfjbclaaCcG
namespace Go.Proofs.Ytohembamfjbclaa
open Go.RowKit

/-- What getBlock leaves behind. -/
def GbPost (b : Nat) (s : ByteArray) (p : Nat) (w : World) (e : Ending) (w' : World) : Prop :=
  ((bkE s p = 0 ∧ ∃ g c, e = .returned (.tuple #[kv (bkAt s p) (some ⟨g, 0, none⟩) c, .int .i64 0]) ∧ Rd 82 w' b s (some (bkN s p)) ∧ w.heap.size ≤ g ∧ MRow w' g (cnt s p) (msAt s (p + 64) (cnt s p))) ∨
   (¬ bkE s p = 0 ∧ ∃ k ma mc, e = .returned (.tuple #[kv k ma mc, .int .i64 (bkE s p)]))) ∧ Apart (· = b) w w'
theorem res48 {W : World} {bx : Nat} {ss f : Int} {ma : Option Addr} {n mc : Nat} (tmps : Array Value) (h2 : tmps.getD 2 undef = .pointer (some ⟨bx, 0, none⟩)) (hd : W.heap[bx]? = some (.cells #[.int .u32 ss, .int .i64 f, .slice ma n mc] 44 (0, 0))) :
    (results Try.f48 tmps).run Try.prog W = .ok (.tuple #[.agg #[.int .u32 ss, .int .i64 f, .slice ma n mc], tmps.getD 3 undef]) W := by
  obtain ⟨⟨c0, c1, c2⟩, _⟩ := cells3' hd
  clear hd
  have h2' : tmps[2]?.getD undef = .pointer (some ⟨bx, 0, none⟩) := by rw [← h2]; simp
  simp [results, Try.results48, h2', c0, c1, c2, go_sem]
theorem bkE_met {s : ByteArray} {p : Nat} (h1 : p + 96 ≤ 8 * s.size) (h2 : cnt s p ≤ 4096) (h3 : bkN s p + 32 ≤ 8 * s.size) : bkE s p = mE s (p + 64) (cnt s p) := by
  unfold bkN at h3
  unfold bkE mE; rw [if_neg (by omega), if_neg (by omega), if_neg (by omega)]
set_option maxRecDepth 100000 in
set_option maxHeartbeats 1000000 in
theorem getblock_any (b : Nat) (s : ByteArray) (hs : s.size ≤ 1000000) (p : Nat) (w : World) (h : Rd 82 w b s (some p)) :
    Calls Try.prog 48 #[.pointer (some ⟨b, 0, none⟩)] w (GbPost b s p w) := by
  have hbl := h.heap
  have H := mkHid (h.kept ((Apart.refl (fun _ => False) _).alloc (.cells #[.int .u32 0, .int .i64 0, .slice none 0 0] 44)) (fun h => h))
  have N0 := mkHid (heap_alloc_new w (.cells #[.int .u32 0, .int .i64 0, .slice none 0 0] 44))
  have A0 := mkHid ((Apart.refl (· = b) w).alloc (.cells #[.int .u32 0, .int .i64 0, .slice none 0 0] 44))
  obtain ⟨q, HQ⟩ : ∃ q, Hid (w.heap.size = q) := ⟨_, rfl⟩
  obtain ⟨W, HW⟩ : ∃ W, Hid (w.alloc (.cells #[.int .u32 0, .int .i64 0, .slice none 0 0] 44) = W) := ⟨_, rfl⟩
  rw [HQ.out] at hbl
  rw [HQ.out, HW.out] at N0
  rw [HW.out] at H A0
  have hne : ¬ b = q := by omega
  have hne' : ¬ q = b := by omega
  have HS := mkHid hs
  have HPL := mkHid h.2
  clear h hs
  by_cases h1 : p + 96 ≤ 8 * s.size
  · have H1 := mkHid h1
    have HO1 := mkHid (holds_at b s HS.out p 8 8 rfl (by omega) true (by simp; omega) _ H.out)
    obtain ⟨g0, G0⟩ : ∃ g0, Hid (gv s p 32 = g0) := ⟨_, rfl⟩
    obtain ⟨g1, G1⟩ : ∃ g1, Hid (gv s (p + 32) 16 = g1) := ⟨_, rfl⟩
    obtain ⟨n, G2⟩ : ∃ n, Hid (gv s (p + 48) 16 = n) := ⟨_, rfl⟩
    have HCN := mkHid (show cnt s p = n from G2.out)
    have l0 : (g0 : Int) < 4294967296 := by have := gv_lt s p 32; rw [G0.out] at this; omega
    have l1 : (g1 : Int) < 65536 := by have := gv_lt s (p + 32) 16; rw [G1.out] at this; omega
    obtain ⟨N, GN⟩ : ∃ N : Int, Hid ((n : Int) = N) := ⟨_, rfl⟩
    have l2 : N < 65536 := by have := gv_lt s (p + 48) 16; rw [G2.out] at this; have := GN.out; omega
    have l3 : 0 ≤ N := by have := GN.out; omega
    clear h1
    go_enter Try.func48, Try.ntmps48
    go_wp2_with fail
    rw [HW.out, HQ.out]
    refine (HO1.out).mono ?_
    rintro e w0 ⟨rfl, k0, rfl⟩
    have H0 := mkHid (drew_rd k0 H.out)
    have N1 := mkHid (show (W.drewN k0).heap[q]? = _ from N0.out)
    have A1 := mkHid (A0.out.drewN k0)
    clear H N0 A0 HO1
    obtain ⟨w0, HW0⟩ : ∃ w0, Hid (W.drewN k0 = w0) := ⟨_, rfl⟩
    rw [HW0.out] at H0 N1 A1 ⊢
    go_wp2_with fail
    have K1 := get_fit b s HS.out p 32 32 rfl (by omega) (by have := H1.out; omega) _ H0.out
    rw [G0.out] at K1
    refine K1.mono ?_
    clear K1
    rintro e w1 ⟨rfl, r1, a1⟩
    have D1 := mkHid (a1.heap N1.out hne')
    have R1 := mkHid (r1.kept (ap_set w1 q 0 (.int .u32 (g0 : Int))) hne)
    have A2 := mkHid ((A1.out.trans a1 (fun _ _ h => h)).trans (ap_set w1 q 0 (.int .u32 (g0 : Int))) (fun i hi e => by rw [HQ.out] at hi; omega))
    have E1 := mkHid (set0 D1.out (.int .u32 (g0 : Int)))
    obtain ⟨⟨c0, c1, c2⟩, f0, f1, f2⟩ := cells3' D1.out
    clear r1 a1 H0 N1 A1
    go_wp2_with fail
    have K1 := get_fit b s HS.out (p + 32) 16 16 rfl (by omega) (by have := H1.out; omega) _ R1.out
    rw [G1.out] at K1
    refine K1.mono ?_
    clear K1
    rintro e w2 ⟨rfl, r2, a2⟩
    have D2 := mkHid (a2.heap E1.out hne')
    have R2 := mkHid (r2.kept (ap_set w2 q 1 (.int .i64 (g1 : Int))) hne)
    have A3 := mkHid ((A2.out.trans a2 (fun _ _ h => h)).trans (ap_set w2 q 1 (.int .i64 (g1 : Int))) (fun i hi e => by rw [HQ.out] at hi; omega))
    have E2 := mkHid (set1 D2.out (.int .i64 (g1 : Int)))
    clear r2 a2 R1 A2 E1 D1 c0 c1 c2 f0 f1 f2
    obtain ⟨⟨c0, c1, c2⟩, f0, f1, f2⟩ := cells3' D2.out
    go_wp2_with fail
    have K1 := get_fit b s HS.out (p + 48) 16 16 rfl (by omega) (by have := H1.out; omega) _ R2.out
    rw [G2.out, GN.out] at K1
    refine K1.mono ?_
    clear K1
    rintro e w3 ⟨rfl, r3, a3⟩
    have D3 := mkHid (a3.heap E2.out hne')
    have R3 := mkHid (show Rd 82 w3 b s (some (p + 64)) from r3)
    have A4 := mkHid (A3.out.trans a3 (fun _ _ h => h))
    clear r3 a3 R2 A3 E2 D2 c0 c1 c2 f0 f1 f2
    obtain ⟨⟨c0, c1, c2⟩, f0, f1, f2⟩ := cells3' D3.out
    by_cases h2 : 4096 < N
    · have HF := mkHid (show bkE s p = 3 from bkE_many H1.out (by rw [HCN.out]; have := GN.out; omega))
      go_wp2
      have dd := put3_is D3.out (.int .u32 (g0 : Int)) (.int .i64 (g1 : Int)) (.slice none 0 0)
      refine bodyPost_ret (res48 _ rfl dd) rfl ⟨.inr ⟨by rw [HF.out]; decide, ⟨g0, g1, []⟩, none, 0, by rw [HF.out]; rfl⟩, ?_⟩
      exact A4.out.trans (put3_ap _ q 0 _ _ _) (fun i hi e => by rw [HQ.out] at hi; omega)
    · have MB := mkHid (mbytes_any n (by have := GN.out; omega))
      obtain ⟨mbn, HMB⟩ : ∃ mbn : Nat, Hid (mb n = mbn) := ⟨_, rfl⟩
      have HME := mkHid (show (mbn : Int) = ((n : Int) + 1) / 2 * 4 by rw [← HMB.out]; unfold mb; omega)
      rw [HMB.out, GN.out] at MB
      have HBN := mkHid (show bkN s p = p + 64 + 8 * mbn by unfold bkN; rw [HCN.out, HMB.out])
      have HN4 := mkHid (show n ≤ 4096 by have := GN.out; omega)
      have h2' : N ≤ 4096 := by omega
      clear h2 l0 l1
      go_wp2_with fail
      refine (MB.out _).mono ?_
      rintro e w4 ⟨rfl, rfl⟩
      by_cases h3 : p + 64 + 8 * mbn + 32 ≤ 8 * s.size
      · have HO2 := mkHid (holds_at b s HS.out (p + 64) mbn mbn rfl (by have := HME.out; have := HN4.out; omega) true (by simp; omega) _ R3.out)
        have H3 := mkHid h3
        clear h3
        go_wp2_with fail
        refine (HO2.out).mono ?_
        rintro e w5 ⟨rfl, k5, rfl⟩
        have R5 := mkHid (drew_rd k5 R3.out)
        have D5 := mkHid (show (w4.drewN k5).heap[q]? = _ from D3.out)
        have A5 := mkHid (A4.out.drewN k5)
        clear HO2 R3 D3 A4 c0 c1 c2 f0 f1 f2
        obtain ⟨w5, HW5⟩ : ∃ w5, Hid (w4.drewN k5 = w5) := ⟨_, rfl⟩
        rw [HW5.out] at R5 D5 A5 ⊢
        have GM := mkHid (getmetrics_any b s HS.out (p + 64) n HN4.out (by rw [HMB.out]; have := H3.out; omega) _ R5.out)
        have HE := mkHid (show bkE s p = mE s (p + 64) n by rw [bkE_met H1.out (by rw [HCN.out]; exact HN4.out) (by rw [HBN.out]; exact H3.out), HCN.out])
        unfold GmPost at GM
        rw [GN.out] at GM
        have hq5 : q < w5.heap.size := lt_of_heap D5.out
        have hq5' : q ≤ w5.heap.size := by omega
        obtain ⟨g, HG⟩ : ∃ g, Hid (w5.heap.size = g) := ⟨_, rfl⟩
        rw [HG.out] at GM hq5 hq5'
        obtain ⟨E, HEE⟩ : ∃ E, Hid (mE s (p + 64) n = E) := ⟨_, rfl⟩
        rw [HEE.out] at GM HE
        have hgq : ¬ g = q := by omega
        go_wp2_with fail
        refine (GM.out).mono ?_
        rintro e w6 ⟨(⟨he, rfl, r6, row6⟩ | ⟨he, rfl⟩), a6⟩
        · have D6 := mkHid (a6.heap D5.out hne')
          have A6 := mkHid (A5.out.trans a6 (fun _ _ h => h))
          have R6 := mkHid r6
          have ROW6 := mkHid row6
          have HEZ := mkHid (show bkE s p = 0 by rw [HE.out]; exact he)
          clear r6 row6 a6 GM he
          obtain ⟨⟨c0, c1, c2⟩, f0, f1, f2⟩ := cells3' D6.out
          go_wp2
          have dd := put3_is (set2 D6.out (.slice (some ⟨g, 0, none⟩) n n)) (.int .u32 (g0 : Int)) (.int .i64 (g1 : Int)) (.slice (some ⟨g, 0, none⟩) n n)
          have ap := (ap_set w6 q 2 (.slice (some ⟨g, 0, none⟩) n n)).trans (put3_ap _ q 0 (.int .u32 (g0 : Int)) (.int .i64 (g1 : Int)) (.slice (some ⟨g, 0, none⟩) n n)) (fun _ _ h => h)
          refine bodyPost_ret (res48 _ rfl dd) rfl ⟨.inl ⟨HEZ.out, g, n, ?_, ?_, by rw [HQ.out]; exact hq5', ?_⟩, ?_⟩
          · unfold kv bkAt
            simp only [msAt_len]
            rw [G0.out, G1.out, HCN.out]; rfl
          · rw [HBN.out, ← HMB.out]; exact R6.out.kept ap hne
          · rw [HCN.out]; exact ROW6.out.kept ap hgq
          · exact A6.out.trans ap (fun i hi e => by rw [HQ.out] at hi; omega)
        · have D6 := mkHid (a6.heap D5.out hne')
          have A6 := mkHid (A5.out.trans a6 (fun _ _ h => h))
          have HEZ := mkHid he
          clear a6 GM he
          obtain ⟨⟨c0, c1, c2⟩, f0, f1, f2⟩ := cells3' D6.out
          go_wp2
          have dd := put3_is (set2 D6.out (.slice none 0 0)) (.int .u32 (g0 : Int)) (.int .i64 (g1 : Int)) (.slice none 0 0)
          have ap := (ap_set w6 q 2 (.slice none 0 0)).trans (put3_ap _ q 0 (.int .u32 (g0 : Int)) (.int .i64 (g1 : Int)) (.slice none 0 0)) (fun _ _ h => h)
          refine bodyPost_ret (res48 _ rfl dd) rfl ⟨.inr ⟨by rw [HE.out]; exact HEZ.out, ⟨g0, g1, []⟩, none, 0, by rw [HE.out]; rfl⟩, ?_⟩
          exact A6.out.trans ap (fun i hi e => by rw [HQ.out] at hi; omega)
      · have HO2 := mkHid (holds_at b s HS.out (p + 64) mbn mbn rfl (by have := HME.out; have := HN4.out; omega) false (by simp; omega) _ R3.out)
        have HF := mkHid (show bkE s p = 60 from bkE_lacks H1.out (by rw [HCN.out]; exact HN4.out) (by rw [HBN.out]; omega))
        clear h3
        go_wp2_with fail
        refine (HO2.out).mono ?_
        rintro e w5 ⟨rfl, k5, rfl⟩
        go_wp2
        have dd := put3_is (show (w4.drewN k5).heap[q]? = _ from D3.out) (.int .u32 (g0 : Int)) (.int .i64 (g1 : Int)) (.slice none 0 0)
        refine bodyPost_ret (res48 _ rfl dd) rfl ⟨.inr ⟨by rw [HF.out]; decide, ⟨g0, g1, []⟩, none, 0, by rw [HF.out]; rfl⟩, ?_⟩
        exact (A4.out.drewN k5).trans (put3_ap _ q 0 _ _ _) (fun i hi e => by rw [HQ.out] at hi; omega)
  · have HO1 := mkHid (holds_at b s HS.out p 8 8 rfl (by omega) false (by simp; omega) _ H.out)
    have HF := mkHid (show bkE s p = 60 from bkE_short (by omega))
    obtain ⟨⟨c0, c1, c2⟩, f0, f1, f2⟩ := cells3' N0.out
    clear h1
    go_enter Try.func48, Try.ntmps48
    go_wp2_with fail
    rw [HW.out, HQ.out]
    refine (HO1.out).mono ?_
    rintro e w5 ⟨rfl, k5, rfl⟩
    go_wp2
    have dd := put3_is (show (W.drewN k5).heap[q]? = _ from N0.out) (.int .u32 0) (.int .i64 0) (.slice none 0 0)
    refine bodyPost_ret (res48 _ rfl dd) rfl ⟨.inr ⟨by rw [HF.out]; decide, ⟨0, 0, []⟩, none, 0, by rw [HF.out]; rfl⟩, ?_⟩
    exact (A0.out.drewN k5).trans (put3_ap _ q 0 _ _ _) (fun i hi e => by rw [HQ.out] at hi; omega)
end Go.Proofs.Ytohembamfjbclaa
