/-
  What the function that reads all sources hands back.
-/
import Derived.Test.YtohembamfjbclaaCcB
namespace Go.Proofs.Ytohembamfjbclaa
open Go.RowKit

def lenV : Value → Nat
  | .slice _ n _ => n
  | _ => 0
/-- What getBlocks leaves behind. -/
def GsPost (b : Nat) (s : ByteArray) (w : World) (e : Ending) (w' : World) : Prop :=
  ((dE s 16 32 = 0 ∧ ∃ (a : Option Addr) (c : Nat) (acc : List Kx), acc.map (·.k) = dL s 16 32 ∧ e = .returned (.tuple #[.slice a acc.length c, .int .i64 0]) ∧ Rd 82 w' b s (some (8 * s.size - 32)) ∧ w'.ownsRow w.heap.size 44 3 (.slice a acc.length c) acc.length (kC acc) ∧ KX (fun k => k < w.heap.size ∨ (Value.slice a acc.length c).ownBlock = some k) w' acc) ∨
   (¬ dE s 16 32 = 0 ∧ e = .returned (.tuple #[.slice none 0 0, .int .i64 (dE s 16 32)]))) ∧ Apart (· = b) w w'
theorem frame26 (a : Act) (hs : a.tmps.size = 26) (hd : a.defers = []) : ∃ u : Nat → Value, (∀ i, a.tmps.getD i undef = u i) ∧ a = { tmps := #[u 0, u 1, u 2, u 3, u 4, u 5, u 6, u 7, u 8, u 9, u 10, u 11, u 12, u 13, u 14, u 15, u 16, u 17, u 18, u 19, u 20, u 21, u 22, u 23, u 24, u 25], defers := [] } := frame_of a 26 hs hd
theorem bkN_mod {s : ByteArray} {p : Nat} (h : p % 32 = 0) : bkN s p % 32 = 0 := by unfold bkN mb; omega
set_option maxRecDepth 100000 in
set_option maxHeartbeats 1000000 in
theorem getblocks_any (b : Nat) (s : ByteArray) (hs : s.size ≤ 65536) (h4 : s.size % 4 = 0) (h8 : 8 ≤ s.size) (w : World) (h : Rd 82 w b s (some 32)) :
    Calls Try.prog 32 #[.pointer (some ⟨b, 0, none⟩)] w (GsPost b s w) := by
  have hbl := h.heap
  obtain ⟨B, HB⟩ : ∃ B, Hid (w.heap.size = B) := ⟨_, rfl⟩
  rw [HB.out] at hbl
  obtain ⟨i0, hi, hz0, hz1, hz2⟩ := info_parts info44
  have HS := mkHid (show s.size ≤ 1000000 by omega)
  have HS2 := mkHid hs
  have H4 := mkHid h4
  have H8 := mkHid h8
  have H := mkHid h
  clear hs h4 h8 h
  go_enter Try.func32, Try.ntmps32
  go_wp2
  refine wp_scope_label 0 (fun a' w' => ∃ (p : Nat) (acc : List Kx) (v : Value), (a'.tmps.size = 26 ∧ a'.defers = [] ∧ a'.tmps.getD 0 undef = .pointer (some ⟨b, 0, none⟩) ∧ a'.tmps.getD 2 undef = .slice none 0 0 ∧ a'.tmps.getD 3 undef = .int .i64 0 ∧ a'.tmps.getD 4 undef = v) ∧ acc.length ≤ 16 ∧ p % 32 = 0 ∧ p + 32 ≤ 8 * s.size ∧ dE s 16 32 = dE s (16 - acc.length) p ∧ dL s 16 32 = acc.map (·.k) ++ dL s (16 - acc.length) p ∧ Rd 82 w' b s (some p) ∧ w'.ownsRow B 44 3 v acc.length (kC acc) ∧ KX (fun k => k < B ∨ v.ownBlock = some k) w' acc ∧ Apart (· = b) w w') (fun a' _ => 17 - lenV (a'.tmps.getD 4 undef)) rfl ?_ ?_
  · intro Q' hh
    have HH := mkHid hh
    clear hh
    go_wp2
    go_step3
    refine ‹∀ a w, Code.wp _ _ _ a w → _› _ _ (HH.out _ _ ?_)
    exact ⟨32, [], .slice none 0 0, ⟨rfl, rfl, rfl, rfl, rfl, rfl⟩, by simp, rfl, by have := H8.out; omega, rfl, rfl, H.out, World.ownsRow_nil _ _ _ _, KX.nil _ _, Apart.refl _ _⟩
  · rintro a' w' ⟨p, acc, v, ⟨z, d, e0, e2, e3, e4⟩, hal, hpm, hpl, hE, hL, hr, how, hkx, hap⟩
    obtain ⟨u, hu, ha⟩ := frame26 a' z d
    rw [hu] at e0 e2 e3 e4
    rw [e0, e2, e3, e4] at ha
    clear z d hu e0 e2 e3 e4
    subst ha
    have HPM := mkHid hpm
    have HPL := mkHid hpl
    have HE := mkHid hE
    have HL := mkHid hL
    have HR := mkHid hr
    have HOW := mkHid how
    have HKX := mkHid hkx
    have HAP := mkHid hap
    have HAL := mkHid hal
    obtain ⟨va, vc, HV⟩ := ownsRow_slice how
    subst HV
    have hBw : B ≤ w'.heap.size := by rw [← HB.out]; exact hap.size
    clear hpm hpl hE hL hr how hkx hap H
    obtain ⟨n, HN⟩ : ∃ n, Hid (acc.length = n) := ⟨_, rfl⟩
    rw [HN.out] at hal HE HL
    have HVN := mkHid (show (.slice va acc.length vc : Value) = .slice va n vc by rw [HN.out])
    rw [HVN.out] at HOW HKX ⊢
    by_cases h1 : p + 32 < 8 * s.size
    · have HO := mkHid (holds_at b s HS.out p 1 1 rfl (by omega) true (by have := HPM.out; have := H4.out; simp; omega) _ HR.out)
      have H1 := mkHid h1
      clear h1
      go_wp2_with fail
      refine (HO.out).mono ?_
      rintro e w1 ⟨rfl, k1, rfl⟩
      have R1 := mkHid (drew_rd k1 HR.out)
      have A1 := mkHid (HAP.out.drewN k1)
      have O1 := mkHid (show (w'.drewN k1).ownsRow B 44 3 (.slice va n vc) acc.length (kC acc) from HOW.out)
      have K1 := mkHid (HKX.out.kept (X' := (fun k => k < B ∨ (Value.slice va n vc).ownBlock = some k)) ((Apart.refl (fun _ => False) w').drewN k1) (fun _ _ h => h.elim) (fun _ _ h => h))
      have hBw1 : B ≤ (w'.drewN k1).heap.size := hBw
      clear HO HR HAP HOW HKX hBw
      obtain ⟨w1, HW1⟩ : ∃ w1, Hid (w'.drewN k1 = w1) := ⟨_, rfl⟩
      rw [HW1.out] at R1 A1 O1 K1 hBw1 ⊢
      by_cases h16 : n = 16
      · subst h16
        have HF := mkHid (show dE s 16 32 = 3 by rw [HE.out]; exact dE_many H1.out)
        go_wp2
        simp only [Exit.jump]
        go_ret2
        exact ⟨.inr ⟨by rw [HF.out]; decide, by rw [HF.out]; rfl⟩, A1.out⟩
      · have h16' : ¬ (n : Int) = 16 := by omega
        have HN16 := mkHid (show 16 - n = 15 - n + 1 by omega)
        have GB := mkHid (getblock_any b s HS.out p _ R1.out)
        unfold GbPost at GB
        go_wp2_with fail
        refine (GB.out).mono ?_
        rintro e w2 ⟨(⟨he, g, c, rfl, r2, hg2, row2⟩ | ⟨he, k, ma, mc, rfl⟩), a2⟩
        · have HEZ := mkHid he
          have R2 := mkHid r2
          have A2 := mkHid (A1.out.trans a2 (fun _ _ h => h))
          have O2 := mkHid (ownsRow_apart O1.out a2 (by intro k hk e; omega))
          have K2 := mkHid (K1.out.kept (X' := (fun k => k < B ∨ (Value.slice va n vc).ownBlock = some k)) a2 (fun k _ e => .inl (by omega)) (fun _ _ h => h))
          have hgB : B ≤ g := by omega
          have hgo : ∀ k, (Value.slice va n vc).ownBlock = some k → k < g := fun k e => by have := (O1.out.lt k e).2; omega
          have HGO := mkHid hgo
          have MX2 := mkHid (row2.mx (X := (fun k => k < B ∨ (Value.slice va n vc).ownBlock = some k)) (by have := (bkE_zero he).2.1; unfold maxLen; omega) (by simp) (by
            rintro (e | e)
            · omega
            · have := hgo g e; omega))
          have HGL := mkHid (show 0 ≤ (bkAt s p).s ∧ (bkAt s p).s < 4294967296 from ⟨by simp [bkAt], by have := gv_lt s p 32; simp only [bkAt]; omega⟩)
          have hBw2 : B ≤ w2.heap.size := by have := a2.size; omega
          have HBM := mkHid (show (bkAt s p).m = msAt s (p + 64) (cnt s p) from rfl)
          rw [← HBM.out] at MX2
          clear he r2 a2 row2 hg2 hgo GB R1 A1 O1 K1
          unfold kv
          obtain ⟨x, HX⟩ : ∃ x, Hid (bkAt s p = x) := ⟨_, rfl⟩
          rw [HX.out] at HGL MX2 ⊢
          have HPQ := mkHid (show kC acc ++ [.int .u32 x.s, .int .i64 x.f, .slice (some ⟨g, 0, none⟩) x.m.length c] = kC (acc ++ [(⟨x, some ⟨g, 0, none⟩, c⟩ : Kx)]) by rw [kC_app]; rfl)
          have HML := mkHid MX2.out.1
          obtain ⟨ss, f, ml⟩ := x
          simp only at HPQ MX2 HGL HML ⊢
          obtain ⟨M, HM⟩ : ∃ M, Hid (ml.length = M) := ⟨_, rfl⟩
          rw [HM.out] at HPQ HML ⊢
          have hcn := cell_three_new (w2.alloc (.cells #[.int .u32 ss, .int .i64 f, .slice (some ⟨g, 0, none⟩) M c] 44)) (.int .u32 ss) (.int .i64 f) (.slice (some ⟨g, 0, none⟩) M c) 44
          simp only [World.size_alloc] at hcn
          have HCN := mkHid hcn
          have HAL2 := mkHid (show n ≤ 16 from hal)
          clear hcn hal
          go_wp2_with (at_builtin; refine wpList_append_own2 _ rfl (.tmp 22) (.tmp 24) 23 rfl B 44 i0 (.agg #[.int .u32 0, .int .i64 0, .slice none 0 0]) 3 40 Try.underlying23 hi hz0 hz1 hz2 rfl (by decide) (.slice va n vc) acc.length (kC acc) rfl ((O2.out.alloc _).alloc _) ⟨w2.heap.size + 1, 0, none⟩ 1 1 [.int .u32 ss, .int .i64 f, .slice (some ⟨g, 0, none⟩) M c] rfl rfl HCN.out (by intro u hu; simp at hu; rcases hu with rfl | rfl | rfl <;> rfl) (by unfold maxLen; have := HAL.out; omega) (by have := HAL.out; omega) (by simp; omega) ?_; intro v3 w3 hown3 hgrow3 hnew3; obtain ⟨va3, vc3, hv3⟩ := ownsRow_slice hown3; subst hv3; have OW3 := mkHid hown3; have GR3 := mkHid hgrow3; have NW3 := mkHid hnew3; clear hown3 hgrow3 hnew3)
          have A3 := Apart.grown (X := fun k => (Value.slice va n vc).ownBlock = some k) (((Apart.refl _ w2).alloc (.cells #[.int .u32 ss, .int .i64 f, .slice (some ⟨g, 0, none⟩) M c] 44)).alloc (.cells #[.int .u32 ss, .int .i64 f, .slice (some ⟨g, 0, none⟩) M c] 44)) GR3.out (fun k _ e => e)
          have hown : ∀ k, k < w2.heap.size → (Value.slice va3 (acc.length + 1) vc3).ownBlock = some k → (Value.slice va n vc).ownBlock = some k := by
            intro k hk e
            rcases NW3.out k e with e | e
            · exact e
            · simp at e; omega
          have K3 := K2.out.kept (X' := (fun k => k < B ∨ (Value.slice va3 (acc.length + 1) vc3).ownBlock = some k)) A3 (fun k _ e => .inr e) (fun k hk e => e.imp id (hown k hk))
          have M3 := MX2.out.kept (X' := (fun k => k < B ∨ (Value.slice va3 (acc.length + 1) vc3).ownBlock = some k)) A3 (fun k _ e => .inr e) (fun k hk e => e.imp id (hown k hk))
          have K4 := mkHid (K3.snoc ⟨⟨ss, f, ml⟩, some ⟨g, 0, none⟩, c⟩ M3 HGL.out.1 HGL.out.2)
          have R3 := mkHid (R2.out.kept A3 (fun e => by have := (O2.out.lt b e).1; omega))
          have A4 := mkHid (A2.out.trans A3 (fun k hk e => by have := (O2.out.lt k e).1; rw [HB.out] at hk; omega))
          have O3 := OW3.out
          rw [HPQ.out] at O3
          have HO3 := mkHid O3
          clear O3 K3 M3 A3 hown
          go_step3
          have hm := dE_more (k := 15 - n) H1.out HEZ.out
          rw [← HN16.out] at hm
          refine ⟨rfl, ⟨bkN s p, acc ++ [⟨⟨ss, f, ml⟩, some ⟨g, 0, none⟩, c⟩], .slice va3 (acc.length + 1) vc3, ⟨rfl, rfl, rfl, rfl, rfl, rfl⟩, ?_, bkN_mod HPM.out, (bkE_zero HEZ.out).2.2.1, ?_, ?_, R3.out, ?_, K4.out, A4.out⟩, ?_⟩
          · have := HAL2.out; rw [List.length_append, HN.out]; simp; omega
          · rw [HE.out, hm.1, List.length_append, HN.out]; simp
          · rw [HL.out, hm.2, HX.out, List.length_append, HN.out]; simp
          · rw [List.length_append]; exact HO3.out
          · have := HAL2.out
            have := HN.out
            show 17 - (acc.length + 1) < 17 - n
            omega
        · have HF := mkHid (show dE s 16 32 = bkE s p by rw [HE.out, HN16.out]; exact dE_wrong H1.out he)
          have A2 := mkHid (A1.out.trans a2 (fun _ _ h => h))
          have HEN := mkHid he
          clear a2
          obtain ⟨E, HEE⟩ : ∃ E, Hid (bkE s p = E) := ⟨_, rfl⟩
          rw [HEE.out] at he HF ⊢
          clear HEN
          have HEN := mkHid he
          unfold kv
          go_wp2
          simp only [Exit.jump]
          go_ret2
          exact ⟨.inr ⟨by rw [HF.out]; exact HEN.out, by rw [HF.out]; rfl⟩, A2.out.alloc _⟩
    · have HO := mkHid (holds_at b s HS.out p 1 1 rfl (by omega) false (by have := HPL.out; simp; omega) _ HR.out)
      have HF := mkHid (show dE s 16 32 = 0 by rw [HE.out]; exact (dE_end h1).1)
      have HFL := mkHid (show acc.map (·.k) = dL s 16 32 by rw [HL.out, (dE_end h1).2, List.append_nil])
      have HPE := mkHid (show p = 8 * s.size - 32 by have := HPL.out; omega)
      clear h1
      go_wp2_with fail
      refine (HO.out).mono ?_
      rintro e w1 ⟨rfl, k1, rfl⟩
      go_wp2
      simp only [Exit.jump]
      go_ret2
      refine ⟨.inl ⟨HF.out, va, vc, acc, HFL.out, by rw [HN.out]; rfl, ?_, ?_, ?_⟩, HAP.out.drewN k1⟩
      · rw [← HPE.out]; exact drew_rd k1 HR.out
      · rw [HB.out, HVN.out]; exact HOW.out
      · rw [HB.out, HVN.out]; exact HKX.out.kept ((Apart.refl (fun _ => False) w').drewN k1) (fun _ _ h => h.elim) (fun _ _ h => h)
end Go.Proofs.Ytohembamfjbclaa
