/-
  What the function that reads all parts hands back, or throws.
-/
import Derived.Test.YthapkeokgpnjgaaRcA
import Derived.Test.YthapkeokgpnjgaaRcG
namespace Go.Proofs.Ythapkeokgpnjgaa
open Go.RowKit

/-- The parts that are read may be, and are no longer than what they are read of. -/
theorem sL_mem (n : Nat) : ∀ r : List UInt8, r.length ≤ n → ∀ p ∈ sL r, p.ok = true ∧ p.d.size ≤ r.length := by
  induction n with
  | zero =>
    intro r hr p hp
    have : gE r = 60 := gE_short (by omega)
    rw [sL_wrong (by rw [this]; decide)] at hp
    cases hp
  | succ n ih =>
    intro r hr p hp
    by_cases h : gE r = 0
    · have h1 := (gE_zero h).1
      have h2 := gP_size h
      have h3 := gP_ok h
      by_cases hx : nx r = []
      · rw [sL_last h hx] at hp
        simp at hp
        subst hp
        exact ⟨h3, by omega⟩
      · rw [sL_more h hx] at hp
        rcases List.mem_cons.1 hp with rfl | hp
        · exact ⟨h3, by omega⟩
        · have hl : (nx r).length = r.length - (4 + hN r) := by simp [nx]
          have := ih (nx r) (by omega) p hp
          exact ⟨this.1, by omega⟩
    · rw [sL_wrong h] at hp; cases hp
theorem sL_len (n : Nat) : ∀ r : List UInt8, r.length ≤ n → 4 * (sL r).length ≤ r.length := by
  induction n with
  | zero =>
    intro r hr
    have : gE r = 60 := gE_short (by omega)
    rw [sL_wrong (by rw [this]; decide)]
    simp
  | succ n ih =>
    intro r hr
    by_cases h : gE r = 0
    · have h1 := (gE_zero h).1
      by_cases hx : nx r = []
      · rw [sL_last h hx]; simp; omega
      · rw [sL_more h hx]
        have hl : (nx r).length = r.length - (4 + hN r) := by simp [nx]
        have := ih (nx r) (by omega)
        simp; omega
    · rw [sL_wrong h]; simp
theorem nx_fr (s : ByteArray) (q : Nat) : nx (fr s q) = fr s (q + (4 + hN (fr s q))) := (fr_drop s q _).symm
theorem fr_nil {s : ByteArray} {q : Nat} : fr s q = [] ↔ s.size ≤ q := by
  rw [← List.length_eq_zero_iff, fr_len]; omega
def lenV : Value → Nat
  | .slice _ n _ => n
  | _ => 0
/-- What read leaves behind. -/
def ReadPost (s : ByteArray) (w : World) (e : Ending) (w' : World) : Prop :=
  ((sE (fr s 0) = 0 ∧ ∃ a cap, e = .returned (.slice a (sL (fr s 0)).length cap) ∧ PA w'.heap.size w' a (sL (fr s 0)) ∧ ∀ x, a = some x → w.heap.size ≤ x.block) ∨ (¬ sE (fr s 0) = 0 ∧ e = thrown (sE (fr s 0)))) ∧ Below w.heap.size w w'
theorem frame16 (a : Act) (hs : a.tmps.size = 16) (hd : a.defers = []) : ∃ u : Nat → Value, (∀ i, a.tmps.getD i undef = u i) ∧ a = { tmps := #[u 0, u 1, u 2, u 3, u 4, u 5, u 6, u 7, u 8, u 9, u 10, u 11, u 12, u 13, u 14, u 15], defers := [] } := frame_of a 16 hs hd
set_option maxRecDepth 100000 in
set_option maxHeartbeats 1000000 in
theorem read_all (s : ByteArray) (hs : s.size ≤ 1000000) (w : World) : Calls Try.prog 20 #[.string s] w (ReadPost s w) := by
  obtain ⟨b, HB⟩ : ∃ b, Hid (w.heap.size = b) := ⟨_, rfl⟩
  obtain ⟨i0, hi, hz0, hz1, hz2⟩ := info_parts info40
  have HS := mkHid hs
  clear hs
  go_enter Try.func20, Try.ntmps20
  go_wp2
  refine wp_scope_label 0 (fun a' w' => ∃ (q : Nat) (acc : List Pt) (v : Value), (a'.tmps.size = 16 ∧ a'.defers = [] ∧ a'.tmps.getD 0 undef = .string s ∧ a'.tmps.getD 2 undef = .slice none 0 0 ∧ a'.tmps.getD 3 undef = v ∧ a'.tmps.getD 4 undef = .pointer (some ⟨b, 0, none⟩)) ∧ q ≤ s.size ∧ 4 * acc.length ≤ q ∧ sE (fr s 0) = sE (fr s q) ∧ sL (fr s 0) = acc ++ sL (fr s q) ∧ Rd 63 w' b s (At s (8 * q)) ∧ w'.ownsRow (b + 1) 40 3 v acc.length (pC acc) ∧ Below b w w') (fun a' _ => s.size + 1 - lenV (a'.tmps.getD 3 undef)) rfl ?_ ?_
  · intro Q' hh
    have HH := mkHid hh
    clear hh
    go_wp2_with fail
    refine (read_any s _).mono ?_
    rw [HB.out]
    rintro e w1 ⟨rfl, h1, p1, z1⟩
    have R1 := mkHid h1
    have P1 := mkHid (p1.belowF b (by rw [HB.out]; exact Nat.le_refl _))
    clear h1 p1 z1
    go_wp2
    go_step3
    refine ‹∀ a w, Code.wp _ _ _ a w → _› _ _ (HH.out _ _ ?_)
    refine ⟨0, [], .slice none 0 0, ⟨rfl, rfl, rfl, rfl, rfl, rfl⟩, Nat.zero_le _, Nat.zero_le _, rfl, rfl, ?_, World.ownsRow_nil _ _ _ _, P1.out⟩
    unfold At
    rw [if_pos (Nat.zero_le _)]
    exact R1.out
  · rintro a' w' ⟨q, acc, v, ⟨z, d, e0, e2, e3, e4⟩, hq, hacc, hE, hL, hr, how, hb⟩
    obtain ⟨u, hu, ha⟩ := frame16 a' z d
    rw [hu] at e0 e2 e3 e4
    rw [e0, e2, e3, e4] at ha
    clear z d hu e0 e2 e3 e4
    subst ha
    have HQ := mkHid hq
    have HACC := mkHid hacc
    have HE := mkHid hE
    have HL := mkHid hL
    have HR := mkHid hr
    have HOW := mkHid how
    have HBL := mkHid hb
    have GP := mkHid (getpart_any b s HS.out q hq _ hr)
    obtain ⟨va, vc, HV⟩ := ownsRow_slice how
    subst HV
    have hbw : b < w'.heap.size := hr.heap
    clear hq hacc hE hL hr how hb
    go_wp2_with fail
    refine (GP.out).mono ?_
    rintro e w1 ⟨(⟨hg, rfl, r1⟩ | ⟨hg, rfl⟩), a1⟩
    · have HG := mkHid hg
      have R1 := mkHid r1
      have O1 := mkHid (ownsRow_apart HOW.out a1 (by intro k hk e; omega))
      have B1 := mkHid (HBL.out.trans (a1.belowE b (by omega) (Nat.le_refl _)))
      have hb1 : b < w1.heap.size := r1.heap
      have NX := mkHid (nx_fr s q)
      have H4 := mkHid (gE_zero hg).1
      have HPQ := mkHid (show pC acc ++ [.int .i64 (gP (fr s q)).c, .int .i64 (gP (fr s q)).t, .string (gP (fr s q)).d] = pC (acc ++ [gP (fr s q)]) by rw [pC_app]; rfl)
      clear hg r1 a1
      unfold pv
      obtain ⟨p, HP⟩ : ∃ p, Hid (gP (fr s q) = p) := ⟨_, rfl⟩
      rw [HP.out] at HPQ ⊢
      obtain ⟨c, t, d⟩ := p
      simp only at HPQ ⊢
      have hal : acc.length ≤ 1000000 := by have := HACC.out; have := HQ.out; have := HS.out; omega
      have HAL := mkHid hal
      clear hal
      go_wp2_with (at_builtin; refine wpList_append_own2 _ rfl (.tmp 7) (.tmp 10) 22 rfl (b + 1) 40 i0 (.agg #[.int .i64 0, .int .i64 0, .string ⟨#[]⟩]) 3 32 Try.underlying22 hi hz0 hz1 hz2 rfl (by decide) (.slice va acc.length vc) acc.length (pC acc) rfl (O1.out.alloc _) ⟨w1.heap.size, 0, none⟩ 1 1 [.int .i64 c, .int .i64 t, .string d] rfl rfl (cell_three_new _ _ _ _ _) (by intro u hu; simp at hu; rcases hu with rfl | rfl | rfl <;> rfl) (by unfold maxLen; have := HAL.out; omega) (by have := HAL.out; omega) (by simp; omega) ?_; intro v2 w2 hown2 hgrow2 hnew2; obtain ⟨va2, vc2, hv2⟩ := ownsRow_slice hown2; subst hv2; have OW2 := mkHid hown2; have GR2 := mkHid hgrow2; clear hown2 hgrow2 hnew2)
      have A2 := Apart.grown (X := fun k => (Value.slice va acc.length vc).ownBlock = some k) ((Apart.refl _ w1).alloc (.cells #[.int .i64 c, .int .i64 t, .string d] 40)) GR2.out (fun k _ e => e)
      have R2 := mkHid (R1.out.kept A2 (fun e => by have := O1.out.lt b e; omega))
      have B2 := mkHid (B1.out.trans (A2.below b (by omega) (fun k e => by have := O1.out.lt k e; omega)))
      have O3 := mkHid (show w2.ownsRow (b + 1) 40 3 (.slice va2 (acc.length + 1) vc2) (acc ++ [(⟨c, t, d⟩ : Pt)]).length (pC (acc ++ [(⟨c, t, d⟩ : Pt)])) by rw [← HPQ.out, List.length_append]; exact OW2.out)
      obtain ⟨q', HQ'⟩ : ∃ q', Hid (q + (4 + hN (fr s q)) = q') := ⟨_, rfl⟩
      rw [HQ'.out] at R2 NX
      have hq' : q' ≤ s.size := by have := H4.out; rw [fr_len] at this; have := HQ'.out; omega
      have hqq : q + 4 ≤ q' := by have := HQ'.out; omega
      have LF := mkHid (left_any b s HS.out _ _ R2.out)
      obtain ⟨lg, HLG⟩ : ∃ lg : Int, Hid (gleft s (At s (8 * q')) = lg) := ⟨_, rfl⟩
      have e1 : gleft s (At s (8 * q')) = 8 * ((s.size : Int) - q') := by unfold At; rw [if_pos (by omega)]; simp only [gleft]; omega
      rw [HLG.out] at LF e1
      have HE1 := mkHid e1
      have HQ2 := mkHid hq'
      have HQQ := mkHid hqq
      clear e1 A2 GR2 OW2 hq' hqq
      refine (LF.out).mono ?_
      rintro e w3 ⟨rfl, nd, rfl⟩
      by_cases hlg : 0 < lg
      · have HNN := mkHid (show ¬ nx (fr s q) = [] by rw [NX.out, fr_nil]; have := HE1.out; omega)
        go_wp2
        go_step3
        refine ⟨rfl, ⟨q', acc ++ [⟨c, t, d⟩], .slice va2 (acc.length + 1) vc2, ⟨rfl, rfl, rfl, rfl, rfl, rfl⟩, HQ2.out, ?_, ?_, ?_, drew_rd nd R2.out, ?_, ?_⟩, ?_⟩
        · have := HACC.out; have := HQQ.out; simp; omega
        · rw [HE.out, sE_more HG.out HNN.out, NX.out]
        · rw [HL.out, sL_more HG.out HNN.out, NX.out, HP.out, List.append_assoc]; rfl
        · exact O3.out
        · exact ⟨B2.out.os, B2.out.tape, B2.out.output, B2.out.size, B2.out.block⟩
        · have := HAL.out; have := HACC.out; have := HQ.out
          show s.size + 1 - (acc.length + 1) < s.size + 1 - acc.length
          omega
      · have HNN := mkHid (show nx (fr s q) = [] by rw [NX.out, fr_nil]; have := HE1.out; omega)
        go_wp2
        simp only [Exit.jump]
        go_ret
        have hsl : sL (fr s 0) = acc ++ [⟨c, t, d⟩] := by rw [HL.out, sL_last HG.out HNN.out, HP.out]
        have hm := sL_mem _ (fr s 0) (Nat.le_refl _)
        have hfl := fr_len s 0
        have hs := HS.out
        refine ⟨.inl ⟨by rw [HE.out]; exact sE_last HG.out HNN.out, ?_⟩, ?_⟩
        · have ho := O3.out
          rw [← hsl] at ho
          have ho2 : (w2.drewN nd).ownsRow (b + 1) 40 3 (.slice va2 (acc.length + 1) vc2) (sL (fr s 0)).length (pC (sL (fr s 0))) := ho
          obtain ⟨a, cp, h1, h2, h3⟩ := own_pa ho2 (Nat.le_refl _) (by have := sL_len _ (fr s 0) (Nat.le_refl _); unfold maxLen; omega) (fun p hp => by have := (hm p hp).2; unfold maxLen; omega)
          exact ⟨a, cp, by rw [← h1]; rfl, h2, fun x hx => by have := h3 x hx; rw [HB.out]; omega⟩
        · rw [HB.out]
          exact ⟨B2.out.os, B2.out.tape, B2.out.output, B2.out.size, B2.out.block⟩
    · have HG := mkHid (sE_wrong hg)
      have HGN := mkHid hg
      have B1 := mkHid (HBL.out.trans (a1.belowE b (by omega) (Nat.le_refl _)))
      clear hg a1
      go_wp2
      simp only [Exit.jump]
      refine ⟨rfl, .inr ⟨?_, ?_⟩, by rw [HB.out]; exact B1.out⟩
      · rw [HE.out, HG.out]; exact HGN.out
      · rw [HE.out, HG.out]
end Go.Proofs.Ythapkeokgpnjgaa
