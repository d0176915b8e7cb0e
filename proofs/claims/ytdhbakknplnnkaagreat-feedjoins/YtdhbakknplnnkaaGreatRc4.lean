/-
  What the reference's Split hands back.
-/
import Derived.Test.YtdhbakknplnnkaaGreatRc3
import Derived.BigRegion
import Derived.Deep.RegionHeld3
import Derived.Laws.BitsAllLaws
namespace Go.Proofs.YtdhbakknplnnkaaGreat.Rc
open Go.RowKit

theorem fr_get (s : ByteArray) (q i : Nat) (h : q + i < s.size) : s[q + i].toNat = bn (fr s q) i := by
  unfold fr
  rw [bn_drop]
  unfold bn
  rw [List.getD_eq_getElem?_getD, List.getElem?_eq_getElem (by show q + i < s.size; exact h)]
  rfl
theorem is_empty (s : ByteArray) (h : 0 < s.size) : s.toList.isEmpty = false := by
  cases hh : s.toList.isEmpty with
  | false => rfl
  | true =>
    have h2 : s.toList = [] := by simpa using hh
    have h3 : s.toList.length = s.size := by rw [ByteArray.toList_eq]; rfl
    rw [h2] at h3
    simp at h3
    omega
theorem and31 (x : Nat) (h : x < 256) : bits .and .u8 (x : Int) 31 = ((x % 32 : Nat) : Int) := by
  have := u8_and_nat x 31 h (by decide)
  rw [show ((31 : Nat) : Int) = 31 from rfl] at this
  rw [this]
  have e := Nat.and_two_pow_sub_one_eq_mod x 5
  rw [show (2 : Nat) ^ 5 - 1 = 31 by decide] at e
  rw [e]
theorem and1 (x : Nat) (h : x < 256) : bits .and .u8 (x : Int) 1 = ((x % 2 : Nat) : Int) := by
  have := u8_and_nat x 1 h (by decide)
  rw [show ((1 : Nat) : Int) = 1 from rfl] at this
  rw [this]
  have e := Nat.and_two_pow_sub_one_eq_mod x 1
  rw [show (2 : Nat) ^ 1 - 1 = 1 by decide] at e
  rw [e]
theorem cut_list (s : ByteArray) (q m : Nat) : s.extract (q + 4) (q + 4 + m) = ⟨(((fr s q).drop 4).take m).toArray⟩ := by
  apply ByteArray.ext
  apply Array.ext'
  simp only [ByteArray.data_extract, Array.toList_extract, List.extract_eq_take_drop]
  simp [fr]
theorem cut_last (s : ByteArray) (q m : Nat) (h : 0 < m) : bn (s.extract (q + 4) (q + 4 + m)).data.toList (m - 1) = bn (fr s q) (3 + m) := by
  rw [cut_list]
  unfold bn
  simp only [List.getD_eq_getElem?_getD]
  rw [List.getElem?_take_of_lt (by omega), List.getElem?_drop]
  congr 3
  omega
theorem cut_bared (s : ByteArray) (q m k : Nat) : (s.extract (q + 4) (q + 4 + m)).extract 0 (m - k) = ⟨(((fr s q).drop 4).take (m - k)).toArray⟩ := by
  rw [cut_list]
  apply ByteArray.ext
  apply Array.ext'
  simp only [ByteArray.data_extract, Array.toList_extract, List.extract_eq_take_drop]
  simp [List.take_take]
set_option maxRecDepth 100000 in
set_option maxHeartbeats 2000000 in
theorem rsplit_any (s : ByteArray) (hs : s.size ≤ 1000000) (w : World) : Calls Tryz.prog 12 #[.string s] w (SplitPost s w) := by
  have hs1 : (s.size : Int) ≤ 1000000 := by omega
  by_cases hl : 65536 < s.size
  · have HE := mkHid (show rE s = 2 by unfold rE; rw [if_pos hl])
    have HR := mkHid (show rL s = [] by unfold rL; rw [HE.out]; rfl)
    have hl' : (65536 : Int) < s.size := by omega
    clear hl hs
    go_enter Tryz.func12, Tryz.ntmps12
    go_wp2
    go_ret2
    exact ⟨⟨none, 0, by rw [HE.out, HR.out]; rfl, by rw [HR.out]; exact pa_nil _ _ _⟩, Below.refl _ _⟩
  have hl' : ¬ (65536 : Int) < s.size := by omega
  have HE := mkHid (show rE s = sE (fr s 0) by unfold rE; rw [if_neg hl])
  by_cases h0 : s.size = 0
  · obtain rfl : s = ⟨#[]⟩ := by
      obtain ⟨⟨l⟩⟩ := s
      have : l = [] := List.eq_nil_of_length_eq_zero h0
      rw [this]
    have HE2 := mkHid (show rE ⟨#[]⟩ = 60 by
      rw [HE.out, sE_wrong (by rw [gE_short (by rw [fr_len]; decide)]; decide), gE_short (by rw [fr_len]; decide)])
    have HR := mkHid (show rL ⟨#[]⟩ = [] by unfold rL; rw [HE2.out]; rfl)
    clear hl hs hl' hs1 h0
    go_enter Tryz.func12, Tryz.ntmps12
    go_wp2
    go_ret2
    exact ⟨⟨none, 0, by rw [HE2.out, HR.out]; rfl, by rw [HR.out]; exact pa_nil _ _ _⟩, Below.refl _ _⟩
  have hne := is_empty s (by omega)
  obtain ⟨b, HB⟩ : ∃ b, Hid (w.heap.size = b) := ⟨_, rfl⟩
  obtain ⟨i0, hi, hz0, hz1, hz2⟩ := info_parts info40
  have HS := mkHid hs
  have H0 := mkHid h0
  clear hl hs h0
  go_enter Tryz.func12, Tryz.ntmps12
  go_wp2
  go_loopw [4, 5] (fun v i wr => ∃ (q : Nat) (acc : List Pt), i = .int .i64 (q : Int) ∧ q ≤ s.size ∧ 4 * acc.length ≤ q ∧ ((q < s.size ∧ sE (fr s 0) = sE (fr s q) ∧ sL (fr s 0) = acc ++ sL (fr s q)) ∨ (q = s.size ∧ sE (fr s 0) = 0 ∧ sL (fr s 0) = acc)) ∧ wr.ownsRow b 56 3 v acc.length (pC acc) ∧ Below b w wr) (fun _ i _ => s.size - (intOf i).toNat)
  case atStart => exact ⟨0, [], rfl, Nat.zero_le _, Nat.zero_le _, .inl ⟨by have := H0.out; omega, rfl, rfl⟩, World.ownsRow_nil _ _ _ _, Below.refl _ _⟩
  case round =>
    obtain ⟨q, acc, rfl, hq, hacc, hst, how, hb⟩ := hrel
    have HACC := mkHid hacc
    have HOW := mkHid how
    have HBL := mkHid hb
    have hbz : b ≤ wr.heap.size := by have := hb.size; rw [HB.out] at this; exact this
    obtain ⟨va, vc, HV⟩ := ownsRow_slice how
    subst HV
    obtain ⟨n, HN⟩ : ∃ n, Hid (acc.length = n) := ⟨_, rfl⟩
    rw [HN.out] at HACC HOW ⊢
    have HQ := mkHid hq
    clear hacc how hb hq
    rcases hst with ⟨hlt, hE, hL⟩ | ⟨hlt, hE, hL⟩
    · have HSE := mkHid hE
      have HSL := mkHid hL
      have HFL := mkHid (fr_len s q)
      have hlt' : (q : Int) < s.size := by omega
      clear hE hL
      by_cases h4 : (s.size : Int) - q < 4
      · have HG := mkHid (gE_short (r := fr s q) (by rw [HFL.out]; omega))
        have HE2 := mkHid (show rE s = 60 by rw [HE.out, HSE.out, sE_wrong (by rw [HG.out]; decide), HG.out])
        have HR := mkHid (show rL s = [] by unfold rL; rw [HE2.out]; rfl)
        go_wp2
        go_ret2
        exact ⟨⟨none, 0, by rw [HE2.out, HR.out]; rfl, by rw [HR.out]; exact pa_nil _ _ _⟩, by rw [HB.out]; exact HBL.out⟩
      · have g0 := fr_get s q 0 (by omega)
        have g1 := fr_get s q 1 (by omega)
        have g2 := fr_get s q 2 (by omega)
        have g3 := fr_get s q 3 (by omega)
        have l0 := bn_lt (fr s q) 0
        have l1 := bn_lt (fr s q) 1
        have l2 := bn_lt (fr s q) 2
        have l3 := bn_lt (fr s q) 3
        obtain ⟨x0, HX0⟩ : ∃ x, Hid (bn (fr s q) 0 = x) := ⟨_, rfl⟩
        obtain ⟨x1, HX1⟩ : ∃ x, Hid (bn (fr s q) 1 = x) := ⟨_, rfl⟩
        obtain ⟨x2, HX2⟩ : ∃ x, Hid (bn (fr s q) 2 = x) := ⟨_, rfl⟩
        obtain ⟨x3, HX3⟩ : ∃ x, Hid (bn (fr s q) 3 = x) := ⟨_, rfl⟩
        rw [HX0.out] at g0 l0
        rw [HX1.out] at g1 l1
        rw [HX2.out] at g2 l2
        rw [HX3.out] at g3 l3
        have g0 : s[q].toNat = x0 := g0
        have k20 : (0 : Int) ≤ (q : Int) + 2 := by omega
        have k21 : (q : Int) + 2 < s.size := by omega
        have k30 : (0 : Int) ≤ (q : Int) + 3 := by omega
        have k31 : (q : Int) + 3 < s.size := by omega
        have k10 : (0 : Int) ≤ (q : Int) + 1 := by omega
        have k11 : (q : Int) + 1 < s.size := by omega
        have g2' : ∀ h, (s[((q : Int) + 2).toNat]'h).toNat = x2 := fun _ => g2
        have g3' : ∀ h, (s[((q : Int) + 3).toNat]'h).toNat = x3 := fun _ => g3
        have g1' : ∀ h, (s[((q : Int) + 1).toNat]'h).toNat = x1 := fun _ => g1
        obtain ⟨M, HM⟩ : ∃ M : Nat, Hid (hN (fr s q) = M) := ⟨_, rfl⟩
        have eM : 4 * ((x2 : Int) * 256 + x3) = (M : Int) := by have := HM.out; unfold hN at this; rw [HX2.out, HX3.out] at this; omega
        have hM : (M : Int) ≤ 262140 := by omega
        have HEM := mkHid eM
        clear eM
        go_wp2
        go_region
        rw [HEM.out]
        by_cases h5 : (s.size : Int) - q - 4 < M
        · have HG := mkHid (gE_lacks (r := fr s q) (by rw [HFL.out]; omega) (by rw [HFL.out, HM.out]; omega))
          have HE2 := mkHid (show rE s = 60 by rw [HE.out, HSE.out, sE_wrong (by rw [HG.out]; decide), HG.out])
          have HR := mkHid (show rL s = [] by unfold rL; rw [HE2.out]; rfl)
          go_wp2
          go_ret2
          exact ⟨⟨none, 0, by rw [HE2.out, HR.out]; rfl, by rw [HR.out]; exact pa_nil _ _ _⟩, by rw [HB.out]; exact HBL.out.drew⟩
        · have eA := and31 x0 l0
          have k40 : (0 : Int) ≤ (q : Int) + 4 := by omega
          have k41 : (q : Int) + 4 ≤ (q : Int) + 4 + M := by omega
          have k42 : (q : Int) + 4 + M ≤ s.size := by omega
          obtain ⟨c, HC⟩ : ∃ c, Hid (x0 % 32 = c) := ⟨_, rfl⟩
          rw [HC.out] at eA
          have hc : (c : Int) < 32 := by have := HC.out; omega
          obtain ⟨d, HD⟩ : ∃ d, Hid (s.extract (q + 4) (q + 4 + M) = d) := ⟨_, rfl⟩
          obtain ⟨B, HBB⟩ : ∃ B, Hid (wr.heap.size = B) := ⟨_, rfl⟩
          go_wp2
          go_region
          rw [HD.out, HBB.out]
          have N0 := mkHid (show ((wr.alloc (.cells #[.int .i64 (c : Int), .int .i64 (x1 : Int), .string d] 56)).drew.drew).heap[B]? = some (.cells #[.int .i64 (c : Int), .int .i64 (x1 : Int), .string d] 56 (0, 0)) by rw [← HBB.out]; exact heap_alloc_new wr _)
          have O0 := mkHid (show ((wr.alloc (.cells #[.int .i64 (c : Int), .int .i64 (x1 : Int), .string d] 56)).drew.drew).ownsRow b 56 3 (.slice va n vc) n (pC acc) from HOW.out.alloc _)
          have B0 := mkHid (show Below b w ((wr.alloc (.cells #[.int .i64 (c : Int), .int .i64 (x1 : Int), .string d] 56)).drew.drew) from ((HBL.out.alloc hbz _).drew).drew)
          have hbB : b ≤ B := by rw [← HBB.out]; exact hbz
          have HLT := mkHid (show ∀ k, (Value.slice va n vc).ownBlock = some k → k < B from fun k e => by rw [← HBB.out]; exact (HOW.out.lt k e).2)
          obtain ⟨W, HW⟩ : ∃ W, Hid ((wr.alloc (.cells #[.int .i64 (c : Int), .int .i64 (x1 : Int), .string d] 56)).drew.drew = W) := ⟨_, rfl⟩
          rw [HW.out] at N0 O0 B0 ⊢
          obtain ⟨c0, c1, c2, f0, f1, f2⟩ := cells3 N0.out
          have hfl : ¬ (fr s q).length < 4 := by rw [HFL.out]; omega
          have hfm : ¬ (fr s q).length < 4 + hN (fr s q) := by rw [HFL.out, HM.out]; omega
          have F4 := mkHid hfl
          have FM := mkHid hfm
          have KQ := mkHid k42
          clear hfl hfm g1 g2 g3 g1' g2' g3' k20 k21 k30 k31 k10 k11 k40 k41 k42 eA HOW HBL
          by_cases h6 : (x0 : Int) / 64 = 2
          · have F6 := mkHid (show ¬ bn (fr s q) 0 / 64 ≠ 2 by rw [HX0.out]; omega)
            by_cases h7 : (x1 : Int) < 192
            · have HG := mkHid (gE_kind (r := fr s q) F4.out FM.out F6.out (by rw [HX1.out]; omega))
              have HE2 := mkHid (show rE s = 81 by rw [HE.out, HSE.out, sE_wrong (by rw [HG.out]; decide), HG.out])
              have HR := mkHid (show rL s = [] by unfold rL; rw [HE2.out]; rfl)
              go_wp2
              go_ret2
              exact ⟨⟨none, 0, by rw [HE2.out, HR.out]; rfl, by rw [HR.out]; exact pa_nil _ _ _⟩, by rw [HB.out]; exact B0.out⟩
            by_cases h8 : (223 : Int) < x1
            · have HG := mkHid (gE_kind (r := fr s q) F4.out FM.out F6.out (by rw [HX1.out]; omega))
              have HE2 := mkHid (show rE s = 81 by rw [HE.out, HSE.out, sE_wrong (by rw [HG.out]; decide), HG.out])
              have HR := mkHid (show rL s = [] by unfold rL; rw [HE2.out]; rfl)
              go_wp2
              go_ret2
              exact ⟨⟨none, 0, by rw [HE2.out, HR.out]; rfl, by rw [HR.out]; exact pa_nil _ _ _⟩, by rw [HB.out]; exact B0.out⟩
            have F8 := mkHid (show ¬ (bn (fr s q) 1 < 192 ∨ 223 < bn (fr s q) 1) by rw [HX1.out]; omega)
            have eB := and1 (x0 / 32) (by omega)
            rw [show ((x0 / 32 : Nat) : Int) = (x0 : Int) / 32 by omega] at eB
            obtain ⟨p, HP⟩ : ∃ p, Hid (x0 / 32 % 2 = p) := ⟨_, rfl⟩
            rw [HP.out] at eB
            by_cases h9 : (p : Int) = 1
            · have HPP := mkHid (show hP (fr s q) = true by unfold hP; rw [HX0.out, HP.out]; simp; omega)
              by_cases h10 : (q : Int) + (4 + M) < s.size
              · have HG := mkHid (gE_pad (r := fr s q) F4.out FM.out F6.out F8.out HPP.out (.inl (by rw [HM.out, HFL.out]; omega)))
                have HE2 := mkHid (show rE s = 91 by rw [HE.out, HSE.out, sE_wrong (by rw [HG.out]; decide), HG.out])
                have HR := mkHid (show rL s = [] by unfold rL; rw [HE2.out]; rfl)
                go_wp2
                go_ret2
                exact ⟨⟨none, 0, by rw [HE2.out, HR.out]; rfl, by rw [HR.out]; exact pa_nil _ _ _⟩, by rw [HB.out]; exact B0.out⟩
              by_cases h11 : (M : Int) = 0
              · have HG := mkHid (gE_pad (r := fr s q) F4.out FM.out F6.out F8.out HPP.out (.inr (.inl (by rw [HM.out]; omega))))
                have HE2 := mkHid (show rE s = 91 by rw [HE.out, HSE.out, sE_wrong (by rw [HG.out]; decide), HG.out])
                have HR := mkHid (show rL s = [] by unfold rL; rw [HE2.out]; rfl)
                go_wp2
                go_ret2
                exact ⟨⟨none, 0, by rw [HE2.out, HR.out]; rfl, by rw [HR.out]; exact pa_nil _ _ _⟩, by rw [HB.out]; exact B0.out⟩
              have hds : d.size = M := by rw [← HD.out, cut_list, ba_size]; simp; rw [HFL.out]; have := KQ.out; omega
              have hlast := cut_last s q M (by omega)
              rw [HD.out] at hlast
              obtain ⟨k, HK⟩ : ∃ k, Hid (hK (fr s q) = k) := ⟨_, rfl⟩
              have hk1 : bn (fr s q) (3 + M) = k := by have := HK.out; unfold hK at this; rw [HM.out] at this; exact this
              have hk2 : k < 256 := by rw [← hk1]; exact bn_lt _ _
              rw [hk1, ← hds] at hlast
              have hlb := last_byte d (by omega)
              rw [hlast] at hlb
              subst hds
              have hk3 : (k : Int) < 256 := by omega
              clear hlast hk1 hk2
              by_cases h12 : (k : Int) < 4
              · have HG := mkHid (gE_pad (r := fr s q) F4.out FM.out F6.out F8.out HPP.out (by rw [HK.out, HM.out]; omega))
                have HE2 := mkHid (show rE s = 91 by rw [HE.out, HSE.out, sE_wrong (by rw [HG.out]; decide), HG.out])
                have HR := mkHid (show rL s = [] by unfold rL; rw [HE2.out]; rfl)
                go_wp2
                go_ret2
                exact ⟨⟨none, 0, by rw [HE2.out, HR.out]; rfl, by rw [HR.out]; exact pa_nil _ _ _⟩, by rw [HB.out]; exact B0.out⟩
              by_cases h13 : (k : Int) % 4 = 0
              · by_cases h14 : (d.size : Int) < k
                · have HG := mkHid (gE_pad (r := fr s q) F4.out FM.out F6.out F8.out HPP.out (by rw [HK.out, HM.out]; omega))
                  have HE2 := mkHid (show rE s = 91 by rw [HE.out, HSE.out, sE_wrong (by rw [HG.out]; decide), HG.out])
                  have HR := mkHid (show rL s = [] by unfold rL; rw [HE2.out]; rfl)
                  go_wp2
                  go_ret2
                  exact ⟨⟨none, 0, by rw [HE2.out, HR.out]; rfl, by rw [HR.out]; exact pa_nil _ _ _⟩, by rw [HB.out]; exact B0.out⟩
                · have h14' : (k : Int) ≤ d.size := by omega
                  have HG := mkHid (show gE (fr s q) = 0 from gE_is (by have := FM.out; omega) (by have := F6.out; omega) (by have := F8.out; omega) (by have := F8.out; omega) (fun _ => by rw [HK.out, HM.out, HFL.out]; have := KQ.out; omega))
                  have hcb := cut_bared s q d.size k
                  rw [HD.out] at hcb
                  have HPT := mkHid (show gP (fr s q) = ⟨(c : Int), (x1 : Int), d.extract 0 (d.size - k)⟩ by
                    unfold gP hD
                    rw [if_pos HPP.out, HX0.out, HX1.out, HC.out, HM.out, HK.out, hcb])
                  obtain ⟨db, hdb⟩ : ∃ db, d.extract 0 (d.size - k) = db := ⟨_, rfl⟩
                  rw [hdb] at HPT
                  have ap := Apart.setCell (Apart.refl (· = B) W) (p := ⟨B, 2, none⟩) (fun _ => rfl) (.string db)
                  have O1 := mkHid (ownsRow_apart2 O0.out ap (fun k e hh => by have := HLT.out k e; omega))
                  have B1 := mkHid (B0.out.setCell (p := ⟨B, 2, none⟩) hbB (.string db))
                  have hcn := cell_three_new (W.setCell ⟨B, 2, none⟩ (.string db)) (.int .i64 (c : Int)) (.int .i64 (x1 : Int)) (.string db) 56
                  rw [show (W.setCell ⟨B, 2, none⟩ (.string db)).heap.size = W.heap.size by simp] at hcn
                  have HCN := mkHid hcn
                  have hbW0 : b ≤ W.heap.size := by have := B0.out.size; have := HB.out; omega
                  clear hcb ap hcn
                  have HPQ := mkHid (show pC acc ++ [.int .i64 (c : Int), .int .i64 (x1 : Int), .string db] = pC (acc ++ [(⟨(c : Int), (x1 : Int), db⟩ : Pt)]) by rw [pC_app]; rfl)
                  have HAL := mkHid (show n ≤ 1000000 by have := HACC.out; have := HQ.out; have := HS.out; omega)
                  have HNX := mkHid (nx_fr s q)
                  rw [HM.out] at HNX
                  have hbW : b ≤ (W.setCell ⟨B, 2, none⟩ (.string db)).heap.size := by have := B1.out.size; have := HB.out; omega
                  go_wp2_with (at_builtin; refine wpList_append_own2 _ rfl (.tmp 120) (.tmp 122) 36 rfl b 56 i0 (.agg #[.int .i64 0, .int .i64 0, .string ⟨#[]⟩]) 3 32 Tryz.underlying36 hi hz0 hz1 hz2 rfl (by decide) (.slice va n vc) n (pC acc) rfl (O1.out.alloc _) ⟨W.heap.size, 0, none⟩ 1 1 [.int .i64 (c : Int), .int .i64 (x1 : Int), .string db] rfl rfl HCN.out (by intro u hu; simp at hu; rcases hu with rfl | rfl | rfl <;> rfl) (by unfold maxLen; have := HAL.out; omega) (by have := HAL.out; omega) (by simp; omega) ?_; intro v2 w2 hown2 hgrow2 _; obtain ⟨va2, vc2, hv2⟩ := ownsRow_slice hown2; subst hv2; have OW2 := mkHid hown2; have B2 := mkHid (Below.grown (B1.out.alloc hbW _) hgrow2 (by simp; omega) (fun k e => (O1.out.lt k e).1)); clear hown2 hgrow2)
                  go_roundw
                  case rel =>
                    refine ⟨q + (4 + d.size), acc ++ [(⟨(c : Int), (x1 : Int), db⟩ : Pt)], by go_num, by have := KQ.out; omega, by have := HACC.out; rw [List.length_append, HN.out]; simp; omega, ?_, ?_, B2.out⟩
                    · by_cases hend : q + (4 + d.size) < s.size
                      · have hnn : ¬ nx (fr s q) = [] := by rw [HNX.out, fr_nil]; omega
                        exact .inl ⟨hend, by rw [HSE.out, sE_more HG.out hnn, HNX.out], by rw [HSL.out, sL_more HG.out hnn, HNX.out, HPT.out, List.append_assoc]; rfl⟩
                      · have hnn : nx (fr s q) = [] := by rw [HNX.out, fr_nil]; omega
                        exact .inr ⟨by have := KQ.out; omega, by rw [HSE.out, sE_last HG.out hnn], by rw [HSL.out, sL_last HG.out hnn, HPT.out]⟩
                    · have := OW2.out
                      rw [HPQ.out] at this
                      rw [List.length_append, HN.out]
                      exact this
                  case measure => simp [intOf]; have := KQ.out; omega
              · have HG := mkHid (gE_pad (r := fr s q) F4.out FM.out F6.out F8.out HPP.out (by rw [HK.out, HM.out]; omega))
                have HE2 := mkHid (show rE s = 91 by rw [HE.out, HSE.out, sE_wrong (by rw [HG.out]; decide), HG.out])
                have HR := mkHid (show rL s = [] by unfold rL; rw [HE2.out]; rfl)
                go_wp2
                go_ret2
                exact ⟨⟨none, 0, by rw [HE2.out, HR.out]; rfl, by rw [HR.out]; exact pa_nil _ _ _⟩, by rw [HB.out]; exact B0.out⟩
            · have HPP := mkHid (show ¬ hP (fr s q) = true by unfold hP; rw [HX0.out, HP.out]; simp; omega)
              have HG := mkHid (show gE (fr s q) = 0 from gE_is (by have := FM.out; omega) (by have := F6.out; omega) (by have := F8.out; omega) (by have := F8.out; omega) (fun h => absurd h HPP.out))
              have HPT := mkHid (show gP (fr s q) = ⟨(c : Int), (x1 : Int), d⟩ by
                unfold gP hD
                rw [if_neg HPP.out, Nat.sub_zero, HX0.out, HX1.out, HC.out, HM.out, ← cut_list, HD.out])
              have HPQ := mkHid (show pC acc ++ [.int .i64 (c : Int), .int .i64 (x1 : Int), .string d] = pC (acc ++ [(⟨(c : Int), (x1 : Int), d⟩ : Pt)]) by rw [pC_app]; rfl)
              have HAL := mkHid (show n ≤ 1000000 by have := HACC.out; have := HQ.out; have := HS.out; omega)
              have HNX := mkHid (nx_fr s q)
              rw [HM.out] at HNX
              have hbW : b ≤ W.heap.size := by have := B0.out.size; have := HB.out; omega
              go_wp2_with (at_builtin; refine wpList_append_own2 _ rfl (.tmp 120) (.tmp 122) 36 rfl b 56 i0 (.agg #[.int .i64 0, .int .i64 0, .string ⟨#[]⟩]) 3 32 Tryz.underlying36 hi hz0 hz1 hz2 rfl (by decide) (.slice va n vc) n (pC acc) rfl (O0.out.alloc _) ⟨W.heap.size, 0, none⟩ 1 1 [.int .i64 (c : Int), .int .i64 (x1 : Int), .string d] rfl rfl (cell_three_new _ _ _ _ _) (by intro u hu; simp at hu; rcases hu with rfl | rfl | rfl <;> rfl) (by unfold maxLen; have := HAL.out; omega) (by have := HAL.out; omega) (by simp; omega) ?_; intro v2 w2 hown2 hgrow2 _; obtain ⟨va2, vc2, hv2⟩ := ownsRow_slice hown2; subst hv2; have OW2 := mkHid hown2; have B2 := mkHid (Below.grown (B0.out.alloc hbW _) hgrow2 (by simp; omega) (fun k e => (O0.out.lt k e).1)); clear hown2 hgrow2)
              go_roundw
              case rel =>
                refine ⟨q + (4 + M), acc ++ [(⟨(c : Int), (x1 : Int), d⟩ : Pt)], by go_num, by have := KQ.out; omega, by have := HACC.out; rw [List.length_append, HN.out]; simp; omega, ?_, ?_, B2.out⟩
                · by_cases hend : q + (4 + M) < s.size
                  · have hnn : ¬ nx (fr s q) = [] := by rw [HNX.out, fr_nil]; omega
                    exact .inl ⟨hend, by rw [HSE.out, sE_more HG.out hnn, HNX.out], by rw [HSL.out, sL_more HG.out hnn, HNX.out, HPT.out, List.append_assoc]; rfl⟩
                  · have hnn : nx (fr s q) = [] := by rw [HNX.out, fr_nil]; omega
                    exact .inr ⟨by have := KQ.out; omega, by rw [HSE.out, sE_last HG.out hnn], by rw [HSL.out, sL_last HG.out hnn, HPT.out]⟩
                · have := OW2.out
                  rw [HPQ.out] at this
                  rw [List.length_append, HN.out]
                  exact this
              case measure => simp [intOf]; have := KQ.out; omega
          · have HG := mkHid (gE_mark (r := fr s q) F4.out FM.out (by rw [HX0.out]; omega))
            have HE2 := mkHid (show rE s = 70 by rw [HE.out, HSE.out, sE_wrong (by rw [HG.out]; decide), HG.out])
            have HR := mkHid (show rL s = [] by unfold rL; rw [HE2.out]; rfl)
            go_wp2
            go_ret2
            exact ⟨⟨none, 0, by rw [HE2.out, HR.out]; rfl, by rw [HR.out]; exact pa_nil _ _ _⟩, by rw [HB.out]; exact B0.out⟩
    · have HE2 := mkHid (show rE s = 0 by rw [HE.out]; exact hE)
      have HR := mkHid (show rL s = acc by unfold rL; rw [if_pos HE2.out, hL])
      have hm := sL_mem _ (fr s 0) (Nat.le_refl _)
      have hfl := fr_len s 0
      have ho := HOW.out
      rw [← HN.out] at ho
      obtain ⟨a6, c6, hv6, q6, _⟩ := own_pa ho (Nat.le_refl _) (by have := HACC.out; have := HQ.out; have := HS.out; have := HN.out; unfold maxLen; omega) (fun p hp => by rw [hL] at hm; have := (hm p hp).2; have := HS.out; unfold maxLen; omega)
      have Q6 := mkHid q6
      have V6 := mkHid hv6
      have hnl : ¬ (q : Int) < s.size := by omega
      clear hE hL hm ho q6 hv6 hfl
      go_wp2
      go_ret2
      refine ⟨⟨a6, c6, ?_, by rw [HR.out]; exact Q6.out⟩, by rw [HB.out]; exact HBL.out⟩
      rw [HE2.out, HR.out, ← V6.out, HN.out]
      rfl
end Go.Proofs.YtdhbakknplnnkaaGreat.Rc
