/-
  What the function that reads a part hands back, or throws.
-/
import Derived.Test.YthapkeokgpnjgaaRcB
namespace Go.Proofs.Ythapkeokgpnjgaa
open Go.RowKit

theorem gE_short {r : List UInt8} (h : r.length < 4) : gE r = 60 := by unfold gE; rw [if_pos h]
theorem gE_lacks {r : List UInt8} (h1 : ¬ r.length < 4) (h : r.length < 4 + hN r) : gE r = 60 := by unfold gE; rw [if_neg h1, if_pos h]
theorem gE_mark {r : List UInt8} (h1 : ¬ r.length < 4) (h2 : ¬ r.length < 4 + hN r) (h : bn r 0 / 64 ≠ 2) : gE r = 70 := by unfold gE; rw [if_neg h1, if_neg h2, if_pos h]
theorem gE_kind {r : List UInt8} (h1 : ¬ r.length < 4) (h2 : ¬ r.length < 4 + hN r) (h3 : ¬ bn r 0 / 64 ≠ 2) (h : bn r 1 < 192 ∨ 223 < bn r 1) : gE r = 81 := by unfold gE; rw [if_neg h1, if_neg h2, if_neg h3, if_pos h]
theorem gE_pad {r : List UInt8} (h1 : ¬ r.length < 4) (h2 : ¬ r.length < 4 + hN r) (h3 : ¬ bn r 0 / 64 ≠ 2) (h4 : ¬ (bn r 1 < 192 ∨ 223 < bn r 1)) (hp : hP r = true) (h : 4 + hN r < r.length ∨ hN r = 0 ∨ hK r < 4 ∨ hK r % 4 ≠ 0 ∨ hN r < hK r) : gE r = 91 := by
  unfold gE; rw [if_neg h1, if_neg h2, if_neg h3, if_neg h4, if_pos ⟨hp, h⟩]
theorem res26 {W : World} {bx : Nat} {c t : Int} {d : ByteArray} (tmps : Array Value) (h2 : tmps.getD 2 undef = .pointer (some ⟨bx, 0, none⟩)) (h : W.heap[bx]? = some (.cells #[.int .i64 c, .int .i64 t, .string d] 40 (0, 0))) :
    (results Try.f26 tmps).run Try.prog W = .ok (.agg #[.int .i64 c, .int .i64 t, .string d]) W := by
  obtain ⟨c0, c1, c2, _⟩ := cells3 h
  clear h
  have h2' : tmps[2]?.getD undef = .pointer (some ⟨bx, 0, none⟩) := by rw [← h2]; simp
  simp [results, Try.results26, h2', c0, c1, c2, go_sem]
theorem fr_drop (s : ByteArray) (q k : Nat) : fr s (q + k) = (fr s q).drop k := by simp [fr]
/-- The body that is read, padding and all. -/
theorem body_list (s : ByteArray) (q : Nat) (h : 4 + hN (fr s q) ≤ (fr s q).length) : txS s (8 * (q + 4)) (hN (fr s q)) = ⟨(((fr s q).drop 4).take (hN (fr s q))).toArray⟩ := by
  rw [txS_bytes s (q + 4) _ (by rw [fr_len] at h; omega), fr_drop]
theorem body_last (s : ByteArray) (q : Nat) (h : 4 + hN (fr s q) ≤ (fr s q).length) (h0 : 0 < hN (fr s q)) : bn (txS s (8 * (q + 4)) (hN (fr s q))).data.toList ((txS s (8 * (q + 4)) (hN (fr s q))).size - 1) = hK (fr s q) := by
  rw [txS_size, body_list s q h]
  generalize fr s q = r at *
  simp only [bn, hK]
  rw [List.getD_eq_getElem?_getD, List.getD_eq_getElem?_getD, List.getElem?_take_of_lt (by omega), List.getElem?_drop]
  congr 3
  omega
theorem body_bared (s : ByteArray) (q k : Nat) (h : 4 + hN (fr s q) ≤ (fr s q).length) : (txS s (8 * (q + 4)) (hN (fr s q))).extract 0 ((txS s (8 * (q + 4)) (hN (fr s q))).size - k) = ⟨(((fr s q).drop 4).take (hN (fr s q) - k)).toArray⟩ := by
  rw [txS_size, body_list s q h]
  generalize fr s q = r at *
  apply ByteArray.ext
  apply Array.ext'
  simp only [ByteArray.data_extract, Array.toList_extract, List.extract_eq_take_drop]
  simp [List.take_take]
/-- Three cells that are stored. -/
theorem store3 {w : World} {bx : Nat} {a b c : Value} {T : TypeId} (h : w.heap[bx]? = some (.cells #[a, b, c] T (0, 0))) (x y z : Value) :
    (((w.setCell ⟨bx, 0, none⟩ x).setCell ⟨bx, 1, none⟩ y).setCell ⟨bx, 2, none⟩ z).heap[bx]? = some (.cells #[x, y, z] T (0, 0)) ∧ Apart (· = bx) w (((w.setCell ⟨bx, 0, none⟩ x).setCell ⟨bx, 1, none⟩ y).setCell ⟨bx, 2, none⟩ z) := by
  have h1 := heap_setCell_same w bx 0 _ T x h
  have h2 := heap_setCell_same _ bx 1 _ T y h1
  have h3 := heap_setCell_same _ bx 2 _ T z h2
  refine ⟨by rw [h3]; rfl, ?_⟩
  exact Apart.setCell (Apart.setCell (Apart.setCell (Apart.refl (· = bx) w) (p := ⟨bx, 0, none⟩) (fun _ => rfl) _) (p := ⟨bx, 1, none⟩) (fun _ => rfl) _) (p := ⟨bx, 2, none⟩) (fun _ => rfl) _
/-- What getPart leaves behind. -/
def PartPost (b : Nat) (s : ByteArray) (q : Nat) (w : World) (e : Ending) (w' : World) : Prop :=
  ((gE (fr s q) = 0 ∧ e = .returned (pv (gP (fr s q))) ∧ Rd 63 w' b s (At s (8 * (q + (4 + hN (fr s q)))))) ∨ (¬ gE (fr s q) = 0 ∧ e = thrown (gE (fr s q)))) ∧ Apart (· = b) w w'
set_option maxRecDepth 100000 in
set_option maxHeartbeats 1000000 in
theorem getpart_any (b : Nat) (s : ByteArray) (hs : s.size ≤ 1000000) (q : Nat) (hq : q ≤ s.size) (w : World) (h : Rd 63 w b s (At s (8 * q))) :
    Calls Try.prog 26 #[.pointer (some ⟨b, 0, none⟩)] w (PartPost b s q w) := by
  obtain ⟨bx, HBX⟩ : ∃ bx, Hid (w.heap.size = bx) := ⟨_, rfl⟩
  have hbx : b < bx := by have := h.heap; rw [HBX.out] at this; exact this
  have HN := mkHid (heap_alloc_new w (.cells #[.int .i64 0, .int .i64 0, .string ⟨#[]⟩] 40))
  have A0 := mkHid ((Apart.refl (· = b) w).alloc (.cells #[.int .i64 0, .int .i64 0, .string ⟨#[]⟩] 40))
  have R0 := mkHid (h.kept ((Apart.refl (fun _ => False) w).alloc (.cells #[.int .i64 0, .int .i64 0, .string ⟨#[]⟩] 40)) (fun h => h))
  rw [HBX.out] at HN
  have hne : ¬ bx = b := by omega
  obtain ⟨m, HM⟩ : ∃ m, Hid (gw s (8 * q) 2 = m) := ⟨_, rfl⟩
  obtain ⟨p, HP⟩ : ∃ p, Hid (gw s (8 * q + 2) 1 = p) := ⟨_, rfl⟩
  obtain ⟨c, HC⟩ : ∃ c, Hid (gw s (8 * q + 2 + 1) 5 = c) := ⟨_, rfl⟩
  obtain ⟨t, HT⟩ : ∃ t, Hid (gw s (8 * q + 2 + 1 + 5) 8 = t) := ⟨_, rfl⟩
  obtain ⟨n, HL⟩ : ∃ n : Int, Hid ((gw s (8 * q + 2 + 1 + 5 + 8) 16 : Int) = n) := ⟨_, rfl⟩
  have bm : (m : Int) < 4 := by have := gw_lt s (8 * q) 2; rw [HM.out] at this; omega
  have bp : (p : Int) < 2 := by have := gw_lt s (8 * q + 2) 1; rw [HP.out] at this; omega
  have bc : (c : Int) < 32 := by have := gw_lt s (8 * q + 2 + 1) 5; rw [HC.out] at this; omega
  have bt : (t : Int) < 256 := by have := gw_lt s (8 * q + 2 + 1 + 5) 8; rw [HT.out] at this; omega
  have bl : n < 65536 := by have := gw_lt s (8 * q + 2 + 1 + 5 + 8) 16; have := HL.out; omega
  have bl0 : 0 ≤ n := by have := HL.out; omega
  have HS := mkHid hs
  have HQ := mkHid hq
  clear h hs hq
  go_enter Try.func26, Try.ntmps26
  go_wp2_with fail
  rw [HBX.out]
  refine (get_at b s HS.out _ _ 2 rfl (by omega) _ R0.out).mono ?_
  rw [HM.out]
  rintro e w1 ⟨rfl, r1, a1⟩
  have R1 := mkHid r1
  have A1 := mkHid (A0.out.trans a1 (fun _ _ h => h))
  have N1 := mkHid (a1.heap HN.out hne)
  clear r1 a1 R0 A0 HN
  go_wp2_with fail
  refine (get_at b s HS.out _ _ 1 rfl (by omega) _ R1.out).mono ?_
  rw [HP.out]
  rintro e w2 ⟨rfl, r1, a1⟩
  have R2 := mkHid r1
  have A2 := mkHid (A1.out.trans a1 (fun _ _ h => h))
  have N2 := mkHid (a1.heap N1.out hne)
  clear r1 a1 R1 A1 N1
  go_wp2_with fail
  refine (get_at b s HS.out _ _ 5 rfl (by omega) _ R2.out).mono ?_
  rw [HC.out]
  rintro e w3 ⟨rfl, r1, a1⟩
  have R3 := mkHid r1
  have A3 := mkHid (A2.out.trans a1 (fun _ _ h => h))
  have N3 := mkHid (a1.heap N2.out hne)
  clear r1 a1 R2 A2 N2
  go_wp2_with fail
  refine (get_at b s HS.out _ _ 8 rfl (by omega) _ R3.out).mono ?_
  rw [HT.out]
  rintro e w4 ⟨rfl, r1, a1⟩
  have R4 := mkHid r1
  have A4 := mkHid (A3.out.trans a1 (fun _ _ h => h))
  have N4 := mkHid (a1.heap N3.out hne)
  clear r1 a1 R3 A3 N3
  go_wp2_with fail
  refine (get_at b s HS.out _ _ 16 rfl (by omega) _ R4.out).mono ?_
  rw [HL.out]
  rintro e w5 ⟨rfl, r1, a1⟩
  have R5 := mkHid r1
  have A5 := mkHid (A4.out.trans a1 (fun _ _ h => h))
  have N5 := mkHid (a1.heap N4.out hne)
  clear r1 a1 R4 A4 N4
  have BD := mkHid (bad_at b s _ _ R5.out)
  by_cases hl : (fr s q).length < 4
  · rw [badB_yes (by rw [fr_len] at hl; have := HQ.out; omega)] at BD
    have HE := mkHid (gE_short hl)
    clear hl
    go_wp2_with fail
    refine (BD.out).mono ?_
    rintro e w6 ⟨rfl, rfl⟩
    go_wp2
    refine ⟨rfl, .inr ⟨by rw [HE.out]; decide, by rw [HE.out]⟩, A5.out⟩
  · obtain ⟨x0, x1, x2, x3, x4⟩ := fr_bits s q (by omega)
    rw [HM.out] at x0
    rw [HP.out] at x1
    rw [HC.out] at x2
    rw [HT.out] at x3
    have HX0 := mkHid x0
    have HX1 := mkHid x1
    have HX2 := mkHid x2
    have HX3 := mkHid x3
    have HNN := mkHid (show (hN (fr s q) : Int) = n * 4 by have := HL.out; rw [x4] at this; unfold hN; omega)
    have HFL := mkHid (fr_len s q)
    have HL4 := mkHid hl
    have hz : q + 4 ≤ s.size := by rw [HFL.out] at hl; omega
    rw [badB_no (by omega)] at BD
    have LF := mkHid (left_any b s HS.out _ _ R5.out)
    obtain ⟨f, HF⟩ : ∃ f : Int, Hid ((s.size : Int) - q - 4 = f) := ⟨_, rfl⟩
    obtain ⟨lf, HLF⟩ : ∃ lf : Int, Hid (gleft s (At s (8 * q + 2 + 1 + 5 + 8 + 16)) = lf) := ⟨_, rfl⟩
    have e1 : gleft s (At s (8 * q + 2 + 1 + 5 + 8 + 16)) = 8 * f := by unfold At; rw [if_pos (by omega)]; simp only [gleft]; have := HF.out; omega
    rw [HLF.out] at LF e1
    have hf0 : 0 ≤ f := by have := HF.out; omega
    have hf1 : f ≤ 1000000 := by have := HF.out; have := HS.out; omega
    have hl0 : 0 ≤ lf := by omega
    have hl1 : lf ≤ 8000000 := by omega
    have hlf : lf / 8 = f := by omega
    have HZ := mkHid hz
    clear x0 x1 x2 x3 x4 hl e1 hz
    go_wp2_with fail
    refine (BD.out).mono ?_
    rintro e w6 ⟨rfl, rfl⟩
    by_cases h2 : f < n * 4
    · have HE := mkHid (gE_lacks HL4.out (by rw [HFL.out]; have := HNN.out; have := HF.out; omega))
      go_wp2_with fail
      refine (LF.out).mono ?_
      rintro e w7 ⟨rfl, nd, rfl⟩
      go_wp2
      refine ⟨rfl, .inr ⟨by rw [HE.out]; decide, by rw [HE.out]⟩, A5.out.drewN nd⟩
    · have H2 := mkHid (show ¬ (fr s q).length < 4 + hN (fr s q) by rw [HFL.out]; have := HNN.out; have := HF.out; omega)
      go_wp2_with fail
      refine (LF.out).mono ?_
      rintro e w7 ⟨rfl, nd, rfl⟩
      by_cases h3 : (m : Int) = 2
      · have H3 := mkHid (show ¬ bn (fr s q) 0 / 64 ≠ 2 by have := HX0.out; omega)
        have KW := mkHid (within_any t 192 223)
        by_cases h4 : (192 : Int) ≤ t ∧ (t : Int) ≤ 223
        · rw [inR_yes h4.1 h4.2] at KW
          have H4 := mkHid (show ¬ (bn (fr s q) 1 < 192 ∨ 223 < bn (fr s q) 1) by have := HX3.out; omega)
          obtain ⟨M, HMM⟩ : ∃ M, Hid (hN (fr s q) = M) := ⟨_, rfl⟩
          have hM : n * 4 = (M : Int) := by have := HNN.out; rw [HMM.out] at this; omega
          have hM1 : M ≤ 1000000 := by have := HMM.out; have := HF.out; have := HS.out; omega
          have GT := mkHid (gtext_any b s HS.out _ M hM1 _ (drew_rd nd R5.out))
          have HB1 := mkHid (show 4 + hN (fr s q) ≤ (fr s q).length by have := H2.out; omega)
          have HMI := mkHid hM
          rw [show 8 * q + 2 + 1 + 5 + 8 + 16 = 8 * (q + 4) by omega, show 8 * (q + 4) + 8 * M = 8 * (q + (4 + M)) by omega] at GT
          clear hM hM1 h4 BD
          go_wp2_with fail
          refine (KW.out _).mono ?_
          rintro e w8 ⟨rfl, rfl⟩
          go_wp2_with fail
          rw [HMI.out]
          refine (GT.out).mono ?_
          rintro e w9 ⟨rfl, r9, a9⟩
          have R9 := mkHid r9
          have A9 := mkHid ((A5.out.drewN nd).trans a9 (fun _ _ h => h))
          have N9 := mkHid (a9.heap (w := w6.drewN nd) N5.out hne)
          clear r9 a9 R5 A5 N5 LF
          obtain ⟨c0, c1, c2, f0, f1, f2⟩ := cells3 N9.out
          obtain ⟨d, HD⟩ : ∃ d, Hid (txS s (8 * (q + 4)) M = d) := ⟨_, rfl⟩
          rw [HD.out]
          by_cases h5 : (p : Int) = 1
          · have HPP := mkHid (show hP (fr s q) = true by have := HX1.out; simp [hP]; omega)
            have LF := mkHid (left_any b s HS.out _ _ R9.out)
            obtain ⟨lg, HLG⟩ : ∃ lg : Int, Hid (gleft s (At s (8 * (q + (4 + M)))) = lg) := ⟨_, rfl⟩
            have e1 : gleft s (At s (8 * (q + (4 + M)))) = 8 * ((fr s q).length - (4 + M) : Int) := by
              have h1 := HFL.out
              have h2 := HB1.out
              rw [HMM.out] at h2
              unfold At; rw [if_pos (by omega)]; simp only [gleft]; have := HQ.out; omega
            rw [HLG.out] at LF e1
            have HE1 := mkHid e1
            have hlg0 : 0 ≤ lg := by have := HB1.out; rw [HMM.out] at this; omega
            have hds := txS_size s (8 * (q + 4)) M
            rw [HD.out] at hds
            have HDS := mkHid hds
            clear e1 hds
            by_cases h6 : 0 < lg
            · have HE := mkHid (gE_pad HL4.out H2.out H3.out H4.out HPP.out (.inl (by rw [HMM.out]; have := HE1.out; omega)))
              go_wp2_with fail
              refine (LF.out).mono ?_
              rintro e w10 ⟨rfl, nd2, rfl⟩
              go_wp2
              refine ⟨rfl, .inr ⟨by rw [HE.out]; decide, by rw [HE.out]⟩, A9.out.drewN nd2⟩
            · have HLN := mkHid (show (fr s q).length = 4 + hN (fr s q) by have := HB1.out; rw [HMM.out] at this ⊢; have := HE1.out; omega)
              by_cases h7 : M = 0
              · have HE := mkHid (gE_pad HL4.out H2.out H3.out H4.out HPP.out (.inr (.inl (by rw [HMM.out]; exact h7))))
                have BR := mkHid (bared_empty d (by rw [HDS.out]; exact h7))
                clear h7
                go_wp2_with fail
                refine (LF.out).mono ?_
                rintro e w10 ⟨rfl, nd2, rfl⟩
                go_wp2_with fail
                refine (BR.out _).mono ?_
                rintro e w11 ⟨rfl, rfl⟩
                go_wp2
                refine ⟨rfl, .inr ⟨by rw [HE.out]; decide, by rw [HE.out]⟩, A9.out.drewN nd2⟩
              · have BR := mkHid (bared_some d (by rw [HDS.out]; omega) (by rw [HDS.out]; have := HMM.out; have := HB1.out; have := HFL.out; have := HS.out; omega) (hK (fr s q)) (by
                  have := body_last s q HB1.out (by rw [HMM.out]; omega)
                  rw [HMM.out, HD.out] at this
                  exact this))
                rw [HDS.out] at BR
                have H7 := mkHid h7
                clear h7
                obtain ⟨k, HK⟩ : ∃ k, Hid (hK (fr s q) = k) := ⟨_, rfl⟩
                rw [HK.out] at BR
                obtain ⟨db, HDB⟩ : ∃ db, Hid (d.extract 0 (M - k) = db) := ⟨_, rfl⟩
                rw [HDB.out] at BR
                go_wp2_with fail
                refine (LF.out).mono ?_
                rintro e w10 ⟨rfl, nd2, rfl⟩
                go_wp2_with fail
                refine (BR.out _).mono ?_
                rintro e w11 ⟨(⟨hk, rfl⟩ | ⟨hk, rfl⟩), rfl⟩
                · have HKK := mkHid hk
                  clear hk
                  have HE := mkHid (show gE (fr s q) = 0 from gE_is HB1.out (by have := H3.out; omega) (by have := H4.out; omega) (by have := H4.out; omega) (fun _ => by rw [HK.out]; have := HKK.out; have := HLN.out; rw [HMM.out] at this ⊢; omega))
                  have HG := mkHid (show pv (gP (fr s q)) = .agg #[.int .i64 c, .int .i64 t, .string db] by
                    unfold pv gP hD
                    have := body_bared s q k HB1.out
                    rw [HMM.out, HD.out, HDS.out, HDB.out] at this
                    rw [if_pos HPP.out, HK.out, HMM.out, ← this, ← HX2.out, ← HX3.out])
                  go_wp2
                  show bodyPost _ _ _ _ _ _
                  obtain ⟨s1, s2⟩ := store3 (w := w9.drewN nd2) N9.out (.int .i64 c) (.int .i64 t) (.string db)
                  refine bodyPost_ret (res26 _ rfl s1) rfl ⟨.inl ⟨HE.out, by rw [HG.out], ?_⟩, (A9.out.drewN nd2).trans s2 (fun i hi e => by rw [HBX.out] at hi; omega)⟩
                  rw [HMM.out]
                  exact (drew_rd nd2 R9.out).kept s2 (by omega)
                · have HE := mkHid (gE_pad HL4.out H2.out H3.out H4.out HPP.out (by rw [HK.out, HMM.out]; omega))
                  clear hk
                  go_wp2
                  refine ⟨rfl, .inr ⟨by rw [HE.out]; decide, by rw [HE.out]⟩, A9.out.drewN nd2⟩
          · have HPP := mkHid (show ¬ hP (fr s q) = true by have := HX1.out; simp [hP]; omega)
            have HE := mkHid (show gE (fr s q) = 0 from gE_is HB1.out (by have := H3.out; omega) (by have := H4.out; omega) (by have := H4.out; omega) (fun h => absurd h HPP.out))
            have HG := mkHid (show pv (gP (fr s q)) = .agg #[.int .i64 c, .int .i64 t, .string d] by
              unfold pv gP hD
              rw [if_neg HPP.out, Nat.sub_zero, ← HD.out, ← HMM.out, body_list s q HB1.out, ← HX2.out, ← HX3.out])
            go_wp2
            show bodyPost _ _ _ _ _ _
            obtain ⟨s1, s2⟩ := store3 N9.out (.int .i64 c) (.int .i64 t) (.string d)
            refine bodyPost_ret (res26 _ rfl s1) rfl ⟨.inl ⟨HE.out, by rw [HG.out], ?_⟩, A9.out.trans s2 (fun i hi e => by rw [HBX.out] at hi; omega)⟩
            rw [HMM.out]
            exact R9.out.kept s2 (by omega)
        · have HE := mkHid (gE_kind HL4.out H2.out H3.out (by have := HX3.out; omega))
          rw [inR_no h4] at KW
          go_wp2_with fail
          refine (KW.out _).mono ?_
          rintro e w8 ⟨rfl, rfl⟩
          go_wp2
          refine ⟨rfl, .inr ⟨by rw [HE.out]; decide, by rw [HE.out]⟩, A5.out.drewN nd⟩
      · have HE := mkHid (gE_mark HL4.out H2.out (by have := HX0.out; omega))
        go_wp2
        refine ⟨rfl, .inr ⟨by rw [HE.out]; decide, by rw [HE.out]⟩, A5.out.drewN nd⟩
end Go.Proofs.Ythapkeokgpnjgaa
