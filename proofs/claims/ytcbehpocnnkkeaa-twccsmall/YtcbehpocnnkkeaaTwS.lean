/-
  What the functions that read all Status hand back.
-/
import Derived.Test.YtcbehpocnnkkeaaTwG
import Derived.Test.YtcbehpocnnkkeaaTwE
namespace Go.Proofs.Ytcbehpocnnkkeaa
open Go.RowKit

theorem left_at (b : Nat) (s : ByteArray) (hs : s.size ≤ 1000000) (p : Nat) (w : World) (h : Rd 86 w b s (some p)) (L : Int) (hL : 8 * (s.size : Int) - p = L) :
    Calls Try.prog 54 #[.pointer (some ⟨b, 0, none⟩)] w fun e w' => e = .returned (.int .i64 L) ∧ ∃ n, w' = w.drewN n := by
  have := left_any b s hs (some p) w h
  have e : gleft s (some p) = L := hL
  rw [e] at this
  exact this
set_option maxRecDepth 100000 in
set_option maxHeartbeats 400000 in
theorem getchunk_short (b : Nat) (s : ByteArray) (hs : s.size ≤ 1000000) (p n : Nat) (hp : 8 * s.size < p + 16) (w : World) (h : Rd 86 w b s (some p)) :
    Calls Try.prog 53 #[.pointer (some ⟨b, 0, none⟩), .int .i64 (n : Int)] w fun e w' => e = .returned (.tuple #[.slice none 0 0, .int .i64 60]) ∧ Apart (· = b) w w' := by
  obtain ⟨L, HL⟩ : ∃ L : Int, Hid (8 * (s.size : Int) - p = L) := ⟨_, rfl⟩
  have LF := mkHid (left_at b s hs p w h L HL.out)
  have hl : L < 16 := by have := HL.out; omega
  clear h
  go_enter Try.func53, Try.ntmps53
  go_wp2_with fail
  refine (LF.out).mono ?_
  rintro e w1 ⟨rfl, k1, rfl⟩
  go_wp2
  go_ret2
  exact ⟨rfl, (Apart.refl _ _).drewN k1⟩
/-- A piece's post behind what was read ahead of it. -/
theorem CkPost.on {b : Nat} {s : ByteArray} {o : Option (List Int)} {p' : Nat} {w w1 : World} {e : Ending} {w' : World} (h : CkPost b s o p' w1 e w') (ha : Apart (· = b) w w1) : CkPost b s o p' w e w' := ⟨h.1, ha.trans h.2 (fun _ _ h => h)⟩
set_option maxRecDepth 100000 in
set_option maxHeartbeats 400000 in
theorem getchunk_any (b : Nat) (s : ByteArray) (hs : s.size ≤ 1000000) (p n : Nat) (hn : 0 < n) (hn4 : n ≤ 4096) (hp : p + 16 ≤ 8 * s.size) (w : World) (h : Rd 86 w b s (some p)) :
    Calls Try.prog 53 #[.pointer (some ⟨b, 0, none⟩), .int .i64 (n : Int)] w (CkPost b s (ckD s p n) (p + 16) w) := by
  obtain ⟨L, HL⟩ : ∃ L : Int, Hid (8 * (s.size : Int) - p = L) := ⟨_, rfl⟩
  have LF := mkHid (left_at b s hs p w h L HL.out)
  have hl : 16 ≤ L := by have := HL.out; omega
  obtain ⟨o, HO⟩ : ∃ o, Hid (ckD s p n = o) := ⟨_, rfl⟩
  rw [HO.out]
  obtain ⟨y, HY⟩ : ∃ y, Hid (gv s p 1 = y) := ⟨_, rfl⟩
  obtain ⟨z, HZ⟩ : ∃ z, Hid (gv s (p + 1) 1 = z) := ⟨_, rfl⟩
  have hy : (y : Int) ≤ 1 := by have := gv_lt s p 1; rw [HY.out] at this; omega
  have hz : (z : Int) ≤ 1 := by have := gv_lt s (p + 1) 1; rw [HZ.out] at this; omega
  have H := mkHid h
  have G1 := mkHid (fun w h => get_fit b s hs p 1 1 rfl (by omega) (by omega) w h)
  have G2 := mkHid (fun w h => get_fit b s hs (p + 1) 1 1 rfl (by omega) (by omega) w h)
  rw [HY.out] at G1
  rw [HZ.out] at G2
  have GR := mkHid (fun w h => getrun_any b s hs (p + 1) n hn hn4 (by omega) w h)
  have GL := mkHid (fun w h => getrow_any 14 1 (.inl ⟨rfl, rfl⟩) b s hs (p + 2) n hn hn4 (by omega) w h)
  have GS := mkHid (fun w h => getrow_any 7 2 (.inr ⟨rfl, rfl⟩) b s hs (p + 2) n hn hn4 (by omega) w h)
  have HO0 := mkHid (show y = 0 → runD s (p + 1) n = o by intro e; rw [← HO.out]; unfold ckD; rw [HY.out, if_pos e])
  have HO1 := mkHid (show ¬ y = 0 → z = 0 → rowD s (p + 2) 1 14 n = o by intro e e2; rw [← HO.out]; unfold ckD; rw [HY.out, HZ.out, if_neg e, if_pos e2])
  have HO2 := mkHid (show ¬ y = 0 → ¬ z = 0 → rowD s (p + 2) 2 7 n = o by intro e e2; rw [← HO.out]; unfold ckD; rw [HY.out, HZ.out, if_neg e, if_neg e2])
  clear h
  go_enter Try.func53, Try.ntmps53
  go_wp2_with fail
  refine (LF.out).mono ?_
  rintro e w1 ⟨rfl, k1, rfl⟩
  have R1 := mkHid (drew_rd k1 H.out)
  have A1 := mkHid ((Apart.refl (· = b) w).drewN k1)
  obtain ⟨w1, HW1⟩ : ∃ w1, Hid (w.drewN k1 = w1) := ⟨_, rfl⟩
  rw [HW1.out] at R1 A1 ⊢
  clear H LF
  go_wp2_with fail
  refine (G1.out _ R1.out).mono ?_
  rintro e w2 ⟨rfl, r2, a2⟩
  have R2 := mkHid r2
  have A2 := mkHid (A1.out.trans a2 (fun _ _ h => h))
  clear r2 a2 R1 A1 G1
  by_cases h0 : y = 0
  · subst h0
    have HO0' := mkHid (HO0.out rfl)
    clear HO0 HO1 HO2
    go_wp2_with fail
    refine (GR.out _ R2.out).mono ?_
    rintro e w3 ⟨(⟨l, a, c, ho, rfl, src, r3⟩ | ⟨ho, rfl⟩), a3⟩
    · have HOL := mkHid ho
      have SRC := mkHid src
      have R3 := mkHid r3
      have A3 := mkHid a3
      clear ho src r3 a3
      obtain ⟨m, HM⟩ : ∃ m, Hid (l.length = m) := ⟨_, rfl⟩
      rw [HM.out]
      go_wp2
      go_ret2
      exact ⟨.inl ⟨l, a, c, HO0'.out.symm.trans HOL.out, by rw [HM.out]; rfl, SRC.out, R3.out⟩, A2.out.trans A3.out (fun _ _ h => h)⟩
    · have HOL := mkHid ho
      have A3 := mkHid a3
      clear ho a3
      go_wp2
      go_ret2
      exact ⟨.inr ⟨HO0'.out.symm.trans HOL.out, rfl⟩, A2.out.trans A3.out (fun _ _ h => h)⟩
  · have hy1 : (y : Int) = 1 := by omega
    have h0' : ((y : Int) == 0) = false := by simp; omega
    rw [hy1]
    go_wp2_with fail
    refine (G2.out _ R2.out).mono ?_
    rintro e w3 ⟨rfl, r3, a3⟩
    have R3 := mkHid (show Rd 86 w3 b s (some (p + 2)) from r3)
    have A3 := mkHid (A2.out.trans a3 (fun _ _ h => h))
    clear r3 a3 R2 A2 G2
    by_cases h1 : z = 0
    · subst h1
      have HO0' := mkHid (HO1.out h0 rfl)
      clear HO0 HO1 HO2
      go_wp2_with fail
      refine (GL.out _ R3.out).mono ?_
      rintro e w4 ⟨(⟨l, a, c, ho, rfl, src, r4⟩ | ⟨ho, rfl⟩), a4⟩
      · have HOL := mkHid ho
        have SRC := mkHid src
        have R4 := mkHid r4
        have A4 := mkHid a4
        clear ho src r4 a4
        obtain ⟨m, HM⟩ : ∃ m, Hid (l.length = m) := ⟨_, rfl⟩
        rw [HM.out]
        go_wp2
        go_ret2
        exact ⟨.inl ⟨l, a, c, HO0'.out.symm.trans HOL.out, by rw [HM.out]; rfl, SRC.out, R4.out⟩, A3.out.trans A4.out (fun _ _ h => h)⟩
      · have HOL := mkHid ho
        have A4 := mkHid a4
        clear ho a4
        go_wp2
        go_ret2
        exact ⟨.inr ⟨HO0'.out.symm.trans HOL.out, rfl⟩, A3.out.trans A4.out (fun _ _ h => h)⟩
    · have HO0' := mkHid (HO2.out h0 h1)
      have hz1 : (z : Int) = 1 := by omega
      clear HO0 HO1 HO2
      rw [hz1]
      go_wp2_with fail
      refine (GS.out _ R3.out).mono ?_
      rintro e w4 ⟨(⟨l, a, c, ho, rfl, src, r4⟩ | ⟨ho, rfl⟩), a4⟩
      · have HOL := mkHid ho
        have SRC := mkHid src
        have R4 := mkHid r4
        have A4 := mkHid a4
        clear ho src r4 a4
        obtain ⟨m, HM⟩ : ∃ m, Hid (l.length = m) := ⟨_, rfl⟩
        rw [HM.out]
        go_wp2
        go_ret2
        exact ⟨.inl ⟨l, a, c, HO0'.out.symm.trans HOL.out, by rw [HM.out]; rfl, SRC.out, R4.out⟩, A3.out.trans A4.out (fun _ _ h => h)⟩
      · have HOL := mkHid ho
        have A4 := mkHid a4
        clear ho a4
        go_wp2
        go_ret2
        exact ⟨.inr ⟨HO0'.out.symm.trans HOL.out, rfl⟩, A3.out.trans A4.out (fun _ _ h => h)⟩
theorem stD_end (s : ByteArray) (p : Nat) : stD s 0 p 0 = ⟨0, [], p⟩ := rfl
theorem stD_short {s : ByteArray} {p n : Nat} (hn : 0 < n) (h : 8 * s.size < p + 16) : stD s n p n = ⟨60, [], p⟩ := by
  obtain ⟨m, rfl⟩ : ∃ m, n = m + 1 := ⟨n - 1, by omega⟩
  rw [stD, if_neg (by omega), if_pos h]
theorem stD_bad {s : ByteArray} {p n : Nat} (hn : 0 < n) (h : p + 16 ≤ 8 * s.size) (hc : ckD s p n = none) : stD s n p n = ⟨100, [], p⟩ := by
  obtain ⟨m, rfl⟩ : ∃ m, n = m + 1 := ⟨n - 1, by omega⟩
  rw [stD, if_neg (by omega), if_neg (by omega), hc]
theorem stD_more {s : ByteArray} {p n : Nat} {l : List Int} (hn : 0 < n) (h : p + 16 ≤ 8 * s.size) (hc : ckD s p n = some l) :
    stD s n p n = ⟨(stD s (n - l.length) (p + 16) (n - l.length)).e, l ++ (stD s (n - l.length) (p + 16) (n - l.length)).l, (stD s (n - l.length) (p + 16) (n - l.length)).p⟩ := by
  have hl := (ckD_len hc hn).1
  obtain ⟨m, rfl⟩ : ∃ m, n = m + 1 := ⟨n - 1, by omega⟩
  rw [stD, if_neg (by omega), if_neg (by omega), hc]
  simp only [stD_same s m (m + 1 - l.length) (p + 16) (m + 1 - l.length) (by omega) (Nat.le_refl _)]
theorem own_ia {w : World} {B : Nat} {v : Value} {n : Nat} {l : List Int} (h : w.ownsRow B 3 1 v n (IC l)) : ∃ a c, v = .slice a l.length c ∧ IA w.heap.size w a c l := by
  have hl : l.length = n := by have := h.1; simpa using this
  rcases h.2 with ⟨rfl, rfl⟩ | ⟨g, cap, cur, rfl, _, hg, hn, hc, _, ht⟩
  · obtain rfl := List.eq_nil_of_length_eq_zero hl
    exact ⟨none, 0, rfl, IA.nil _ _ _ _ (Nat.zero_le _)⟩
  · refine ⟨some ⟨g, 0, none⟩, cap, by rw [hl], by omega, hc, .inr ⟨g, 0, rfl, lt_of_heap hg, fun i x hi => ?_⟩⟩
    have hin : i < n := by rw [← hl]; exact (List.getElem?_eq_some_iff.1 hi).1
    rw [Nat.zero_add, cell_of_row w g i cur 3 _ hg]
    have e : (cur.toList.take (n * 1))[i]? = (IC l)[i]? := by rw [ht]
    rw [List.getElem?_take, if_pos (by omega)] at e
    rw [← Array.getElem?_toList, e]
    simp [IC, hi]
def lenV : Value → Nat
  | .slice _ n _ => n
  | _ => 0
/-- What getStatus leaves behind. -/
def StPost (b : Nat) (s : ByteArray) (R : Rs) (w : World) (e : Ending) (w' : World) : Prop :=
  ((R.e = 0 ∧ ∃ (a : Option Addr) (c : Nat), e = .returned (.tuple #[.slice a R.l.length c, .int .i64 0]) ∧ Rd 86 w' b s (some R.p) ∧ w'.ownsRow w.heap.size 3 1 (.slice a R.l.length c) R.l.length (IC R.l)) ∨
   (¬ R.e = 0 ∧ e = .returned (.tuple #[.slice none 0 0, .int .i64 R.e]))) ∧ Apart (· = b) w w'
theorem frame29 (a : Act) (hs : a.tmps.size = 29) (hd : a.defers = []) : ∃ u : Nat → Value, (∀ i, a.tmps.getD i undef = u i) ∧ a = { tmps := #[u 0, u 1, u 2, u 3, u 4, u 5, u 6, u 7, u 8, u 9, u 10, u 11, u 12, u 13, u 14, u 15, u 16, u 17, u 18, u 19, u 20, u 21, u 22, u 23, u 24, u 25, u 26, u 27, u 28], defers := [] } := frame_of a 29 hs hd
theorem info3' : ∃ i, Try.prog.info? 3 = some i ∧ i.zero = some (.int .i64 0) ∧ i.size = 1 ∧ i.bytes = 8 := by
  obtain ⟨i, hi, hh⟩ := Option.map_eq_some_iff.1 info3
  simp only [Prod.mk.injEq] at hh
  exact ⟨i, hi, hh.1, hh.2.1, hh.2.2⟩
set_option maxRecDepth 100000 in
set_option maxHeartbeats 1000000 in
theorem getstatus_any (b : Nat) (s : ByteArray) (hs : s.size ≤ 1000000) (n : Nat) (hn4 : n ≤ 4096) (p0 : Nat) (w : World) (h : Rd 86 w b s (some p0)) :
    Calls Try.prog 37 #[.pointer (some ⟨b, 0, none⟩), .int .i64 (n : Int)] w (StPost b s (stD s n p0 n) w) := by
  have hbl := h.heap
  have H := mkHid h
  obtain ⟨R, HR⟩ : ∃ R, Hid (stD s n p0 n = R) := ⟨_, rfl⟩
  rw [HR.out]
  obtain ⟨B, HB⟩ : ∃ B, Hid (w.heap.size = B) := ⟨_, rfl⟩
  rw [HB.out] at hbl
  obtain ⟨i0, hi, hz0, hz1, hz2⟩ := info3'
  clear h
  go_enter Try.func37, Try.ntmps37
  go_wp2
  refine wp_scope_label 0 (fun a' w' => ∃ (p : Nat) (acc : List Int) (v : Value), (a'.tmps.size = 29 ∧ a'.defers = [] ∧ a'.tmps.getD 0 undef = .pointer (some ⟨b, 0, none⟩) ∧ a'.tmps.getD 1 undef = .int .i64 (n : Int) ∧ a'.tmps.getD 4 undef = .slice none 0 0 ∧ a'.tmps.getD 5 undef = .int .i64 0 ∧ a'.tmps.getD 6 undef = v) ∧ acc.length ≤ n ∧ R = ⟨(stD s (n - acc.length) p (n - acc.length)).e, acc ++ (stD s (n - acc.length) p (n - acc.length)).l, (stD s (n - acc.length) p (n - acc.length)).p⟩ ∧ Rd 86 w' b s (some p) ∧ w'.ownsRow B 3 1 v acc.length (IC acc) ∧ Apart (· = b) w w') (fun a' _ => n - lenV (a'.tmps.getD 6 undef)) rfl ?_ ?_
  · intro Q' hh
    have HH := mkHid hh
    clear hh
    go_wp2
    go_step3
    refine ‹∀ a w, Code.wp _ _ _ a w → _› _ _ (HH.out _ _ ?_)
    exact ⟨p0, [], .slice none 0 0, ⟨rfl, rfl, rfl, rfl, rfl, rfl, rfl⟩, Nat.zero_le _, HR.out.symm, H.out, World.ownsRow_nil _ _ _ _, Apart.refl _ _⟩
  · rintro a' w' ⟨p, acc, v, ⟨z, d, e0, e1, e4, e5, e6⟩, hal, hR, hr, how, hap⟩
    obtain ⟨u, hu, ha⟩ := frame29 a' z d
    rw [hu] at e0 e1 e4 e5 e6
    rw [e0, e1, e4, e5, e6] at ha
    clear z d hu e0 e1 e4 e5 e6
    subst ha
    have HRR := mkHid hR
    have HRD := mkHid hr
    have HOW := mkHid how
    have HAP := mkHid hap
    have HAL := mkHid hal
    obtain ⟨va, vc, HV⟩ := ownsRow_slice how
    subst HV
    have hBw : B ≤ w'.heap.size := by rw [← HB.out]; exact hap.size
    clear hR hr how hap H
    obtain ⟨m, HM⟩ : ∃ m, Hid (acc.length = m) := ⟨_, rfl⟩
    rw [HM.out] at hal HRR
    have HVN := mkHid (show (.slice va acc.length vc : Value) = .slice va m vc by rw [HM.out])
    rw [HVN.out] at HOW ⊢
    by_cases hmn : m = n
    · subst hmn
      have e0 : m - m = 0 := Nat.sub_self m
      rw [e0, stD_end, List.append_nil] at HRR
      clear e0
      go_wp2
      simp only [Exit.jump]
      go_ret2
      rw [HRR.out]
      exact ⟨.inl ⟨rfl, va, vc, by rw [HM.out]; rfl, HRD.out, by rw [HB.out, HM.out]; have := HOW.out; rw [HM.out] at this; exact this⟩, HAP.out⟩
    · have hmn' : ¬ (m : Int) = n := by omega
      obtain ⟨k, HK⟩ : ∃ k, Hid (n - m = k) := ⟨_, rfl⟩
      rw [HK.out] at HRR
      have hk : (n : Int) - m = k := by have := HK.out; omega
      have hk0 : 0 < k := by omega
      have hk4 : k ≤ 4096 := by omega
      by_cases hp : p + 16 ≤ 8 * s.size
      · have GC := mkHid (getchunk_any b s hs p k hk0 hk4 hp w' HRD.out)
        obtain ⟨o, HO⟩ : ∃ o, Hid (ckD s p k = o) := ⟨_, rfl⟩
        rw [HO.out] at GC
        go_wp2_with fail
        refine (GC.out).mono ?_
        rintro e w2 ⟨(⟨l, a, c, rfl, rfl, src, r2⟩ | ⟨rfl, rfl⟩), a2⟩
        · have SRC := mkHid src
          have R2 := mkHid r2
          have A2 := mkHid (HAP.out.trans a2 (fun _ _ h => h))
          have O2 := mkHid (ownsRow_apart HOW.out a2 (by intro k hk e; omega))
          have hB2 : B ≤ w2.heap.size := by have := a2.size; omega
          have HLL := mkHid (ckD_len HO.out hk0)
          have HMR := mkHid (stD_more hk0 hp HO.out)
          clear src r2 a2 GC HRD HAP HOW hBw
          obtain ⟨q, HQ⟩ : ∃ q, Hid (l.length = q) := ⟨_, rfl⟩
          rw [HQ.out] at HLL HMR
          have HSN := mkHid (show SrcN w2 1 (.slice a q c) q (IC l) by rw [← HQ.out]; exact SRC.out)
          rw [HQ.out]
          have HQK := mkHid (show 0 < q ∧ q ≤ k from ⟨HLL.out.1, HLL.out.2.1⟩)
          go_wp2_with (at_builtin; refine wpList_append_onto _ rfl (.tmp 26) (.tmp 27) 23 rfl B 3 i0 (.int .i64 0) 1 8 Try.underlying23 hi hz0 hz1 hz2 rfl (by decide) (.slice va m vc) acc.length (IC acc) rfl O2.out (.slice a q c) q (IC l) rfl HSN.out IC_one (by unfold maxLen; have := HAL.out; have := HQK.out; omega) (by have := HAL.out; have := HQK.out; omega) hB2 ?_; intro v3 w3 hown3 hgrow3; have OW3 := mkHid hown3; have GR3 := mkHid hgrow3; clear hown3 hgrow3)
          have A3 : Apart (fun j => (Value.slice va m vc).ownBlock = some j) w2 w3 := Apart.grown (Apart.refl _ w2) GR3.out (fun _ _ e => e)
          have LT : ∀ j, (Value.slice va m vc).ownBlock = some j → B ≤ j := fun j e => (O2.out.lt j e).1
          go_step3
          refine ⟨rfl, ⟨p + 16, acc ++ l, v3, ⟨rfl, rfl, rfl, rfl, rfl, rfl, rfl⟩, ?_, ?_, ?_, ?_, ?_⟩, ?_⟩
          · have := HQK.out; rw [List.length_append, HM.out, HQ.out]; have := HK.out; omega
          · rw [HRR.out, HMR.out, List.length_append, HM.out, HQ.out]
            have e : n - (m + q) = k - q := by have := HK.out; omega
            rw [e, List.append_assoc]
          · exact R2.out.kept A3 (fun e => by have := LT b e; omega)
          · rw [List.length_append, HQ.out, IC_app]; exact OW3.out
          · exact A2.out.trans A3 (fun i hi e => by have := LT i e; rw [HB.out] at hi; omega)
          · obtain ⟨a3, c3, hv3⟩ := ownsRow_slice OW3.out
            subst hv3
            have := HQK.out
            have := HM.out
            have := HK.out
            show n - (acc.length + q) < n - m
            omega
        · have HF := mkHid (stD_bad hk0 hp HO.out)
          have A2 := mkHid (HAP.out.trans a2 (fun _ _ h => h))
          rw [HF.out] at HRR
          clear a2 GC
          go_wp2
          simp only [Exit.jump]
          go_ret2
          rw [HRR.out]
          exact ⟨.inr ⟨by simp, rfl⟩, A2.out⟩
      · have GC := mkHid (getchunk_short b s hs p k (by omega) w' HRD.out)
        have HF := mkHid (stD_short (s := s) (p := p) hk0 (by omega))
        rw [HF.out] at HRR
        go_wp2_with fail
        refine (GC.out).mono ?_
        rintro e w2 ⟨rfl, a2⟩
        have A2 := mkHid (HAP.out.trans a2 (fun _ _ h => h))
        clear a2 GC
        go_wp2
        simp only [Exit.jump]
        go_ret2
        rw [HRR.out]
        exact ⟨.inr ⟨by simp, rfl⟩, A2.out⟩
end Go.Proofs.Ytcbehpocnnkkeaa
