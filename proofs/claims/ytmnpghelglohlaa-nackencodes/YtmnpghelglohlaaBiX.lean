/-
  What a writer's functions do.
-/
import Derived.Test.YtmnpghelglohlaaBiV
namespace Go.Proofs.Ytmnpghelglohlaa
open Go.RowKit

theorem info5 : (Try.prog.info? 5).map (fun i => (i.zero, i.size, i.bytes)) = some (some (.int .u8 0), 1, 1) := by kernel_rfl
theorem frame74 (a : Act) (hs : a.tmps.size = 74) (hd : a.defers = []) : ∃ u : Nat → Value, (∀ i, a.tmps.getD i undef = u i) ∧ a = { tmps := #[u 0, u 1, u 2, u 3, u 4, u 5, u 6, u 7, u 8, u 9, u 10, u 11, u 12, u 13, u 14, u 15, u 16, u 17, u 18, u 19, u 20, u 21, u 22, u 23, u 24, u 25, u 26, u 27, u 28, u 29, u 30, u 31, u 32, u 33, u 34, u 35, u 36, u 37, u 38, u 39, u 40, u 41, u 42, u 43, u 44, u 45, u 46, u 47, u 48, u 49, u 50, u 51, u 52, u 53, u 54, u 55, u 56, u 57, u 58, u 59, u 60, u 61, u 62, u 63, u 64, u 65, u 66, u 67, u 68, u 69, u 70, u 71, u 72, u 73], defers := [] } := frame_of a 74 hs hd
set_option maxRecDepth 100000 in
set_option maxHeartbeats 1000000 in
theorem put_in (b : Nat) (v : Value) (l : List Bool) (x n : Nat) (h1 : n ≤ 64) (h2 : l.length + n ≤ 524288) (w : World) (h : Wr 67 w b v l) :
    Calls Try.prog 36 #[.pointer (some ⟨b, 0, none⟩), .int .u64 (x : Int), .int .i64 n] w fun e w' => e = .returned (.tuple #[]) ∧ ∃ v', Wr 67 w' b v' (l ++ bitsOf x n) ∧ Tch b v v' w w' := by
  obtain ⟨c0, c1, f0, f1⟩ := cells2 h.head
  have H := mkHid h
  have hl : (n : Int) ≤ 524288 - (l.length : Int) := by omega
  have hl1 : (l.length : Int) ≤ 524288 := by omega
  clear h
  go_enter Try.func36, Try.ntmps36
  go_wp2
  refine wp_scope_label 0 (fun a' w' => ∃ (m : Nat) (lc : List Bool) (vc : Value), (a'.tmps.size = 74 ∧ a'.defers = [] ∧ a'.tmps.getD 0 undef = .pointer (some { block := b, off := 0 }) ∧ a'.tmps.getD 1 undef = .int .u64 (x : Int) ∧ a'.tmps.getD 2 undef = .int .i64 (m : Int) ∧ a'.tmps.getD 3 undef = undef ∧ a'.tmps.getD 4 undef = undef ∧ a'.tmps.getD 5 undef = undef) ∧ Wr 67 w' b vc lc ∧ lc ++ bitsOf x m = l ++ bitsOf x n ∧ Tch b v vc w w' ∧ m ≤ 64) (fun a' _ => (intOf (a'.tmps.getD 2 undef)).toNat) rfl ?_ ?_
  · intro Q' hh
    have HH := mkHid hh
    clear hh
    go_wp2
    go_step3
    refine ‹∀ a w, Code.wp _ _ _ a w → _› _ _ (HH.out _ _ ?_)
    exact ⟨n, l, v, ⟨rfl, rfl, rfl, rfl, rfl, rfl, rfl, rfl⟩, H.out, rfl, Tch.refl _ _ _, h1⟩
  · clear c0 c1 f0 f1 H hl hl1
    rintro a' w' ⟨m, lc, vc, ⟨z, d, e0, e1, e2, e3, e4, e5⟩, hr, hc, ht, hm64⟩
    obtain ⟨u, hu, ha⟩ := frame74 a' z d
    rw [hu] at e0 e1 e2 e3 e4 e5
    rw [e0, e1, e2, e3, e4, e5] at ha
    clear z d hu e0 e1 e2 e3 e4 e5
    subst ha
    obtain ⟨c0, c1, f0, f1⟩ := cells2 hr.head
    have hlen : lc.length + m = l.length + n := by have := congrArg List.length hc; simpa using this
    have hbl := hr.lt
    have HR := mkHid hr
    have HC := mkHid hc
    have HT := mkHid ht
    clear hr hc ht
    by_cases hm0 : m = 0
    · subst hm0
      go_wp2
      simp only [Exit.jump]
      show bodyPost _ _ _ _ _ _
      refine bodyPost_ret (v := .tuple #[]) (by simp [results, go_sem]) rfl ⟨rfl, vc, ?_, HT.out⟩
      have := HC.out
      rw [← this, bitsOf, List.append_nil]
      exact HR.out
    · obtain ⟨q, Hq⟩ : ∃ q, Hid (lc.length / 8 = q) := ⟨_, rfl⟩
      obtain ⟨f, Hf⟩ : ∃ f, Hid (lc.length % 8 = f) := ⟨_, rfl⟩
      obtain ⟨L, HL⟩ : ∃ L, Hid (lc.length = L) := ⟨_, rfl⟩
      rw [HL.out] at Hq Hf hlen c1
      have hq : (L : Int) / 8 = (q : Nat) := by have := Hq.out; omega
      have hf : (L : Int) % 8 = (f : Nat) := by have := Hf.out; omega
      have hf1 : f < 8 := by have := Hf.out; omega
      go_upto_if 24 with fail
      go_cut [6] (fun s6 wc => s6 = .int .i64 (f : Int) ∧ ∃ g cap xs, Mid 67 wc b g cap lc xs ∧ Tch b vc (.slice (some ⟨g, 0, none⟩) (lc.length / 8 + 1) cap) w' wc)
      case first =>
        by_cases hf0 : f = 0
        · obtain ⟨i0, hi, hz0, hz1, hz2⟩ := info_parts info5
          have HO := mkHid (HR.out.own)
          go_wp2_with (at_builtin; refine wpList_append_own2 _ rfl (.tmp 29) (.tmp 30) 43 rfl (b + 1) 5 i0 (.int .u8 0) 1 1 Try.underlying43 hi hz0 hz1 hz2 rfl (by decide) vc ((lc.length + 7) / 8) ((pk lc).map vb) rfl (HO.out.alloc _) ⟨w'.heap.size, 0, none⟩ 1 1 [.int .u8 0] rfl rfl (cell_one_new _ _ _) (by intro u hu; simp at hu; subst hu; rfl) (by unfold maxLen; rw [HL.out]; omega) (by rw [HL.out]; omega) (by simp; omega) ?_; intro v1 w1 hown1 hgrow1 hnew1; obtain ⟨hd1, g, cap, hv1, hmid, htch⟩ := HR.out.grown (by rw [HL.out, Hf.out]; exact hf0) _ hown1 hgrow1 hnew1; subst hv1; obtain ⟨c0', c1', f0', f1'⟩ := cells2 hd1; have HM := mkHid hmid; have HT1 := mkHid htch; clear hown1 hgrow1 hnew1 hd1 hmid htch)
          go_meet
          case rel => exact ⟨by rw [hf0]; rfl, g, cap, _, HM.out, HT1.out⟩
        · go_wp2
          go_meet
          case rel =>
            obtain ⟨g, cap, rfl, hm⟩ := HR.out.mid (by rw [HL.out, Hf.out]; exact hf0)
            exact ⟨by first | rfl | rw [hf], g, cap, _, hm, Tch.refl _ _ _⟩
      case rest =>
        obtain ⟨rfl, g, cap, xs, hmid, htch⟩ := hcut
        obtain ⟨d0, d1, e0, e1⟩ := cells2 hmid.head
        have d2 := hmid.own.cellAt (lc.length / 8) (by omega)
        have e2 := hmid.own.frozenAt (lc.length / 8)
        rw [List.getElem?_map, hmid.last] at d2
        simp only [Option.map_some, vb] at d2
        rw [HL.out, Hq.out] at d0 d2 e2
        rw [HL.out] at d1
        have HB := mkHid (bv_lt lc q)
        obtain ⟨B, HB2⟩ : ∃ B, Hid (bv lc q = B) := ⟨_, rfl⟩
        rw [HB2.out] at d2
        have HM := mkHid hmid
        have HT1 := mkHid htch
        have hq2 : (q : Int) < (q : Int) + 1 := by omega
        clear hmid htch c0 c1 f0 f1
        have hgb := HM.out.lt.1
        have hgb1 : ¬ g = b := by omega
        have hgb2 : ¬ b = g := by omega
        by_cases hk : m ≤ 8 - f
        · go_wp2
          go_region
          go_wp2
          rw [or_byte B x m f (by have := HB.out; rw [HB2.out] at this; exact this) (by omega)]
          go_step3
          obtain ⟨k1, k2⟩ := HM.out.done x m (by omega) (by rw [HL.out, Hf.out]; omega) (by rw [HL.out]; omega) (((B ||| x % 2 ^ m * 2 ^ (8 - m) / 2 ^ f : Nat) : Int)) ((L : Int) + m) (by rw [HL.out, Hq.out, Hf.out, HB2.out]) (by rw [HL.out])
          rw [HL.out, Hq.out] at k1 k2
          have ht := HT1.out
          rw [HL.out, Hq.out] at ht
          refine ⟨rfl, ⟨0, _, _, ⟨rfl, rfl, rfl, rfl, rfl, rfl, rfl, rfl⟩, k1, ?_, (HT.out.trans ht).trans k2, by omega⟩, ?_⟩
          · rw [← HC.out, bitsOf, List.append_nil]
          · simp [intOf]; omega
        · obtain ⟨k, hk1⟩ : ∃ k : Nat, f + k = 8 := ⟨8 - f, by omega⟩
          obtain ⟨m', rfl⟩ : ∃ m', m = m' + k := ⟨m - k, by omega⟩
          have hk2 : (8 : Int) - f = k := by omega
          have hmin : min m' 64 = m' := by omega
          have hk3 : (k : Int) < ((m' + k : Nat) : Int) := by omega
          go_wp2
          go_region
          go_wp2
          have ey : ((x : Int) / 2 ^ m') = ((x / 2 ^ m' : Nat) : Int) := by simp
          rw [ey, or_byte B (x / 2 ^ m') k f (by have := HB.out; rw [HB2.out] at this; exact this) (by omega)]
          go_step3
          obtain ⟨k1, k2⟩ := HM.out.done (x / 2 ^ m') k (by omega) (by rw [HL.out, Hf.out]; omega) (by rw [HL.out]; omega) (((B ||| x / 2 ^ m' % 2 ^ k * 2 ^ (8 - k) / 2 ^ f : Nat) : Int)) ((L : Int) + k) (by rw [HL.out, Hq.out, Hf.out, HB2.out]) (by rw [HL.out])
          rw [HL.out, Hq.out] at k1 k2
          have ht := HT1.out
          rw [HL.out, Hq.out] at ht
          refine ⟨rfl, ⟨m', _, _, ⟨rfl, rfl, rfl, rfl, rfl, rfl, rfl, rfl⟩, k1, ?_, (HT.out.trans ht).trans k2, by omega⟩, ?_⟩
          · rw [← HC.out, Nat.add_comm m' k, bitsOf_split, List.append_assoc]
          · simp [intOf]; omega
end Go.Proofs.Ytmnpghelglohlaa
