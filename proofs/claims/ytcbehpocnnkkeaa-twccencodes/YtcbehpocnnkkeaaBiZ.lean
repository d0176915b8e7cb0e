/-
  What the functions of the reference's writer do.
-/
import Derived.Test.YtcbehpocnnkkeaaBiY
namespace Go.Proofs.Ytcbehpocnnkkeaa
open Go.RowKit

theorem or_bit (B f : Nat) (c : Nat) (hB : B < 256) (hf : f < 8) (hc : c < 2) :
    bits .or .u8 (B : Int) ((c : Int) * 2 ^ (7 - f) % 256) = ((B ||| c % 2 ^ 1 * 2 ^ (8 - 1) / 2 ^ f : Nat) : Int) := by
  have e1 : c % 2 ^ 1 = c := by omega
  have e2 : c * 2 ^ (8 - 1) / 2 ^ f = c * 2 ^ (7 - f) := by
    have : 8 - 1 = (7 - f) + f := by omega
    rw [this, Nat.pow_add, ← Nat.mul_assoc, Nat.mul_div_cancel _ (Nat.two_pow_pos _)]
  have l1 : c * 2 ^ (7 - f) < 256 := by
    have : 2 ^ (7 - f) ≤ 2 ^ 7 := Nat.pow_le_pow_right (by decide) (by omega)
    have h2 : c * 2 ^ (7 - f) ≤ 1 * 2 ^ (7 - f) := Nat.mul_le_mul_right _ (by omega)
    omega
  have e3 : ((c : Int) * 2 ^ (7 - f) % 256) = ((c * 2 ^ (7 - f) : Nat) : Int) := by
    have : ((c : Int) * 2 ^ (7 - f)) = ((c * 2 ^ (7 - f) : Nat) : Int) := by simp
    rw [this]; omega
  rw [e1, e2, e3, u8_or_nat _ _ hB l1]
set_option maxRecDepth 100000 in
set_option maxHeartbeats 1000000 in
theorem bit_any (b : Nat) (v : Value) (l : List Bool) (c : Nat) (hc : c < 2) (h2 : l.length + 1 ≤ 524288) (w : World) (h : Wr 82 w b v l) :
    Calls Try.prog 49 #[.pointer (some ⟨b, 0, none⟩), .int .u8 (c : Int)] w fun e w' => e = .returned (.tuple #[]) ∧ ∃ v', Wr 82 w' b v' (l ++ bitsOf c 1) ∧ Tch b v v' w w' := by
  obtain ⟨c0, c1, f0, f1⟩ := cells2 h.head
  have hbl := h.lt
  have HR := mkHid h
  clear h
  obtain ⟨q, Hq⟩ : ∃ q, Hid (l.length / 8 = q) := ⟨_, rfl⟩
  obtain ⟨f, Hf⟩ : ∃ f, Hid (l.length % 8 = f) := ⟨_, rfl⟩
  obtain ⟨L, HL⟩ : ∃ L, Hid (l.length = L) := ⟨_, rfl⟩
  rw [HL.out] at Hq Hf c1
  rw [HL.out] at h2
  have hq : (L : Int) / 8 = (q : Nat) := by have := Hq.out; omega
  have hf : (L : Int) % 8 = (f : Nat) := by have := Hf.out; omega
  have hf1 : f < 8 := by have := Hf.out; omega
  go_enter Try.func49, Try.ntmps49
  go_upto_if 9 with fail
  go_cut [] (fun wc => ∃ g cap xs, Mid 82 wc b g cap l xs ∧ Tch b v (.slice (some ⟨g, 0, none⟩) (l.length / 8 + 1) cap) w wc)
  case first =>
    by_cases hf0 : f = 0
    · obtain ⟨i0, hi, hz0, hz1, hz2⟩ := info_parts info5
      have HO := mkHid (HR.out.own)
      go_wp2_with (at_builtin; refine wpList_append_own2 _ rfl (.tmp 14) (.tmp 15) 71 rfl (b + 1) 5 i0 (.int .u8 0) 1 1 Try.underlying71 hi hz0 hz1 hz2 rfl (by decide) v ((l.length + 7) / 8) ((pk l).map vb) rfl (HO.out.alloc _) ⟨w.heap.size, 0, none⟩ 1 1 [.int .u8 0] rfl rfl (cell_one_new _ _ _) (by intro u hu; simp at hu; subst hu; rfl) (by unfold maxLen; rw [HL.out]; omega) (by rw [HL.out]; omega) (by simp; omega) ?_; intro v1 w1 hown1 hgrow1 hnew1; obtain ⟨hd1, g, cap, hv1, hmid, htch⟩ := HR.out.grown (by rw [HL.out, Hf.out]; exact hf0) _ hown1 hgrow1 hnew1; subst hv1; obtain ⟨c0', c1', f0', f1'⟩ := cells2 hd1; have HM := mkHid hmid; have HT1 := mkHid htch; clear hown1 hgrow1 hnew1 hd1 hmid htch)
      go_meet
      case rel => exact ⟨g, cap, _, HM.out, HT1.out⟩
    · go_wp2
      go_meet
      case rel =>
        obtain ⟨g, cap, rfl, hm⟩ := HR.out.mid (by rw [HL.out, Hf.out]; exact hf0)
        exact ⟨g, cap, _, hm, Tch.refl _ _ _⟩
  case rest =>
    obtain ⟨g, cap, xs, hmid, htch⟩ := hcut
    obtain ⟨d0, d1, e0, e1⟩ := cells2 hmid.head
    have d2 := hmid.own.cellAt (l.length / 8) (by omega)
    have e2 := hmid.own.frozenAt (l.length / 8)
    rw [List.getElem?_map, hmid.last] at d2
    simp only [Option.map_some, vb] at d2
    rw [HL.out, Hq.out] at d0 d2 e2
    rw [HL.out] at d1
    have HB := mkHid (bv_lt l q)
    obtain ⟨B, HB2⟩ : ∃ B, Hid (bv l q = B) := ⟨_, rfl⟩
    rw [HB2.out] at d2
    have HM := mkHid hmid
    have HT1 := mkHid htch
    have hq2 : (q : Int) < (q : Int) + 1 := by omega
    clear hmid htch c0 c1 f0 f1
    have hgb := HM.out.lt.1
    have hgb1 : ¬ g = b := by omega
    have hgb2 : ¬ b = g := by omega
    go_wp2
    go_region
    go_wp2
    go_returns
    rw [or_bit B f c (by have := HB.out; rw [HB2.out] at this; exact this) hf1 hc]
    obtain ⟨k1, k2⟩ := HM.out.done c 1 (by omega) (by rw [HL.out, Hf.out]; omega) (by rw [HL.out]; omega) (((B ||| c % 2 ^ 1 * 2 ^ (8 - 1) / 2 ^ f : Nat) : Int)) ((L : Int) + 1) (by rw [HL.out, Hq.out, Hf.out, HB2.out]) (by rw [HL.out]; rfl)
    rw [HL.out, Hq.out] at k1 k2
    have ht := HT1.out
    rw [HL.out, Hq.out] at ht
    exact ⟨rfl, _, k1, ht.trans k2⟩
theorem rwrite_any (w : World) :
    Calls Try.prog 24 #[] w fun e w' => e = .returned (.pointer (some ⟨w.heap.size, 0, none⟩)) ∧ Wr 82 w' w.heap.size (.slice none 0 0) [] ∧ Apart (fun _ => False) w w' ∧ w'.heap.size = w.heap.size + 1 := by
  go_enter Try.func24, Try.ntmps24
  go_wp2
  go_ret
  exact ⟨rfl, ⟨heap_alloc_new _ _, World.ownsRow_nil _ _ _ _, Nat.zero_le _⟩, (Apart.refl _ _).alloc _, by simp⟩
theorem rtext_any (b : Nat) (v : Value) (l : List Bool) (w : World) (h : Wr 82 w b v l) :
    Calls Try.prog 29 #[.pointer (some ⟨b, 0, none⟩)] w fun e w' => e = .returned (.string (packS l)) ∧ w' = w := by
  obtain ⟨c0, c1, f0, f1⟩ := cells2 h.head
  have hc := h.conv
  generalize packS l = s at *
  clear h
  go_enter Try.func29, Try.ntmps29
  go_wp2
  go_ret
  exact ⟨rfl, rfl⟩
theorem bit_of (x j : Nat) : (x / 2 ^ j % 2) < 2 := Nat.mod_lt _ (by decide)
theorem and_bit (x : Int) (x0 : 0 ≤ x) (x1 : x < 4294967296) (j : Nat) : bits .and .u32 (x / 2 ^ j) 1 % 256 = ((x.toNat / 2 ^ j % 2 : Nat) : Int) := by
  obtain ⟨X, rfl⟩ : ∃ X : Nat, x = X := ⟨x.toNat, by omega⟩
  have e1 : ((X : Int) / 2 ^ j) = ((X / 2 ^ j : Nat) : Int) := by simp
  have l1 : X / 2 ^ j < 4294967296 := Nat.lt_of_le_of_lt (Nat.div_le_self _ _) (by omega)
  have e2 := u32_and_nat (X / 2 ^ j) 1 l1 (by decide)
  rw [Nat.and_one_is_mod] at e2
  have e3 : bits .and .u32 ((X / 2 ^ j : Nat) : Int) 1 = ((X / 2 ^ j % 2 : Nat) : Int) := e2
  rw [e1, e3, Int.toNat_natCast]
  have := bit_of X j
  omega
set_option maxRecDepth 100000 in
set_option maxHeartbeats 1000000 in
theorem rput_in (b : Nat) (v : Value) (l : List Bool) (x : Int) (n : Nat) (x0 : 0 ≤ x) (x1 : x < 4294967296) (h1 : n ≤ 32) (h2 : l.length + n ≤ 524288) (w : World) (h : Wr 82 w b v l) :
    Calls Try.prog 25 #[.pointer (some ⟨b, 0, none⟩), .int .u32 x, .int .i64 n] w fun e w' => e = .returned (.tuple #[]) ∧ ∃ v', Wr 82 w' b v' (l ++ bitsOf x.toNat n) ∧ Tch b v v' w w' := by
  obtain ⟨c0, c1, f0, f1⟩ := cells2 h.head
  have H := mkHid h
  have hl : (n : Int) ≤ 524288 - (l.length : Int) := by omega
  have hl1 : (l.length : Int) ≤ 524288 := by omega
  clear h
  go_enter Try.func25, Try.ntmps25
  go_wp2
  clear c0 c1 f0 f1 hl hl1
  go_loopw [6] (fun i wr => ∃ (j : Nat) (vc : Value) (lc : List Bool), j ≤ n ∧ i = .int .i64 ((j : Int) - 1) ∧ Wr 82 wr b vc lc ∧ lc ++ bitsOf x.toNat j = l ++ bitsOf x.toNat n ∧ Tch b v vc w wr) (fun i _ => (intOf i + 1).toNat)
  case atStart => exact ⟨n, v, l, Nat.le_refl _, rfl, H.out, rfl, Tch.refl _ _ _⟩
  case round =>
    obtain ⟨j, vc, lc, hj, rfl, hw, hlist, ht⟩ := hrel
    have HW := mkHid hw
    have HLI := mkHid hlist
    have HT := mkHid ht
    have hlen : lc.length + j = l.length + n := by have := congrArg List.length hlist; simpa using this
    clear hw hlist ht H
    cases j with
    | zero =>
      rw [show (((0 : Nat) : Int) - 1) = -1 from rfl]
      go_wp2
      go_returns
      refine ⟨rfl, vc, ?_, HT.out⟩
      rw [← HLI.out, bitsOf, List.append_nil]
      exact HW.out
    | succ j =>
      rw [show (((j + 1 : Nat) : Int) - 1) = (j : Int) from by omega]
      have hmin : min j 32 = j := by omega
      obtain ⟨c, he, HC⟩ : ∃ c : Nat, bits .and .u32 (x / 2 ^ j) 1 % 256 = (c : Int) ∧ Hid (c = x.toNat / 2 ^ j % 2) := ⟨_, and_bit x x0 x1 j, rfl⟩
      go_wp2_with fail
      refine (bit_any b vc lc c (by rw [HC.out]; exact bit_of _ _) (by omega) _ HW.out).mono ?_
      rintro e w2 ⟨rfl, v2, h3, t3⟩
      have H3 := mkHid h3
      have T3 := mkHid (HT.out.trans t3)
      clear h3 t3
      go_wp2
      go_roundw
      case rel =>
        refine ⟨j, v2, _, by omega, by go_num, H3.out, ?_, T3.out⟩
        have e1 : bitsOf c 1 = bitsOf (x.toNat / 2 ^ j) 1 := by rw [HC.out]; exact bitsOf_mod _ 1 1 (Nat.le_refl _)
        rw [← HLI.out, e1, List.append_assoc, ← bitsOf_split, Nat.add_comm]
      case measure => simp [intOf]
theorem rput_out (b : Nat) (v : Value) (l : List Bool) (x n : Int) (hn : ¬ (0 ≤ n ∧ n ≤ 32 ∧ (l.length : Int) + n ≤ 524288)) (w : World) (h : Wr 82 w b v l) :
    Calls Try.prog 25 #[.pointer (some ⟨b, 0, none⟩), .int .u32 x, .int .i64 n] w fun e w' => e = .returned (.tuple #[]) ∧ w' = w := by
  obtain ⟨c0, c1, f0, f1⟩ := cells2 h.head
  have hl1 : (l.length : Int) ≤ 524288 := by have := h.most; omega
  clear h
  by_cases h1 : n < 0
  · clear hn
    go_enter Try.func25, Try.ntmps25
    go_wp2
    go_returns
    exact ⟨rfl, rfl⟩
  · by_cases h2 : 32 < n
    · clear hn
      go_enter Try.func25, Try.ntmps25
      go_wp2
      go_returns
      exact ⟨rfl, rfl⟩
    · have h3 : 524288 - (l.length : Int) < n := by omega
      clear hn
      go_enter Try.func25, Try.ntmps25
      go_wp2
      go_returns
      exact ⟨rfl, rfl⟩
theorem rput_any (b : Nat) (v : Value) (l : List Bool) (x n : Int) (x0 : 0 ≤ x) (x1 : x < 4294967296) (w : World) (h : Wr 82 w b v l) :
    Calls Try.prog 25 #[.pointer (some ⟨b, 0, none⟩), .int .u32 x, .int .i64 n] w fun e w' => e = .returned (.tuple #[]) ∧ ∃ v', Wr 82 w' b v' (putS l x.toNat n) ∧ Tch b v v' w w' := by
  by_cases hc : 0 ≤ n ∧ n ≤ 32 ∧ (l.length : Int) + n ≤ 524288
  · unfold putS
    rw [if_pos hc]
    obtain ⟨m, rfl⟩ : ∃ m : Nat, n = m := ⟨n.toNat, by omega⟩
    exact rput_in b v l x m x0 x1 (by omega) (by omega) w h
  · unfold putS
    rw [if_neg hc]
    exact (rput_out b v l x n hc w h).mono fun e w' ⟨h1, h2⟩ => ⟨h1, v, by subst h2; exact h, by subst h2; exact Tch.refl _ _ _⟩
theorem al_end (L n r m : Nat) (h0 : 1 ≤ n) (hr : L % n = r) (hm : (n - r) % n = m) : (L + m) % n = 0 := by
  have hr1 : r < n := by rw [← hr]; exact Nat.mod_lt _ (by omega)
  by_cases h : r = 0
  · subst h
    rw [Nat.sub_zero, Nat.mod_self] at hm
    rw [← hm, Nat.add_zero, hr]
  · rw [Nat.mod_eq_of_lt (by omega)] at hm
    have e : L + m = n * (L / n + 1) := by rw [Nat.mul_add, Nat.mul_one]; have := Nat.div_add_mod L n; omega
    rw [e, Nat.mul_mod_right]
theorem al_step (L n r m j : Nat) (h0 : 1 ≤ n) (hr : L % n = r) (hm : (n - r) % n = m) (hj : j < m) : ¬ (L + j) % n = 0 := by
  have hr1 : r < n := by rw [← hr]; exact Nat.mod_lt _ (by omega)
  by_cases h : r = 0
  · subst h
    rw [Nat.sub_zero, Nat.mod_self] at hm
    omega
  · rw [Nat.mod_eq_of_lt (by omega)] at hm
    have e : L + j = n * (L / n) + (r + j) := by have := Nat.div_add_mod L n; omega
    rw [e, Nat.mul_add_mod, Nat.mod_eq_of_lt (by omega)]
    omega
set_option maxRecDepth 100000 in
set_option maxHeartbeats 1000000 in
theorem ralign_in (b : Nat) (v : Value) (l : List Bool) (n r m : Nat) (h0 : 1 ≤ n) (h1 : n ≤ 64) (hr : l.length % n = r) (hm : (n - r) % n = m) (h2 : l.length + m ≤ 524288) (w : World) (h : Wr 82 w b v l) :
    Calls Try.prog 28 #[.pointer (some ⟨b, 0, none⟩), .int .i64 n] w fun e w' => e = .returned (.tuple #[]) ∧ ∃ v', Wr 82 w' b v' (l ++ bitsOf 0 m) ∧ Tch b v v' w w' := by
  obtain ⟨c0, c1, f0, f1⟩ := cells2 h.head
  have H := mkHid h
  have hr1 : r < n := by rw [← hr]; exact Nat.mod_lt _ (by omega)
  have hm1 : m < n := by rw [← hm]; exact Nat.mod_lt _ (by omega)
  have HRM := mkHid hr
  have HMM := mkHid hm
  have er : (l.length : Int) % n = (r : Int) := by rw [← hr]; simp
  have em : ((n : Int) - r) % n = (m : Int) := by rw [← hm, show (n : Int) - r = ((n - r : Nat) : Int) by omega]; simp
  have hl1 : (l.length : Int) ≤ 524288 := by omega
  have d1 : decide ((n : Int) < 1) = false := by simp; omega
  have d2 : decide ((64 : Int) < n) = false := by simp; omega
  have d3 : decide (524288 - (l.length : Int) < (m : Int)) = false := by simp; omega
  have hn0 : ¬ n = 0 := by omega
  clear h hr hm
  go_enter Try.func28, Try.ntmps28
  go_wp2
  go_quiet (fail)
  go_wp2_with fail
  simp only [er, em]
  clear c0 c1 f0 f1 hl1 d1 d2 d3 er em
  go_loopg [] m (fun k wr => ∃ (j : Nat) (vc : Value), k = m - j ∧ j ≤ m ∧ Wr 82 wr b vc (l ++ bitsOf 0 j) ∧ Tch b v vc w wr)
  case atStart => exact ⟨0, v, rfl, Nat.zero_le _, by rw [bitsOf, List.append_nil]; exact H.out.kept ((Apart.refl (fun _ => False) w).drewN nq) (fun h => h) (fun _ _ h => h), ⟨(Apart.refl _ w).drewN nq, fun _ h => .inl h⟩⟩
  case round =>
    obtain ⟨j, vc, rfl, hj, hw, ht⟩ := hrel
    obtain ⟨c0, c1, f0, f1⟩ := cells2 hw.head
    rw [List.length_append, bitsOf_len] at c1
    have HW := mkHid hw
    have HT := mkHid ht
    clear hw ht H
    by_cases hlt : j < m
    · obtain ⟨z, hz, hz0⟩ : ∃ z : Nat, ((l.length : Int) + (j : Int)) % n = (z : Int) ∧ ¬ (z : Int) = 0 := ⟨(l.length + j) % n, by simp, by have := al_step l.length n r m j h0 HRM.out HMM.out hlt; omega⟩
      have hz1 : ((z : Int) != 0) = true := by simpa using hz0
      go_wp2_with fail
      refine (bit_any b vc _ 0 (by decide) (by simp; omega) _ HW.out).mono ?_
      rintro e w2 ⟨rfl, v2, h3, t3⟩
      have H3 := mkHid h3
      have T3 := mkHid (HT.out.trans t3)
      clear h3 t3
      go_wp2
      go_roundg (m - (j + 1))
      case measure => omega
      case rel =>
        refine ⟨j + 1, v2, rfl, by omega, ?_, T3.out⟩
        have e1 := bitsOf_split 0 j 1
        rw [Nat.zero_div] at e1
        rw [e1, ← List.append_assoc]
        exact H3.out
    · obtain rfl : j = m := by omega
      have hz : ((l.length : Int) + (j : Int)) % n = 0 := by have e := al_end l.length n r j h0 HRM.out HMM.out; have := congrArg (Nat.cast (R := Int)) e; simpa using this
      go_wp2
      go_returns
      exact ⟨rfl, vc, HW.out, HT.out⟩
theorem ralign_out (b : Nat) (v : Value) (l : List Bool) (n : Int) (hn : ¬ (1 ≤ n ∧ n ≤ 64 ∧ (l.length : Int) + (n - l.length % n) % n ≤ 524288)) (w : World) (h : Wr 82 w b v l) :
    Calls Try.prog 28 #[.pointer (some ⟨b, 0, none⟩), .int .i64 n] w fun e w' => e = .returned (.tuple #[]) ∧ ∃ k, w' = w.drewN k := by
  obtain ⟨c0, c1, f0, f1⟩ := cells2 h.head
  have hl1 : (l.length : Int) ≤ 524288 := by have := h.most; omega
  clear h
  by_cases h1 : n < 1
  · clear hn
    go_enter Try.func28, Try.ntmps28
    go_wp2
    go_quiet (fail)
    go_wp2
    go_returns
    exact ⟨rfl, _, rfl⟩
  · have d1 : decide (n < 1) = false := by simpa using h1
    by_cases h2 : 64 < n
    · clear hn
      go_enter Try.func28, Try.ntmps28
      go_wp2
      go_quiet (fail)
      go_wp2
      go_returns
      exact ⟨rfl, _, rfl⟩
    · have d2 : decide (64 < n) = false := by simpa using h2
      obtain ⟨N, rfl⟩ : ∃ N : Nat, n = N := ⟨n.toNat, by omega⟩
      obtain ⟨r, hr⟩ : ∃ r : Nat, (l.length : Int) % N = r := ⟨l.length % N, by simp⟩
      have hr1 : r < N := by have := Int.emod_lt_of_pos (l.length : Int) (show (0 : Int) < N by omega); omega
      obtain ⟨j, hj⟩ : ∃ j : Nat, ((N : Int) - r) % N = j := ⟨(N - r) % N, by rw [show (N : Int) - r = ((N - r : Nat) : Int) by omega]; simp⟩
      rw [hr, hj] at hn
      have h3 : 524288 - (l.length : Int) < j := by omega
      have hn0 : ¬ N = 0 := by omega
      clear hn
      go_enter Try.func28, Try.ntmps28
      go_wp2
      go_quiet (fail)
      go_wp2
      go_returns
      exact ⟨rfl, _, rfl⟩
theorem ralign_any (b : Nat) (v : Value) (l : List Bool) (n : Int) (w : World) (h : Wr 82 w b v l) :
    Calls Try.prog 28 #[.pointer (some ⟨b, 0, none⟩), .int .i64 n] w fun e w' => e = .returned (.tuple #[]) ∧ ∃ v', Wr 82 w' b v' (alignS l n) ∧ Tch b v v' w w' := by
  by_cases hc : 1 ≤ n ∧ n ≤ 64 ∧ (l.length : Int) + (n - l.length % n) % n ≤ 524288
  · unfold alignS
    rw [if_pos hc]
    obtain ⟨N, rfl⟩ : ∃ N : Nat, n = N := ⟨n.toNat, by omega⟩
    obtain ⟨r, hr, hr2⟩ : ∃ r : Nat, (l.length : Int) % N = r ∧ l.length % N = r := ⟨l.length % N, by simp, rfl⟩
    have hr1 : r < N := by rw [← hr2]; exact Nat.mod_lt _ (by omega)
    obtain ⟨j, hj, hj2⟩ : ∃ j : Nat, ((N : Int) - r) % N = j ∧ (N - r) % N = j := ⟨(N - r) % N, by rw [show (N : Int) - r = ((N - r : Nat) : Int) by omega]; simp, rfl⟩
    rw [hr, hj] at hc
    rw [hr, hj, Int.toNat_natCast]
    exact ralign_in b v l N r j (by omega) (by omega) hr2 hj2 (by omega) w h
  · unfold alignS
    rw [if_neg hc]
    exact (ralign_out b v l n hc w h).mono fun e w' ⟨h1, k, h2⟩ => ⟨h1, v, by subst h2; exact h.kept ((Apart.refl (fun _ => False) w).drewN k) (fun h => h) (fun _ _ h => h), by subst h2; exact ⟨(Apart.refl _ w).drewN k, fun _ h => .inl h⟩⟩
end Go.Proofs.Ytcbehpocnnkkeaa
