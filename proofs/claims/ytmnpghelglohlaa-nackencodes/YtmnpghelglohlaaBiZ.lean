/-
  What the functions of the reference's writer do.
-/
import Derived.Test.YtmnpghelglohlaaBiY
namespace Go.Proofs.Ytmnpghelglohlaa
open Go.RowKit

theorem or_bit (B f : Nat) (c : Nat) (hB : B < 256) (hf : f < 8) (hc : c < 2) :
    bits .or .u8 (B : Int) ((c : Int) * 2 ^ (7 - f) % 256) = ((B ||| c % 2 ^ 1 * 2 ^ (8 - 1) / 2 ^ f : Nat) : Int) := by
  have e1 : c % 2 ^ 1 = c := by omega
  have e2 : c * 2 ^ (8 - 1) / 2 ^ f = c * 2 ^ (7 - f) := by
    have : 8 - 1 = (7 - f) + f := by omega
    rw [this, Nat.pow_add, ← Nat.mul_assoc, Nat.mul_div_cancel _ (Nat.two_pow_pos _)]
  have l1 : c * 2 ^ (7 - f) < 256 := by
    have : 2 ^ (7 - f) ≤ 2 ^ 7 := Nat.pow_le_pow_right (by decide) (by omega)
    have h2 : c * 2 ^ (7 - f) ≤ 1 * 2 ^ (7 - f) := Nat.mul_le_mul_right _ (by omega)
    omega
  have e3 : ((c : Int) * 2 ^ (7 - f) % 256) = ((c * 2 ^ (7 - f) : Nat) : Int) := by
    have : ((c : Int) * 2 ^ (7 - f)) = ((c * 2 ^ (7 - f) : Nat) : Int) := by simp
    rw [this]; omega
  rw [e1, e2, e3, u8_or_nat _ _ hB l1]
set_option maxRecDepth 100000 in
set_option maxHeartbeats 1000000 in
theorem bit_any (b : Nat) (v : Value) (l : List Bool) (c : Nat) (hc : c < 2) (h2 : l.length + 1 ≤ 524288) (w : World) (h : Wr 74 w b v l) :
    Calls Try.prog 39 #[.pointer (some ⟨b, 0, none⟩), .int .u8 (c : Int)] w fun e w' => e = .returned (.tuple #[]) ∧ ∃ v', Wr 74 w' b v' (l ++ bitsOf c 1) ∧ Tch b v v' w w' := by
  obtain ⟨c0, c1, f0, f1⟩ := cells2 h.head
  have hbl := h.lt
  have HR := mkHid h
  clear h
  obtain ⟨q, Hq⟩ : ∃ q, Hid (l.length / 8 = q) := ⟨_, rfl⟩
  obtain ⟨f, Hf⟩ : ∃ f, Hid (l.length % 8 = f) := ⟨_, rfl⟩
  obtain ⟨L, HL⟩ : ∃ L, Hid (l.length = L) := ⟨_, rfl⟩
  rw [HL.out] at Hq Hf c1
  rw [HL.out] at h2
  have hq : (L : Int) / 8 = (q : Nat) := by have := Hq.out; omega
  have hf : (L : Int) % 8 = (f : Nat) := by have := Hf.out; omega
  have hf1 : f < 8 := by have := Hf.out; omega
  go_enter Try.func39, Try.ntmps39
  go_upto_if 9 with fail
  go_cut [] (fun wc => ∃ g cap xs, Mid 74 wc b g cap l xs ∧ Tch b v (.slice (some ⟨g, 0, none⟩) (l.length / 8 + 1) cap) w wc)
  case first =>
    by_cases hf0 : f = 0
    · obtain ⟨i0, hi, hz0, hz1, hz2⟩ := info_parts info5
      have HO := mkHid (HR.out.own)
      go_wp2_with (at_builtin; refine wpList_append_own2 _ rfl (.tmp 14) (.tmp 15) 43 rfl (b + 1) 5 i0 (.int .u8 0) 1 1 Try.underlying43 hi hz0 hz1 hz2 rfl (by decide) v ((l.length + 7) / 8) ((pk l).map vb) rfl (HO.out.alloc _) ⟨w.heap.size, 0, none⟩ 1 1 [.int .u8 0] rfl rfl (cell_one_new _ _ _) (by intro u hu; simp at hu; subst hu; rfl) (by unfold maxLen; rw [HL.out]; omega) (by rw [HL.out]; omega) (by simp; omega) ?_; intro v1 w1 hown1 hgrow1 hnew1; obtain ⟨hd1, g, cap, hv1, hmid, htch⟩ := HR.out.grown (by rw [HL.out, Hf.out]; exact hf0) _ hown1 hgrow1 hnew1; subst hv1; obtain ⟨c0', c1', f0', f1'⟩ := cells2 hd1; have HM := mkHid hmid; have HT1 := mkHid htch; clear hown1 hgrow1 hnew1 hd1 hmid htch)
      go_meet
      case rel => exact ⟨g, cap, _, HM.out, HT1.out⟩
    · go_wp2
      go_meet
      case rel =>
        obtain ⟨g, cap, rfl, hm⟩ := HR.out.mid (by rw [HL.out, Hf.out]; exact hf0)
        exact ⟨g, cap, _, hm, Tch.refl _ _ _⟩
  case rest =>
    obtain ⟨g, cap, xs, hmid, htch⟩ := hcut
    obtain ⟨d0, d1, e0, e1⟩ := cells2 hmid.head
    have d2 := hmid.own.cellAt (l.length / 8) (by omega)
    have e2 := hmid.own.frozenAt (l.length / 8)
    rw [List.getElem?_map, hmid.last] at d2
    simp only [Option.map_some, vb] at d2
    rw [HL.out, Hq.out] at d0 d2 e2
    rw [HL.out] at d1
    have HB := mkHid (bv_lt l q)
    obtain ⟨B, HB2⟩ : ∃ B, Hid (bv l q = B) := ⟨_, rfl⟩
    rw [HB2.out] at d2
    have HM := mkHid hmid
    have HT1 := mkHid htch
    have hq2 : (q : Int) < (q : Int) + 1 := by omega
    clear hmid htch c0 c1 f0 f1
    have hgb := HM.out.lt.1
    have hgb1 : ¬ g = b := by omega
    have hgb2 : ¬ b = g := by omega
    go_wp2
    go_region
    go_wp2
    go_returns
    rw [or_bit B f c (by have := HB.out; rw [HB2.out] at this; exact this) hf1 hc]
    obtain ⟨k1, k2⟩ := HM.out.done c 1 (by omega) (by rw [HL.out, Hf.out]; omega) (by rw [HL.out]; omega) (((B ||| c % 2 ^ 1 * 2 ^ (8 - 1) / 2 ^ f : Nat) : Int)) ((L : Int) + 1) (by rw [HL.out, Hq.out, Hf.out, HB2.out]) (by rw [HL.out]; rfl)
    rw [HL.out, Hq.out] at k1 k2
    have ht := HT1.out
    rw [HL.out, Hq.out] at ht
    exact ⟨rfl, _, k1, ht.trans k2⟩
theorem rwrite_any (w : World) :
    Calls Try.prog 22 #[] w fun e w' => e = .returned (.pointer (some ⟨w.heap.size, 0, none⟩)) ∧ Wr 74 w' w.heap.size (.slice none 0 0) [] ∧ Apart (fun _ => False) w w' ∧ w'.heap.size = w.heap.size + 1 := by
  go_enter Try.func22, Try.ntmps22
  go_wp2
  go_ret
  exact ⟨rfl, ⟨heap_alloc_new _ _, World.ownsRow_nil _ _ _ _, Nat.zero_le _⟩, (Apart.refl _ _).alloc _, by simp⟩
theorem rtext_any (b : Nat) (v : Value) (l : List Bool) (w : World) (h : Wr 74 w b v l) :
    Calls Try.prog 25 #[.pointer (some ⟨b, 0, none⟩)] w fun e w' => e = .returned (.string (packS l)) ∧ w' = w := by
  obtain ⟨c0, c1, f0, f1⟩ := cells2 h.head
  have hc := h.conv
  generalize packS l = s at *
  clear h
  go_enter Try.func25, Try.ntmps25
  go_wp2
  go_ret
  exact ⟨rfl, rfl⟩
theorem bit_of (x j : Nat) : (x / 2 ^ j % 2) < 2 := Nat.mod_lt _ (by decide)
theorem and_bit (x : Int) (x0 : 0 ≤ x) (x1 : x < 4294967296) (j : Nat) : bits .and .u32 (x / 2 ^ j) 1 % 256 = ((x.toNat / 2 ^ j % 2 : Nat) : Int) := by
  obtain ⟨X, rfl⟩ : ∃ X : Nat, x = X := ⟨x.toNat, by omega⟩
  have e1 : ((X : Int) / 2 ^ j) = ((X / 2 ^ j : Nat) : Int) := by simp
  have l1 : X / 2 ^ j < 4294967296 := Nat.lt_of_le_of_lt (Nat.div_le_self _ _) (by omega)
  have e2 := u32_and_nat (X / 2 ^ j) 1 l1 (by decide)
  rw [Nat.and_one_is_mod] at e2
  have e3 : bits .and .u32 ((X / 2 ^ j : Nat) : Int) 1 = ((X / 2 ^ j % 2 : Nat) : Int) := e2
  rw [e1, e3, Int.toNat_natCast]
  have := bit_of X j
  omega
set_option maxRecDepth 100000 in
set_option maxHeartbeats 1000000 in
theorem rput_in (b : Nat) (v : Value) (l : List Bool) (x : Int) (n : Nat) (x0 : 0 ≤ x) (x1 : x < 4294967296) (h1 : n ≤ 32) (h2 : l.length + n ≤ 524288) (w : World) (h : Wr 74 w b v l) :
    Calls Try.prog 23 #[.pointer (some ⟨b, 0, none⟩), .int .u32 x, .int .i64 n] w fun e w' => e = .returned (.tuple #[]) ∧ ∃ v', Wr 74 w' b v' (l ++ bitsOf x.toNat n) ∧ Tch b v v' w w' := by
  obtain ⟨c0, c1, f0, f1⟩ := cells2 h.head
  have H := mkHid h
  have hl : (n : Int) ≤ 524288 - (l.length : Int) := by omega
  have hl1 : (l.length : Int) ≤ 524288 := by omega
  clear h
  go_enter Try.func23, Try.ntmps23
  go_wp2
  clear c0 c1 f0 f1 hl hl1
  go_loopw [6] (fun i wr => ∃ (j : Nat) (vc : Value) (lc : List Bool), j ≤ n ∧ i = .int .i64 ((j : Int) - 1) ∧ Wr 74 wr b vc lc ∧ lc ++ bitsOf x.toNat j = l ++ bitsOf x.toNat n ∧ Tch b v vc w wr) (fun i _ => (intOf i + 1).toNat)
  case atStart => exact ⟨n, v, l, Nat.le_refl _, rfl, H.out, rfl, Tch.refl _ _ _⟩
  case round =>
    obtain ⟨j, vc, lc, hj, rfl, hw, hlist, ht⟩ := hrel
    have HW := mkHid hw
    have HLI := mkHid hlist
    have HT := mkHid ht
    have hlen : lc.length + j = l.length + n := by have := congrArg List.length hlist; simpa using this
    clear hw hlist ht H
    cases j with
    | zero =>
      rw [show (((0 : Nat) : Int) - 1) = -1 from rfl]
      go_wp2
      go_returns
      refine ⟨rfl, vc, ?_, HT.out⟩
      rw [← HLI.out, bitsOf, List.append_nil]
      exact HW.out
    | succ j =>
      rw [show (((j + 1 : Nat) : Int) - 1) = (j : Int) from by omega]
      have hmin : min j 32 = j := by omega
      obtain ⟨c, he, HC⟩ : ∃ c : Nat, bits .and .u32 (x / 2 ^ j) 1 % 256 = (c : Int) ∧ Hid (c = x.toNat / 2 ^ j % 2) := ⟨_, and_bit x x0 x1 j, rfl⟩
      go_wp2_with fail
      refine (bit_any b vc lc c (by rw [HC.out]; exact bit_of _ _) (by omega) _ HW.out).mono ?_
      rintro e w2 ⟨rfl, v2, h3, t3⟩
      have H3 := mkHid h3
      have T3 := mkHid (HT.out.trans t3)
      clear h3 t3
      go_wp2
      go_roundw
      case rel =>
        refine ⟨j, v2, _, by omega, by go_num, H3.out, ?_, T3.out⟩
        have e1 : bitsOf c 1 = bitsOf (x.toNat / 2 ^ j) 1 := by rw [HC.out]; exact bitsOf_mod _ 1 1 (Nat.le_refl _)
        rw [← HLI.out, e1, List.append_assoc, ← bitsOf_split, Nat.add_comm]
      case measure => simp [intOf]
theorem rput_out (b : Nat) (v : Value) (l : List Bool) (x n : Int) (hn : ¬ (0 ≤ n ∧ n ≤ 32 ∧ (l.length : Int) + n ≤ 524288)) (w : World) (h : Wr 74 w b v l) :
    Calls Try.prog 23 #[.pointer (some ⟨b, 0, none⟩), .int .u32 x, .int .i64 n] w fun e w' => e = .returned (.tuple #[]) ∧ w' = w := by
  obtain ⟨c0, c1, f0, f1⟩ := cells2 h.head
  have hl1 : (l.length : Int) ≤ 524288 := by have := h.most; omega
  clear h
  by_cases h1 : n < 0
  · clear hn
    go_enter Try.func23, Try.ntmps23
    go_wp2
    go_returns
    exact ⟨rfl, rfl⟩
  · by_cases h2 : 32 < n
    · clear hn
      go_enter Try.func23, Try.ntmps23
      go_wp2
      go_returns
      exact ⟨rfl, rfl⟩
    · have h3 : 524288 - (l.length : Int) < n := by omega
      clear hn
      go_enter Try.func23, Try.ntmps23
      go_wp2
      go_returns
      exact ⟨rfl, rfl⟩
theorem rput_any (b : Nat) (v : Value) (l : List Bool) (x n : Int) (x0 : 0 ≤ x) (x1 : x < 4294967296) (w : World) (h : Wr 74 w b v l) :
    Calls Try.prog 23 #[.pointer (some ⟨b, 0, none⟩), .int .u32 x, .int .i64 n] w fun e w' => e = .returned (.tuple #[]) ∧ ∃ v', Wr 74 w' b v' (putS l x.toNat n) ∧ Tch b v v' w w' := by
  by_cases hc : 0 ≤ n ∧ n ≤ 32 ∧ (l.length : Int) + n ≤ 524288
  · unfold putS
    rw [if_pos hc]
    obtain ⟨m, rfl⟩ : ∃ m : Nat, n = m := ⟨n.toNat, by omega⟩
    exact rput_in b v l x m x0 x1 (by omega) (by omega) w h
  · unfold putS
    rw [if_neg hc]
    exact (rput_out b v l x n hc w h).mono fun e w' ⟨h1, h2⟩ => ⟨h1, v, by subst h2; exact h, by subst h2; exact Tch.refl _ _ _⟩
theorem al_end (L n r m : Nat) (h0 : 1 ≤ n) (hr : L % n = r) (hm : (n - r) % n = m) : (L + m) % n = 0 := by
  have hr1 : r < n := by rw [← hr]; exact Nat.mod_lt _ (by omega)
  by_cases h : r = 0
  · subst h
    rw [Nat.sub_zero, Nat.mod_self] at hm
    rw [← hm, Nat.add_zero, hr]
  · rw [Nat.mod_eq_of_lt (by omega)] at hm
    have e : L + m = n * (L / n + 1) := by rw [Nat.mul_add, Nat.mul_one]; have := Nat.div_add_mod L n; omega
    rw [e, Nat.mul_mod_right]
theorem al_step (L n r m j : Nat) (h0 : 1 ≤ n) (hr : L % n = r) (hm : (n - r) % n = m) (hj : j < m) : ¬ (L + j) % n = 0 := by
  have hr1 : r < n := by rw [← hr]; exact Nat.mod_lt _ (by omega)
  by_cases h : r = 0
  · subst h
    rw [Nat.sub_zero, Nat.mod_self] at hm
    omega
  · rw [Nat.mod_eq_of_lt (by omega)] at hm
    have e : L + j = n * (L / n) + (r + j) := by have := Nat.div_add_mod L n; omega
    rw [e, Nat.mul_add_mod, Nat.mod_eq_of_lt (by omega)]
    omega
end Go.Proofs.Ytmnpghelglohlaa
