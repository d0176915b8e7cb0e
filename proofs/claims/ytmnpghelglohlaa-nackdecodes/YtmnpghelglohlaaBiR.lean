/-
  What a reader's functions hand back.
-/
import Derived.Test.YtmnpghelglohlaaBiW
namespace Go.Proofs.Ytmnpghelglohlaa
open Go.RowKit

theorem taken_yes (n : Int) (h0 : 0 ≤ n) (h1 : n ≤ 32) (w : World) :
    Calls Try.prog 35 #[.int .i64 n] w fun e w' => e = .returned (.bool true) ∧ w' = w := by
  go_enter Try.func35, Try.ntmps35
  go_wp2
  go_ret
  exact ⟨rfl, rfl⟩
theorem taken_no (n : Int) (h : n < 0 ∨ 32 < n) (w : World) :
    Calls Try.prog 35 #[.int .i64 n] w fun e w' => e = .returned (.bool false) ∧ w' = w := by
  rcases h with h | h
  · go_enter Try.func35, Try.ntmps35
    go_wp2
    go_ret
    exact ⟨rfl, rfl⟩
  · have h2 : ¬ n ≤ 32 := by omega
    go_enter Try.func35, Try.ntmps35
    go_wp2
    go_ret
    exact ⟨ret_b (by simp), rfl⟩
theorem bad_nil (w : World) : Calls Try.prog 41 #[.pointer none] w fun e w' => e = .returned (.bool true) ∧ w' = w := by
  go_enter Try.func41, Try.ntmps41
  go_wp2
  go_ret
  exact ⟨rfl, rfl⟩
theorem bad_any (b : Nat) (s : ByteArray) (st : Option Nat) (w : World) (h : Rd 78 w b s st) :
    Calls Try.prog 41 #[.pointer (some ⟨b, 0, none⟩)] w fun e w' => e = .returned (.bool (gbad st)) ∧ w' = w := by
  cases st with
  | none =>
    obtain ⟨s', p, h⟩ := h
    obtain ⟨c0, c1, c2, f0, f1, f2⟩ := cells3 h
    clear h
    go_enter Try.func41, Try.ntmps41
    go_wp2
    go_ret
    exact ⟨rfl, rfl⟩
  | some p =>
    obtain ⟨c0, c1, c2, f0, f1, f2⟩ := cells3 h.1
    clear h
    go_enter Try.func41, Try.ntmps41
    go_wp2
    go_ret
    exact ⟨rfl, rfl⟩
theorem left_any (b : Nat) (s : ByteArray) (hs : s.size ≤ 1000000) (st : Option Nat) (w : World) (h : Rd 78 w b s st) :
    Calls Try.prog 42 #[.pointer (some ⟨b, 0, none⟩)] w fun e w' => e = .returned (.int .i64 (gleft s st)) ∧ ∃ n, w' = w.drewN n := by
  have B := mkHid (bad_any b s st w h)
  cases st with
  | none =>
    clear h
    go_enter Try.func42, Try.ntmps42
    go_wp2_with fail
    refine (B.out).mono ?_
    rintro e w1 ⟨rfl, rfl⟩
    unfold gbad
    go_wp2
    go_ret
    exact ⟨rfl, 0, rfl⟩
  | some p =>
    obtain ⟨c0, c1, c2, f0, f1, f2⟩ := cells3 h.1
    have hp := h.2
    clear h
    go_enter Try.func42, Try.ntmps42
    go_wp2_with fail
    refine (B.out).mono ?_
    rintro e w1 ⟨rfl, rfl⟩
    unfold gbad
    go_wp2
    go_quiet (fail)
    go_wp2
    go_ret
    exact ⟨ret_i (by show (s.size : Int) * 8 - p = 8 * s.size - p; omega), _, rfl⟩
theorem piece_any (b from_ k : Int) (w : World) (h0 : 0 ≤ from_) (h1 : 1 ≤ k) (h2 : from_ + k ≤ 8) :
    Calls Try.prog 43 #[.int .u8 b, .int .i64 from_, .int .i64 k] w fun e w' => e = .returned (.int .u8 (b * 2 ^ from_.toNat % 256 / 2 ^ (8 - k).toNat)) ∧ w' = w := by
  go_enter Try.func43, Try.ntmps43
  go_wp2
  go_ret
  exact ⟨rfl, rfl⟩

theorem drew_rd {T : TypeId} {w : World} {b : Nat} {s : ByteArray} {st : Option Nat} (n : Nat) (h : Rd T w b s st) : Rd T (w.drewN n) b s st := by
  cases st with
  | none => exact h
  | some p => exact h
theorem bad_end {w : World} {b : Nat} {s s' : ByteArray} {p : Int} {x y : Value} (h : w.heap[b]? = some (.cells #[x, .int .i64 p, y] 78 (0, 0))) (n : Nat) :
    Rd 78 ((((w.drewN n).setCell ⟨b, 0, none⟩ (.string s')).setCell ⟨b, 1, none⟩ (.int .i64 0)).setCell ⟨b, 2, none⟩ (.bool true)) b s none ∧
    Apart (· = b) w ((((w.drewN n).setCell ⟨b, 0, none⟩ (.string s')).setCell ⟨b, 1, none⟩ (.int .i64 0)).setCell ⟨b, 2, none⟩ (.bool true)) := by
  have h0 : (w.drewN n).heap[b]? = some (.cells #[x, .int .i64 p, y] 78 (0, 0)) := h
  have h1 := heap_setCell_same _ b 0 _ 78 (.string s') h0
  have h2 := heap_setCell_same _ b 1 _ 78 (.int .i64 0) h1
  have h3 := heap_setCell_same _ b 2 _ 78 (.bool true) h2
  refine ⟨⟨s', 0, ?_⟩, ?_⟩
  · rw [h3]; rfl
  · exact Apart.setCell (Apart.setCell (Apart.setCell ((Apart.refl (· = b) w).drewN n) (p := ⟨b, 0, none⟩) (fun _ => rfl) _) (p := ⟨b, 1, none⟩) (fun _ => rfl) _) (p := ⟨b, 2, none⟩) (fun _ => rfl) _

theorem adv_end {T : TypeId} {w : World} {b : Nat} {s : ByteArray} {P k : Nat} (h : Rd T w b s (some P)) (hk : P + k ≤ 8 * s.size) (n : Nat) :
    Rd T ((w.drewN n).setCell ⟨b, 1, none⟩ (.int .i64 ((P : Int) + (k : Int)))) b s (some (P + k)) ∧ Apart (· = b) w ((w.drewN n).setCell ⟨b, 1, none⟩ (.int .i64 ((P : Int) + (k : Int)))) := by
  have h0 : (w.drewN n).heap[b]? = some (.cells #[.string s, .int .i64 (P : Int), .bool false] T (0, 0)) := h.1
  have h1 := heap_setCell_same _ b 1 _ T (.int .i64 ((P : Int) + (k : Int))) h0
  refine ⟨⟨?_, hk⟩, ?_⟩
  · rw [h1]; simp
  · exact Apart.setCell ((Apart.refl (· = b) w).drewN n) (p := ⟨b, 1, none⟩) (fun _ => rfl) _
theorem or_step (s : ByteArray) (p r k q f P : Nat) (hP : p + r = P) (hq : P / 8 = q) (hf : P % 8 = f) (hk : f + k ≤ 8) (hn : r + k ≤ 32) (hlt : q < s.size) :
    bits .or .u32 ((gv s p r : Int) * 2 ^ k % 4294967296) ((s[q].toNat : Int) * 2 ^ f % 256 / 2 ^ (8 - k) % 4294967296) = (gv s p (r + k) : Int) := by
  have g1 := gv_lt s p r
  have g2 := gv_lt s P k
  have e0 : gv s P k = s[q].toNat * 2 ^ f % 256 / 2 ^ (8 - k) := by
    rw [gv_piece s P k (by omega), hq, hf]
    congr 4
    rw [List.getD_eq_getElem?_getD, List.getElem?_eq_getElem (by simpa using hlt)]
    rfl
  have e1 : ((s[q].toNat : Int) * 2 ^ f % 256 / 2 ^ (8 - k)) = (gv s P k : Int) := by rw [e0]; simp
  have p1 : gv s p r * 2 ^ k < 2 ^ (r + k) := by rw [Nat.pow_add]; exact Nat.mul_lt_mul_of_pos_right g1 (Nat.two_pow_pos _)
  have p2 : 2 ^ (r + k) ≤ 2 ^ 32 := Nat.pow_le_pow_right (by decide) hn
  have p3 : 2 ^ k ≤ 2 ^ 32 := Nat.pow_le_pow_right (by decide) (by omega)
  have e2 : ((gv s p r : Int) * 2 ^ k % 4294967296) = ((gv s p r * 2 ^ k : Nat) : Int) := by
    have : ((gv s p r : Int) * 2 ^ k) = ((gv s p r * 2 ^ k : Nat) : Int) := by simp
    rw [this]; omega
  have e3 : (gv s P k : Int) % 4294967296 = (gv s P k : Nat) := by omega
  rw [e1, e2, e3, u32_or_nat _ _ (by omega) (by omega), or_add _ _ _ g2, gv_add, hP]
theorem get_none (b : Nat) (s : ByteArray) (n : Int) (w : World) (h : Rd 78 w b s none) :
    Calls Try.prog 28 #[.pointer (some ⟨b, 0, none⟩), .int .i64 n] w fun e w' => e = .returned (.int .u32 0) ∧ w' = w := by
  have B := mkHid (bad_any b s none w h)
  clear h
  go_enter Try.func28, Try.ntmps28
  go_wp2
  go_step3
  go_wp2_with fail
  refine (B.out).mono ?_
  rintro e w1 ⟨rfl, rfl⟩
  unfold gbad
  go_wp2
  rw [Exit.noGoto_ret]
  go_ret
  exact ⟨rfl, rfl⟩
theorem get_nil (n : Int) (w : World) :
    Calls Try.prog 28 #[.pointer none, .int .i64 n] w fun e w' => e = .returned (.int .u32 0) ∧ w' = w := by
  have B := mkHid (bad_nil w)
  go_enter Try.func28, Try.ntmps28
  go_wp2
  go_step3
  go_wp2_with fail
  refine (B.out).mono ?_
  rintro e w1 ⟨rfl, rfl⟩
  go_wp2
  rw [Exit.noGoto_ret]
  go_ret
  exact ⟨rfl, rfl⟩
theorem get_wrong (b : Nat) (s : ByteArray) (p : Nat) (n : Int) (hn : n < 0 ∨ 32 < n) (w : World) (h : Rd 78 w b s (some p)) :
    Calls Try.prog 28 #[.pointer (some ⟨b, 0, none⟩), .int .i64 n] w fun e w' => e = .returned (.int .u32 0) ∧ Rd 78 w' b s none ∧ Apart (· = b) w w' := by
  have B := mkHid (bad_any b s (some p) w h)
  have T := mkHid (taken_no n hn)
  have H := mkHid h.1
  obtain ⟨c0, c1, c2, f0, f1, f2⟩ := cells3 h.1
  clear h hn
  go_enter Try.func28, Try.ntmps28
  go_wp2
  go_step3
  go_wp2_with fail
  refine (B.out).mono ?_
  rintro e w1 ⟨rfl, rfl⟩
  unfold gbad
  go_wp2_with fail
  refine (T.out _).mono ?_
  rintro e w1 ⟨rfl, rfl⟩
  go_wp2
  rw [Exit.noGoto_ret]
  go_ret
  exact ⟨rfl, bad_end H.out 0⟩
theorem get_many (b : Nat) (s : ByteArray) (hs : s.size ≤ 1000000) (p : Nat) (n : Int) (h0 : 0 ≤ n) (h1 : n ≤ 32) (h2 : 8 * (s.size : Int) < p + n) (w : World) (h : Rd 78 w b s (some p)) :
    Calls Try.prog 28 #[.pointer (some ⟨b, 0, none⟩), .int .i64 n] w fun e w' => e = .returned (.int .u32 0) ∧ Rd 78 w' b s none ∧ Apart (· = b) w w' := by
  have B := mkHid (bad_any b s (some p) w h)
  have T := mkHid (taken_yes n h0 h1)
  have L := mkHid (left_any b s hs (some p) w h)
  have hl : gleft s (some p) < n := by show 8 * (s.size : Int) - p < n; omega
  generalize gleft s (some p) = g at *
  have H := mkHid h.1
  obtain ⟨c0, c1, c2, f0, f1, f2⟩ := cells3 h.1
  clear h
  go_enter Try.func28, Try.ntmps28
  go_wp2
  go_step3
  go_wp2_with fail
  refine (B.out).mono ?_
  rintro e w1 ⟨rfl, rfl⟩
  unfold gbad
  go_wp2_with fail
  refine (T.out _).mono ?_
  rintro e w1 ⟨rfl, rfl⟩
  go_wp2_with fail
  refine (L.out).mono ?_
  rintro e w1 ⟨rfl, nd, rfl⟩
  go_wp2
  rw [Exit.noGoto_ret]
  go_ret
  exact ⟨rfl, bad_end H.out nd⟩
theorem frame63 (a : Act) (hs : a.tmps.size = 63) (hd : a.defers = []) : ∃ u : Nat → Value, (∀ i, a.tmps.getD i undef = u i) ∧ a = { tmps := #[u 0, u 1, u 2, u 3, u 4, u 5, u 6, u 7, u 8, u 9, u 10, u 11, u 12, u 13, u 14, u 15, u 16, u 17, u 18, u 19, u 20, u 21, u 22, u 23, u 24, u 25, u 26, u 27, u 28, u 29, u 30, u 31, u 32, u 33, u 34, u 35, u 36, u 37, u 38, u 39, u 40, u 41, u 42, u 43, u 44, u 45, u 46, u 47, u 48, u 49, u 50, u 51, u 52, u 53, u 54, u 55, u 56, u 57, u 58, u 59, u 60, u 61, u 62], defers := [] } := frame_of a 63 hs hd
set_option maxRecDepth 100000 in
theorem get_ok (b : Nat) (s : ByteArray) (hs : s.size ≤ 1000000) (p n : Nat) (h1 : n ≤ 32) (h2 : p + n ≤ 8 * s.size) (w : World) (h : Rd 78 w b s (some p)) :
    Calls Try.prog 28 #[.pointer (some ⟨b, 0, none⟩), .int .i64 n] w fun e w' => e = .returned (.int .u32 (gv s p n)) ∧ Rd 78 w' b s (some (p + n)) ∧ Apart (· = b) w w' := by
  have B := mkHid (bad_any b s (some p) w h)
  have T := mkHid (taken_yes n (by omega) (by omega))
  have L := mkHid (left_any b s hs (some p) w h)
  have hl : (n : Int) ≤ gleft s (some p) := by show (n : Int) ≤ 8 * (s.size : Int) - p; omega
  generalize gleft s (some p) = g at *
  have H := mkHid h
  clear h
  go_enter Try.func28, Try.ntmps28
  go_wp2
  refine wp_scope_label 0 (fun a' w' => ∃ (m r : Nat), (a'.tmps.size = 63 ∧ a'.defers = [] ∧ a'.tmps.getD 0 undef = .pointer (some { block := b, off := 0 }) ∧ a'.tmps.getD 1 undef = .int .i64 (m : Int) ∧ a'.tmps.getD 2 undef = undef ∧ a'.tmps.getD 3 undef = undef ∧ a'.tmps.getD 4 undef = .int .u32 0 ∧ a'.tmps.getD 5 undef = .int .u32 (gv s p r : Int)) ∧ m + r = n ∧ Rd 78 w' b s (some (p + r)) ∧ Apart (· = b) w w') (fun a' _ => (intOf (a'.tmps.getD 1 undef)).toNat) rfl ?_ ?_
  · intro Q' hh
    have HH := mkHid hh
    clear hh
    go_wp2_with fail
    refine (B.out).mono ?_
    rintro e w1 ⟨rfl, rfl⟩
    unfold gbad
    go_wp2_with fail
    refine (T.out _).mono ?_
    rintro e w1 ⟨rfl, rfl⟩
    go_wp2_with fail
    refine (L.out).mono ?_
    rintro e w1 ⟨rfl, nd, rfl⟩
    go_wp2
    go_step3
    refine ‹∀ a w, Code.wp _ _ _ a w → _› _ _ (HH.out _ _ ?_)
    exact ⟨n, 0, ⟨rfl, rfl, rfl, rfl, rfl, rfl, rfl, rfl⟩, by omega, drew_rd nd H.out, (Apart.refl _ _).drewN nd⟩
  · clear B T L H
    rintro a' w' ⟨m, r, ⟨z, d, e0, e1, e2, e3, e4, e5⟩, hm, hr, hap⟩
    obtain ⟨u, hu, ha⟩ := frame63 a' z d
    rw [hu] at e0 e1 e2 e3 e4 e5
    rw [e0, e1, e2, e3, e4, e5] at ha
    clear z d hu e0 e1 e2 e3 e4 e5
    subst ha
    obtain ⟨P, HP⟩ : ∃ P, Hid (p + r = P) := ⟨_, rfl⟩
    rw [HP.out] at hr
    obtain ⟨c0, c1, c2, f0, f1, f2⟩ := cells3 hr.1
    have HR := mkHid hr
    have HA := mkHid hap
    clear hr hap
    have hP : P + m ≤ 8 * s.size := by have := HP.out; omega
    by_cases hm0 : m = 0
    · subst hm0
      obtain rfl : r = n := by omega
      go_wp2
      simp only [Exit.jump]
      go_ret
      have hr := HR.out
      rw [← HP.out] at hr
      exact ⟨rfl, hr, HA.out⟩
    · have hq1 : P / 8 < s.size := by omega
      have hf1 : P % 8 < 8 := by omega
      obtain ⟨q, Hq⟩ : ∃ q, Hid (P / 8 = q) := ⟨_, rfl⟩
      obtain ⟨f, Hf⟩ : ∃ f, Hid (P % 8 = f) := ⟨_, rfl⟩
      have hq : (P : Int) / 8 = (q : Nat) := by have := Hq.out; omega
      have hf : (P : Int) % 8 = (f : Nat) := by have := Hf.out; omega
      rw [Hq.out] at hq1
      rw [Hf.out] at hf1
      by_cases hk : m ≤ 8 - f
      · go_wp2
        have PC := mkHid (fun w => piece_any (s[q].toNat) f m w (by omega) (by omega) (by omega))
        go_quiet ((go_at_call 43; exact Calls.quiet_of_same (PC.out _)))
        go_wp2
        rw [or_step s p r m q f P HP.out Hq.out Hf.out (by omega) (by omega) hq1]
        go_step3
        obtain ⟨k1, k2⟩ := adv_end HR.out (k := m) (by omega) nq
        refine ⟨rfl, ⟨0, r + m, ⟨rfl, rfl, rfl, rfl, rfl, rfl, rfl, rfl⟩, by omega, ?_, HA.out.trans k2 (fun _ _ h => h)⟩, ?_⟩
        · have : p + (r + m) = P + m := by have := HP.out; omega
          rw [this]; exact k1
        · simp [intOf]; omega
      · obtain ⟨k, hk1⟩ : ∃ k : Nat, f + k = 8 := ⟨8 - f, by omega⟩
        obtain ⟨m', rfl⟩ : ∃ m', m = m' + k := ⟨m - k, by omega⟩
        have hk2 : (8 : Int) - f = k := by omega
        have hk3 : (k : Int) < ((m' + k : Nat) : Int) := by omega
        go_wp2
        have PC := mkHid (fun w => piece_any (s[q].toNat) f k w (by omega) (by omega) (by omega))
        go_quiet ((go_at_call 43; exact Calls.quiet_of_same (PC.out _)))
        go_wp2
        rw [or_step s p r k q f P HP.out Hq.out Hf.out (by omega) (by omega) hq1]
        go_step3
        obtain ⟨k1, k2⟩ := adv_end HR.out (k := k) (by omega) nq
        refine ⟨rfl, ⟨m', r + k, ⟨rfl, rfl, rfl, rfl, rfl, rfl, rfl, rfl⟩, by omega, ?_, HA.out.trans k2 (fun _ _ h => h)⟩, ?_⟩
        · have : p + (r + k) = P + k := by have := HP.out; omega
          rw [this]; exact k1
        · simp [intOf]; omega
/-- Get, whatever it is asked. -/
theorem get_any (b : Nat) (s : ByteArray) (hs : s.size ≤ 1000000) (st : Option Nat) (n : Int) (w : World) (h : Rd 78 w b s st) :
    Calls Try.prog 28 #[.pointer (some ⟨b, 0, none⟩), .int .i64 n] w fun e w' => e = .returned (.int .u32 (gval s st n)) ∧ Rd 78 w' b s (gnext s st n) ∧ Apart (· = b) w w' := by
  cases st with
  | none => exact (get_none b s n w h).mono fun e w' ⟨h1, h2⟩ => ⟨h1, by subst h2; exact h, by subst h2; exact Apart.refl _ _⟩
  | some p =>
    simp only [gval, gnext]
    by_cases hc : 0 ≤ n ∧ n ≤ 32 ∧ (p : Int) + n ≤ 8 * s.size
    · rw [if_pos hc, if_pos hc]
      obtain ⟨m, rfl⟩ : ∃ m : Nat, n = m := ⟨n.toNat, by omega⟩
      exact get_ok b s hs p m (by omega) (by omega) w h
    · rw [if_neg hc, if_neg hc]
      by_cases h1 : n < 0 ∨ 32 < n
      · exact get_wrong b s p n h1 w h
      · exact get_many b s hs p n (by omega) (by omega) (by omega) w h
theorem read_any (s : ByteArray) (w : World) :
    Calls Try.prog 27 #[.string s] w fun e w' => e = .returned (.pointer (some ⟨w.heap.size, 0, none⟩)) ∧ Rd 78 w' w.heap.size s (some 0) ∧ Apart (fun _ => False) w w' ∧ w'.heap.size = w.heap.size + 1 := by
  go_enter Try.func27, Try.ntmps27
  go_wp2
  go_ret
  exact ⟨rfl, ⟨heap_alloc_new _ _, Nat.zero_le _⟩, (Apart.refl _ _).alloc _, by simp⟩
end Go.Proofs.Ytmnpghelglohlaa
