/-
  What the functions of the reference's reader hand back.
-/
import Derived.Test.YtmnpghelglohlaaBiR
namespace Go.Proofs.Ytmnpghelglohlaa
open Go.RowKit

theorem rread_any (s : ByteArray) (w : World) :
    Calls Try.prog 31 #[.string s] w fun e w' => e = .returned (.pointer (some ⟨w.heap.size, 0, none⟩)) ∧ Rd 82 w' w.heap.size s (some 0) ∧ Apart (fun _ => False) w w' ∧ w'.heap.size = w.heap.size + 1 := by
  go_enter Try.func31, Try.ntmps31
  go_wp2
  go_ret
  exact ⟨rfl, ⟨heap_alloc_new _ _, Nat.zero_le _⟩, (Apart.refl _ _).alloc _, by simp⟩
theorem rleft_any (b : Nat) (s : ByteArray) (hs : s.size ≤ 1000000) (st : Option Nat) (w : World) (h : Rd 82 w b s st) :
    Calls Try.prog 33 #[.pointer (some ⟨b, 0, none⟩)] w fun e w' => e = .returned (.int .i64 (gleft s st)) ∧ ∃ n, w' = w.drewN n := by
  cases st with
  | none =>
    obtain ⟨s', p, h⟩ := h
    obtain ⟨c0, c1, c2, f0, f1, f2⟩ := cells3 h
    clear h
    go_enter Try.func33, Try.ntmps33
    go_wp2
    go_ret
    exact ⟨rfl, 0, rfl⟩
  | some p =>
    obtain ⟨c0, c1, c2, f0, f1, f2⟩ := cells3 h.1
    have hp := h.2
    clear h
    go_enter Try.func33, Try.ntmps33
    go_wp2
    go_quiet (fail)
    go_wp2
    go_ret
    exact ⟨rfl, _, rfl⟩
theorem rbad_end {w : World} {b : Nat} {s s' : ByteArray} {p : Int} {x : Bool} (h : w.heap[b]? = some (.cells #[.string s', .int .i64 p, .bool x] 82 (0, 0))) (n : Nat) :
    Rd 82 ((w.drewN n).setCell ⟨b, 2, none⟩ (.bool true)) b s none ∧ Apart (· = b) w ((w.drewN n).setCell ⟨b, 2, none⟩ (.bool true)) := by
  have h0 : (w.drewN n).heap[b]? = some (.cells #[.string s', .int .i64 p, .bool x] 82 (0, 0)) := h
  have h1 := heap_setCell_same _ b 2 _ 82 (.bool true) h0
  refine ⟨⟨s', p, ?_⟩, ?_⟩
  · rw [h1]; rfl
  · exact Apart.setCell ((Apart.refl (· = b) w).drewN n) (p := ⟨b, 2, none⟩) (fun _ => rfl) _
theorem rget_none (b : Nat) (s : ByteArray) (n : Int) (w : World) (h : Rd 82 w b s none) :
    Calls Try.prog 32 #[.pointer (some ⟨b, 0, none⟩), .int .i64 n] w fun e w' => e = .returned (.int .u32 0) ∧ Rd 82 w' b s none ∧ Apart (· = b) w w' := by
  obtain ⟨s', p, h⟩ := h
  obtain ⟨c0, c1, c2, f0, f1, f2⟩ := cells3 h
  have H := mkHid h
  clear h
  go_enter Try.func32, Try.ntmps32
  go_wp2
  go_quiet (fail)
  go_wp2
  go_ret
  exact ⟨rfl, rbad_end H.out nq⟩
theorem rget_wrong (b : Nat) (s : ByteArray) (hs : s.size ≤ 1000000) (p : Nat) (n : Int) (hn : ¬ (0 ≤ n ∧ n ≤ 32 ∧ (p : Int) + n ≤ 8 * s.size)) (w : World) (h : Rd 82 w b s (some p)) :
    Calls Try.prog 32 #[.pointer (some ⟨b, 0, none⟩), .int .i64 n] w fun e w' => e = .returned (.int .u32 0) ∧ Rd 82 w' b s none ∧ Apart (· = b) w w' := by
  obtain ⟨c0, c1, c2, f0, f1, f2⟩ := cells3 h.1
  have hp := h.2
  have H := mkHid h.1
  clear h
  by_cases h1 : n < 0
  · clear hn
    go_enter Try.func32, Try.ntmps32
    go_wp2
    go_quiet (fail)
    go_wp2
    go_ret
    exact ⟨rfl, rbad_end H.out nq⟩
  · by_cases h2 : 32 < n
    · have d1 : decide (n < 0) = false := by simpa using h1
      clear hn
      go_enter Try.func32, Try.ntmps32
      go_wp2
      go_quiet (fail)
      go_wp2
      go_ret
      exact ⟨rfl, rbad_end H.out nq⟩
    · have h3 : 8 * (s.size : Int) - p < n := by omega
      have d1 : decide (n < 0) = false := by simpa using h1
      have d2 : decide (32 < n) = false := by simpa using h2
      clear hn
      go_enter Try.func32, Try.ntmps32
      go_wp2
      go_quiet (fail)
      go_wp2
      go_ret
      exact ⟨rfl, rbad_end H.out nq⟩
theorem bit_step (s : ByteArray) (p r q f P n : Nat) (hP : p + r = P) (hq : P / 8 = q) (hf : P % 8 = f) (hr : r < n) (hn : n ≤ 32) (hlt : q < s.size) :
    ((gv s p r : Int) * 2 % 4294967296 + bits .and .u8 ((s[q].toNat : Int) / 2 ^ (7 - f)) 1 % 4294967296) % 4294967296 = (gv s p (r + 1) : Int) := by
  have g1 := gv_lt s p (r + 1)
  have p2 : 2 ^ (r + 1) ≤ 2 ^ 32 := Nat.pow_le_pow_right (by decide) (by omega)
  have e0 : bt s P = s[q].toNat / 2 ^ (7 - f) % 2 := by
    unfold bt
    rw [hq, hf]
    congr 3
    rw [List.getD_eq_getElem?_getD, List.getElem?_eq_getElem (by simpa using hlt)]
    rfl
  have e1 : ((s[q].toNat : Int) / 2 ^ (7 - f)) = ((s[q].toNat / 2 ^ (7 - f) : Nat) : Int) := by simp
  have l1 : s[q].toNat / 2 ^ (7 - f) < 256 := Nat.lt_of_le_of_lt (Nat.div_le_self _ _) s[q].toNat_lt
  have e2 : bits .and .u8 ((s[q].toNat / 2 ^ (7 - f) : Nat) : Int) 1 = ((bt s P : Nat) : Int) := by
    have := u8_and_nat (s[q].toNat / 2 ^ (7 - f)) 1 l1 (by decide)
    rw [e0, ← Nat.and_one_is_mod]; exact this
  have e3 : gv s p (r + 1) = 2 * gv s p r + bt s P := by rw [← hP]; rfl
  rw [e1, e2, e3]
  rw [e3] at g1
  omega

set_option maxRecDepth 100000 in
theorem rget_ok (b : Nat) (s : ByteArray) (hs : s.size ≤ 1000000) (p n : Nat) (h1 : n ≤ 32) (h2 : p + n ≤ 8 * s.size) (w : World) (h : Rd 82 w b s (some p)) :
    Calls Try.prog 32 #[.pointer (some ⟨b, 0, none⟩), .int .i64 n] w fun e w' => e = .returned (.int .u32 (gv s p n)) ∧ Rd 82 w' b s (some (p + n)) ∧ Apart (· = b) w w' := by
  obtain ⟨c0, c1, c2, f0, f1, f2⟩ := cells3 h.1
  have H := mkHid h
  have h3 : (n : Int) ≤ 8 * (s.size : Int) - p := by omega
  have d1 : decide ((n : Int) < 0) = false := by simp
  have d2 : decide ((32 : Int) < n) = false := by simp; omega
  have d3 : decide (8 * (s.size : Int) - p < n) = false := by simp; omega
  clear h
  go_enter Try.func32, Try.ntmps32
  go_wp2
  go_quiet (fail)
  go_wp2
  clear c0 c1 c2 f0 f1 f2 d1 d2 d3
  go_loopw [5, 6] (fun v i w' => ∃ r : Nat, r ≤ n ∧ i = .int .i64 (r : Int) ∧ v = .int .u32 (gv s p r : Int) ∧ Rd 82 w' b s (some (p + r)) ∧ Apart (· = b) w w') (fun _ i _ => n - (intOf i).toNat)
  case atStart => exact ⟨0, Nat.zero_le _, rfl, rfl, drew_rd nq H.out, (Apart.refl _ _).drewN nq⟩
  case round =>
    obtain ⟨r, hrn, rfl, rfl, hr, ha⟩ := hrel
    obtain ⟨P, HP⟩ : ∃ P, Hid (p + r = P) := ⟨_, rfl⟩
    rw [HP.out] at hr
    obtain ⟨c0, c1, c2, f0, f1, f2⟩ := cells3 hr.1
    have HR := mkHid hr
    have HA := mkHid ha
    clear hr ha
    by_cases hlt : r < n
    · have hP : P + 1 ≤ 8 * s.size := by have := HP.out; omega
      have hq1 : P / 8 < s.size := by omega
      have hf1 : P % 8 < 8 := by omega
      obtain ⟨q, Hq⟩ : ∃ q, Hid (P / 8 = q) := ⟨_, rfl⟩
      obtain ⟨f, Hf⟩ : ∃ f, Hid (P % 8 = f) := ⟨_, rfl⟩
      have hq : (P : Int) / 8 = (q : Nat) := by have := Hq.out; omega
      have hf : (P : Int) % 8 = (f : Nat) := by have := Hf.out; omega
      rw [Hq.out] at hq1
      rw [Hf.out] at hf1
      go_wp2
      go_quiet (fail)
      go_wp2
      obtain ⟨k1, k2⟩ := adv_end HR.out (k := 1) hP nq
      refine ⟨⟨r + 1, by omega, by go_num, ?_, ?_, HA.out.trans k2 (fun _ _ h => h)⟩, by simp [intOf]; omega⟩
      · rw [bit_step s p r q f P n HP.out Hq.out Hf.out hlt h1 hq1]
      · have : p + (r + 1) = P + 1 := by have := HP.out; omega
        rw [this]; exact k1
    · obtain rfl : r = n := by omega
      go_wp2
      go_ret
      have hr := HR.out
      rw [← HP.out] at hr
      exact ⟨rfl, hr, HA.out⟩
/-- Get of the reference, whatever it is asked. -/
theorem rget_any (b : Nat) (s : ByteArray) (hs : s.size ≤ 1000000) (st : Option Nat) (n : Int) (w : World) (h : Rd 82 w b s st) :
    Calls Try.prog 32 #[.pointer (some ⟨b, 0, none⟩), .int .i64 n] w fun e w' => e = .returned (.int .u32 (gval s st n)) ∧ Rd 82 w' b s (gnext s st n) ∧ Apart (· = b) w w' := by
  cases st with
  | none => exact rget_none b s n w h
  | some p =>
    simp only [gval, gnext]
    by_cases hc : 0 ≤ n ∧ n ≤ 32 ∧ (p : Int) + n ≤ 8 * s.size
    · rw [if_pos hc, if_pos hc]
      obtain ⟨m, rfl⟩ : ∃ m : Nat, n = m := ⟨n.toNat, by omega⟩
      exact rget_ok b s hs p m (by omega) (by omega) w h
    · rw [if_neg hc, if_neg hc]
      exact rget_wrong b s hs p n hc w h
end Go.Proofs.Ytmnpghelglohlaa
