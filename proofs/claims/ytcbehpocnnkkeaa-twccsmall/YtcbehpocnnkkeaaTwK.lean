/-
  What the functions that look at the next Status hand back.
-/
import Derived.Test.YtcbehpocnnkkeaaTwM
namespace Go.Proofs.Ytcbehpocnnkkeaa
open Go.RowKit

theorem unlike_any (x s0 : Int) (bq b off n c : Nat) (hn : 0 < n) (w : World) (h0 : w.cell? ⟨bq, 0, none⟩ = some (.slice (some ⟨b, off, none⟩) n c)) (h1 : w.cell? ⟨b, off, none⟩ = some (.int .i64 s0)) :
    Calls Try.prog 66 #[.int .i64 x, .pointer (some ⟨bq, 0, none⟩)] w fun e w' => e = .returned (.bool (!decide (x = s0))) ∧ w' = w := by
  have hn' : (0 : Int) < n := by omega
  go_enter Try.func66, Try.ntmps66
  go_wp2
  go_ret
  exact ⟨ret_b (by rw [Bool.eq_iff_iff]; simp), rfl⟩
theorem cnt_at {s : Int} {l : List Int} {k : Nat} {x : Int} (h : l[k]? = some x) : cnt s (l.drop k) = if x = s then cnt s (l.drop (k + 1)) + 1 else 0 := by
  rw [drop_at h, cnt]
set_option maxRecDepth 100000 in
set_option maxHeartbeats 400000 in
theorem indexf_any (B bq c : Nat) (a : Option Addr) (l : List Int) (hn : 0 < l.length) (w : World) (h : IA B w a c l) (hq : w.cell? ⟨bq, 0, none⟩ = some (.slice a l.length c)) :
    Calls Try.prog 65 #[.slice a l.length c, .func (.func 66) #[] #[.pointer (some ⟨bq, 0, none⟩)]] w fun e w' => e = .returned (.int .i64 (if alk l = l.length then -1 else (alk l : Int))) ∧ w' = w := by
  have H := mkHid h
  have m1 := h.len
  obtain ⟨b, off, s0, rfl, _, hs, c0⟩ := h.at 0 hn
  rw [Nat.add_zero] at c0
  have e0 : l.getD 0 0 = s0 := by rw [List.getD_eq_getElem?_getD, hs]; rfl
  unfold alk
  rw [e0]
  obtain ⟨n, HN⟩ : ∃ n, Hid (l.length = n) := ⟨_, rfl⟩
  obtain ⟨r, HR⟩ : ∃ r, Hid (cnt s0 l = r) := ⟨_, rfl⟩
  rw [HN.out] at m1 hn hq ⊢
  rw [HR.out]
  obtain ⟨E, HE⟩ : ∃ E : Int, Hid ((if r = n then -1 else (r : Int)) = E) := ⟨_, rfl⟩
  rw [HE.out]
  have UN := mkHid (fun x => unlike_any x s0 bq b off n c hn w hq c0)
  clear h hs e0 hq c0
  go_enter Try.func65, Try.ntmps65
  go_wp2
  go_loopw [8] (fun i wr => wr = w ∧ ∃ k : Nat, k ≤ n ∧ i = .int .i64 (k : Int) ∧ r = k + cnt s0 (l.drop k)) (fun i _ => n - (intOf i).toNat)
  case atStart => exact ⟨rfl, 0, Nat.zero_le _, rfl, by rw [List.drop_zero, HR.out]; omega⟩
  case round =>
    obtain ⟨rfl, k, hk, rfl, hr⟩ := hrel
    have HRR := mkHid hr
    clear hr
    by_cases hlt : k < n
    · obtain ⟨b', off', x, e1, _, hx, c1⟩ := H.out.at k (by rw [HN.out]; exact hlt)
      simp only [Option.some.injEq, Addr.mk.injEq, and_true] at e1
      obtain ⟨rfl, rfl⟩ := e1
      have HX := mkHid (cnt_at (s := s0) hx)
      have UX := mkHid (UN.out x)
      clear hx
      by_cases h0 : x = s0
      · rw [decide_eq_true h0] at UX
        rw [if_pos h0] at HX
        clear h0
        go_wp2_with fail
        refine (UX.out).mono ?_
        rintro e w1 ⟨rfl, rfl⟩
        go_wp2
        go_roundw
        case rel => exact ⟨by trivial, k + 1, by omega, by go_num, by rw [HRR.out, HX.out]; omega⟩
        case measure => simp [intOf]; omega
      · rw [decide_eq_false h0] at UX
        rw [if_neg h0] at HX
        go_wp2_with fail
        refine (UX.out).mono ?_
        rintro e w1 ⟨rfl, rfl⟩
        go_wp2
        go_ret
        refine ⟨ret_i ?_, rfl⟩
        have : r = k := by rw [HRR.out, HX.out]; rfl
        rw [← HE.out, if_neg (by omega), this]
    · obtain rfl : k = n := by omega
      go_wp2
      go_ret
      refine ⟨ret_i ?_, rfl⟩
      have : r = k := by rw [HRR.out, ← HN.out, List.drop_length]; rfl
      rw [← HE.out, if_pos this]
set_option maxRecDepth 100000 in
set_option maxHeartbeats 400000 in
theorem alike_any (B c : Nat) (a : Option Addr) (l : List Int) (hn : 0 < l.length) (w : World) (hB : B ≤ w.heap.size) (h : IA B w a c l) :
    Calls Try.prog 56 #[.slice a l.length c] w fun e w' => e = .returned (.int .i64 (alk l : Int)) ∧ Apart (fun _ => False) w w' := by
  have m1 := h.len
  have ha := alk_le l
  have A0 := mkHid ((Apart.refl (fun _ => False) w).alloc (.cells #[.slice a l.length c] 77))
  have c0 := cell_of_row _ w.heap.size 0 _ 77 _ (heap_alloc_new w (.cells #[.slice a l.length c] 77))
  have c0 : (w.alloc (.cells #[.slice a l.length c] 77)).cell? ⟨w.heap.size, 0, none⟩ = some (.slice a l.length c) := c0
  have IX := mkHid (indexf_any B w.heap.size c a l hn _ (h.kept (A0.out.belowF B hB)) c0)
  obtain ⟨n, HN⟩ : ∃ n, Hid (l.length = n) := ⟨_, rfl⟩
  obtain ⟨r, HR⟩ : ∃ r, Hid (alk l = r) := ⟨_, rfl⟩
  rw [HN.out] at m1 A0 IX c0 ⊢
  rw [HR.out] at IX ⊢
  rw [HR.out, HN.out] at ha
  obtain ⟨bx, HBX⟩ : ∃ bx, Hid (w.heap.size = bx) := ⟨_, rfl⟩
  obtain ⟨W, HW⟩ : ∃ W, Hid (w.alloc (.cells #[.slice a n c] 77) = W) := ⟨_, rfl⟩
  rw [HW.out, HBX.out] at c0 IX
  rw [HW.out] at A0
  clear h
  by_cases hr : r = n
  · rw [if_pos hr] at IX
    subst hr
    go_enter Try.func56, Try.ntmps56
    go_wp2_with fail
    rw [HW.out, HBX.out]
    go_wp2_with fail
    refine (IX.out).mono ?_
    rintro e w1 ⟨rfl, rfl⟩
    go_wp2
    go_ret
    exact ⟨rfl, A0.out⟩
  · rw [if_neg hr] at IX
    have hr0 : (r : Int) ≤ 9223372036854775807 := by omega
    go_enter Try.func56, Try.ntmps56
    go_wp2_with fail
    rw [HW.out, HBX.out]
    go_wp2_with fail
    refine (IX.out).mono ?_
    rintro e w1 ⟨rfl, rfl⟩
    go_wp2
    go_ret
    exact ⟨rfl, A0.out⟩
set_option maxRecDepth 100000 in
set_option maxHeartbeats 400000 in
theorem index_any (B c : Nat) (a : Option Addr) (l : List Int) (v : Int) (w : World) (h : IA B w a c l) :
    Calls Try.prog 67 #[.slice a l.length c, .int .i64 v] w fun e w' => (∃ r : Int, e = .returned (.int .i64 r) ∧ -1 ≤ r ∧ l.contains v = decide (0 ≤ r)) ∧ w' = w := by
  have H := mkHid h
  have m1 := h.len
  obtain ⟨n, HN⟩ : ∃ n, Hid (l.length = n) := ⟨_, rfl⟩
  obtain ⟨r, HR⟩ : ∃ r, Hid (l.contains v = r) := ⟨_, rfl⟩
  rw [HN.out] at m1 ⊢
  rw [HR.out]
  clear h
  go_enter Try.func67, Try.ntmps67
  go_wp2
  go_loopw [8] (fun i wr => wr = w ∧ ∃ k : Nat, k ≤ n ∧ i = .int .i64 (k : Int) ∧ r = (l.drop k).contains v) (fun i _ => n - (intOf i).toNat)
  case atStart => exact ⟨rfl, 0, Nat.zero_le _, rfl, by rw [List.drop_zero, HR.out]⟩
  case round =>
    obtain ⟨rfl, k, hk, rfl, hr⟩ := hrel
    have HRR := mkHid hr
    clear hr
    by_cases hlt : k < n
    · obtain ⟨b, off, x, rfl, _, hx, c1⟩ := H.out.at k (by rw [HN.out]; exact hlt)
      have HX := mkHid (drop_at hx)
      clear hx
      by_cases h0 : v = x
      · go_wp2
        go_ret
        refine ⟨⟨_, rfl, by omega, ?_⟩, rfl⟩
        rw [HRR.out, HX.out, h0]
        simp
      · go_wp2
        go_roundw
        case rel =>
          refine ⟨by trivial, k + 1, by omega, by go_num, ?_⟩
          rw [HRR.out, HX.out]
          simp [h0]
        case measure => simp [intOf]; omega
    · obtain rfl : k = n := by omega
      go_wp2
      go_ret
      refine ⟨⟨_, rfl, by omega, ?_⟩, rfl⟩
      rw [HRR.out, ← HN.out, List.drop_length]
      rfl
theorem contains_any (B c : Nat) (a : Option Addr) (l : List Int) (v : Int) (w : World) (h : IA B w a c l) :
    Calls Try.prog 58 #[.slice a l.length c, .int .i64 v] w fun e w' => e = .returned (.bool (l.contains v)) ∧ w' = w := by
  have IX := mkHid (index_any B c a l v w h)
  obtain ⟨n, HN⟩ : ∃ n, Hid (l.length = n) := ⟨_, rfl⟩
  rw [HN.out] at IX ⊢
  clear h
  go_enter Try.func58, Try.ntmps58
  go_wp2_with fail
  refine (IX.out).mono ?_
  rintro e w1 ⟨⟨r, rfl, h0, h1⟩, rfl⟩
  have H1 := mkHid h1
  clear h1
  go_wp2
  go_ret
  exact ⟨ret_b (by rw [H1.out]), rfl⟩
end Go.Proofs.Ytcbehpocnnkkeaa
