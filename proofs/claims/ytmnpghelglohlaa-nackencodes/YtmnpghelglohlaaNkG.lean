/-
  What the reference's Good hands back.
-/
import Derived.Test.YtmnpghelglohlaaNkB
import Derived.Test.YtmnpghelglohlaaWrR
namespace Go.Proofs.Ytmnpghelglohlaa
open Go.RowKit

theorem rafter16 (a b : Int) (w : World) : Calls Try.prog 38 #[.int .i64 a, .int .i64 b, .int .i64 16] w fun e w' => e = .returned (.bool (af a b)) ∧ w' = w := by
  by_cases h1 : a < 0 ∨ 65536 ≤ a ∨ b < 0 ∨ 65536 ≤ b
  · have e : af a b = false := by rw [Bool.eq_false_iff]; intro h; have := (af_iff _ _).1 h; omega
    rw [e]
    exact rafter_no a b 16 (by omega) (by omega) (by rw [hf16]; omega) w
  · have e : af a b = aV (hf 16) a b := by
      unfold af aV; rw [hf16, show (2 : Int) * 32768 = 65536 by rfl, decide_eq_decide]; omega
    rw [e]
    exact rafter_any a b 16 (by omega) (by omega) (by omega) (by rw [hf16]; omega) (by omega) (by rw [hf16]; omega) w
theorem rcrop16 (n : Int) (w : World) : Calls Try.prog 24 #[.int .i64 n, .int .i64 16] w fun e w' => e = .returned (.int .i64 (n % 65536)) ∧ w' = w := by
  have := rcrop_any n 16 (by omega) (by omega) w
  rw [hf16] at this
  exact this
set_option maxRecDepth 100000 in
set_option maxHeartbeats 2000000 in
theorem rgood_any (B : Nat) (w : World) (a : Option Addr) (c : Nat) (l : List Int) (hB : B ≤ w.heap.size) (h : IA B w a c l) :
    Calls Try.prog 21 #[.slice a l.length c] w fun e w' => e = .returned (.bool (isL l)) ∧ Apart (fun _ => False) w w' := by
  have m1 := h.len
  have A0 := mkHid (Apart.refl (fun _ => False) w)
  by_cases h1 : (4096 : Int) < l.length
  · rw [isL_long (by omega)]
    obtain ⟨n, HN⟩ : ∃ n, Hid (l.length = n) := ⟨_, rfl⟩
    rw [HN.out] at m1 h1 ⊢
    have h1' : ¬ (n : Int) < 1 := by omega
    clear h
    go_enter Try.func21, Try.ntmps21
    go_wp2
    go_ret
    exact ⟨rfl, A0.out⟩
  · cases l with
    | nil =>
      clear h h1
      simp only [List.length_nil] at *
      go_enter Try.func21, Try.ntmps21
      go_wp2
      go_ret
      exact ⟨rfl, A0.out⟩
    | cons f t =>
      obtain ⟨b, off, f', rfl, _, hf, c0⟩ := h.at 0 (by simp)
      obtain rfl : f = f' := by simpa using hf
      have H := mkHid h
      rw [Nat.add_zero] at c0
      obtain ⟨n, HN⟩ : ∃ n, Hid (t.length = n) := ⟨_, rfl⟩
      have hc := h.1
      simp only [List.length_cons] at m1 h1 hc ⊢
      rw [isL_cons]
      rw [HN.out] at m1 h1 hc ⊢
      rw [decide_eq_true (show n < 4096 by omega), Bool.true_and]
      obtain ⟨m, HM⟩ : ∃ m, Hid (n + 1 = m) := ⟨_, rfl⟩
      rw [HM.out] at m1 h1 hc ⊢
      have hm1 : ¬ (m : Int) < 1 := by have := HM.out; omega
      have hm2 : (m : Int) ≤ 4096 := by omega
      have hm3 : (m : Int) ≤ c := by omega
      have hm4 : (1 : Int) ≤ m := by omega
      clear h hf h1 hc
      by_cases h2 : f < 0
      · rw [decide_eq_false (show ¬ 0 ≤ f by omega), Bool.false_and]
        go_enter Try.func21, Try.ntmps21
        go_wp2
        go_ret
        exact ⟨rfl, A0.out⟩
      · by_cases h3 : (65535 : Int) < f
        · rw [decide_eq_true (show 0 ≤ f by omega), decide_eq_false (show ¬ f < 65536 by omega), Bool.true_and, Bool.false_and]
          go_enter Try.func21, Try.ntmps21
          go_wp2
          go_ret
          exact ⟨rfl, A0.out⟩
        · rw [decide_eq_true (show 0 ≤ f by omega), decide_eq_true (show f < 65536 by omega), Bool.true_and, Bool.true_and]
          obtain ⟨r, HR⟩ : ∃ r, Hid (okL f f t = r) := ⟨_, rfl⟩
          have HRR := mkHid (show okR f f t = r by rw [okR_eq f (by omega) (by omega) t f (by omega)]; exact HR.out)
          rw [HR.out]
          go_enter Try.func21, Try.ntmps21
          go_wp2
          clear c0
          go_loopw [3] (fun i wr => ∃ (k : Nat) (x : Int), k ≤ n ∧ i = .int .i64 ((k : Int) + 1) ∧ (f :: t)[k]? = some x ∧ okR f x (t.drop k) = r ∧ Apart (fun _ => False) w wr) (fun i _ => n + 1 - (intOf i).toNat)
          case atStart => exact ⟨0, f, Nat.zero_le _, rfl, rfl, HRR.out, A0.out⟩
          case round =>
            obtain ⟨k, x, hk, rfl, hx, hr, hap⟩ := hrel
            have HRK := mkHid hr
            have HAP := mkHid hap
            have HX := mkHid hx
            have HI := mkHid (H.out.kept (hap.belowF B hB))
            clear hr hap hx
            by_cases hlt : k < n
            · obtain ⟨b1, off1, x1, hb1, _, hx1, cx⟩ := HI.out.at k (by rw [List.length_cons, HN.out]; omega)
              obtain ⟨b2, off2, v, hb2, _, hv, cv⟩ := HI.out.at (k + 1) (by rw [List.length_cons, HN.out]; omega)
              obtain ⟨b3, off3, f3, hb3, _, hf3, cf⟩ := HI.out.at 0 (by simp)
              simp only [Option.some.injEq, Addr.mk.injEq, and_true] at hb1 hb2 hb3
              obtain ⟨rfl, rfl⟩ := hb1
              obtain ⟨rfl, rfl⟩ := hb2
              obtain ⟨rfl, rfl⟩ := hb3
              obtain rfl : x = x1 := by have := HX.out; rw [hx1] at this; exact (Option.some.inj this).symm
              obtain rfl : f = f3 := by simpa using hf3
              rw [List.getElem?_cons_succ] at hv
              rw [Nat.add_zero] at cf
              have HV := mkHid (drop_at hv)
              have HVG := mkHid hv
              clear hx1 hv hf3
              have k0 : (0 : Int) ≤ k := by omega
              have k1 : (k : Int) + 1 < m := by have := HM.out; omega
              have A1 := mkHid (rafter16 v x)
              have A2 := mkHid (rcrop16 (v - f))
              have HRR := mkHid (show (af v x && (decide ((v - f) % 65536 < 32768) && okR f v (t.drop (k + 1)))) = r by have := HRK.out; rw [HV.out, okR] at this; exact this)
              obtain ⟨p, HP⟩ : ∃ p, Hid (af v x = p) := ⟨_, rfl⟩
              obtain ⟨d, HD⟩ : ∃ d, Hid ((v - f) % 65536 = d) := ⟨_, rfl⟩
              rw [HP.out] at A1 HRR
              rw [HD.out] at A2 HRR
              cases p with
              | false =>
                obtain rfl : false = r := HRR.out
                go_wp2_with fail
                go_quiet (first | (go_at_call 38; exact Calls.quiet_of_same (A1.out _)) | (go_at_call 24; exact Calls.quiet_of_same (A2.out _)))
                go_wp2
                go_ret
                exact ⟨rfl, HAP.out.drewN _⟩
              | true =>
                obtain ⟨v0, v1, -⟩ := (af_iff _ _).1 HP.out
                have hd0 : 0 ≤ d := by have := HD.out; omega
                have hd1 : d < 65536 := by have := HD.out; omega
                by_cases hd : (32768 : Int) ≤ d
                · obtain rfl : false = r := by have := HRR.out; rw [decide_eq_false (by omega), Bool.false_and, Bool.and_false] at this; exact this
                  go_wp2_with fail
                  go_quiet (first | (go_at_call 38; exact Calls.quiet_of_same (A1.out _)) | (go_at_call 24; exact Calls.quiet_of_same (A2.out _)))
                  go_wp2
                  go_ret
                  exact ⟨rfl, HAP.out.drewN _⟩
                · have HRN := mkHid (show okR f v (t.drop (k + 1)) = r by have := HRR.out; rw [decide_eq_true (by omega), Bool.true_and, Bool.true_and] at this; exact this)
                  go_wp2_with fail
                  go_quiet (first | (go_at_call 38; exact Calls.quiet_of_same (A1.out _)) | (go_at_call 24; exact Calls.quiet_of_same (A2.out _)))
                  go_wp2
                  go_roundw
                  case rel => exact ⟨k + 1, v, by omega, by go_num, (by rw [List.getElem?_cons_succ]; exact HVG.out), HRN.out, HAP.out.drewN _⟩
                  case measure => simp [intOf]; omega
            · obtain rfl : k = n := by omega
              obtain rfl : true = r := by have := HRK.out; rw [← HN.out, List.drop_length] at this; exact this
              have k1 : ¬ (k : Int) + 1 < m := by have := HM.out; omega
              go_wp2
              go_ret
              exact ⟨rfl, HAP.out⟩
end Go.Proofs.Ytmnpghelglohlaa
