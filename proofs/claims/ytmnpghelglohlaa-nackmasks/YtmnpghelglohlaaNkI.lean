/-
  Whether a list may be: what isList and lostError hand back.
-/
import Derived.Test.YtmnpghelglohlaaNkM
namespace Go.Proofs.Ytmnpghelglohlaa
open Go.RowKit

theorem isL_long {l : List Int} (h : 4096 < l.length) : isL l = false := by
  rw [Bool.eq_false_iff]; intro h'; have := ((isL_iff l).1 h').2.1; omega
theorem isL_cons (f : Int) (t : List Int) : isL (f :: t) = (decide (t.length < 4096) && (decide (0 ≤ f) && (decide (f < 65536) && okL f f t))) := rfl
set_option maxRecDepth 100000 in
set_option maxHeartbeats 1000000 in
theorem islist_any (B : Nat) (w : World) (a : Option Addr) (c : Nat) (l : List Int) (h : IA B w a c l) :
    Calls Try.prog 16 #[.slice a l.length c] w fun e w' => e = .returned (.bool (isL l)) ∧ w' = w := by
  have m1 := h.len
  by_cases h1 : (4096 : Int) < l.length
  · rw [isL_long (by omega)]
    obtain ⟨n, HN⟩ : ∃ n, Hid (l.length = n) := ⟨_, rfl⟩
    rw [HN.out] at m1 h1 ⊢
    clear h
    go_enter Try.func16, Try.ntmps16
    go_wp2
    go_ret
    exact ⟨rfl, rfl⟩
  · cases l with
    | nil =>
      clear h h1
      simp only [List.length_nil] at *
      go_enter Try.func16, Try.ntmps16
      go_wp2
      go_ret
      exact ⟨rfl, rfl⟩
    | cons f t =>
      obtain ⟨b, off, f', rfl, _, hf, c0⟩ := h.at 0 (by simp)
      obtain rfl : f = f' := by simpa using hf
      have H := mkHid h
      rw [Nat.add_zero] at c0
      obtain ⟨n, HN⟩ : ∃ n, Hid (t.length = n) := ⟨_, rfl⟩
      have hc := h.1
      simp only [List.length_cons] at m1 h1 hc ⊢
      rw [isL_cons]
      rw [HN.out] at m1 h1 hc ⊢
      rw [decide_eq_true (show n < 4096 by omega), Bool.true_and]
      obtain ⟨m, HM⟩ : ∃ m, Hid (n + 1 = m) := ⟨_, rfl⟩
      rw [HM.out] at m1 h1 hc ⊢
      have hm1 : (1 : Int) ≤ m := by have := HM.out; omega
      have hm2 : (m : Int) ≤ 4096 := by omega
      have hm3 : (m : Int) ≤ c := by omega
      clear h hf h1 hc
      by_cases h2 : f < 0
      · rw [decide_eq_false (show ¬ 0 ≤ f by omega), Bool.false_and]
        go_enter Try.func16, Try.ntmps16
        go_wp2
        go_ret
        exact ⟨rfl, rfl⟩
      · by_cases h3 : (65535 : Int) < f
        · rw [decide_eq_true (show 0 ≤ f by omega), decide_eq_false (show ¬ f < 65536 by omega), Bool.true_and, Bool.false_and]
          go_enter Try.func16, Try.ntmps16
          go_wp2
          go_ret
          exact ⟨rfl, rfl⟩
        · rw [decide_eq_true (show 0 ≤ f by omega), decide_eq_true (show f < 65536 by omega), Bool.true_and, Bool.true_and]
          obtain ⟨r, HR⟩ : ∃ r, Hid (okL f f t = r) := ⟨_, rfl⟩
          rw [HR.out]
          have hm4 : ((m : Int) == 0) = false := by simp; omega
          have hm5 : ((m - 1 : Nat) : Int) = n := by have := HM.out; omega
          by_cases hc1 : c = 1
          · subst hc1
            obtain rfl : m = 1 := by omega
            obtain rfl : n = 0 := by have := HM.out; omega
            obtain rfl := List.eq_nil_of_length_eq_zero HN.out
            obtain rfl : true = r := HR.out
            go_enter Try.func16, Try.ntmps16
            go_wp2
            go_loopw [3, 5, 32] (fun la v i wr => wr = w ∧ i = .int .i64 0) (fun _ _ _ _ => 0)
            case atStart => exact ⟨rfl, rfl⟩
            case round =>
              obtain ⟨rfl, rfl⟩ := hrel
              go_wp2
              go_ret
              exact ⟨rfl, rfl⟩
          · go_enter Try.func16, Try.ntmps16
            go_wp2
            go_loopw [3, 5, 32] (fun la v i wr => wr = w ∧ ∃ (k : Nat) (x : Int), k ≤ n ∧ i = .int .i64 (k : Int) ∧ la = .int .i64 x ∧ okL f x (t.drop k) = r) (fun _ _ i _ => n - (intOf i).toNat)
            case atStart => exact ⟨rfl, 0, f, Nat.zero_le _, rfl, rfl, HR.out⟩
            case round =>
              obtain ⟨rfl, k, x, hk, rfl, rfl, hr⟩ := hrel
              have HRK := mkHid hr
              clear hr
              by_cases hlt : k < n
              · obtain ⟨b', off', v, hb, _, hv, cv⟩ := H.out.at (k + 1) (by rw [List.length_cons, HN.out]; omega)
                simp only [Option.some.injEq, Addr.mk.injEq, and_true] at hb
                obtain ⟨rfl, rfl⟩ := hb
                rw [List.getElem?_cons_succ] at hv
                have HV := mkHid (drop_at hv)
                rw [show off + (k + 1) = off + 1 + k by omega] at cv
                have k0 : (0 : Int) ≤ k := by omega
                have k1 : (k : Int) < n := by omega
                have A1 := mkHid (after16 v x)
                have A2 := mkHid (after16 v f)
                have HRR := mkHid (show (af v x && (af v f && okL f v (t.drop (k + 1)))) = r by have := HRK.out; rw [HV.out, okL] at this; exact this)
                obtain ⟨p, HP⟩ : ∃ p, Hid (af v x = p) := ⟨_, rfl⟩
                obtain ⟨q, HQ⟩ : ∃ q, Hid (af v f = q) := ⟨_, rfl⟩
                rw [HP.out] at A1 HRR
                rw [HQ.out] at A2 HRR
                clear hv
                cases p with
                | false =>
                  obtain rfl : false = r := HRR.out
                  go_wp2_with fail
                  refine (A1.out _).mono ?_
                  rintro e w1 ⟨rfl, rfl⟩
                  go_wp2
                  go_ret
                  exact ⟨rfl, rfl⟩
                | true =>
                  cases q with
                  | false =>
                    obtain rfl : false = r := HRR.out
                    go_wp2_with fail
                    refine (A1.out _).mono ?_
                    rintro e w1 ⟨rfl, rfl⟩
                    go_wp2_with fail
                    refine (A2.out _).mono ?_
                    rintro e w1 ⟨rfl, rfl⟩
                    go_wp2
                    go_ret
                    exact ⟨rfl, rfl⟩
                  | true =>
                    go_wp2_with fail
                    refine (A1.out _).mono ?_
                    rintro e w1 ⟨rfl, rfl⟩
                    go_wp2_with fail
                    refine (A2.out _).mono ?_
                    rintro e w1 ⟨rfl, rfl⟩
                    go_wp2
                    go_roundw
                    case rel => exact ⟨by trivial, k + 1, v, by omega, by go_num, rfl, HRR.out⟩
                    case measure => simp [intOf]; omega
              · obtain rfl : k = n := by omega
                obtain rfl : true = r := by have := HRK.out; rw [← HN.out, List.drop_length] at this; exact this
                go_wp2
                go_ret
                exact ⟨rfl, rfl⟩
theorem losterr_any (B : Nat) (w : World) (a : Option Addr) (c : Nat) (l : List Int) (h : IA B w a c l) :
    Calls Try.prog 30 #[.slice a l.length c] w fun e w' => e = .returned (.int .i64 (if 4096 < l.length then 3 else if isL l = true then 0 else 110)) ∧ w' = w := by
  have m1 := h.len
  have I := mkHid (islist_any B w a c l h)
  obtain ⟨n, HN⟩ : ∃ n, Hid (l.length = n) := ⟨_, rfl⟩
  rw [HN.out] at m1 I ⊢
  obtain ⟨r, HR⟩ : ∃ r, Hid (isL l = r) := ⟨_, rfl⟩
  rw [HR.out] at I ⊢
  clear h
  by_cases h1 : (4096 : Int) < n
  · rw [if_pos (by omega)]
    go_enter Try.func30, Try.ntmps30
    go_wp2
    go_ret
    exact ⟨rfl, rfl⟩
  · rw [if_neg (by omega)]
    cases r with
    | false =>
      go_enter Try.func30, Try.ntmps30
      go_wp2_with fail
      refine (I.out).mono ?_
      rintro e w1 ⟨rfl, rfl⟩
      go_wp2
      go_ret
      exact ⟨rfl, rfl⟩
    | true =>
      go_enter Try.func30, Try.ntmps30
      go_wp2_with fail
      refine (I.out).mono ?_
      rintro e w1 ⟨rfl, rfl⟩
      go_wp2
      go_ret
      exact ⟨rfl, rfl⟩
end Go.Proofs.Ytmnpghelglohlaa
