/-
  The functions of muldiv, second part.
-/
import Derived.Test.YtjeffjpenhhnnaaWalks
import Derived.Test.YtjeffjpenhhnnaaPlainB
namespace Go.Proofs.Ytjeffjpenhhnnaa
open Go.RowKit
theorem up1 {w0 w : World} (h : Below w0.heap.size w0 w) (o : Obj) : Below w0.heap.size w0 (w.alloc o) := h.alloc h.size _
theorem ret_tup {a a' : Int} {b b' : Bool} (h : a = a' ∧ b = b') : Ending.returned (.tuple #[.int .i64 a, .bool b]) = .returned (.tuple #[.int .i64 a', .bool b']) := by rw [h.1, h.2]
set_option maxHeartbeats 400000 in
theorem hold_any (d0 d1 : Int) (below : Bool) (h0 : 0 ≤ d0) (k0 : 0 ≤ d1) (k1 : d1 < 18446744073709551616) (w : World) :
    Calls Try.prog 60 #[.agg #[.int .u64 d0, .int .u64 d1], .bool below] w fun e w' => e = .returned (.tuple #[.int .i64 (satH (if below then -(d0 * 18446744073709551616 + d1) else d0 * 18446744073709551616 + d1)), .bool (fitH (if below then -(d0 * 18446744073709551616 + d1) else d0 * 18446744073709551616 + d1))]) ∧ Below w.heap.size w w' := by
  cases below
  · go_enter Try.func60, Try.ntmps60
    go_wp2
    all_goals go_ret2
    all_goals refine ⟨ret_tup ?_, by go_grown⟩
    · exact sat_fit_in d1 (by omega) (by omega)
    · exact sat_fit_hi d1 (by omega)
    · exact sat_fit_hi _ (by omega)
  · go_enter Try.func60, Try.ntmps60
    go_wp2
    all_goals go_ret2
    all_goals refine ⟨ret_tup ?_, by go_grown⟩
    · rw [neg_word d1 k0 (by assumption)]
      exact sat_fit_in (-d1) (by omega) (by omega)
    · exact sat_fit_lo _ (by omega)
    · exact sat_fit_lo _ (by omega)

theorem divideP (p c : Int) (h0 : 0 ≤ p) (h1 : p ≤ 85070591730234615865843651857942052864) (c0 : 0 < c) (c1 : c < 18446744073709551616) (w : World) :
    Calls Try.prog 56 #[.agg #[.int .u64 (p / 18446744073709551616), .int .u64 (p % 18446744073709551616)], .int .u64 c] w fun e w' => e = .returned (.tuple #[.agg #[.int .u64 (p / c / 18446744073709551616), .int .u64 (p / c % 18446744073709551616)], .int .u64 (p % c)]) ∧ Below w.heap.size w w' := by
  obtain ⟨e1, e2, e3⟩ := halvesQ p c c0
  rw [← e1, ← e2, ← e3]
  exact divide_any _ _ c (by omega) (by omega) (by omega) (by omega) c0 c1 w
theorem plusOneP (q : Int) (h0 : 0 ≤ q) (h1 : q ≤ 85070591730234615865843651857942052864) (w : World) :
    Calls Try.prog 59 #[.agg #[.int .u64 (q / 18446744073709551616), .int .u64 (q % 18446744073709551616)]] w fun e w' => e = .returned (.agg #[.int .u64 ((q + 1) / 18446744073709551616), .int .u64 ((q + 1) % 18446744073709551616)]) ∧ ∃ o1 o2, w' = (w.alloc o1).alloc o2 := by
  have h := plusOne_any (q / 18446744073709551616) (q % 18446744073709551616) (by omega) (by omega) (by omega) (by omega) w
  rw [split_q q] at h
  exact h
theorem holdP (q : Int) (below : Bool) (h0 : 0 ≤ q) (w : World) :
    Calls Try.prog 60 #[.agg #[.int .u64 (q / 18446744073709551616), .int .u64 (q % 18446744073709551616)], .bool below] w fun e w' => e = .returned (.tuple #[.int .i64 (satH (sg below q)), .bool (fitH (sg below q))]) ∧ Below w.heap.size w w' := by
  have h := hold_any (q / 18446744073709551616) (q % 18446744073709551616) below (by omega) (by omega) (by omega) w
  rw [split_q q] at h
  exact h

set_option maxHeartbeats 1000000 in
theorem quotient_any (a b c how : Int) (a1 : -9223372036854775808 ≤ a) (a2 : a ≤ 9223372036854775807) (b1 : -9223372036854775808 ≤ b) (b2 : b ≤ 9223372036854775807) (c1 : -9223372036854775808 ≤ c) (c2 : c ≤ 9223372036854775807) (w : World) :
    Calls Try.prog 49 #[.int .i64 a, .int .i64 b, .int .i64 c, .int .i64 how] w fun e w' => e = .returned (.tuple #[.int .i64 (mdV a b c how), .bool (mdF a b c how)]) ∧ Below w.heap.size w w' := by
  by_cases hbad : c = 0 ∨ how < 1 ∨ 3 < how
  · have HV : Hid (mdV a b c how = 0 ∧ mdF a b c how = false) := ⟨by unfold mdV; rw [if_pos hbad], by unfold mdF; rw [if_pos hbad]⟩
    go_enter Try.func49, Try.ntmps49
    go_wp2_with fail
    all_goals go_ret2
    all_goals exact ⟨ret_tup ⟨HV.out.1.symm, HV.out.2.symm⟩, by go_grown⟩
  · have HV : Hid (mdV a b c how = satH (mdS a b c how) ∧ mdF a b c how = fitH (mdS a b c how)) := ⟨by unfold mdV; rw [if_neg hbad], by unfold mdF; rw [if_neg hbad]⟩
    have hc : ¬ c = 0 := fun h => hbad (.inl h)
    have hh1 : 1 ≤ how := by omega
    have hh2 : how ≤ 3 := by omega
    clear hbad
    have hp := prod_bd a b a1 a2 b1 b2
    have hA := ab_nonneg a; have hB := ab_nonneg b; have hC := ab_pos c hc
    have hA2 := ab_le a a1 a2; have hB2 := ab_le b b1 b2; have hC2 := ab_le c c1 c2
    have hq := quo_le (ab a * ab b) (ab c) hp.1 hC
    have SA := mkHid (fun w => size_any a a1 a2 w)
    have SB := mkHid (fun w => size_any b b1 b2 w)
    have SC := mkHid (fun w => size_any c c1 c2 w)
    have MU := mkHid (fun w => multiply_any (ab a) (ab b) (by omega) (by omega) (by omega) (by omega) w)
    have DI := mkHid (fun w => divideP (ab a * ab b) (ab c) hp.1 hp.2 hC (by omega) w)
    have RA := mkHid (fun w => roundsAway_any (mdNeg a b c) (ab a * ab b % ab c) (ab c) how (Int.emod_nonneg _ (Int.ne_of_gt hC)) (Int.emod_lt_of_pos _ hC) (by omega) w)
    have PO := mkHid (fun w => plusOneP (ab a * ab b / ab c) hq.1 (by omega) w)
    have HO0 := mkHid (fun w => holdP (ab a * ab b / ab c) (mdNeg a b c) hq.1 w)
    have HO1 := mkHid (fun w => holdP (ab a * ab b / ab c + 1) (mdNeg a b c) (by omega) w)
    have HQQ := mkHid (mdS_eq a b c how)
    clear hp hA hB hA2 hB2 hC2 hq
    go_enter Try.func49, Try.ntmps49
    go_wp2_with fail
    · rename_i hx
      rcases hx with (hx | hx) | hx
      · exact absurd (by simpa using hx) hc
      · omega
      · omega
    refine (SC.out _).mono ?_
    rintro e w1 ⟨rfl, rfl⟩
    go_wp2_with fail
    refine (SA.out _).mono ?_
    rintro e w2 ⟨rfl, rfl⟩
    go_wp2_with fail
    refine (SB.out _).mono ?_
    rintro e w3 ⟨rfl, rfl⟩
    go_wp2_with fail
    refine (MU.out _).mono ?_
    rintro e w4 ⟨rfl, hb4⟩
    go_wp2_with fail
    refine (carry hb4 (DI.out _)).mono ?_
    rintro e w5 ⟨rfl, hb5⟩
    go_wp2_with fail
    refine (RA.out _).mono ?_
    rintro e w6 ⟨rfl, rfl⟩
    generalize hm : mdAway (mdNeg a b c) (ab a * ab b % ab c) (ab c) how = m at *
    cases m
    · go_wp2_with fail
      refine (carry (up1 hb5 _) (HO0.out _)).mono ?_
      rintro e w7 ⟨rfl, hb7⟩
      go_wp2
      go_ret2
      refine ⟨ret_tup ?_, hb7⟩
      rw [HV.out.1, HV.out.2, HQQ.out]
      exact ⟨by simp [one], by simp [one]⟩
    · go_wp2_with fail
      refine (PO.out _).mono ?_
      rintro e w6 ⟨rfl, o1, o2, rfl⟩
      go_wp2_with fail
      refine (carry (up1 (up1 (up1 hb5 _) _) _) (HO1.out _)).mono ?_
      rintro e w7 ⟨rfl, hb7⟩
      go_wp2
      go_ret2
      refine ⟨ret_tup ?_, hb7⟩
      rw [HV.out.1, HV.out.2, HQQ.out]
      exact ⟨rfl, rfl⟩

set_option maxHeartbeats 400000 in
theorem do_any (a b c how : Int) (a1 : -9223372036854775808 ≤ a) (a2 : a ≤ 9223372036854775807) (b1 : -9223372036854775808 ≤ b) (b2 : b ≤ 9223372036854775807) (c1 : -9223372036854775808 ≤ c) (c2 : c ≤ 9223372036854775807) (w : World) :
    Calls Try.prog 44 #[.int .i64 a, .int .i64 b, .int .i64 c, .int .i64 how] w fun e w' => e = .returned (.int .i64 (mdV a b c how)) ∧ Below w.heap.size w w' := by
  go_enter Try.func44, Try.ntmps44
  go_wp2_with (go_at_call 49; refine (quotient_any a b c how a1 a2 b1 b2 c1 c2 _).mono ?_; rintro e w1 ⟨rfl, hb1⟩)
  go_ret
  exact ⟨rfl, hb1⟩
end Go.Proofs.Ytjeffjpenhhnnaa
