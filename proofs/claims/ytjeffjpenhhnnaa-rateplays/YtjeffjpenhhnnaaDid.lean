/-
  The reference's Did: what it tells.
-/
import Derived.Test.YtjeffjpenhhnnaaPart
import Derived.Test.YtjeffjpenhhnnaaPlainD
import Derived.Deep.Light
import Derived.Deep.DeepCutAuto
import Derived.Deep.CutBlock
namespace Go.Proofs.Ytjeffjpenhhnnaa
open Go.RowKit

theorem ret_ag {a a' : Int} {b b' : Bool} (h : a = a' ∧ b = b') : Ending.returned (.agg #[.int .i64 a, .bool b]) = .returned (.agg #[.int .i64 a', .bool b']) := by rw [h.1, h.2]
theorem ret_in {x z : Int} (h : x = z) (h1 : -9223372036854775808 ≤ z) (h2 : z ≤ 9223372036854775807) : Ending.returned (.agg #[.int .i64 x, .bool true]) = .returned (.agg #[.int .i64 (satH z), .bool (fitH z)]) := by rw [h]; exact ret_ag (sat_fit_in z h1 h2)
theorem sgT (q : Int) : sg true q = -q := rfl
theorem sgF (q : Int) : sg false q = q := rfl
theorem oneT : one true = 1 := rfl
theorem oneF : one false = 0 := rfl
theorem ne_of_beq {a c : Int} (h : (a == c) = false) : a ≠ c := by simpa using h
theorem plus_word (Q : Int) : IntKind.u64.wrap (Q % 18446744073709551616 + 1) = (Q + 1) % 18446744073709551616 := by rw [IntKind.wrap_u64]; omega
theorem neg_form (a b c : Int) : mdNeg a b c = (((decide (a < 0) == decide (b < 0)).not) == decide (c < 0)).not := rfl
set_option maxRecDepth 100000 in
set_option maxHeartbeats 4000000 in
theorem did_any (a b c how : Int) (a1 : -9223372036854775808 ≤ a) (a2 : a ≤ 9223372036854775807) (b1 : -9223372036854775808 ≤ b) (b2 : b ≤ 9223372036854775807) (c1 : -9223372036854775808 ≤ c) (c2 : c ≤ 9223372036854775807) (w : World) :
    Calls Try.prog 45 #[.int .i64 a, .int .i64 b, .int .i64 c, .int .i64 how] w fun e w' => e = .returned (.agg #[.int .i64 (mdV a b c how), .bool (mdF a b c how)]) ∧ Below w.heap.size w w' := by
  by_cases hbad : c = 0 ∨ how < 1 ∨ 3 < how
  · have HV : Hid (mdV a b c how = 0 ∧ mdF a b c how = false) := ⟨by unfold mdV; rw [if_pos hbad], by unfold mdF; rw [if_pos hbad]⟩
    go_enter Try.func45, Try.ntmps45
    go_wp2_with fail
    all_goals go_returns
    all_goals exact ⟨by rw [HV.out.1, HV.out.2], by go_grown⟩
  · have HV : Hid (mdV a b c how = satH (mdS a b c how) ∧ mdF a b c how = fitH (mdS a b c how)) := ⟨by unfold mdV; rw [if_neg hbad], by unfold mdF; rw [if_neg hbad]⟩
    have hc : ¬ c = 0 := fun h => hbad (.inl h)
    have hh1 : 1 ≤ how := by omega
    have hh2 : how ≤ 3 := by omega
    clear hbad
    have hp := prod_bd a b a1 a2 b1 b2
    have hA := ab_nonneg a; have hB := ab_nonneg b; have hC := ab_pos c hc
    have hA2 := ab_le a a1 a2; have hB2 := ab_le b b1 b2; have hC2 := ab_le c c1 c2
    have hq := quo_le (ab a * ab b) (ab c) hp.1 hC
    have SA := mkHid (fun w => rsize_any a a1 a2 w)
    have SB := mkHid (fun w => rsize_any b b1 b2 w)
    have SC := mkHid (fun w => rsize_any c c1 c2 w)
    have TI := mkHid (fun w => times_any (ab a) (ab b) (by omega) (by omega) (by omega) (by omega) w)
    have PA := mkHid (fun w => part_any (ab a * ab b) (ab c) hp.1 (by omega) hC hC2 w)
    have HQQ := mdS_eq a b c how
    rw [neg_form] at HQQ
    have HQQ := mkHid HQQ
    have hl0 := Int.emod_nonneg (ab a * ab b) (Int.ne_of_gt hC)
    have hl1 := Int.emod_lt_of_pos (ab a * ab b) hC
    have hq2 : ab a * ab b / ab c ≤ 85070591730234615865843651857942052864 := by omega
    clear hp hA hB hA2 hB2
    obtain ⟨hq0, _⟩ := hq
    generalize ab a * ab b / ab c = Q at *
    generalize ab a * ab b % ab c = l at *
    go_enter Try.func45, Try.ntmps45
    go_wp2_with fail
    · rename_i hx
      rcases hx with (hx | hx) | hx
      · exact absurd (by simpa using hx) hc
      · omega
      · omega
    refine (SA.out _).mono ?_
    rintro e w1 ⟨rfl, rfl⟩
    go_wp2_with fail
    refine (SB.out _).mono ?_
    rintro e w2 ⟨rfl, rfl⟩
    go_wp2_with fail
    refine (TI.out _).mono ?_
    rintro e w3 ⟨rfl, o1, rfl⟩
    go_wp2_with fail
    refine (SC.out _).mono ?_
    rintro e w4 ⟨rfl, rfl⟩
    go_wp2_with fail
    refine (PA.out _).mono ?_
    rintro e w5 ⟨rfl, o2, o3, o4, rfl⟩
    go_upto_block 0 with fail
    generalize ((decide (a < 0) == decide (b < 0)).not == decide (c < 0)) = E at *
    clear SA SB TI PA
    go_cut [11] (fun s wx => s = .bool (mdAway E.not l (ab c) how) ∧ ∃ n, wx = ((((((w.alloc (.cells #[.int .i64 0, .bool false] 74)).alloc o1).alloc o2).alloc o3).alloc o4).alloc (.cells #[.int .u64 (Q % 18446744073709551616), .bool (decide (18446744073709551616 ≤ Q)), .int .u64 l] 82)).drewN n)
    case first =>
      go_wp2_with fail
      · have hl : l = 0 := by simpa using ‹(l == 0) = true›
        go_meet
        case rel =>
          rw [hl, away0 _ _ _ hC]
          exact ⟨rfl, 0, rfl⟩
      · have hl : 0 < l := by have := ne_of_beq ‹(l == 0) = false›; omega
        have hh : how = 1 := by simpa using ‹(how == 1) = true›
        go_meet
        case rel => exact ⟨by rw [hh]; simp [mdAway, hl], 0, rfl⟩
      · have hl : 0 < l := by have := ne_of_beq ‹(l == 0) = false›; omega
        have hh : how = 3 := by simpa using ‹(how == 3) = true›
        go_meet
        case rel => exact ⟨by rw [hh]; simp [mdAway, hl], 0, rfl⟩
      · have h1 := ne_of_beq ‹(how == 1) = false›
        have h3 := ne_of_beq ‹(how == 3) = false›
        have hE : E.not = true := by assumption
        go_quiet ((go_at_call 52; exact Calls.quiet_of_same (SC.out _)))
        go_wp2
        go_meet
        case rel => exact ⟨by rw [hE]; simp [mdAway, h1, h3], _, rfl⟩
      · have h1 := ne_of_beq ‹(how == 1) = false›
        have h3 := ne_of_beq ‹(how == 3) = false›
        have hE : E.not = false := by assumption
        go_quiet ((go_at_call 52; exact Calls.quiet_of_same (SC.out _)))
        go_wp2
        go_meet
        case rel => exact ⟨by rw [hE]; simp [mdAway, h1, h3], _, rfl⟩
    case rest =>
      obtain ⟨rfl, n, rfl⟩ := hcut
      clear SC
      have hw := plus_word Q
      generalize mdAway E.not l (ab c) how = m at *
      cases E <;> cases m
      · go_wp2_with fail
        go_quiet (fail)
        go_wp2
        all_goals (try simp only [setCell_drewN])
        all_goals go_returns
        all_goals go_light
        all_goals refine ⟨?_, below_drewN (by go_grown) _⟩
        all_goals rw [HV.out.1, HV.out.2, HQQ.out]
        all_goals simp only [Bool.not_false, sgT, oneF, Int.add_zero]
        all_goals first | exact ret_in (by (try unfold wrap64); omega) (by omega) (by omega) | exact ret_ag (sat_fit_lo _ (by omega))
      · by_cases hz : (Q + 1) % 18446744073709551616 = 0
        rotate_left
        have hzb : ((Q + 1) % 18446744073709551616 == 0) = false := by simp [hz]
        all_goals (
          go_wp2_with fail
          go_quiet (fail)
          go_wp2
          all_goals (try simp only [setCell_drewN])
          all_goals go_returns
          all_goals go_light
          all_goals refine ⟨?_, below_drewN (by go_grown) _⟩
          all_goals rw [HV.out.1, HV.out.2, HQQ.out]
          all_goals simp only [Bool.not_false, sgT, oneT]
          all_goals first | exact ret_in (by (try unfold wrap64); omega) (by omega) (by omega) | exact ret_ag (sat_fit_lo _ (by omega)))
      · go_wp2_with fail
        go_quiet (fail)
        go_wp2
        all_goals (try simp only [setCell_drewN])
        all_goals go_returns
        all_goals go_light
        all_goals refine ⟨?_, below_drewN (by go_grown) _⟩
        all_goals rw [HV.out.1, HV.out.2, HQQ.out]
        all_goals simp only [Bool.not_true, sgF, oneF, Int.add_zero]
        all_goals first | exact ret_in (by (try unfold wrap64); omega) (by omega) (by omega) | exact ret_ag (sat_fit_hi _ (by omega))
      · by_cases hz : (Q + 1) % 18446744073709551616 = 0
        rotate_left
        have hzb : ((Q + 1) % 18446744073709551616 == 0) = false := by simp [hz]
        all_goals (
          go_wp2_with fail
          go_quiet (fail)
          go_wp2
          all_goals (try simp only [setCell_drewN])
          all_goals go_returns
          all_goals go_light
          all_goals refine ⟨?_, below_drewN (by go_grown) _⟩
          all_goals rw [HV.out.1, HV.out.2, HQQ.out]
          all_goals simp only [Bool.not_true, sgF, oneT]
          all_goals first | exact ret_in (by (try unfold wrap64); omega) (by omega) (by omega) | exact ret_ag (sat_fit_hi _ (by omega)))
end Go.Proofs.Ytjeffjpenhhnnaa
