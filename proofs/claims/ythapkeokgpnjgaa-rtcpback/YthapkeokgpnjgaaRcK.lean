/-
  What the small functions of the statements hand back: Large, few, wakes, and that two lists that are alike are told so.
-/
import Derived.Test.YthapkeokgpnjgaaRcD
namespace Go.Proofs.Ythapkeokgpnjgaa
open Go.RowKit

theorem wf_size {w : World} {b o : Nat} {p : Pt} (h : Cells3 w b o p) : (p.d.size : Int) ≤ 9223372036854775807 := by have := h.2.2.2; unfold maxLen at this; omega
/-- What Large leaves behind. -/
def LargePost (l : List Pt) (w : World) (e : Ending) (w' : World) : Prop := (∃ g : Bool, e = .returned (.bool g) ∧ (g = false → l.length ≤ 300 ∧ sz l ≤ 601200)) ∧ w' = w
set_option maxRecDepth 100000 in
set_option maxHeartbeats 400000 in
theorem large_any (a : Option Addr) (cap : Nat) (l : List Pt) (w : World) (h : PA w.heap.size w a l) :
    Calls Try.prog 8 #[.slice a l.length cap] w (LargePost l w) := by
  have H := mkHid h
  have n1 := h.1
  unfold maxLen at n1
  obtain ⟨n, HN⟩ : ∃ n, Hid (l.length = n) := ⟨_, rfl⟩
  rw [HN.out] at n1 ⊢
  have m1 : (n : Int) ≤ 9223372036854775807 := by omega
  clear h n1
  by_cases h1 : (300 : Int) < n
  · go_enter Try.func8, Try.ntmps8
    go_wp2
    go_ret
    exact ⟨⟨true, rfl, fun h => by cases h⟩, rfl⟩
  · go_enter Try.func8, Try.ntmps8
    go_wp2
    go_loopw [3, 4] (fun x i wr => ∃ (k : Nat) (y : Int), k ≤ n ∧ i = .int .i64 (k : Int) ∧ x = .int .i64 y ∧ y = (sz (l.take k) : Int) - 4 * k ∧ 0 ≤ y ∧ y ≤ 600000 ∧ wr = w) (fun _ i _ => n - (intOf i).toNat)
    case atStart => exact ⟨0, 0, Nat.zero_le _, rfl, rfl, rfl, by omega, by omega, rfl⟩
    case round =>
      obtain ⟨k, y, hk, rfl, rfl, hy, hy0, hy1, rfl⟩ := hrel
      have HY := mkHid hy
      clear hy
      by_cases hlt : k < n
      · obtain ⟨b, off, p, rfl, hbl, hp, hc⟩ := H.out.at k (by rw [HN.out]; exact hlt)
        have HS := mkHid (sz_next hp)
        have hd := wf_size hc
        obtain ⟨c0, c1, c2, c3⟩ := hc
        obtain ⟨c, t, d⟩ := p
        simp only at *
        clear c3 hp
        by_cases h2 : (262144 : Int) < d.size
        · go_wp2
          go_ret
          exact ⟨⟨true, rfl, fun h => by cases h⟩, rfl⟩
        · by_cases h3 : (600000 : Int) < y + d.size
          · go_wp2
            go_ret
            exact ⟨⟨true, rfl, fun h => by cases h⟩, rfl⟩
          · go_wp2
            go_roundw
            case rel => exact ⟨k + 1, y + d.size, by omega, by go_num, rfl, by have := HY.out; have := HS.out; omega, by omega, by omega, by first | rfl | trivial⟩
            case measure => simp [intOf]; omega
      · obtain rfl : k = n := by omega
        go_wp2
        go_ret
        refine ⟨⟨false, rfl, fun _ => ?_⟩, rfl⟩
        have hy := HY.out
        rw [← HN.out, List.take_length] at hy
        have := HN.out
        omega
set_option maxRecDepth 100000 in
set_option maxHeartbeats 400000 in
theorem few_any (a : Option Addr) (cap : Nat) (l : List Pt) (w : World) (hn : l.length ≤ 1000000) (h : PA w.heap.size w a l) :
    Calls Try.prog 10 #[.slice a l.length cap] w fun e w' => ∃ a' c', e = .returned (.slice a' l.length c') ∧ PA w'.heap.size w' a' l ∧ (w'.ownsRow w.heap.size 40 3 (.slice a' l.length c') l.length (pC l)) ∧ Below w.heap.size w w' := by
  have HD := mkHid (show ∀ p ∈ l, p.d.size ≤ maxLen by
    intro p hp
    obtain ⟨i, hi⟩ := List.getElem?_of_mem hp
    rcases h.2 with h0 | ⟨b, off, _, _, hc⟩
    · subst h0; cases hp
    · exact (hc i p hi).2.2.2)
  have B0 := mkHid ((Below.refl w.heap.size w).alloc (Nat.le_refl _) (.cells #[] 40))
  have S1 := mkHid (pa_src (cap := cap) (h.kept B0.out))
  have O1 := mkHid (own_empty w w.heap.size 40 3 (Nat.le_refl _))
  have HN := mkHid hn
  obtain ⟨i0, hi, hz0, hz1, hz2⟩ := info_parts info40
  clear h hn
  go_enter Try.func10, Try.ntmps10
  go_wp2_with (at_builtin; refine wpList_append_onto _ rfl (.tmp 3) (.tmp 4) 22 rfl w.heap.size 40 i0 (.agg #[.int .i64 0, .int .i64 0, .string ⟨#[]⟩]) 3 32 Try.underlying22 hi hz0 hz1 hz2 rfl (by decide) (.slice (some ⟨w.heap.size, 0, none⟩) 0 0) 0 [] rfl O1.out (.slice a l.length cap) l.length (pC l) rfl S1.out (pC_one l) (by have := HN.out; unfold maxLen; omega) (by have := HN.out; omega) (by simp) ?_; intro v1 w1 hown1 hgrow1; rw [Nat.zero_add, List.nil_append] at hown1; have B1 := mkHid (B0.out.grown hgrow1 (by simp) (fun k e => by simp [Value.ownBlock] at e; omega)); have O2 := mkHid hown1; clear hown1 hgrow1)
  go_ret
  obtain ⟨a', c', rfl, h2, _⟩ := own_pa O2.out (Nat.le_refl _) (by have := HN.out; unfold maxLen; omega) HD.out
  exact ⟨a', c', rfl, h2, O2.out, B1.out⟩
set_option maxRecDepth 100000 in
set_option maxHeartbeats 400000 in
theorem same_any (a a2 : Option Addr) (cap cap2 : Nat) (l : List Pt) (w : World) (h : PA w.heap.size w a l) (h2 : PA w.heap.size w a2 l) :
    Calls Try.prog 13 #[.slice a l.length cap, .slice a2 l.length cap2] w fun e w' => e = .returned (.bool true) ∧ Below w.heap.size w w' := by
  have n1 := h.1
  have H1 := mkHid h
  have H2 := mkHid h2
  unfold maxLen at n1
  obtain ⟨n, HN⟩ : ∃ n, Hid (l.length = n) := ⟨_, rfl⟩
  rw [HN.out] at n1 ⊢
  have m1 : (n : Int) ≤ 9223372036854775807 := by omega
  clear h h2 n1
  go_enter Try.func13, Try.ntmps13
  go_wp2
  go_loopw [5] (fun i wr => ∃ k : Nat, k ≤ n ∧ i = .int .i64 (k : Int) ∧ Apart (fun _ => False) w wr) (fun i _ => n - (intOf i).toNat)
  case atStart => exact ⟨0, Nat.zero_le _, rfl, Apart.refl _ _⟩
  case round =>
    obtain ⟨k, hk, rfl, ha⟩ := hrel
    have HA := mkHid ha
    clear ha
    by_cases hlt : k < n
    · obtain ⟨b, off, p, rfl, hbl, hp, hc⟩ := (H1.out.kept (HA.out.belowF _ (Nat.le_refl _))).at k (by rw [HN.out]; exact hlt)
      obtain ⟨b2, off2, p2, rfl, hbl2, hp2, hc2⟩ := (H2.out.kept (HA.out.belowF _ (Nat.le_refl _))).at k (by rw [HN.out]; exact hlt)
      obtain rfl : p2 = p := by rw [hp] at hp2; exact (Option.some.inj hp2).symm
      obtain ⟨c0, c1, c2, _⟩ := hc
      obtain ⟨d0, d1, d2, _⟩ := hc2
      have hk0 : (0 : Int) ≤ k := by omega
      have hk1 : (k : Int) < n := by omega
      obtain ⟨pc, pt, pd⟩ := p2
      simp only at *
      clear hp hp2 hbl hbl2
      go_wp2
      go_quiet (fail)
      go_wp2
      go_roundw
      case rel => exact ⟨k + 1, by omega, by go_num, HA.out.drewN _⟩
      case measure => simp [intOf]; omega
    · obtain rfl : k = n := by omega
      go_wp2
      go_ret
      exact ⟨rfl, HA.out.belowF _ (Nat.le_refl _)⟩
end Go.Proofs.Ythapkeokgpnjgaa
