/-
  What the least of few samples is; what counts behind each of a few steps.
-/
import Derived.Test.YtnjghgbaffkafaaBaG
namespace Go.Proofs.Ytnjghgbaffkafaa
open Go.RowKit

theorem lm_is {L : List Sp} {s : Sp} (h1 : s ∈ L) (h2 : ∀ x ∈ L, s.2 ≤ x.2) : lm L = (s.2, true) := by
  rcases lm_lst L with ⟨a1, ⟨x, hx, e⟩, a3⟩ | ⟨a1, a2⟩
  · have g1 : (lm L).1 ≤ s.2 := a3 s.2 ⟨s, h1, rfl⟩
    have g2 := h2 x hx
    have g3 : (lm L).1 = s.2 := by omega
    exact Prod.ext g3 a1
  · exact absurd ⟨s, h1, rfl⟩ (a2 s.2)
theorem addL_one (k : Nat) (hk : 1 ≤ k) (a : Int) : addL k 0 [] 0 a = [(0, a)] := by
  simp [addL, stay]; omega
theorem addL_two (k : Nat) (hk : 1 ≤ k) (a c : Int) : addL k 0 [(0, a)] (k - 1) c = [(0, a), ((k : Int) - 1, c)] := by
  have h : max 0 ((k : Int) - 1) - k = -1 := by omega
  simp [addL, stay, h]; omega
theorem addL_three (k : Nat) (hk : 1 ≤ k) (a c : Int) : ∃ l, addL k (k - 1) [(0, a), ((k : Int) - 1, c)] k c = l ++ [((k : Int), c)] ∧ ∀ s ∈ l, s.2 = c := by
  have h : max ((k : Int) - 1) k - k = 0 := by omega
  unfold addL stay
  rw [h]
  refine ⟨List.filter (fun s => decide (0 < s.1)) [(0, a), ((k : Int) - 1, c)], ?_, ?_⟩
  · rw [List.filter_append]
    congr 1
    have : (0 : Int) < k := by omega
    simp only [List.filter_cons, List.filter_nil]
    rw [if_pos (by simpa using this)]
  · intro s hs
    obtain ⟨h1, h2⟩ := List.mem_filter.1 hs
    simp at h1 h2
    rcases h1 with rfl | rfl
    · simp at h2
    · rfl
theorem quE_two (k : Nat) (hk : 1 ≤ k) (a c : Int) : quE k 0 [(0, a)] (k - 1) c = c - min a c := by
  unfold quE
  rw [if_pos (by omega), addL_two k hk]
  by_cases h : a ≤ c
  · rw [lm_is (s := (0, a)) (by simp) (by intro x hx; simp at hx; rcases hx with rfl | rfl <;> simp only <;> omega)]
    simp only; omega
  · rw [lm_is (s := ((k : Int) - 1, c)) (by simp) (by intro x hx; simp at hx; rcases hx with rfl | rfl <;> simp only <;> omega)]
    simp only; omega
theorem lm_three {l : List Sp} {k c : Int} (h : ∀ s ∈ l, s.2 = c) : lm (l ++ [(k, c)]) = (c, true) :=
  lm_is (s := (k, c)) (by simp) (by intro x hx; rcases List.mem_append.1 hx with hx | hx; · rw [h x hx]; simp only; omega
                                    · simp at hx; subst hx; simp only; omega)
theorem quE_three (k : Nat) (hk : 1 ≤ k) (a c : Int) : quE k (k - 1) [(0, a), ((k : Int) - 1, c)] k c = 0 := by
  unfold quE
  rw [if_pos (by omega)]
  obtain ⟨l, e, h⟩ := addL_three k hk a c
  rw [e, lm_three h]
  simp only; omega
theorem quE_back (k : Nat) (L : List Sp) (d : Int) : quE k k L 0 d = 0 := by
  unfold quE
  rw [if_neg (by omega)]
end Go.Proofs.Ytnjghgbaffkafaa
