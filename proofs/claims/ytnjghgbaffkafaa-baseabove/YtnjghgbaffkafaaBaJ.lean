/-
  A constant that is added to all delays.
-/
import Derived.Test.YtnjghgbaffkafaaBaI
namespace Go.Proofs.Ytnjghgbaffkafaa
open Go.RowKit

def mapD (D : Int) (L : List Sp) : List Sp := L.map (fun s => (s.1, s.2 + D))
theorem mapD_app (D : Int) (L M : List Sp) : mapD D (L ++ M) = mapD D L ++ mapD D M := by unfold mapD; rw [List.map_append]
theorem stay_map (D t : Int) (L : List Sp) : stay t (mapD D L) = mapD D (stay t L) := by
  unfold stay mapD
  rw [List.filter_map]
  rfl
theorem addL_map (k : Nat) (N : Int) (L : List Sp) (n d D : Int) : addL k N (mapD D L) n (d + D) = mapD D (addL k N L n d) := by
  unfold addL
  rw [← stay_map, mapD_app]
  rfl
theorem lm_map {L : List Sp} {m : Int} (D : Int) (h : lm L = (m, true)) : lm (mapD D L) = (m + D, true) := by
  rcases lm_lst L with ⟨_, ⟨x, hx, e⟩, a3⟩ | ⟨a1, _⟩
  · rw [h] at e a3
    have e : x.2 = m := e
    have h1 : (x.1, x.2 + D) ∈ mapD D L := List.mem_map.2 ⟨x, hx, rfl⟩
    have h2 := lm_is h1 (by
      intro y hy
      obtain ⟨z, hz, rfl⟩ := List.mem_map.1 hy
      have : m ≤ z.2 := a3 z.2 ⟨z, hz, rfl⟩
      simp only; omega)
    rw [h2, e]
  · rw [h] at a1; cases a1
theorem lm_some {L : List Sp} (h : L ≠ []) : lm L = ((lm L).1, true) := by
  have := (lm_ok L).2 h
  rw [← this]
/-- The sample itself is there, if it counts. -/
theorem addL_self {k : Nat} {N : Int} {L : List Sp} {n d : Int} (h : max N n - k < n) : (n, d) ∈ addL k N L n d := by
  unfold addL
  rw [mem_stay]
  exact ⟨by simp, h⟩
theorem quE_map (k : Nat) (N : Int) (L : List Sp) (n d D : Int) : quE k N (mapD D L) n (d + D) = quE k N L n d := by
  unfold quE
  by_cases h : max N n - k < n
  · rw [if_pos h, if_pos h, addL_map, lm_map D (lm_some (L := addL k N L n d) (fun e => by have := addL_self (L := L) (d := d) h; rw [e] at this; cases this))]
    simp only; omega
  · rw [if_neg h, if_neg h]
theorem quE_ge (k : Nat) (N : Int) (L : List Sp) (n d : Int) : 0 ≤ quE k N L n d := by
  unfold quE
  by_cases h : max N n - k < n
  · rw [if_pos h]
    rcases lm_lst (addL k N L n d) with ⟨_, _, a3⟩ | ⟨_, a2⟩
    · have := a3 d ⟨_, addL_self h, rfl⟩
      omega
    · exact absurd ⟨_, addL_self h, rfl⟩ (a2 d)
  · rw [if_neg h]; exact Int.le_refl _
theorem quE_pos {k : Nat} {N : Int} {L : List Sp} {n d : Int} (h : 0 < quE k N L n d) : d - quE k N L n d = (lm (addL k N L n d)).1 := by
  unfold quE at h ⊢
  by_cases h1 : max N n - k < n
  · rw [if_pos h1]; omega
  · rw [if_neg h1] at h; omega
/-- The newest row holds a sample, or there was none yet. -/
def Newest (N : Int) (L : List Sp) : Prop := (L = [] ∧ N = 0) ∨ ∃ s ∈ L, s.1 = N
theorem Newest.add {k : Nat} {N : Int} {L : List Sp} {n d : Int} (h : Newest N L) (hk : 1 ≤ k) (hn : 0 ≤ n) : ∃ s ∈ addL k N L n d, s.1 = max N n := by
  by_cases hle : N ≤ n
  · exact ⟨_, addL_self (by omega), by simp only; omega⟩
  · rcases h with ⟨_, h⟩ | ⟨s, hs, e⟩
    · omega
    · refine ⟨s, ?_, by omega⟩
      unfold addL
      rw [mem_stay]
      exact ⟨by simp [hs], by omega⟩
theorem ne_of_mem {L : List Sp} {N : Int} (h : ∃ s ∈ L, s.1 = N) : L ≠ [] := by
  rintro rfl
  obtain ⟨s, hs, _⟩ := h
  cases hs
theorem quE_le {k : Nat} {N : Int} {L : List Sp} {n d : Int} {R : Nat → Rw} {M : Int} (h : Inv k R M (addL k N L n d)) (h2 : d ≤ 1125899906842624) : quE k N L n d ≤ 2251799813685248 := by
  unfold quE
  have := h.bound
  split <;> omega
end Go.Proofs.Ytnjghgbaffkafaa
