/-
  Packets sent one a tick, each given up behind ten; where the rows of what was got lie; two reports that the call lays.
-/
import Derived.Test.YtdojphkibgfomaaHiW
namespace Go.Proofs.Ytdojphkibgfomaa
open Go.RowKit Go.Maps

theorem rise_len : ∀ (L : List Sn) (a b : Int), a ≤ b → Rise L → (∀ s ∈ L, a ≤ s.1 ∧ s.1 < b) → (L.length : Int) ≤ b - a
  | [], a, b, h, _, _ => by simp; omega
  | y :: r, a, b, h, hr, hb => by
    obtain ⟨h1, h2⟩ := List.pairwise_cons.1 hr
    have hy := hb y (by simp)
    have := rise_len r (y.1 + 1) b (by omega) h2 (fun s hs => ⟨by have := h1 s hs; omega, (hb s (by simp [hs])).2⟩)
    simp only [List.length_cons, Int.natCast_add, Int.natCast_one]
    omega
/-- What is remembered behind i rounds. -/
def RL : Nat → List Sn
  | 0 => []
  | i + 1 => exR 10 (i : Int) (RL i ++ [((i : Int), 1, (i : Int))])
theorem RL_mem (i : Nat) (hi : i ≤ 1000000) (s : Sn) : s ∈ RL i ↔ ∃ j : Nat, j < i ∧ i ≤ j + 11 ∧ s = ((j : Int), 1, (j : Int)) := by
  induction i generalizing s with
  | zero => simp [RL]
  | succ i ih =>
    show s ∈ exR 10 (i : Int) (RL i ++ [((i : Int), 1, (i : Int))]) ↔ _
    unfold exR
    rw [List.mem_filter, List.mem_append, List.mem_singleton, ih (by omega)]
    have ex : ∀ j : Nat, j ≤ i → ((!exB 10 (i : Int) ((j : Int), 1, (j : Int))) = true ↔ i ≤ j + 10) := by
      intro j hj
      unfold exB
      rw [Bool.not_eq_true', decide_eq_false_iff_not, Sat.satH_in _ (by simp only; omega) (by simp only; omega)]
      simp only
      omega
    constructor
    · rintro ⟨h, hx⟩
      rcases h with ⟨j, h1, h2, rfl⟩ | rfl
      · exact ⟨j, by omega, by have := (ex j (by omega)).1 hx; omega, rfl⟩
      · exact ⟨i, by omega, by omega, rfl⟩
    · rintro ⟨j, h1, h2, rfl⟩
      refine ⟨?_, (ex j (by omega)).2 (by omega)⟩
      by_cases e : j = i
      · subst e; exact .inr rfl
      · exact .inl ⟨j, by omega, by omega, rfl⟩
theorem RL_len {i : Nat} (hi : i ≤ 1000000) (hr : Rise (RL i)) : (RL i).length ≤ 11 := by
  have := rise_len (RL i) ((i : Int) - 11) i (by omega) hr (fun s hs => by
    obtain ⟨j, h1, h2, rfl⟩ := (RL_mem i hi s).1 hs
    simp only; omega)
  omega
theorem aC_get (l : List Ak) : ∀ (k : Nat) (a : Ak) (j : Nat) (v : Value), l[k]? = some a → (aE a)[j]? = some v → (aC l)[k * 6 + j]? = some v := by
  induction l with
  | nil => intro k a j v h; simp at h
  | cons x r ih =>
    intro k a j v h hv
    have hj : j < 6 := by
      have := (List.getElem?_eq_some_iff.1 hv).1
      simpa using this
    show (aE x ++ aC r)[k * 6 + j]? = some v
    cases k with
    | zero =>
      simp at h
      subst h
      rw [List.getElem?_append_left (by simp; omega)]
      simpa using hv
    | succ k =>
      rw [List.getElem?_append_right (by simp; omega), aE_len, show (k + 1) * 6 + j - 6 = k * 6 + j by omega]
      exact ih k a j v (by simpa using h) hv
theorem got_at {w : World} {B n : Nat} {v : Value} {l : List Ak} (h : w.ownsRow B 58 6 v n (aC l)) (hn : n = l.length) {k : Nat} {s : Ak} (hk : l[k]? = some s) : ∃ g cap, v = .slice (some ⟨g, 0, none⟩) n cap ∧ B ≤ g ∧
    w.cell? ⟨g, k * 6, none⟩ = some (.int .i64 s.s.1) ∧ w.cell? ⟨g, k * 6 + 1, none⟩ = some (.int .i64 s.s.2.1) ∧ w.cell? ⟨g, k * 6 + 2, none⟩ = some (.int .i64 s.s.2.2) ∧ w.cell? ⟨g, k * 6 + 3, none⟩ = some (.int .i64 s.c) ∧ w.cell? ⟨g, k * 6 + 4, none⟩ = some (.bool s.la) ∧ w.cell? ⟨g, k * 6 + 5, none⟩ = some (.bool s.ec) := by
  have hl : k < l.length := (List.getElem?_eq_some_iff.1 hk).1
  rcases h.2 with ⟨_, h0⟩ | ⟨g, cap, cur, rfl, hg, _⟩
  · omega
  · have c := h.cells (g := g) rfl
    have c' : ∀ j v, (aE s)[j]? = some v → w.cell? ⟨g, k * 6 + j, none⟩ = some v := by
      intro j v hv
      have := c _ _ (aC_get l k s j v hk hv)
      rw [Addr.add_lit, Nat.zero_add] at this
      exact this
    exact ⟨g, cap, rfl, hg, c' 0 _ rfl, c' 1 _ rfl, c' 2 _ rfl, c' 3 _ rfl, c' 4 _ rfl, c' 5 _ rfl⟩
theorem ra_two (w : World) (hb mb : Nat) (r s : Rp) (t : TypeId) (h1 : hb < w.heap.size) (h2 : mb < w.heap.size) : RA (fun b => b < (w.alloc (.cells #[.int .i64 r.q, .bool r.g, .int .i64 r.t, .bool r.la, .bool r.ec, .int .i64 s.q, .bool s.g, .int .i64 s.t, .bool s.la, .bool s.ec] t)).heap.size ∧ b ≠ hb ∧ b ≠ mb) (w.alloc (.cells #[.int .i64 r.q, .bool r.g, .int .i64 r.t, .bool r.la, .bool r.ec, .int .i64 s.q, .bool s.g, .int .i64 s.t, .bool s.la, .bool s.ec] t)) (some ⟨w.heap.size, 0, none⟩) [r, s] := by
  refine .inr ⟨w.heap.size, 0, rfl, ⟨by simp, by omega, by omega⟩, fun i p hi => ?_⟩
  have c := fun j => cell_of_row _ w.heap.size j _ t _ (heap_alloc_new w (.cells #[.int .i64 r.q, .bool r.g, .int .i64 r.t, .bool r.la, .bool r.ec, .int .i64 s.q, .bool s.g, .int .i64 s.t, .bool s.la, .bool s.ec] t))
  match i, hi with
  | 0, hi =>
    cases hi
    exact ⟨c 0, c 1, c 2, c 3, c 4⟩
  | 1, hi =>
    cases hi
    exact ⟨c 5, c 6, c 7, c 8, c 9⟩
theorem nr_low (n d : Int) (d0 : 0 ≤ d) (d1 : d ≤ 20) (q : Int) (hq : q = (n - 1 - d) % 65536) : nr n q = n - 1 - d := by
  subst hq
  unfold nr nV
  have e : ((n - 1 - d) % 65536 - (n - 1)) % (2 * 32768) = (-d) % 65536 := by omega
  rw [e]
  split <;> omega
theorem nr_high (n d : Int) (d0 : 0 ≤ d) (d1 : d ≤ 20) (q : Int) (hq : q = (n - 1 - d + 32000) % 65536) : nr n q = n - 1 - d + 32000 := by
  subst hq
  unfold nr nV
  have e : ((n - 1 - d + 32000) % 65536 - (n - 1)) % (2 * 32768) = (32000 - d) % 65536 := by omega
  rw [e]
  split <;> omega
end Go.Proofs.Ytdojphkibgfomaa
