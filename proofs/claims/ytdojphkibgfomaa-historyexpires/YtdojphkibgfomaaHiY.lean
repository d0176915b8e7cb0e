/-
  Packets sent at rising times, which gaps part; a list of bytes that came in; what is given up of them.
-/
import Derived.Test.YtdojphkibgfomaaHiX
import Derived.ProofKit
import Derived.OpenShut
import Derived.Deep.Slices
namespace Go.Proofs.Ytdojphkibgfomaa
open Go.ChangeShapes Go.WideShapes Go.ChangeAt Go.RowKit Go.Maps

/-- A list of len bytes. -/
def By (W : World) (a : Option Addr) (len : Nat) : Prop :=
  len ≤ maxLen ∧ ∃ G : Nat → Int, (∀ i, 0 ≤ G i ∧ G i ≤ 255) ∧ (len = 0 ∨ ∃ b off, a = some ⟨b, off, none⟩ ∧ b < W.heap.size ∧ ∀ i, i < len → W.cell? ⟨b, off + i, none⟩ = some (.int .u8 (G i)))
theorem co5 : Try.prog.cellsOf 5 = 1 := by kernel_rfl
theorem open_by {H : Type} {enc : TypeId × Value → H} {W : World} {a : Option Addr} {len cap : Nat} {d : DataW H} {p : List MemPlace}
    (h : DataW.Trod enc Try.prog W 0 (fun _ => true) true 66 (.slice a len cap) d p) : By W a len := by
  obtain ⟨fuel, hf⟩ := h
  rcases Go.Deep.open_slice Try.underlying66 hf with ⟨hcs, _⟩ | ⟨x, l, c, m, n, D, Pl, hcs, hb, hl, hm, hmm, _, hx⟩
  · simp [Value.cells] at hcs
    obtain ⟨rfl, rfl, rfl⟩ := hcs
    exact ⟨by unfold maxLen; omega, fun _ => 0, fun _ => ⟨Int.le_refl 0, show (0 : Int) ≤ 255 by decide⟩, .inl rfl⟩
  · simp [Value.cells] at hcs
    obtain ⟨rfl, rfl, rfl⟩ := hcs
    refine ⟨by omega, ?_⟩
    have each : ∀ i, i < len → ∃ q : Int, W.cell? (x.add i) = some (.int .u8 q) ∧ 0 ≤ q ∧ q ≤ 255 := by
      intro i hi
      obtain ⟨cs', h1, h2⟩ := hx i (by simp at hmm; omega)
      rw [co5] at h1
      obtain ⟨_, hlen, hcell⟩ := World.cells?_some h1
      obtain ⟨z0, e0, _, wf⟩ := DataW.trod_int Try.underlying5 h2
      subst e0
      have c0 := hcell 0 (by omega)
      rw [Go.Deep.add_add] at c0
      have := bounds_u8 wf
      exact ⟨z0, by simpa using c0, this.1, this.2⟩
    obtain ⟨q, hq⟩ := Go.Deep.choose_lt each
    refine ⟨fun i => if i < len then q i else 0, fun i => ?_, ?_⟩
    · show 0 ≤ (if i < len then q i else 0) ∧ (if i < len then q i else 0) ≤ 255
      by_cases h : i < len
      · rw [if_pos h]; exact (hq i h).2
      · rw [if_neg h]; omega
    by_cases h0 : len = 0
    · exact .inl h0
    · right
      obtain ⟨b, off, spot⟩ := x
      have hspot : spot = none := by simpa [Addr.add] using World.cell?_spot (hq 0 (by omega)).1
      subst hspot
      have key : ∀ i, i < len → W.cell? ⟨b, off + i, none⟩ = some (.int .u8 (if i < len then q i else 0)) := by
        intro i hi
        have c0 := (hq i hi).1
        rw [Addr.add_lit] at c0
        rw [if_pos hi]; exact c0
      exact ⟨b, off, rfl, World.block_lt_of_cell? W _ (key 0 (by omega)), key⟩

/-- The sum of the first gaps. -/
def gS (G : Nat → Int) : Nat → Int
  | 0 => 0
  | i + 1 => gS G i + G i
theorem gS_bd (G : Nat → Int) (h : ∀ i, 0 ≤ G i ∧ G i ≤ 255) (i : Nat) : 0 ≤ gS G i ∧ gS G i ≤ 255 * (i : Int) := by
  induction i with
  | zero => simp [gS]
  | succ i ih => have := h i; simp only [gS]; omega
theorem gS_le (G : Nat → Int) (h : ∀ i, 0 ≤ G i ∧ G i ≤ 255) {i j : Nat} (hij : i ≤ j) : gS G i ≤ gS G j := by
  induction j with
  | zero => obtain rfl : i = 0 := by omega
            exact Int.le_refl _
  | succ j ih =>
    by_cases e : i = j + 1
    · subst e; exact Int.le_refl _
    · have := ih (by omega); have := h j; simp only [gS]; omega
/-- The packets; their times as a row. -/
def XL (G : Nat → Int) : Nat → List Sn
  | 0 => []
  | i + 1 => XL G i ++ [((i : Int), 1, gS G (i + 1))]
def TC (G : Nat → Int) : Nat → List Value
  | 0 => []
  | i + 1 => TC G i ++ [.int .i64 (gS G (i + 1))]
theorem XL_len (G : Nat → Int) (k : Nat) : (XL G k).length = k := by
  induction k with
  | zero => rfl
  | succ k ih => simp only [XL, List.length_append, ih]; rfl
theorem TC_len (G : Nat → Int) (k : Nat) : (TC G k).length = k := by
  induction k with
  | zero => rfl
  | succ k ih => simp only [TC, List.length_append, ih]; rfl
theorem XL_get (G : Nat → Int) {j k : Nat} (h : j < k) : (XL G k)[j]? = some ((j : Int), 1, gS G (j + 1)) := by
  induction k with
  | zero => omega
  | succ k ih =>
    simp only [XL]
    by_cases e : j = k
    · subst e
      rw [List.getElem?_append_right (by rw [XL_len]; omega), XL_len]; simp
    · rw [List.getElem?_append_left (by rw [XL_len]; omega), ih (by omega)]
theorem TC_get (G : Nat → Int) {j k : Nat} (h : j < k) : (TC G k)[j]? = some (.int .i64 (gS G (j + 1))) := by
  induction k with
  | zero => omega
  | succ k ih =>
    simp only [TC]
    by_cases e : j = k
    · subst e
      rw [List.getElem?_append_right (by rw [TC_len]; omega), TC_len]; simp
    · rw [List.getElem?_append_left (by rw [TC_len]; omega), ih (by omega)]
theorem XL_mem (G : Nat → Int) {k : Nat} {s : Sn} (h : s ∈ XL G k) : ∃ j : Nat, j < k ∧ s = ((j : Int), 1, gS G (j + 1)) := by
  obtain ⟨i, hi⟩ := List.getElem?_of_mem h
  have hk : i < k := by have := (List.getElem?_eq_some_iff.1 hi).1; rwa [XL_len] at this
  rw [XL_get G hk] at hi
  exact ⟨i, hk, (Option.some.inj hi).symm⟩
/-- The first n are given up, no other one. -/
theorem XL_out (G : Nat → Int) (hG : ∀ i, 0 ≤ G i ∧ G i ≤ 255) (T t : Int) (ht : 0 ≤ t) (ht2 : t ≤ 1000000) {m n : Nat} (hm : m ≤ 300) (hn : n ≤ m) (h1 : ∀ j, j < n → T < t - gS G (j + 1)) (h2 : n < m → ¬ T < t - gS G (n + 1)) : exO T t (XL G m) = XL G n := by
  have ex : ∀ j : Nat, j < m → exB T t ((j : Int), 1, gS G (j + 1)) = decide (T < t - gS G (j + 1)) := by
    intro j hj
    have := gS_bd G hG (j + 1)
    unfold exB
    rw [Sat.satH_in _ (by simp only; omega) (by simp only; omega)]
  have key : ∀ k, k ≤ m → exO T t (XL G k) = XL G (min k n) := by
    intro k
    induction k with
    | zero => intro _; simp [XL, exO]
    | succ k ih =>
      intro hk
      unfold exO at ih ⊢
      simp only [XL, List.filter_append]
      rw [ih (by omega)]
      by_cases hkn : k < n
      · have e : exB T t ((k : Int), 1, gS G (k + 1)) = true := by rw [ex k (by omega)]; exact decide_eq_true (h1 k hkn)
        rw [show min k n = k by omega, show min (k + 1) n = k + 1 by omega]
        simp only [XL, List.filter_cons, e, if_true, List.filter_nil]
      · have e : exB T t ((k : Int), 1, gS G (k + 1)) = false := by
          rw [ex k (by omega)]
          refine decide_eq_false ?_
          have := gS_le G hG (show n + 1 ≤ k + 1 by omega)
          have := h2 (by omega)
          omega
        rw [show min k n = n by omega, show min (k + 1) n = n by omega]
        simp [e]
  have := key m (Nat.le_refl _)
  rw [show min m n = n by omega] at this
  exact this
theorem exO_rest (T t : Int) (L : List Sn) : exO T t (exR T t L) = [] := by
  unfold exO exR
  rw [List.filter_eq_nil_iff]
  intro s hs
  have := (List.mem_filter.1 hs).2
  simpa using this
theorem exR_rest (T t : Int) (L : List Sn) : exR T t (exR T t L) = exR T t L := by
  unfold exR
  rw [List.filter_filter]
  congr 1
  funext s
  simp
theorem ex_len (T t : Int) (L : List Sn) : (exO T t L).length + (exR T t L).length = L.length := len_parts L (exB T t)
theorem info2 : ∃ i, Try.prog.info? 2 = some i ∧ i.zero = some (.int .i64 0) ∧ i.size = 1 ∧ i.bytes = 8 := by
  obtain ⟨i, hi, hh⟩ := Option.map_eq_some_iff.1 (show (Try.prog.info? 2).map (fun i => (i.zero, i.size, i.bytes)) = some (some (.int .i64 0), 1, 8) by kernel_rfl)
  simp only [Prod.mk.injEq] at hh
  exact ⟨i, hi, hh.1, hh.2.1, hh.2.2⟩
theorem one_TC (G : Nat → Int) (k : Nat) : ∀ u ∈ TC G k, u.oneCell' = true := by
  intro u hu
  obtain ⟨i, hi⟩ := List.getElem?_of_mem hu
  have hk : i < k := by have := (List.getElem?_eq_some_iff.1 hi).1; rwa [TC_len] at this
  rw [TC_get G hk] at hi
  cases hi; rfl
theorem row_at {w : World} {B n : Nat} {v : Value} {xs : List Value} (h : w.ownsRow B 2 1 v n xs) {k : Nat} {x : Value} (hk : xs[k]? = some x) : ∃ g cap, v = .slice (some ⟨g, 0, none⟩) n cap ∧ B ≤ g ∧ w.cell? ⟨g, k, none⟩ = some x := by
  have hl : k < xs.length := (List.getElem?_eq_some_iff.1 hk).1
  have hx := h.1
  rcases h.2 with ⟨_, h0⟩ | ⟨g, cap, cur, rfl, hg, _⟩
  · omega
  · have c := h.cells (g := g) rfl _ _ hk
    rw [Addr.add_lit, Nat.zero_add] at c
    exact ⟨g, cap, rfl, hg, c⟩
end Go.Proofs.Ytdojphkibgfomaa
