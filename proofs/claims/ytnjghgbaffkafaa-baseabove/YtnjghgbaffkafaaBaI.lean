/-
  A list of samples, and one of numbers of 32 bits, that came in: where its numbers lie.
-/
import Derived.Test.YtnjghgbaffkafaaBaH
import Derived.ProofKit
import Derived.OpenShut
import Derived.Deep.Slices
namespace Go.Proofs.Ytnjghgbaffkafaa
open Go.ChangeShapes Go.WideShapes Go.ChangeAt Go.RowKit

def In64 (n : Int) : Prop := -9223372036854775808 ≤ n ∧ n ≤ 9223372036854775807
def In32 (n : Int) : Prop := -2147483648 ≤ n ∧ n ≤ 2147483647
/-- A list of len samples: times V, delays N. -/
def SmpAt (W : World) (a : Option Addr) (len : Nat) : Prop :=
  len ≤ maxLen ∧ ∃ V N : Nat → Int, (len = 0 ∨ ∃ b off, a = some ⟨b, off, none⟩ ∧ b < W.heap.size ∧
    ∀ i, i < len → W.cell? ⟨b, off + i * 2, none⟩ = some (.int .i64 (V i)) ∧ W.cell? ⟨b, off + i * 2 + 1, none⟩ = some (.int .i64 (N i)) ∧ In64 (V i) ∧ In64 (N i))
/-- A list of len numbers V. -/
def NumAt (W : World) (a : Option Addr) (len : Nat) : Prop :=
  len ≤ maxLen ∧ ∃ V : Nat → Int, (len = 0 ∨ ∃ b off, a = some ⟨b, off, none⟩ ∧ b < W.heap.size ∧
    ∀ i, i < len → W.cell? ⟨b, off + i, none⟩ = some (.int .i32 (V i)) ∧ In32 (V i))
theorem cells32 : Try.prog.cellsOf 32 = 2 := by kernel_rfl
theorem cells21 : Try.prog.cellsOf 21 = 1 := by kernel_rfl
theorem cells2' : Try.prog.cellsOf 2 = 1 := by kernel_rfl
set_option maxRecDepth 100000 in
theorem open_smp {H : Type} {enc : TypeId × Value → H} {W : World} {a : Option Addr} {len cap : Nat} {d : DataW H} {p : List MemPlace}
    (h : DataW.Trod enc Try.prog W 0 (fun _ => true) true 22 (.slice a len cap) d p) : SmpAt W a len := by
  obtain ⟨fuel, hf⟩ := h
  rcases Go.Deep.open_slice Try.underlying22 hf with ⟨hcs, _⟩ | ⟨x, l, c, m, n, D, Pl, hcs, hb, hl, hm, hmm, _, hx⟩
  · simp [Value.cells] at hcs
    obtain ⟨rfl, rfl, rfl⟩ := hcs
    exact ⟨by unfold maxLen; omega, fun _ => 0, fun _ => 0, .inl rfl⟩
  · simp [Value.cells] at hcs
    obtain ⟨rfl, rfl, rfl⟩ := hcs
    refine ⟨by omega, ?_⟩
    have each : ∀ i, i < len → ∃ q : Int × Int, W.cell? (x.add (i * 2)) = some (.int .i64 q.1) ∧ W.cell? (x.add (i * 2 + 1)) = some (.int .i64 q.2) ∧ In64 q.1 ∧ In64 q.2 := by
      intro i hi
      obtain ⟨cs', h1, h2⟩ := hx i (by simp at hmm; omega)
      rw [cells32] at h1
      obtain ⟨_, hlen, hcell⟩ := World.cells?_some h1
      obtain ⟨xs, k, hk, hxy, _, hxl, hf⟩ := DataW.trod_struct Try.underlying32 h2
      match xs, hxl, cs', hlen with
      | [y0, y1], _, [v0, v1], _ =>
        have g0 := hf 0 _ rfl
        have g1 := hf 1 _ rfl
        simp [cells2'] at g0 g1
        obtain ⟨z0, e0, _, wf0⟩ := DataW.trod_int Try.underlying2 g0
        obtain ⟨z1, e1, _, wf1⟩ := DataW.trod_int Try.underlying2 g1
        simp at e0 e1
        subst e0 e1
        have b0 := bounds_i64 wf0
        have b1 := bounds_i64 wf1
        have c0 := hcell 0 (by omega)
        have c1 := hcell 1 (by omega)
        rw [Go.Deep.add_add] at c0 c1
        exact ⟨(z0, z1), by simpa using c0, by simpa using c1, b0, b1⟩
    obtain ⟨q, hq⟩ := Go.Deep.choose_lt each
    refine ⟨fun i => (q i).1, fun i => (q i).2, ?_⟩
    by_cases h0 : len = 0
    · exact .inl h0
    · right
      obtain ⟨b, off, spot⟩ := x
      have hspot : spot = none := by simpa [Addr.add] using World.cell?_spot (hq 0 (by omega)).1
      subst hspot
      have key : ∀ i, i < len → W.cell? ⟨b, off + i * 2, none⟩ = some (.int .i64 (q i).1) ∧ W.cell? ⟨b, off + i * 2 + 1, none⟩ = some (.int .i64 (q i).2) ∧ In64 (q i).1 ∧ In64 (q i).2 := by
        intro i hi
        obtain ⟨c0, c1, r⟩ := hq i hi
        rw [Addr.add_lit] at c0 c1
        exact ⟨c0, by rw [Nat.add_assoc]; exact c1, r⟩
      exact ⟨b, off, rfl, World.block_lt_of_cell? W _ (key 0 (by omega)).1, key⟩
set_option maxRecDepth 100000 in
theorem open_num {H : Type} {enc : TypeId × Value → H} {W : World} {a : Option Addr} {len cap : Nat} {d : DataW H} {p : List MemPlace}
    (h : DataW.Trod enc Try.prog W 0 (fun _ => true) true 42 (.slice a len cap) d p) : NumAt W a len := by
  obtain ⟨fuel, hf⟩ := h
  rcases Go.Deep.open_slice Try.underlying42 hf with ⟨hcs, _⟩ | ⟨x, l, c, m, n, D, Pl, hcs, hb, hl, hm, hmm, _, hx⟩
  · simp [Value.cells] at hcs
    obtain ⟨rfl, rfl, rfl⟩ := hcs
    exact ⟨by unfold maxLen; omega, fun _ => 0, .inl rfl⟩
  · simp [Value.cells] at hcs
    obtain ⟨rfl, rfl, rfl⟩ := hcs
    refine ⟨by omega, ?_⟩
    have each : ∀ i, i < len → ∃ q : Int, W.cell? (x.add i) = some (.int .i32 q) ∧ In32 q := by
      intro i hi
      obtain ⟨cs', h1, h2⟩ := hx i (by simp at hmm; omega)
      rw [cells21] at h1
      obtain ⟨_, hlen, hcell⟩ := World.cells?_some h1
      match cs', hlen with
      | [v0], _ =>
        obtain ⟨z0, e0, _, wf0⟩ := DataW.trod_int Try.underlying21 h2
        simp at e0
        subst e0
        have c0 := hcell 0 (by omega)
        rw [Go.Deep.add_add] at c0
        exact ⟨z0, by simpa using c0, bounds_i32 wf0⟩
    obtain ⟨q, hq⟩ := Go.Deep.choose_lt each
    refine ⟨q, ?_⟩
    by_cases h0 : len = 0
    · exact .inl h0
    · right
      obtain ⟨b, off, spot⟩ := x
      have hspot : spot = none := by simpa [Addr.add] using World.cell?_spot (hq 0 (by omega)).1
      subst hspot
      have key : ∀ i, i < len → W.cell? ⟨b, off + i, none⟩ = some (.int .i32 (q i)) ∧ In32 (q i) := by
        intro i hi
        obtain ⟨c0, r⟩ := hq i hi
        rw [Addr.add_lit] at c0
        exact ⟨c0, r⟩
      exact ⟨b, off, rfl, World.block_lt_of_cell? W _ (key 0 (by omega)).1, key⟩
theorem lm_add {L : List Sp} {m : Int} {o : Bool} (h : lm L = (m, o)) (n d : Int) : lm (L ++ [(n, d)]) = (if o = false ∨ d < m then d else m, true) := by
  rcases lm_lst L with ⟨a1, ⟨x, hx, e⟩, a3⟩ | ⟨a1, a2⟩
  · rw [h] at a1 e a3
    obtain rfl : o = true := a1
    by_cases hd : d < m
    · rw [if_pos (.inr hd)]
      refine lm_is (s := (n, d)) (by simp) ?_
      intro y hy
      rcases List.mem_append.1 hy with hy | hy
      · have : m ≤ y.2 := a3 y.2 ⟨y, hy, rfl⟩
        simp only; omega
      · simp at hy; subst hy; exact Int.le_refl _
    · rw [if_neg (by simp [hd])]
      have e : x.2 = m := e
      rw [← e]
      refine lm_is (by simp [hx]) ?_
      intro y hy
      rcases List.mem_append.1 hy with hy | hy
      · have : m ≤ y.2 := a3 y.2 ⟨y, hy, rfl⟩
        omega
      · simp at hy; subst hy; simp only; omega
  · rw [h] at a1
    cases a1
    rw [if_pos (.inl rfl)]
    refine lm_is (s := (n, d)) (by simp) ?_
    intro y hy
    rcases List.mem_append.1 hy with hy | hy
    · exact absurd ⟨y, hy, rfl⟩ (a2 y.2)
    · simp at hy; subst hy; exact Int.le_refl _
theorem addL_row0 {k : Nat} (hk : 1 ≤ k) {L : List Sp} (h : ∀ s ∈ L, s.1 = 0) (d : Int) : addL k 0 L 0 d = L ++ [(0, d)] := by
  unfold addL stay
  refine List.filter_eq_self.2 ?_
  intro s hs
  have : s.1 = 0 := by
    rcases List.mem_append.1 hs with hs | hs
    · exact h s hs
    · simp at hs; rw [hs]
  rw [this, decide_eq_true_eq]
  omega
end Go.Proofs.Ytnjghgbaffkafaa
