/-
  Lists of numbers that came in; an order that is turned by swaps.
-/
import Derived.Test.YtjeffjpenhhnnaaRaAd
import Derived.Test.YtjeffjpenhhnnaaRaF
namespace Go.Proofs.Ytjeffjpenhhnnaa
open Go.ChangeShapes Go.WideShapes Go.ChangeAt Go.RowKit

/-- A list of len numbers of kind k. -/
def NumsAt (k : IntKind) (W : World) (a : Option Addr) (len : Nat) : Prop :=
  len ≤ maxLen ∧ ∃ U : Nat → Int, (∀ i, i < len → (Lit.int k (U i)).wf = true) ∧ (len = 0 ∨ ∃ b off, a = some ⟨b, off, none⟩ ∧ b < W.heap.size ∧ ∀ i, i < len → W.cell? ⟨b, off + i, none⟩ = some (.int k (U i)))
theorem open_nums {H : Type} {enc : TypeId × Value → H} {W : World} {a : Option Addr} {len cap : Nat} {d : DataW H} {p : List MemPlace} {t e : TypeId} {k : IntKind}
    (ht : Try.prog.underlying t = some (.slice e)) (he : Try.prog.underlying e = some (.int k)) (hc : Try.prog.cellsOf e = 1)
    (h : DataW.Trod enc Try.prog W 0 (fun _ => true) true t (.slice a len cap) d p) : NumsAt k W a len := by
  obtain ⟨fuel, hf⟩ := h
  rcases Go.Deep.open_slice1 ht hc hf with ⟨hcs, _⟩ | ⟨x, l, c, m, n, V, D, Pl, hcs, hb, hl, hm, hmm, _, hx⟩
  · simp [Value.cells] at hcs
    obtain ⟨rfl, rfl, rfl⟩ := hcs
    exact ⟨by unfold maxLen; omega, fun _ => 0, fun i hi => by omega, .inl rfl⟩
  · simp [Value.cells] at hcs
    obtain ⟨rfl, rfl, rfl⟩ := hcs
    have each : ∀ i, i < len → ∃ z : Int, W.cell? (x.add i) = some (.int k z) ∧ (Lit.int k z).wf = true := by
      intro i hi
      obtain ⟨h1, h2⟩ := hx i (by simp at hmm; omega)
      obtain ⟨z, e1, _, wf⟩ := DataW.trod_int he h2
      simp at e1
      exact ⟨z, by rw [h1, e1], wf⟩
    obtain ⟨U, hU⟩ := Go.Deep.choose_lt each
    refine ⟨by omega, U, fun i hi => (hU i hi).2, ?_⟩
    by_cases h0 : len = 0
    · exact .inl h0
    · right
      obtain ⟨b, off, spot⟩ := x
      have hspot : spot = none := by simpa [Addr.add] using World.cell?_spot (hU 0 (by omega)).1
      subst hspot
      have key : ∀ i, i < len → W.cell? ⟨b, off + i, none⟩ = some (.int k (U i)) := fun i hi => by have := (hU i hi).1; rw [Addr.add_lit] at this; exact this
      exact ⟨b, off, rfl, World.block_lt_of_cell? W _ (key 0 (by omega)), key⟩

/-- An order as cells. -/
def iV (j : Nat) : Value := .int .i64 (j : Int)
def oC (P : List Nat) : Array Value := (P.map iV).toArray
theorem oC_get {P : List Nat} {j v : Nat} (h : P[j]? = some v) : (oC P)[j]? = some (.int .i64 (v : Int)) := by
  unfold oC
  rw [List.getElem?_toArray, List.getElem?_map, h]
  rfl
theorem oC_set (P : List Nat) (j v : Nat) : (oC P).setIfInBounds j (.int .i64 (v : Int)) = oC (P.set j v) := by
  unfold oC
  rw [List.setIfInBounds_toArray, List.map_set]
  rfl
theorem oC_zero (n : Nat) : madeCells #[.int .i64 0] n = oC (List.replicate n 0) := by
  apply Array.ext_getElem?
  intro j
  by_cases h : j < n
  · rw [oC_get (v := 0) (by simp [h])]
    simp [madeCells, h, Nat.mod_one]
  · rw [Array.getElem?_eq_none (by simp [madeCells]; omega), Array.getElem?_eq_none (by simp [oC]; omega)]
def upTo (n i : Nat) : List Nat := List.range i ++ List.replicate (n - i) 0
theorem upTo_zero (n : Nat) : upTo n 0 = List.replicate n 0 := by simp [upTo]
theorem upTo_end (n : Nat) : upTo n n = List.range n := by simp [upTo]
theorem upTo_len (n i : Nat) (h : i ≤ n) : (upTo n i).length = n := by simp [upTo]; omega
theorem upTo_set (n i : Nat) (h : i < n) : (upTo n i).set i i = upTo n (i + 1) := by
  unfold upTo
  rw [List.set_append_right _ _ (by simp), List.length_range, Nat.sub_self, show n - i = (n - (i + 1)) + 1 by omega, List.replicate_succ, List.set_cons_zero, List.range_succ, List.append_assoc]
  rfl
theorem swap_perm (P : List Nat) (x y : Nat) (u v : Nat) (hx : P[x]? = some u) (hy : P[y]? = some v) : ((P.set x v).set y u).Perm P := by
  obtain ⟨h1, rfl⟩ := List.getElem?_eq_some_iff.1 hx
  obtain ⟨h2, rfl⟩ := List.getElem?_eq_some_iff.1 hy
  exact List.set_set_perm h1 h2
end Go.Proofs.Ytjeffjpenhhnnaa
