/-
  A region that draws its order, whose operations only read and whose calls leave all old blocks as they were: walked once, in the order of the text.
-/
import Derived.Test.YtnjghgbaffkafaaRaM
namespace Go.Proofs.Ytnjghgbaffkafaa
open Go.RowKit

/-- How far a world is from another one: what was drawn in all, what blocks lie behind. -/
abbrev Wn := Unit → Nat × Array Obj
def wd (W : World) (p : Wn) : World := { W with heap := W.heap ++ (p ()).2, drawn := (p ()).1 }
theorem wd_of {W w' : World} (h : Apart (fun _ => False) W w') : ∃ p : Wn, w' = wd W p := by
  refine ⟨fun _ => ⟨w'.drawn, w'.heap.extract W.heap.size⟩, ?_⟩
  have e : w'.heap = W.heap ++ w'.heap.extract W.heap.size := by
    apply Array.ext_getElem?
    intro i
    by_cases hi : i < W.heap.size
    · rw [h.block i hi (fun h => h), Array.getElem?_append_left hi]
    · rw [Array.getElem?_append_right (by omega), Array.getElem?_extract]
      have := h.size
      by_cases h2 : i < w'.heap.size
      · rw [if_pos (by omega)]
        congr 1; omega
      · rw [if_neg (by omega), Array.getElem?_eq_none (by omega)]
  have h1 := h.os
  have h2 := h.tape
  have h3 := h.output
  cases w'
  simp only at e h1 h2 h3
  simp only [wd, h1, h2, h3, ← e]
theorem wd_apart (W : World) (p : Wn) : Apart (fun _ => False) W (wd W p) :=
  ⟨rfl, rfl, rfl, by show W.heap.size ≤ (W.heap ++ (p ()).2).size; rw [Array.size_append]; omega, fun k hk _ => by show (W.heap ++ (p ()).2)[k]? = _; rw [Array.getElem?_append_left hk]⟩
theorem wd_heap {W : World} {b : Nat} {o : Obj} (h : W.heap[b]? = some o) (p : Wn) : (wd W p).heap[b]? = some o := (wd_apart W p).heap h (fun h => h)
theorem wd_cell {W : World} {a : Addr} {v : Value} (h : W.cell? a = some v) (p : Wn) : (wd W p).cell? a = some v := by rw [(wd_apart W p).cell (World.block_lt_of_cell? _ _ h) (fun h => h)]; exact h
theorem wp_region_wd {P : Program} {id : Nat} {Q : Exit → Act → World → Prop} {a : Act} {w : World} {l : List Oper} (hm : P.follows .mixedOrders = true) (hB : Region.lexB .any l.toArray = true)
    (h : wpQuiet P l.toArray (fun w' => ∃ p : Wn, w' = wd w p) (fun a' => ∀ w', (∃ p : Wn, w' = wd w p) → Q .normal a' w') l a) : (Code.region id l.toArray true).wp P Q a w :=
  wp_region_quiet (C := fun w' => ∃ p : Wn, w' = wd w p) hm hB ⟨fun _ => ⟨w.drawn + 1, #[]⟩, by simp [wd]⟩ (by simpa using h)
/-- A call in such a world. -/
theorem wd_call {P : Program} {f : FuncId} {args : Array Value} {w : World} {p : Wn} {v : Value}
    (h : Calls P f args (wd w p) fun e w' => e = .returned v ∧ Apart (fun _ => False) (wd w p) w') : Calls P f args (wd w p) fun e w'' => e = .returned v ∧ ∃ q : Wn, w'' = wd w q :=
  h.mono fun _ _ ⟨he, ha⟩ => ⟨he, wd_of ((wd_apart w p).zz ha)⟩
end Go.Proofs.Ytnjghgbaffkafaa
