/-
  Memory that a reader, a writer takes: what its block holds; that a call turns nothing else.
-/
import Derived.Test.YtmnpghelglohlaaRows
import Derived.Test.YtmnpghelglohlaaBiP
import Derived.WalkKit
import Derived.WalkSpells
import Derived.WalkLawsBesides
import Derived.Handy
import Derived.BigQuiet
import Derived.ScopeJumps
import Derived.WalkMore
import Derived.Laws.IdiomStrings
namespace Go.Proofs.Ytmnpghelglohlaa
open Go.RowKit

theorem mkHid {p : Prop} (h : p) : Hid p := h
theorem ret_i {k : IntKind} {a b : Int} (h : a = b) : Ending.returned (.int k a) = .returned (.int k b) := by rw [h]
theorem ret_b {p q : Bool} (h : p = q) : Ending.returned (.bool p) = .returned (.bool q) := by rw [h]
theorem setCell_drewN (w : World) (a : Addr) (v : Value) (n : Nat) : (w.drewN n).setCell a v = (w.setCell a v).drewN n := rfl

/-- A scope whose run comes to one label, and jumps back to it: what holds at the label, and a measure that every pass lowers. -/
theorem wp_scope_label {P : Program} {a : Act} {w : World} {Q : Exit → Act → World → Prop} {c tail : Code} (l : Nat) (J : Act → World → Prop) (μ : Act → World → Nat) (hf : findLabel c l = some (.seq .skip tail))
    (first : ∀ Q' : Exit → Act → World → Prop, (∀ a w, J a w → tail.wp P Q' a w) → c.wp P Q' a w)
    (pass : ∀ a w, J a w → tail.wp P (Exit.jump l (fun a' w' => J a' w' ∧ μ a' w' < μ a w) Q) a w) : (Code.scope c).wp P Q a w :=
  wp_scope_jumps l J μ hf (first _ fun a w h => Code.wp_mono (fun e a' w' hq => by cases e <;> first | exact ⟨hq.1, hq.2.1⟩ | exact hq) (pass a w h)) (fun a w h => wp_seq (wp_skip (pass a w h)))

theorem list_of (l : List Value) : l = (List.range l.length).map (fun i => l.getD i undef) := by
  apply List.ext_getElem?
  intro i
  by_cases h : i < l.length
  · rw [List.getElem?_map, List.getElem?_range h, List.getElem?_eq_getElem h]
    simp [List.getD_eq_getElem?_getD, List.getElem?_eq_getElem h]
  · rw [List.getElem?_eq_none (by omega), List.getElem?_eq_none (by simp; omega)]
/-- A frame of so many slots, written out slot by slot. -/
theorem frame_of (a : Act) (n : Nat) (hs : a.tmps.size = n) (hd : a.defers = []) : ∃ u : Nat → Value, (∀ i, a.tmps.getD i undef = u i) ∧ a = { tmps := ((List.range n).map u).toArray, defers := [] } := by
  refine ⟨fun i => a.tmps.getD i undef, fun _ => rfl, ?_⟩
  obtain ⟨tmps, defers⟩ := a
  obtain ⟨l⟩ := tmps
  simp only at hs hd
  subst hd
  have e := list_of l
  have hl : l.length = n := by simpa using hs
  rw [hl] at e
  have e2 : ∀ i, (l.toArray).getD i undef = l.getD i undef := by
    intro i
    simp [Array.getD_eq_getD_getElem?, List.getD_eq_getElem?_getD]
  simp only [e2]
  rw [← e]

/-- All blocks but those of X are as they were. -/
structure Apart (X : Nat → Prop) (w w' : World) : Prop where
  os : w'.os = w.os
  tape : w'.tape = w.tape
  output : w'.output = w.output
  size : w.heap.size ≤ w'.heap.size
  block : ∀ k, k < w.heap.size → ¬ X k → w'.heap[k]? = w.heap[k]?

theorem Apart.refl (X : Nat → Prop) (w : World) : Apart X w w := ⟨rfl, rfl, rfl, Nat.le_refl _, fun _ _ _ => rfl⟩
theorem Apart.trans {X Y : Nat → Prop} {a b c : World} (h : Apart X a b) (k : Apart Y b c) (hY : ∀ i, i < a.heap.size → Y i → X i) : Apart X a c :=
  ⟨k.os.trans h.os, k.tape.trans h.tape, k.output.trans h.output, Nat.le_trans h.size k.size, fun i hi hx => (k.block i (Nat.lt_of_lt_of_le hi h.size) (fun hy => hx (hY i hi hy))).trans (h.block i hi hx)⟩
theorem Apart.mono {X Y : Nat → Prop} {a b : World} (h : Apart X a b) (hY : ∀ i, i < a.heap.size → X i → Y i) : Apart Y a b :=
  ⟨h.os, h.tape, h.output, h.size, fun i hi hy => h.block i hi fun hx => hy (hY i hi hx)⟩
theorem Apart.drewN {X : Nat → Prop} {a b : World} (h : Apart X a b) (n : Nat) : Apart X a (b.drewN n) := ⟨h.os, h.tape, h.output, h.size, h.block⟩
theorem Apart.drew {X : Nat → Prop} {a b : World} (h : Apart X a b) : Apart X a b.drew := ⟨h.os, h.tape, h.output, h.size, h.block⟩
theorem Apart.alloc {X : Nat → Prop} {a b : World} (h : Apart X a b) (o : Obj) : Apart X a (b.alloc o) :=
  h.trans (Y := fun _ => False) ⟨rfl, rfl, rfl, by simp, fun k hk _ => Below.heap_alloc b o k hk⟩ (fun _ _ h => h.elim)
theorem Apart.setCell {X : Nat → Prop} {a b : World} (h : Apart X a b) {p : Addr} (hp : p.block < a.heap.size → X p.block) (u : Value) : Apart X a (b.setCell p u) :=
  h.trans (Y := fun k => k = p.block) ⟨rfl, rfl, rfl, by simp, fun k _ hk => Below.heap_setCell b p u k hk⟩ (fun i hi e => by subst e; exact hp hi)
theorem Apart.grown {X : Nat → Prop} {a b c : World} {row : Option Nat} (h : Apart X a b) (hg : b.grownBy c row) (hr : ∀ k, k < a.heap.size → row = some k → X k) : Apart X a c :=
  h.trans (Y := fun k => some k = row) ⟨hg.os, hg.tape, hg.output, hg.size, fun k hk hn => hg.block k hk hn⟩ (fun i hi e => hr i hi e.symm)
theorem Apart.below {X : Nat → Prop} {w w' : World} (h : Apart X w w') (B : Nat) (hB : B ≤ w.heap.size) (hX : ∀ k, X k → B ≤ k) : Below B w w' :=
  ⟨h.os, h.tape, h.output, h.size, fun k hk => h.block k (by omega) fun hx => by have := hX k hx; omega⟩
theorem lt_of_heap {w : World} {b : Nat} {o : Obj} (h : w.heap[b]? = some o) : b < w.heap.size := (Array.getElem?_eq_some_iff.1 h).1
theorem Apart.heap {X : Nat → Prop} {w w' : World} (h : Apart X w w') {b : Nat} {o : Obj} (hb : w.heap[b]? = some o) (hx : ¬ X b) : w'.heap[b]? = some o :=
  (h.block b (lt_of_heap hb) hx).trans hb

/-- Three cells of a block: what the walk asks of them. -/
theorem cells3 {w : World} {b : Nat} {v0 v1 v2 : Value} {T : TypeId} (h : w.heap[b]? = some (.cells #[v0, v1, v2] T (0, 0))) :
    w.cell? ⟨b, 0, none⟩ = some v0 ∧ w.cell? ⟨b, 1, none⟩ = some v1 ∧ w.cell? ⟨b, 2, none⟩ = some v2 ∧ (w.frozen? ⟨b, 0, none⟩ = false ∧ w.frozen? ⟨b, 1, none⟩ = false ∧ w.frozen? ⟨b, 2, none⟩ = false) :=
  ⟨cell_of_row w b 0 _ T _ h, cell_of_row w b 1 _ T _ h, cell_of_row w b 2 _ T _ h, frozen_of_row w b 0 _ T h, frozen_of_row w b 1 _ T h, frozen_of_row w b 2 _ T h⟩
theorem cells2 {w : World} {b : Nat} {v0 v1 : Value} {T : TypeId} (h : w.heap[b]? = some (.cells #[v0, v1] T (0, 0))) :
    w.cell? ⟨b, 0, none⟩ = some v0 ∧ w.cell? ⟨b, 1, none⟩ = some v1 ∧ (w.frozen? ⟨b, 0, none⟩ = false ∧ w.frozen? ⟨b, 1, none⟩ = false) :=
  ⟨cell_of_row w b 0 _ T _ h, cell_of_row w b 1 _ T _ h, frozen_of_row w b 0 _ T h, frozen_of_row w b 1 _ T h⟩

/-- A reader of s in block b: at a place, or bad. -/
def Rd (T : TypeId) (w : World) (b : Nat) (s : ByteArray) : Option Nat → Prop
  | some p => w.heap[b]? = some (.cells #[.string s, .int .i64 (p : Int), .bool false] T (0, 0)) ∧ p ≤ 8 * s.size
  | none => ∃ (s' : ByteArray) (p : Int), w.heap[b]? = some (.cells #[.string s', .int .i64 p, .bool true] T (0, 0))
theorem Rd.heap {T : TypeId} {w : World} {b : Nat} {s : ByteArray} {st : Option Nat} (h : Rd T w b s st) : b < w.heap.size := by
  cases st with
  | none => obtain ⟨s', p, h⟩ := h; exact lt_of_heap h
  | some p => exact lt_of_heap h.1
theorem Rd.kept {T : TypeId} {w w' : World} {b : Nat} {s : ByteArray} {st : Option Nat} {X : Nat → Prop} (h : Rd T w b s st) (ha : Apart X w w') (hx : ¬ X b) : Rd T w' b s st := by
  cases st with
  | none => obtain ⟨s', p, h⟩ := h; exact ⟨s', p, ha.heap h hx⟩
  | some p => exact ⟨ha.heap h.1 hx, h.2⟩
/-- What Get answers, and where it is then. -/
def gval (s : ByteArray) (st : Option Nat) (n : Int) : Int :=
  match st with
  | some p => if 0 ≤ n ∧ n ≤ 32 ∧ (p : Int) + n ≤ 8 * s.size then (gv s p n.toNat : Int) else 0
  | none => 0
def gnext (s : ByteArray) (st : Option Nat) (n : Int) : Option Nat :=
  match st with
  | some p => if 0 ≤ n ∧ n ≤ 32 ∧ (p : Int) + n ≤ 8 * s.size then some (p + n.toNat) else none
  | none => none
def gleft (s : ByteArray) (st : Option Nat) : Int :=
  match st with
  | some p => 8 * s.size - p
  | none => 0
def gbad (st : Option Nat) : Bool := st.isNone

end Go.Proofs.Ytmnpghelglohlaa
