/-
  A header in memory: where its sources and extensions lie; the set of numbers that were seen.
-/
import Derived.Test.YtdajcgicpfpeoaaBiY
namespace Go.Proofs.Ytdajcgicpfpeoaa
open Go.RowKit

theorem Tch.below {b : Nat} {v v' : Value} {w w' : World} {T : TypeId} {l : List Bool} (h : Tch b v v' w w') (hw : Wr T w b v l) (B : Nat) (hB : B ≤ b) : Below B w w' :=
  h.ap.below B (by have := hw.lt; omega) (by
    rintro k (rfl | e)
    · exact hB
    · have := hw.ownlt k e; omega)
theorem Apart.belowF {w w' : World} (h : Apart (fun _ => False) w w') (B : Nat) (hB : B ≤ w.heap.size) : Below B w w' := h.below B hB (fun _ h => h.elim)
theorem Apart.belowE {w w' : World} {b : Nat} (h : Apart (· = b) w w') (B : Nat) (hB : B ≤ w.heap.size) (hb : B ≤ b) : Below B w w' := h.below B hB (fun k e => by subst e; exact hb)

theorem Apart.cell {X : Nat → Prop} {w w' : World} (h : Apart X w w') {p : Addr} (hp : p.block < w.heap.size) (hx : ¬ X p.block) : w'.cell? p = w.cell? p := World.cell?_of_block (w := w) (h.block p.block hp hx)

/-- n sources S, in a block below B. -/
def SA (B : Nat) (w : World) (a : Option Addr) (n : Nat) (S : Nat → Int) : Prop :=
  n ≤ maxLen ∧ (n = 0 ∨ ∃ b off, a = some ⟨b, off, none⟩ ∧ b < B ∧ ∀ i, i < n → w.cell? ⟨b, off + i, none⟩ = some (.int .u32 (S i)) ∧ 0 ≤ S i ∧ S i < 4294967296)
/-- n extensions with numbers I and data D, in a block below B. -/
def XA (B : Nat) (w : World) (a : Option Addr) (n : Nat) (I : Nat → Int) (D : Nat → ByteArray) : Prop :=
  n ≤ maxLen ∧ (n = 0 ∨ ∃ b off, a = some ⟨b, off, none⟩ ∧ b < B ∧ ∀ i, i < n → w.cell? ⟨b, off + i * 2, none⟩ = some (.int .i64 (I i)) ∧ w.cell? ⟨b, off + i * 2 + 1, none⟩ = some (.string (D i)) ∧ (D i).size ≤ maxLen)
theorem SA.kept {B : Nat} {w w' : World} {a : Option Addr} {n : Nat} {S : Nat → Int} (h : SA B w a n S) (hb : Below B w w') : SA B w' a n S := by
  refine ⟨h.1, ?_⟩
  rcases h.2 with h0 | ⟨b, off, ha, hl, hc⟩
  · exact .inl h0
  · exact .inr ⟨b, off, ha, hl, fun i hi => by rw [hb.cell (p := ⟨b, off + i, none⟩) hl]; exact hc i hi⟩
theorem XA.kept {B : Nat} {w w' : World} {a : Option Addr} {n : Nat} {I : Nat → Int} {D : Nat → ByteArray} (h : XA B w a n I D) (hb : Below B w w') : XA B w' a n I D := by
  refine ⟨h.1, ?_⟩
  rcases h.2 with h0 | ⟨b, off, ha, hl, hc⟩
  · exact .inl h0
  · exact .inr ⟨b, off, ha, hl, fun i hi => by rw [hb.cell (p := ⟨b, off + i * 2, none⟩) hl, hb.cell (p := ⟨b, off + i * 2 + 1, none⟩) hl]; exact hc i hi⟩
theorem SA.up {B B' : Nat} {w : World} {a : Option Addr} {n : Nat} {S : Nat → Int} (h : SA B w a n S) (hb : B ≤ B') : SA B' w a n S := by
  refine ⟨h.1, ?_⟩
  rcases h.2 with h0 | ⟨b, off, ha, hl, hc⟩
  · exact .inl h0
  · exact .inr ⟨b, off, ha, by omega, hc⟩
theorem XA.up {B B' : Nat} {w : World} {a : Option Addr} {n : Nat} {I : Nat → Int} {D : Nat → ByteArray} (h : XA B w a n I D) (hb : B ≤ B') : XA B' w a n I D := by
  refine ⟨h.1, ?_⟩
  rcases h.2 with h0 | ⟨b, off, ha, hl, hc⟩
  · exact .inl h0
  · exact .inr ⟨b, off, ha, by omega, hc⟩

/-- Is n from a to b? -/
def inR (n a b : Int) : Bool := decide (a ≤ n ∧ n ≤ b)
theorem inR_yes {n a b : Int} (h0 : a ≤ n) (h1 : n ≤ b) : inR n a b = true := by simp [inR, h0, h1]
theorem inR_no {n a b : Int} (h : ¬ (a ≤ n ∧ n ≤ b)) : inR n a b = false := by simpa [inR] using h
theorem inR_iff {n a b : Int} : inR n a b = true ↔ a ≤ n ∧ n ≤ b := by simp [inR]
theorem within_any (n a b : Int) (w : World) : Calls Try.prog 33 #[.int .i64 n, .int .i64 a, .int .i64 b] w fun e w' => e = .returned (.bool (inR n a b)) ∧ w' = w := by
  by_cases h0 : a ≤ n
  · by_cases h1 : n ≤ b
    · rw [inR_yes h0 h1]
      go_enter Try.func33, Try.ntmps33
      go_wp2
      go_ret
      exact ⟨ret_b (by simp), rfl⟩
    · rw [inR_no (by omega)]
      go_enter Try.func33, Try.ntmps33
      go_wp2
      go_ret
      exact ⟨ret_b (by simp), rfl⟩
  · rw [inR_no (by omega)]
    go_enter Try.func33, Try.ntmps33
    go_wp2
    go_ret
    exact ⟨ret_b (by simp), rfl⟩
def b01 (b : Bool) : Int := if b then 1 else 0
theorem bit_b (b : Bool) (w : World) : Calls Try.prog 36 #[.bool b] w fun e w' => e = .returned (.int .u32 (b01 b)) ∧ w' = w := by
  cases b <;>
  · go_enter Try.func36, Try.ntmps36
    go_wp2
    go_ret
    exact ⟨rfl, rfl⟩

/-- The set of numbers that were seen, in block sb. -/
def Seen (w : World) (sb : Nat) (f : Nat → Bool) : Prop := w.heap[sb]? = some (.cells ((List.range 15).map fun i => Value.bool (f i)).toArray 84 (0, 0))
def upd (f : Nat → Bool) (k : Nat) : Nat → Bool := fun i => if i = k then true else f i
theorem Seen.cell {w : World} {sb : Nat} {f : Nat → Bool} (h : Seen w sb f) (k : Nat) (hk : k < 15) : w.cell? ⟨sb, k, none⟩ = some (.bool (f k)) ∧ w.frozen? ⟨sb, k, none⟩ = false := by
  refine ⟨?_, frozen_of_row w sb k _ 84 h⟩
  rw [cell_of_row w sb k _ 84 _ h]
  simp [hk]
theorem Seen.set {w : World} {sb : Nat} {f : Nat → Bool} (h : Seen w sb f) (k : Nat) (hk : k < 15) : Seen (w.setCell ⟨sb, k, none⟩ (.bool true)) sb (upd f k) := by
  unfold Seen
  rw [heap_setCell_same w sb k _ 84 (.bool true) h]
  congr 2
  apply Array.ext'
  apply List.ext_getElem?
  intro i
  simp only [Array.toList_setIfInBounds, List.getElem?_set, List.length_map, List.length_range, List.getElem?_map]
  by_cases h1 : k = i
  · subst h1; simp [hk, upd]
  · by_cases h2 : i < 15
    · have h3 : ¬ i = k := fun e => h1 e.symm
      simp [h1, h3, h2, upd]
    · simp [h1, h2]
theorem add_out (sb : Nat) (id : Int) (hid : ¬ (1 ≤ id ∧ id ≤ 14)) (w : World) :
    Calls Try.prog 44 #[.pointer (some ⟨sb, 0, none⟩), .int .i64 id] w fun e w' => e = .returned (.bool false) ∧ w' = w := by
  have K := mkHid (within_any id 1 14)
  rw [inR_no hid] at K
  go_enter Try.func44, Try.ntmps44
  go_wp2_with fail
  refine (K.out _).mono ?_
  rintro e w1 ⟨rfl, rfl⟩
  go_wp2
  go_ret
  exact ⟨rfl, rfl⟩
theorem add_in (sb k : Nat) (f : Nat → Bool) (hk : 1 ≤ k) (hk2 : k ≤ 14) (w : World) (h : Seen w sb f) :
    Calls Try.prog 44 #[.pointer (some ⟨sb, 0, none⟩), .int .i64 (k : Int)] w fun e w' => e = .returned (.bool (!f k)) ∧ Seen w' sb (upd f k) ∧ Apart (· = sb) w w' := by
  have K := mkHid (within_any k 1 14)
  rw [inR_yes (by omega) (by omega)] at K
  obtain ⟨c0, f0⟩ := h.cell k (by omega)
  cases hf : f k with
  | true =>
    rw [hf] at c0
    have H := mkHid h
    have HF := mkHid hf
    clear h hf
    go_enter Try.func44, Try.ntmps44
    go_wp2_with fail
    refine (K.out _).mono ?_
    rintro e w1 ⟨rfl, rfl⟩
    go_wp2
    go_ret
    refine ⟨rfl, ?_, Apart.refl _ _⟩
    have e : upd f k = f := by
      funext i
      unfold upd
      by_cases hi : i = k
      · rw [if_pos hi, hi, HF.out]
      · rw [if_neg hi]
    rw [e]; exact H.out
  | false =>
    rw [hf] at c0
    have H := mkHid h
    clear h hf
    go_enter Try.func44, Try.ntmps44
    go_wp2_with fail
    refine (K.out _).mono ?_
    rintro e w1 ⟨rfl, rfl⟩
    go_wp2
    go_ret
    exact ⟨rfl, H.out.set k (by omega), Apart.setCell (X := (· = sb)) (Apart.refl _ _) (p := ⟨sb, k, none⟩) (fun _ => rfl) _⟩
end Go.Proofs.Ytdajcgicpfpeoaa
