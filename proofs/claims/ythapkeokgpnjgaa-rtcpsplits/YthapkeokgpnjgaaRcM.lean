/-
  Parts in memory: where they lie; whether a part may be, and how many bytes parts have together.
-/
import Derived.Test.YthapkeokgpnjgaaBiY
import Derived.Test.YthapkeokgpnjgaaRcP
namespace Go.Proofs.Ythapkeokgpnjgaa
open Go.RowKit

theorem Tch.below {b : Nat} {v v' : Value} {w w' : World} {T : TypeId} {l : List Bool} (h : Tch b v v' w w') (hw : Wr T w b v l) (B : Nat) (hB : B ≤ b) : Below B w w' :=
  h.ap.below B (by have := hw.lt; omega) (by
    rintro k (rfl | e)
    · exact hB
    · have := hw.ownlt k e; omega)
theorem Apart.belowF {w w' : World} (h : Apart (fun _ => False) w w') (B : Nat) (hB : B ≤ w.heap.size) : Below B w w' := h.below B hB (fun _ h => h.elim)
theorem Apart.belowE {w w' : World} {b : Nat} (h : Apart (· = b) w w') (B : Nat) (hB : B ≤ w.heap.size) (hb : B ≤ b) : Below B w w' := h.below B hB (fun k e => by subst e; exact hb)
theorem Apart.cell {X : Nat → Prop} {w w' : World} (h : Apart X w w') {p : Addr} (hp : p.block < w.heap.size) (hx : ¬ X p.block) : w'.cell? p = w.cell? p := World.cell?_of_block (w := w) (h.block p.block hp hx)

/-- A part as a value. -/
def pv (p : Pt) : Value := .agg #[.int .i64 p.c, .int .i64 p.t, .string p.d]
/-- The cells of the part that lies at a place. -/
def Cells3 (w : World) (b o : Nat) (p : Pt) : Prop := w.cell? ⟨b, o, none⟩ = some (.int .i64 p.c) ∧ w.cell? ⟨b, o + 1, none⟩ = some (.int .i64 p.t) ∧ w.cell? ⟨b, o + 2, none⟩ = some (.string p.d) ∧ p.d.size ≤ maxLen
/-- The parts l, in a block below B. -/
def PA (B : Nat) (w : World) (a : Option Addr) (l : List Pt) : Prop :=
  l.length ≤ maxLen ∧ (l = [] ∨ ∃ b off, a = some ⟨b, off, none⟩ ∧ b < B ∧ ∀ i p, l[i]? = some p → Cells3 w b (off + i * 3) p)
theorem Cells3.kept {w w' : World} {b o : Nat} {p : Pt} {B : Nat} (h : Cells3 w b o p) (hb : Below B w w') (hl : b < B) : Cells3 w' b o p := by
  obtain ⟨c0, c1, c2, c3⟩ := h
  exact ⟨by rw [hb.cell (p := ⟨b, o, none⟩) hl]; exact c0, by rw [hb.cell (p := ⟨b, o + 1, none⟩) hl]; exact c1, by rw [hb.cell (p := ⟨b, o + 2, none⟩) hl]; exact c2, c3⟩
theorem PA.kept {B : Nat} {w w' : World} {a : Option Addr} {l : List Pt} (h : PA B w a l) (hb : Below B w w') : PA B w' a l := by
  refine ⟨h.1, ?_⟩
  rcases h.2 with h0 | ⟨b, off, ha, hl, hc⟩
  · exact .inl h0
  · exact .inr ⟨b, off, ha, hl, fun i p hi => (hc i p hi).kept hb hl⟩
theorem PA.up {B B' : Nat} {w : World} {a : Option Addr} {l : List Pt} (h : PA B w a l) (hb : B ≤ B') : PA B' w a l := by
  refine ⟨h.1, ?_⟩
  rcases h.2 with h0 | ⟨b, off, ha, hl, hc⟩
  · exact .inl h0
  · exact .inr ⟨b, off, ha, by omega, hc⟩
theorem PA.on {w w' : World} {a : Option Addr} {l : List Pt} (h : PA w.heap.size w a l) (hb : Below w.heap.size w w') : PA w'.heap.size w' a l := (h.kept hb).up hb.size
/-- The cells of the part at a place. -/
theorem PA.at {B : Nat} {w : World} {a : Option Addr} {l : List Pt} (h : PA B w a l) (i : Nat) (hi : i < l.length) : ∃ b off p, a = some ⟨b, off, none⟩ ∧ b < B ∧ l[i]? = some p ∧ Cells3 w b (off + i * 3) p := by
  rcases h.2 with h0 | ⟨b, off, ha, hl, hc⟩
  · subst h0; simp at hi
  · exact ⟨b, off, l[i], ha, hl, List.getElem?_eq_getElem hi, hc i _ (List.getElem?_eq_getElem hi)⟩

/-- Is n from a to b? -/
def inR (n a b : Int) : Bool := decide (a ≤ n ∧ n ≤ b)
theorem inR_yes {n a b : Int} (h0 : a ≤ n) (h1 : n ≤ b) : inR n a b = true := by simp [inR, h0, h1]
theorem inR_no {n a b : Int} (h : ¬ (a ≤ n ∧ n ≤ b)) : inR n a b = false := by simpa [inR] using h
theorem inR_iff {n a b : Int} : inR n a b = true ↔ a ≤ n ∧ n ≤ b := by simp [inR]
theorem within_any (n a b : Int) (w : World) : Calls Try.prog 28 #[.int .i64 n, .int .i64 a, .int .i64 b] w fun e w' => e = .returned (.bool (inR n a b)) ∧ w' = w := by
  by_cases h0 : a ≤ n
  · by_cases h1 : n ≤ b
    · rw [inR_yes h0 h1]
      go_enter Try.func28, Try.ntmps28
      go_wp2
      go_ret
      exact ⟨ret_b (by simp), rfl⟩
    · rw [inR_no (by omega)]
      go_enter Try.func28, Try.ntmps28
      go_wp2
      go_ret
      exact ⟨ret_b (by simp), rfl⟩
  · rw [inR_no (by omega)]
    go_enter Try.func28, Try.ntmps28
    go_wp2
    go_ret
    exact ⟨ret_b (by simp), rfl⟩
theorem ok_parts (p : Pt) : p.ok = (inR p.c 0 31 && inR p.t 192 223 && decide (p.d.size ≤ 262140) && decide (p.d.size % 4 = 0)) := by
  simp only [Pt.ok, inR, ← Bool.decide_and]
  apply decide_eq_decide.2
  constructor <;> intro h <;> omega
set_option maxRecDepth 100000 in
theorem ispart_any (p : Pt) (hm : p.d.size ≤ maxLen) (w : World) :
    Calls Try.prog 21 #[pv p] w fun e w' => e = .returned (.bool p.ok) ∧ Below w.heap.size w w' := by
  rw [ok_parts]
  obtain ⟨c, t, d⟩ := p
  unfold pv
  simp only at hm ⊢
  unfold maxLen at hm
  have K1 := mkHid (within_any c 0 31)
  have K2 := mkHid (within_any t 192 223)
  have hm' : (d.size : Int) ≤ 9223372036854775807 := by omega
  clear hm
  cases h1 : inR c 0 31 with
  | false =>
    rw [h1] at K1
    go_enter Try.func21, Try.ntmps21
    go_wp2_with fail
    refine (K1.out _).mono ?_
    rintro e w1 ⟨rfl, rfl⟩
    go_wp2
    go_ret
    exact ⟨rfl, (Below.refl _ _).alloc (Nat.le_refl _) _⟩
  | true =>
    rw [h1] at K1
    cases h2 : inR t 192 223 with
    | false =>
      rw [h2] at K2
      go_enter Try.func21, Try.ntmps21
      go_wp2_with fail
      refine (K1.out _).mono ?_
      rintro e w1 ⟨rfl, rfl⟩
      go_wp2_with fail
      refine (K2.out _).mono ?_
      rintro e w1 ⟨rfl, rfl⟩
      go_wp2
      go_ret
      exact ⟨rfl, (Below.refl _ _).alloc (Nat.le_refl _) _⟩
    | true =>
      rw [h2] at K2
      by_cases h3 : d.size ≤ 262140
      · have h3' : (d.size : Int) ≤ 262140 := by omega
        by_cases h4 : d.size % 4 = 0
        · have h4' : (d.size : Int) % 4 = 0 := by omega
          rw [decide_eq_true h3, decide_eq_true h4]
          go_enter Try.func21, Try.ntmps21
          go_wp2_with fail
          refine (K1.out _).mono ?_
          rintro e w1 ⟨rfl, rfl⟩
          go_wp2_with fail
          refine (K2.out _).mono ?_
          rintro e w1 ⟨rfl, rfl⟩
          go_wp2
          go_ret
          exact ⟨ret_b (by simp), (Below.refl _ _).alloc (Nat.le_refl _) _⟩
        · have h4' : ¬ (d.size : Int) % 4 = 0 := by omega
          rw [decide_eq_true h3, decide_eq_false h4]
          go_enter Try.func21, Try.ntmps21
          go_wp2_with fail
          refine (K1.out _).mono ?_
          rintro e w1 ⟨rfl, rfl⟩
          go_wp2_with fail
          refine (K2.out _).mono ?_
          rintro e w1 ⟨rfl, rfl⟩
          go_wp2
          go_ret
          exact ⟨ret_b (by simp; omega), (Below.refl _ _).alloc (Nat.le_refl _) _⟩
      · have h3' : ¬ (d.size : Int) ≤ 262140 := by omega
        rw [decide_eq_false h3]
        go_enter Try.func21, Try.ntmps21
        go_wp2_with fail
        refine (K1.out _).mono ?_
        rintro e w1 ⟨rfl, rfl⟩
        go_wp2_with fail
        refine (K2.out _).mono ?_
        rintro e w1 ⟨rfl, rfl⟩
        go_wp2
        go_ret
        exact ⟨ret_b (by simp), (Below.refl _ _).alloc (Nat.le_refl _) _⟩
end Go.Proofs.Ythapkeokgpnjgaa
