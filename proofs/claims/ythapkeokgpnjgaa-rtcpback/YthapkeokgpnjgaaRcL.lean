/-
  What a reader hands back, whether there is enough or not; the function that reads a text.
-/
import Derived.Test.YthapkeokgpnjgaaRcM
import Derived.Test.YthapkeokgpnjgaaBiX
import Derived.Laws.MakeOwn
namespace Go.Proofs.Ythapkeokgpnjgaa
open Go.RowKit

/-- A reader that was asked for so many bits from the beginning on: at that place, or bad. -/
def At (s : ByteArray) (p : Nat) : Option Nat := if p ≤ 8 * s.size then some p else none
/-- What Get answers there. -/
def gw (s : ByteArray) (p n : Nat) : Nat := if p + n ≤ 8 * s.size then gv s p n else 0
theorem gw_in {s : ByteArray} {p n : Nat} (h : p + n ≤ 8 * s.size) : gw s p n = gv s p n := if_pos h
theorem gw_lt (s : ByteArray) (p n : Nat) : gw s p n < 2 ^ n := by
  unfold gw
  split
  · exact gv_lt s p n
  · exact Nat.two_pow_pos n
theorem get_at (b : Nat) (s : ByteArray) (hs : s.size ≤ 1000000) (p : Nat) (n : Int) (m : Nat) (e : n = m) (hm : m ≤ 32) (w : World) (h : Rd 63 w b s (At s p)) :
    Calls Try.prog 30 #[.pointer (some ⟨b, 0, none⟩), .int .i64 n] w fun e w' => e = .returned (.int .u32 (gw s p m : Int)) ∧ Rd 63 w' b s (At s (p + m)) ∧ Apart (· = b) w w' := by
  subst e
  have := get_any b s hs _ m w h
  have e1 : gval s (At s p) m = (gw s p m : Int) := by
    unfold At gw
    by_cases h1 : p ≤ 8 * s.size
    · rw [if_pos h1]
      simp only [gval]
      by_cases h2 : p + m ≤ 8 * s.size
      · rw [if_pos (by omega), if_pos h2]; rfl
      · rw [if_neg (by omega), if_neg h2]; rfl
    · rw [if_neg h1, if_neg (by omega)]; rfl
  have e2 : gnext s (At s p) m = At s (p + m) := by
    unfold At
    by_cases h1 : p ≤ 8 * s.size
    · rw [if_pos h1]
      simp only [gnext]
      by_cases h2 : p + m ≤ 8 * s.size
      · rw [if_pos (by omega), if_pos h2]; rfl
      · rw [if_neg (by omega), if_neg h2]
    · rw [if_neg h1, if_neg (by omega)]; rfl
  rw [e1, e2] at this
  exact this
/-- Is it bad there? -/
def badB (s : ByteArray) (p : Nat) : Bool := decide (8 * s.size < p)
theorem badB_no {s : ByteArray} {p : Nat} (h : p ≤ 8 * s.size) : badB s p = false := by simp [badB]; omega
theorem badB_yes {s : ByteArray} {p : Nat} (h : ¬ p ≤ 8 * s.size) : badB s p = true := by simp [badB]; omega
theorem bad_at (b : Nat) (s : ByteArray) (p : Nat) (w : World) (h : Rd 63 w b s (At s p)) :
    Calls Try.prog 31 #[.pointer (some ⟨b, 0, none⟩)] w fun e w' => e = .returned (.bool (badB s p)) ∧ w' = w := by
  have := bad_any b s _ w h
  have e : gbad (At s p) = badB s p := by
    unfold At
    by_cases h1 : p ≤ 8 * s.size
    · rw [if_pos h1, badB_no h1]; rfl
    · rw [if_neg h1, badB_yes h1]; rfl
  rw [e] at this
  exact this

/-- The bytes of a text that is read from place p on, k of m. -/
def rowC (s : ByteArray) (p m k : Nat) : Array Value := ((List.range m).map fun i => Value.int .u8 (if i < k then (gw s (p + 8 * i) 8 : Int) else 0)).toArray
/-- The text. -/
def txS (s : ByteArray) (p m : Nat) : ByteArray := ⟨((List.range m).map fun i => UInt8.ofNat (gw s (p + 8 * i) 8)).toArray⟩
theorem txS_size (s : ByteArray) (p m : Nat) : (txS s p m).size = m := by show (((List.range m).map fun i => UInt8.ofNat (gw s (p + 8 * i) 8)).toArray).size = m; simp
theorem rowC_made (s : ByteArray) (p m : Nat) : madeCells #[Value.int .u8 0] m = rowC s p m 0 := by
  apply Array.ext
  · simp [madeCells, rowC]
  · intro i h1 h2
    simp [madeCells, rowC, Nat.mod_one]
theorem mk_row (s : ByteArray) (p m : Nat) (hm : m ≤ 1000000) (w : World) :
    (Instr.makeSlice 41 (.int .i64 (m : Int)) (.int .i64 (m : Int))).run Try.prog w = .ok (.slice (some ⟨w.heap.size, 0, none⟩) m m) (w.alloc (.cells (rowC s p m 0) 5)) := by
  obtain ⟨i0, hi, hz0, hz1, hz2⟩ := info_parts info5
  have := run_make (P := Try.prog) w 41 5 i0 (.int .u8 0) Try.underlying41 hi hz0 .i64 .i64 m m (by omega) (by omega) (by rw [hz2]; omega) (by omega)
  rw [this, hz1]
  simp only [Int.toNat_natCast, Nat.mul_one]
  rw [← rowC_made s p m]
  rfl
theorem rowC_cell {s : ByteArray} {p m k g : Nat} {w : World} (h : w.heap[g]? = some (.cells (rowC s p m k) 5 (0, 0))) (i : Nat) (hi : i < m) :
    w.cell? ⟨g, i, none⟩ = some (.int .u8 (if i < k then (gw s (p + 8 * i) 8 : Int) else 0)) ∧ w.frozen? ⟨g, i, none⟩ = false := by
  refine ⟨?_, frozen_of_row w g i _ 5 h⟩
  rw [cell_of_row w g i _ 5 _ h]
  simp [rowC, hi]
theorem rowC_next {s : ByteArray} {p m k g : Nat} {w : World} (h : w.heap[g]? = some (.cells (rowC s p m k) 5 (0, 0))) (hk : k < m) (x : Int) (hx : x = (gw s (p + 8 * k) 8 : Int)) :
    (w.setCell ⟨g, k, none⟩ (.int .u8 x)).heap[g]? = some (.cells (rowC s p m (k + 1)) 5 (0, 0)) := by
  rw [heap_setCell_same w g k _ 5 _ h]
  congr 2
  apply Array.ext'
  apply List.ext_getElem?
  intro i
  simp only [rowC, Array.toList_setIfInBounds, List.getElem?_set, List.length_map, List.length_range, List.getElem?_map]
  by_cases h1 : k = i
  · subst h1; simp [hk, hx]
  · by_cases h2 : i < m
    · have h3 : (i < k + 1) ↔ (i < k) := by omega
      simp [h1, h2, h3]
    · simp [h1, h2]
theorem row_conv {s : ByteArray} {p m g : Nat} {w : World} (h : w.heap[g]? = some (.cells (rowC s p m m) 5 (0, 0))) : (convert 41 9 (.slice (some ⟨g, 0, none⟩) m m)).run Try.prog w = .ok (.string (txS s p m)) w := by
  have := run_convert_bytes_back (P := Try.prog) w 41 9 5 ⟨g, 0, none⟩ m ((List.range m).map fun i => UInt8.ofNat (gw s (p + 8 * i) 8)) Try.underlying41 Try.underlying5 Try.underlying9 (fun j hj => by
    have hj' : j < m := by simpa using hj
    rw [Addr.add_lit, Nat.zero_add, (rowC_cell h j hj').1, if_pos hj']
    have hb := gw_lt s (p + 8 * j) 8
    have e : ((List.range m).map fun i => UInt8.ofNat (gw s (p + 8 * i) 8))[j] = UInt8.ofNat (gw s (p + 8 * j) 8) := by simp
    rw [e, UInt8.toNat_ofNat_of_lt' (by simpa using hb)])
  simp only [List.length_map, List.length_range] at this
  exact this
set_option maxRecDepth 100000 in
set_option maxHeartbeats 1000000 in
theorem gtext_any (b : Nat) (s : ByteArray) (hs : s.size ≤ 1000000) (p m : Nat) (hm : m ≤ 1000000) (w : World) (h : Rd 63 w b s (At s p)) :
    Calls Try.prog 32 #[.pointer (some ⟨b, 0, none⟩), .int .i64 (m : Int)] w fun e w' => e = .returned (.string (txS s p m)) ∧ Rd 63 w' b s (At s (p + 8 * m)) ∧ Apart (· = b) w w' := by
  have hmk := mk_row s p m hm
  have H := mkHid h
  have hbl := h.heap
  obtain ⟨g, HG⟩ : ∃ g, Hid (w.heap.size = g) := ⟨_, rfl⟩
  have hne : ¬ g = b := by rw [← HG.out]; omega
  have hne' : ¬ b = g := fun e => hne e.symm
  clear h hbl
  go_enter Try.func32, Try.ntmps32
  go_wp2
  rw [HG.out]
  go_loopw [11] (fun i wr => ∃ k : Nat, k ≤ m ∧ i = .int .i64 (k : Int) ∧ Rd 63 wr b s (At s (p + 8 * k)) ∧ wr.heap[g]? = some (.cells (rowC s p m k) 5 (0, 0)) ∧ Apart (· = b) w wr) (fun i _ => m - (intOf i).toNat)
  case atStart => exact ⟨0, Nat.zero_le _, rfl, by exact H.out.kept ((Apart.refl (fun _ => False) _).alloc _) (fun h => h), by rw [← HG.out]; exact heap_alloc_new _ _, (Apart.refl _ _).alloc _⟩
  case round =>
    obtain ⟨k, hk, rfl, hr, hg, hp⟩ := hrel
    have HR := mkHid hr
    have HGR := mkHid hg
    have HP := mkHid hp
    clear hr hp H hmk
    by_cases hlt : k < m
    · clear hg
      go_wp2_with fail
      refine (get_at b s hs _ _ 8 rfl (by omega) _ HR.out).mono ?_
      have hv := gw_lt s (p + 8 * k) 8
      obtain ⟨x, HX⟩ : ∃ x, Hid (gw s (p + 8 * k) 8 = x) := ⟨_, rfl⟩
      rw [HX.out] at hv ⊢
      rintro e w1 ⟨rfl, h1, p1⟩
      have G1 := p1.heap HGR.out hne
      obtain ⟨c0, f0⟩ := rowC_cell G1 k hlt
      have H1 := mkHid h1
      have P1 := mkHid (HP.out.trans p1 (fun _ _ h => h))
      have GG := mkHid G1
      clear h1 p1 G1
      go_wp2
      go_roundw
      case rel =>
        refine ⟨k + 1, by omega, by go_num, ?_, ?_, ?_⟩
        · have := H1.out
          rw [show p + 8 * k + 8 = p + 8 * (k + 1) from by omega] at this
          exact this.kept (Apart.setCell (X := (· = g)) (Apart.refl _ _) (p := ⟨g, k, none⟩) (fun _ => rfl) _) hne'
        · exact rowC_next GG.out hlt _ (by rw [HX.out])
        · exact Apart.setCell P1.out (p := ⟨g, k, none⟩) (fun hh => by rw [HG.out] at hh; simp at hh) _
      case measure => simp [intOf]; omega
    · obtain rfl : k = m := by omega
      have hc := row_conv hg
      clear hg
      obtain ⟨tt, HTT⟩ : ∃ tt, Hid (txS s p k = tt) := ⟨_, rfl⟩
      rw [HTT.out] at hc
      go_wp2
      go_ret
      exact ⟨by rw [HTT.out]; rfl, HR.out, HP.out⟩
end Go.Proofs.Ythapkeokgpnjgaa
