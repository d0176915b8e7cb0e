/-
  What the functions that write a header's bits do.
-/
import Derived.Test.YtdajcgicpfpeoaaRtF
namespace Go.Proofs.Ytdajcgicpfpeoaa
open Go.RowKit

theorem put_fit (b : Nat) (v : Value) (l : List Bool) (x n : Int) (X m : Nat) (eX : x = X) (e : n = m) (x1 : X < 4294967296) (hm : m ≤ 32) (hl : l.length + m ≤ 524288) (w : World) (h : Wr 71 w b v l) :
    Calls Try.prog 35 #[.pointer (some ⟨b, 0, none⟩), .int .u32 x, .int .i64 n] w fun e w' => e = .returned (.tuple #[]) ∧ ∃ v', Wr 71 w' b v' (l ++ bitsOf X m) ∧ Tch b v v' w w' := by
  subst e eX
  have := put_any b v l X m (by omega) (by omega) w h
  unfold putS at this
  rw [if_pos (by omega)] at this
  exact this
/-- A block that is none of a writer's. -/
structure Bx (o : Obj) (w : World) (bx b : Nat) (v : Value) : Prop where
  heap : w.heap[bx]? = some o
  ne : bx ≠ b
  own : v.ownBlock ≠ some bx
theorem Bx.next {o : Obj} {w w' : World} {bx b : Nat} {v v' : Value} (h : Bx o w bx b v) (t : Tch b v v' w w') : Bx o w' bx b v' := by
  refine ⟨t.ap.heap h.heap ?_, h.ne, fun e => ?_⟩
  · rintro (e | e)
    · exact h.ne e
    · exact h.own e
  · rcases t.own bx e with e | e
    · exact h.own e
    · have := lt_of_heap h.heap; omega
theorem Bx.new {w : World} {b : Nat} {v : Value} {T : TypeId} {l : List Bool} (h : Wr T w b v l) (o : Obj) : Bx o (w.alloc o) w.heap.size b v :=
  ⟨heap_alloc_new _ _, by have := h.lt; omega, fun e => by have := h.ownlt _ e; omega⟩
theorem cells7 {w : World} {bx : Nat} {v0 v1 v2 v3 v4 v5 v6 : Value} {T : TypeId} (h : w.heap[bx]? = some (.cells #[v0, v1, v2, v3, v4, v5, v6] T (0, 0))) :
    w.cell? ⟨bx, 0, none⟩ = some v0 ∧ w.cell? ⟨bx, 1, none⟩ = some v1 ∧ w.cell? ⟨bx, 2, none⟩ = some v2 ∧ w.cell? ⟨bx, 3, none⟩ = some v3 ∧ w.cell? ⟨bx, 4, none⟩ = some v4 ∧ w.cell? ⟨bx, 5, none⟩ = some v5 ∧ w.cell? ⟨bx, 6, none⟩ = some v6 :=
  ⟨cell_of_row w bx 0 _ T _ h, cell_of_row w bx 1 _ T _ h, cell_of_row w bx 2 _ T _ h, cell_of_row w bx 3 _ T _ h, cell_of_row w bx 4 _ T _ h, cell_of_row w bx 5 _ T _ h, cell_of_row w bx 6 _ T _ h⟩
theorem wr_alloc {T : TypeId} {w : World} {b : Nat} {v : Value} {l : List Bool} (h : Wr T w b v l) (o : Obj) : Wr T (w.alloc o) b v l := h.kept ((Apart.refl (fun _ => False) w).alloc o) (fun h => h) (fun _ _ h => h)
theorem tch_alloc (b : Nat) (v : Value) (w : World) (o : Obj) : Tch b v v w (w.alloc o) := ⟨(Apart.refl _ w).alloc o, fun _ h => .inl h⟩

/-- A byte of a text. -/
def byt (s : ByteArray) (k : Nat) : Nat := (s.data.toList.getD k 0).toNat
theorem byt_lt (s : ByteArray) (k : Nat) : byt s k < 256 := (s.data.toList.getD k 0).toNat_lt
theorem byt_get (s : ByteArray) (k : Nat) (h : k < s.size) : s[k].toNat = byt s k := by
  unfold byt
  rw [List.getD_eq_getElem?_getD, List.getElem?_eq_getElem (by simpa using h)]
  rfl
/-- The bits of the first k bytes of a text. -/
def txtB (s : ByteArray) : Nat → List Bool
  | 0 => []
  | k + 1 => txtB s k ++ bitsOf (byt s k) 8
@[simp] theorem txtB_len (s : ByteArray) (k : Nat) : (txtB s k).length = 8 * k := by induction k with | zero => rfl | succ k ih => simp [txtB, ih]; omega
/-- The bits of the first k sources. -/
def srcB (S : Nat → Int) : Nat → List Bool
  | 0 => []
  | k + 1 => srcB S k ++ bitsOf (S k).toNat 32
@[simp] theorem srcB_len (S : Nat → Int) (k : Nat) : (srcB S k).length = 32 * k := by induction k with | zero => rfl | succ k ih => simp [srcB, ih]; omega
/-- The bits of the first k extensions. -/
def extB (I : Nat → Int) (D : Nat → ByteArray) : Nat → List Bool
  | 0 => []
  | k + 1 => extB I D k ++ bitsOf (I k).toNat 4 ++ bitsOf ((D k).size - 1) 4 ++ txtB (D k) (D k).size
@[simp] theorem extB_len (I : Nat → Int) (D : Nat → ByteArray) (k : Nat) : (extB I D k).length = 8 * xlen D k := by induction k with | zero => rfl | succ k ih => simp [extB, xlen, ih]; omega
/-- The bits that every header has, but for the sources. -/
def fixB (mk : Bool) (ty sq tm ss : Int) (ns ne : Nat) : List Bool :=
  [] ++ bitsOf 4 3 ++ bitsOf (b01 (decide (0 < ne))).toNat 1 ++ bitsOf ns 4 ++ bitsOf (b01 mk).toNat 1 ++ bitsOf ty.toNat 7 ++ bitsOf sq.toNat 16 ++ bitsOf tm.toNat 32 ++ bitsOf ss.toNat 32
@[simp] theorem fixB_len (mk : Bool) (ty sq tm ss : Int) (ns ne : Nat) : (fixB mk ty sq tm ss ns ne).length = 96 := by simp [fixB]

set_option maxRecDepth 100000 in
set_option maxHeartbeats 1000000 in
theorem ptext_any (b : Nat) (v : Value) (l : List Bool) (s : ByteArray) (hl : l.length + 8 * s.size ≤ 524288) (w : World) (h : Wr 71 w b v l) :
    Calls Try.prog 39 #[.pointer (some ⟨b, 0, none⟩), .string s] w fun e w' => e = .returned (.tuple #[]) ∧ ∃ v', Wr 71 w' b v' (l ++ txtB s s.size) ∧ Tch b v v' w w' := by
  have H := mkHid h
  clear h
  go_enter Try.func39, Try.ntmps39
  go_wp2
  go_loopw [7] (fun i wr => ∃ (k : Nat) (vc : Value), k ≤ s.size ∧ i = .int .i64 (k : Int) ∧ Wr 71 wr b vc (l ++ txtB s k) ∧ Tch b v vc w wr) (fun i _ => s.size - (intOf i).toNat)
  case atStart => exact ⟨0, v, Nat.zero_le _, rfl, by simpa [txtB] using H.out, Tch.refl _ _ _⟩
  case round =>
    obtain ⟨k, vc, hk, rfl, hw, ht⟩ := hrel
    have HW := mkHid hw
    have HT := mkHid ht
    clear hw ht H
    by_cases hlt : k < s.size
    · have hb := byt_get s k hlt
      have hbl := byt_lt s k
      rw [← hb] at hbl
      have HB := mkHid hb
      clear hb
      go_wp2_with fail
      refine (put_fit b vc _ _ _ s[k].toNat 8 (by omega) rfl (by omega) (by omega) (by simp; omega) _ HW.out).mono ?_
      rintro e w2 ⟨rfl, v2, h3, t3⟩
      have H3 := mkHid h3
      have T3 := mkHid (HT.out.trans t3)
      clear h3 t3
      go_wp2
      go_roundw
      case rel =>
        refine ⟨k + 1, v2, by omega, by go_num, ?_, T3.out⟩
        have := H3.out
        rw [HB.out, List.append_assoc] at this
        exact this
      case measure => simp [intOf]; omega
    · obtain rfl : k = s.size := by omega
      go_wp2
      go_returns
      exact ⟨rfl, vc, HW.out, HT.out⟩
end Go.Proofs.Ytdajcgicpfpeoaa
