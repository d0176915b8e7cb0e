/-
  What the function that writes a part does.
-/
import Derived.Test.YtdhbakknplnnkaaGreatRc1
import Derived.Defers
import Derived.Recover
import Derived.Laws.Pointers
import Derived.Laws.MakeOwn
namespace Go.Proofs.YtdhbakknplnnkaaGreat.Rc
open Go.RowKit

/-- A block that is none of a writer's. -/
structure Bx (o : Obj) (w : World) (bx b : Nat) (v : Value) : Prop where
  heap : w.heap[bx]? = some o
  ne : bx ≠ b
  own : v.ownBlock ≠ some bx
theorem Bx.next {o : Obj} {w w' : World} {bx b : Nat} {v v' : Value} (h : Bx o w bx b v) (t : Tch b v v' w w') : Bx o w' bx b v' := by
  refine ⟨t.ap.heap h.heap ?_, h.ne, fun e => ?_⟩
  · rintro (e | e)
    · exact h.ne e
    · exact h.own e
  · rcases t.own bx e with e | e
    · exact h.own e
    · have := lt_of_heap h.heap; omega
theorem Bx.new {w : World} {b : Nat} {v : Value} {T : TypeId} {l : List Bool} (h : Wr T w b v l) (o : Obj) : Bx o (w.alloc o) w.heap.size b v :=
  ⟨heap_alloc_new _ _, by have := h.lt; omega, fun e => by have := h.ownlt _ e; omega⟩
theorem wr_alloc {T : TypeId} {w : World} {b : Nat} {v : Value} {l : List Bool} (h : Wr T w b v l) (o : Obj) : Wr T (w.alloc o) b v l := h.kept ((Apart.refl (fun _ => False) w).alloc o) (fun h => h) (fun _ _ h => h)
theorem tch_alloc (b : Nat) (v : Value) (w : World) (o : Obj) : Tch b v v w (w.alloc o) := ⟨(Apart.refl _ w).alloc o, fun _ h => .inl h⟩

/-- A byte of a text. -/
def byt (s : ByteArray) (k : Nat) : Nat := (s.data.toList.getD k 0).toNat
theorem byt_lt (s : ByteArray) (k : Nat) : byt s k < 256 := (s.data.toList.getD k 0).toNat_lt
theorem byt_get (s : ByteArray) (k : Nat) (h : k < s.size) : s[k].toNat = byt s k := by
  unfold byt
  rw [List.getD_eq_getElem?_getD, List.getElem?_eq_getElem (by simpa using h)]
  rfl
/-- The bits of the first k bytes of a text. -/
def txtB (s : ByteArray) : Nat → List Bool
  | 0 => []
  | k + 1 => txtB s k ++ bitsOf (byt s k) 8
@[simp] theorem txtB_len (s : ByteArray) (k : Nat) : (txtB s k).length = 8 * k := by induction k with | zero => rfl | succ k ih => simp [txtB, ih]; omega
/-- The bits of a part, but for its body. -/
def hB (c t n : Nat) : List Bool := bitsOf 2 2 ++ bitsOf 0 1 ++ bitsOf c 5 ++ bitsOf t 8 ++ bitsOf (n / 4) 16
@[simp] theorem hB_len (c t n : Nat) : (hB c t n).length = 32 := by simp [hB]
def pB (p : Pt) : List Bool := hB p.c.toNat p.t.toNat p.d.size ++ txtB p.d p.d.size
@[simp] theorem pB_len (p : Pt) : (pB p).length = 8 * (4 + p.d.size) := by simp [pB]; omega

end Go.Proofs.YtdhbakknplnnkaaGreat.Rc
namespace Go.Proofs.YtdhbakknplnnkaaGreat.Rc
open Go.RowKit

/-- The bits of bytes. -/
def bitsL : List UInt8 → List Bool
  | [] => []
  | x :: r => bitsOf x.toNat 8 ++ bitsL r
@[simp] theorem bitsL_len (r : List UInt8) : (bitsL r).length = 8 * r.length := by induction r with | nil => rfl | cons x r ih => simp [bitsL, ih]; omega
theorem bitsL_app (r k : List UInt8) : bitsL (r ++ k) = bitsL r ++ bitsL k := by induction r with | nil => rfl | cons x r ih => simp [bitsL, ih]
theorem pk_bits (r : List UInt8) : pk (bitsL r) = r.map UInt8.toNat := by
  apply List.ext_getElem?
  intro j
  by_cases hj : j < r.length
  · rw [pk_get _ _ (by simp; omega), List.getElem?_map, List.getElem?_eq_getElem hj]
    have e : bitsL r = bitsL (r.take j) ++ (bitsOf r[j].toNat 8 ++ bitsL (r.drop (j + 1))) := by
      conv => lhs; rw [← List.take_append_drop j r, bitsL_app, List.drop_eq_getElem_cons hj]
      rfl
    have h := val_mid (bitsL (r.take j)) (bitsL (r.drop (j + 1))) r[j].toNat 8
    have el : (bitsL (r.take j)).length = 8 * j := by simp; omega
    rw [← e, el] at h
    unfold bv
    rw [h]
    have := r[j].toNat_lt
    simp only [Option.map_some, Option.some.injEq]
    omega
  · rw [List.getElem?_eq_none (by simp; omega), List.getElem?_eq_none (by simp; omega)]
theorem pack_bits (r : List UInt8) : packS (bitsL r) = ⟨r.toArray⟩ := by
  unfold packS
  rw [pk_bits, List.map_map]
  have : (UInt8.ofNat ∘ UInt8.toNat) = id := by funext x; simp
  rw [this, List.map_id]
theorem txt_bits (d : ByteArray) (k : Nat) (hk : k ≤ d.size) : txtB d k = bitsL (d.data.toList.take k) := by
  induction k with
  | zero => rfl
  | succ k ih =>
    have hl : k < d.data.toList.length := by show k < d.size; omega
    rw [txtB, ih (by omega), List.take_succ_eq_append_getElem hl, bitsL_app]
    unfold byt
    rw [List.getD_eq_getElem?_getD, List.getElem?_eq_getElem hl]
    simp [bitsL]
theorem bits_byte (n : Nat) : bitsOf (UInt8.ofNat n).toNat 8 = bitsOf n 8 := by
  rw [UInt8.toNat_ofNat']
  exact bitsOf_mod n 8 8 (Nat.le_refl _)
theorem pB_bits {p : Pt} (h : p.ok = true) : pB p = bitsL (pb p) := by
  obtain ⟨o0, o1, o2, o3, o4, o5⟩ := Pt.ok_iff.1 h
  unfold pB pb
  rw [bitsL_app, txt_bits p.d _ (Nat.le_refl _), ← toList_len p.d, List.take_length]
  congr 1
  unfold hB ph
  simp only [bitsL, bits_byte, List.append_nil]
  obtain ⟨c, hc⟩ : ∃ c : Nat, p.c.toNat = c := ⟨_, rfl⟩
  have hc2 : c ≤ 31 := by omega
  rw [hc, toList_len]
  have e1 : bitsOf (128 + c) 8 = bitsOf 2 2 ++ bitsOf 0 1 ++ bitsOf c 5 := by
    have := bitsOf_split (128 + c) 3 5
    rw [this, show (128 + c) / 2 ^ 5 = 4 by omega, ← bitsOf_mod (128 + c) 5 5 (Nat.le_refl _), show (128 + c) % 2 ^ 5 = c by omega]
    rfl
  have e2 : bitsOf (p.d.size / 4) 16 = bitsOf (p.d.size / 4 / 256) 8 ++ bitsOf (p.d.size / 4) 8 := bitsOf_split (p.d.size / 4) 8 8
  rw [e1, e2]
  simp only [List.append_assoc]
/-- The bits of parts. -/
def mB : List Pt → List Bool
  | [] => []
  | p :: l => pB p ++ mB l
@[simp] theorem mB_len (l : List Pt) : (mB l).length = 8 * sz l := by induction l with | nil => rfl | cons p l ih => simp [mB, sz, ih]; omega
theorem mB_app (l k : List Pt) : mB (l ++ k) = mB l ++ mB k := by induction l with | nil => rfl | cons p l ih => simp [mB, ih]
theorem mB_bits (l : List Pt) (h : allOk l = true) : mB l = bitsL (mb l) := by
  induction l with
  | nil => rfl
  | cons p l ih =>
    have h1 := allOk_iff.1 h
    rw [mB, mb, bitsL_app, pB_bits (h1 p (by simp)), ih (allOk_iff.2 fun q hq => h1 q (by simp [hq]))]
/-- The message of parts. -/
def bA (l : List Pt) : ByteArray := ⟨(mb l).toArray⟩
theorem bA_size (l : List Pt) : (bA l).size = sz l := by unfold bA; rw [ba_size, mb_len]
theorem mB_next {l : List Pt} {i : Nat} {p : Pt} (h : l[i]? = some p) : mB (l.take (i + 1)) = mB (l.take i) ++ pB p := by
  rw [take_next h, mB_app]; simp [mB]
theorem frame20 (a : Act) (hs : a.tmps.size = 20) (hd : a.defers = []) : ∃ u : Nat → Value, (∀ i, a.tmps.getD i undef = u i) ∧ a = { tmps := #[u 0, u 1, u 2, u 3, u 4, u 5, u 6, u 7, u 8, u 9, u 10, u 11, u 12, u 13, u 14, u 15, u 16, u 17, u 18, u 19], defers := [] } := frame_of a 20 hs hd
end Go.Proofs.YtdhbakknplnnkaaGreat.Rc
namespace Go.Proofs.YtdhbakknplnnkaaGreat.Rc
open Go.RowKit

theorem ta_hit (e : Int) (w : World) : (Instr.typeAssert (.iface 27 (.int .i64 e)) 20 27 true).run Tryz.prog w = .ok (.tuple #[.int .i64 e, .bool true]) w := by kernel_rfl
theorem ta_miss (w : World) : (Instr.typeAssert .nilIface 20 27 true).run Tryz.prog w = .ok (.tuple #[.int .i64 0, .bool false]) w := by kernel_rfl
/-- What Join answers. -/
def jE (l : List Pt) : Int := if l = [] ∨ allOk l = false then 1 else if 65536 < sz l then 2 else 0
def jS (l : List Pt) : ByteArray := if jE l = 0 then bA l else ⟨#[]⟩
/-- Two results in blocks of their own. -/
def Two (w : World) (b : Nat) (v0 v1 : Value) (T0 T1 : TypeId) : Prop := w.heap[b]? = some (.cells #[v0] T0 (0, 0)) ∧ w.heap[b + 1]? = some (.cells #[v1] T1 (0, 0))
theorem Two.cells {w : World} {b : Nat} {v0 v1 : Value} {T0 T1 : TypeId} (h : Two w b v0 v1 T0 T1) :
    w.cell? ⟨b, 0, none⟩ = some v0 ∧ w.cell? ⟨b + 1, 0, none⟩ = some v1 ∧ w.frozen? ⟨b, 0, none⟩ = false ∧ w.frozen? ⟨b + 1, 0, none⟩ = false :=
  ⟨cell_of_row w b 0 _ T0 _ h.1, cell_of_row w (b + 1) 0 _ T1 _ h.2, frozen_of_row w b 0 _ T0 h.1, frozen_of_row w (b + 1) 0 _ T1 h.2⟩
theorem Two.kept {w w' : World} {b : Nat} {v0 v1 : Value} {T0 T1 : TypeId} (h : Two w b v0 v1 T0 T1) {B : Nat} (hb : Below B w w') (hB : b + 1 < B) : Two w' b v0 v1 T0 T1 :=
  ⟨(hb.block b (by omega)).trans h.1, (hb.block (b + 1) (by omega)).trans h.2⟩
theorem Two.new (w : World) (v0 v1 : Value) (T0 T1 : TypeId) : Two ((w.alloc (.cells #[v0] T0)).alloc (.cells #[v1] T1)) w.heap.size v0 v1 T0 T1 := by
  refine ⟨?_, ?_⟩
  · rw [Below.heap_alloc _ _ _ (by simp)]; exact heap_alloc_new _ _
  · have := heap_alloc_new (w.alloc (.cells #[v0] T0)) (.cells #[v1] T1)
    simp only [World.size_alloc] at this
    exact this
theorem two_below {w w' : World} {b : Nat} (hb : Below b w w') (u0 u1 : Value) : Below b w ((w'.setCell ⟨b, 0, none⟩ u0).setCell ⟨b + 1, 0, none⟩ u1) :=
  (hb.setCell (p := ⟨b, 0, none⟩) (Nat.le_refl _) _).setCell (p := ⟨b + 1, 0, none⟩) (by simp) _
theorem Two.set {w : World} {b : Nat} {v0 v1 : Value} {T0 T1 : TypeId} (h : Two w b v0 v1 T0 T1) (u0 u1 : Value) : Two ((w.setCell ⟨b, 0, none⟩ u0).setCell ⟨b + 1, 0, none⟩ u1) b u0 u1 T0 T1 := by
  have h1 := heap_setCell_same w b 0 _ T0 u0 h.1
  have h2 : (w.setCell ⟨b, 0, none⟩ u0).heap[b + 1]? = some (.cells #[v1] T1 (0, 0)) := by rw [Below.heap_setCell _ _ _ _ (by simp)]; exact h.2
  refine ⟨?_, ?_⟩
  · rw [Below.heap_setCell _ _ _ _ (by simp), h1]; rfl
  · rw [heap_setCell_same _ (b + 1) 0 _ T1 u1 h2]; rfl
end Go.Proofs.YtdhbakknplnnkaaGreat.Rc
namespace Go.Proofs.YtdhbakknplnnkaaGreat.Rc
open Go.RowKit

/-- A reader that was asked for so many bits from the beginning on: at that place, or bad. -/
def At (s : ByteArray) (p : Nat) : Option Nat := if p ≤ 8 * s.size then some p else none
/-- What Get answers there. -/
def gw (s : ByteArray) (p n : Nat) : Nat := if p + n ≤ 8 * s.size then gv s p n else 0
theorem gw_in {s : ByteArray} {p n : Nat} (h : p + n ≤ 8 * s.size) : gw s p n = gv s p n := if_pos h
theorem gw_lt (s : ByteArray) (p n : Nat) : gw s p n < 2 ^ n := by
  unfold gw
  split
  · exact gv_lt s p n
  · exact Nat.two_pow_pos n
theorem get_at (b : Nat) (s : ByteArray) (hs : s.size ≤ 1000000) (p : Nat) (n : Int) (m : Nat) (e : n = m) (hm : m ≤ 32) (w : World) (h : Rd 143 w b s (At s p)) :
    Calls Tryz.prog 58 #[.pointer (some ⟨b, 0, none⟩), .int .i64 n] w fun e w' => e = .returned (.int .u32 (gw s p m : Int)) ∧ Rd 143 w' b s (At s (p + m)) ∧ Apart (· = b) w w' := by
  subst e
  have := get_any b s hs _ m w h
  have e1 : gval s (At s p) m = (gw s p m : Int) := by
    unfold At gw
    by_cases h1 : p ≤ 8 * s.size
    · rw [if_pos h1]
      simp only [gval]
      by_cases h2 : p + m ≤ 8 * s.size
      · rw [if_pos (by omega), if_pos h2]; rfl
      · rw [if_neg (by omega), if_neg h2]; rfl
    · rw [if_neg h1, if_neg (by omega)]; rfl
  have e2 : gnext s (At s p) m = At s (p + m) := by
    unfold At
    by_cases h1 : p ≤ 8 * s.size
    · rw [if_pos h1]
      simp only [gnext]
      by_cases h2 : p + m ≤ 8 * s.size
      · rw [if_pos (by omega), if_pos h2]; rfl
      · rw [if_neg (by omega), if_neg h2]
    · rw [if_neg h1, if_neg (by omega)]; rfl
  rw [e1, e2] at this
  exact this
/-- Is it bad there? -/
def badB (s : ByteArray) (p : Nat) : Bool := decide (8 * s.size < p)
theorem badB_no {s : ByteArray} {p : Nat} (h : p ≤ 8 * s.size) : badB s p = false := by simp [badB]; omega
theorem badB_yes {s : ByteArray} {p : Nat} (h : ¬ p ≤ 8 * s.size) : badB s p = true := by simp [badB]; omega
theorem bad_at (b : Nat) (s : ByteArray) (p : Nat) (w : World) (h : Rd 143 w b s (At s p)) :
    Calls Tryz.prog 72 #[.pointer (some ⟨b, 0, none⟩)] w fun e w' => e = .returned (.bool (badB s p)) ∧ w' = w := by
  have := bad_any b s _ w h
  have e : gbad (At s p) = badB s p := by
    unfold At
    by_cases h1 : p ≤ 8 * s.size
    · rw [if_pos h1, badB_no h1]; rfl
    · rw [if_neg h1, badB_yes h1]; rfl
  rw [e] at this
  exact this

/-- The bytes of a text that is read from place p on, k of m. -/
def rowC (s : ByteArray) (p m k : Nat) : Array Value := ((List.range m).map fun i => Value.int .u8 (if i < k then (gw s (p + 8 * i) 8 : Int) else 0)).toArray
/-- The text. -/
def txS (s : ByteArray) (p m : Nat) : ByteArray := ⟨((List.range m).map fun i => UInt8.ofNat (gw s (p + 8 * i) 8)).toArray⟩
theorem txS_size (s : ByteArray) (p m : Nat) : (txS s p m).size = m := by show (((List.range m).map fun i => UInt8.ofNat (gw s (p + 8 * i) 8)).toArray).size = m; simp
theorem rowC_made (s : ByteArray) (p m : Nat) : madeCells #[Value.int .u8 0] m = rowC s p m 0 := by
  apply Array.ext
  · simp [madeCells, rowC]
  · intro i h1 h2
    simp [madeCells, rowC, Nat.mod_one]
theorem mk_row (s : ByteArray) (p m : Nat) (hm : m ≤ 1000000) (w : World) :
    (Instr.makeSlice 82 (.int .i64 (m : Int)) (.int .i64 (m : Int))).run Tryz.prog w = .ok (.slice (some ⟨w.heap.size, 0, none⟩) m m) (w.alloc (.cells (rowC s p m 0) 5)) := by
  obtain ⟨i0, hi, hz0, hz1, hz2⟩ := info_parts info5
  have := run_make (P := Tryz.prog) w 82 5 i0 (.int .u8 0) Tryz.underlying82 hi hz0 .i64 .i64 m m (by omega) (by omega) (by rw [hz2]; omega) (by omega)
  rw [this, hz1]
  simp only [Int.toNat_natCast, Nat.mul_one]
  rw [← rowC_made s p m]
  rfl
theorem rowC_cell {s : ByteArray} {p m k g : Nat} {w : World} (h : w.heap[g]? = some (.cells (rowC s p m k) 5 (0, 0))) (i : Nat) (hi : i < m) :
    w.cell? ⟨g, i, none⟩ = some (.int .u8 (if i < k then (gw s (p + 8 * i) 8 : Int) else 0)) ∧ w.frozen? ⟨g, i, none⟩ = false := by
  refine ⟨?_, frozen_of_row w g i _ 5 h⟩
  rw [cell_of_row w g i _ 5 _ h]
  simp [rowC, hi]
theorem rowC_next {s : ByteArray} {p m k g : Nat} {w : World} (h : w.heap[g]? = some (.cells (rowC s p m k) 5 (0, 0))) (hk : k < m) (x : Int) (hx : x = (gw s (p + 8 * k) 8 : Int)) :
    (w.setCell ⟨g, k, none⟩ (.int .u8 x)).heap[g]? = some (.cells (rowC s p m (k + 1)) 5 (0, 0)) := by
  rw [heap_setCell_same w g k _ 5 _ h]
  congr 2
  apply Array.ext'
  apply List.ext_getElem?
  intro i
  simp only [rowC, Array.toList_setIfInBounds, List.getElem?_set, List.length_map, List.length_range, List.getElem?_map]
  by_cases h1 : k = i
  · subst h1; simp [hk, hx]
  · by_cases h2 : i < m
    · have h3 : (i < k + 1) ↔ (i < k) := by omega
      simp [h1, h2, h3]
    · simp [h1, h2]
theorem row_conv {s : ByteArray} {p m g : Nat} {w : World} (h : w.heap[g]? = some (.cells (rowC s p m m) 5 (0, 0))) : (convert 82 9 (.slice (some ⟨g, 0, none⟩) m m)).run Tryz.prog w = .ok (.string (txS s p m)) w := by
  have := run_convert_bytes_back (P := Tryz.prog) w 82 9 5 ⟨g, 0, none⟩ m ((List.range m).map fun i => UInt8.ofNat (gw s (p + 8 * i) 8)) Tryz.underlying82 Tryz.underlying5 Tryz.underlying9 (fun j hj => by
    have hj' : j < m := by simpa using hj
    rw [Addr.add_lit, Nat.zero_add, (rowC_cell h j hj').1, if_pos hj']
    have hb := gw_lt s (p + 8 * j) 8
    have e : ((List.range m).map fun i => UInt8.ofNat (gw s (p + 8 * i) 8))[j] = UInt8.ofNat (gw s (p + 8 * j) 8) := by simp
    rw [e, UInt8.toNat_ofNat_of_lt' (by simpa using hb)])
  simp only [List.length_map, List.length_range] at this
  exact this
set_option maxRecDepth 100000 in
set_option maxHeartbeats 1000000 in
theorem gtext_any (b : Nat) (s : ByteArray) (hs : s.size ≤ 1000000) (p m : Nat) (hm : m ≤ 1000000) (w : World) (h : Rd 143 w b s (At s p)) :
    Calls Tryz.prog 74 #[.pointer (some ⟨b, 0, none⟩), .int .i64 (m : Int)] w fun e w' => e = .returned (.string (txS s p m)) ∧ Rd 143 w' b s (At s (p + 8 * m)) ∧ Apart (· = b) w w' := by
  have hmk := mk_row s p m hm
  have H := mkHid h
  have hbl := h.heap
  obtain ⟨g, HG⟩ : ∃ g, Hid (w.heap.size = g) := ⟨_, rfl⟩
  have hne : ¬ g = b := by rw [← HG.out]; omega
  have hne' : ¬ b = g := fun e => hne e.symm
  clear h hbl
  go_enter Tryz.func74, Tryz.ntmps74
  go_wp2
  rw [HG.out]
  go_loopw [11] (fun i wr => ∃ k : Nat, k ≤ m ∧ i = .int .i64 (k : Int) ∧ Rd 143 wr b s (At s (p + 8 * k)) ∧ wr.heap[g]? = some (.cells (rowC s p m k) 5 (0, 0)) ∧ Apart (· = b) w wr) (fun i _ => m - (intOf i).toNat)
  case atStart => exact ⟨0, Nat.zero_le _, rfl, by exact H.out.kept ((Apart.refl (fun _ => False) _).alloc _) (fun h => h), by rw [← HG.out]; exact heap_alloc_new _ _, (Apart.refl _ _).alloc _⟩
  case round =>
    obtain ⟨k, hk, rfl, hr, hg, hp⟩ := hrel
    have HR := mkHid hr
    have HGR := mkHid hg
    have HP := mkHid hp
    clear hr hp H hmk
    by_cases hlt : k < m
    · clear hg
      go_wp2_with fail
      refine (get_at b s hs _ _ 8 rfl (by omega) _ HR.out).mono ?_
      have hv := gw_lt s (p + 8 * k) 8
      obtain ⟨x, HX⟩ : ∃ x, Hid (gw s (p + 8 * k) 8 = x) := ⟨_, rfl⟩
      rw [HX.out] at hv ⊢
      rintro e w1 ⟨rfl, h1, p1⟩
      have G1 := p1.heap HGR.out hne
      obtain ⟨c0, f0⟩ := rowC_cell G1 k hlt
      have H1 := mkHid h1
      have P1 := mkHid (HP.out.trans p1 (fun _ _ h => h))
      have GG := mkHid G1
      clear h1 p1 G1
      go_wp2
      go_roundw
      case rel =>
        refine ⟨k + 1, by omega, by go_num, ?_, ?_, ?_⟩
        · have := H1.out
          rw [show p + 8 * k + 8 = p + 8 * (k + 1) from by omega] at this
          exact this.kept (Apart.setCell (X := (· = g)) (Apart.refl _ _) (p := ⟨g, k, none⟩) (fun _ => rfl) _) hne'
        · exact rowC_next GG.out hlt _ (by rw [HX.out])
        · exact Apart.setCell P1.out (p := ⟨g, k, none⟩) (fun hh => by rw [HG.out] at hh; simp at hh) _
      case measure => simp [intOf]; omega
    · obtain rfl : k = m := by omega
      have hc := row_conv hg
      clear hg
      obtain ⟨tt, HTT⟩ : ∃ tt, Hid (txS s p k = tt) := ⟨_, rfl⟩
      rw [HTT.out] at hc
      go_wp2
      go_ret
      exact ⟨by rw [HTT.out]; rfl, HR.out, HP.out⟩
end Go.Proofs.YtdhbakknplnnkaaGreat.Rc
namespace Go.Proofs.YtdhbakknplnnkaaGreat.Rc
open Go.RowKit

/-- The bytes of a text from place q on. -/
def fr (s : ByteArray) (q : Nat) : List UInt8 := s.data.toList.drop q
theorem fr_len (s : ByteArray) (q : Nat) : (fr s q).length = s.size - q := by simp [fr]
theorem gv_bn (s : ByteArray) (q i p k : Nat) (hp : p / 8 = q + i) (h : p % 8 + k ≤ 8) : gv s p k = bn (fr s q) i * 2 ^ (p % 8) % 256 / 2 ^ (8 - k) := by
  rw [gv_piece s p k h, fr, bn_drop, hp]; rfl
theorem fr_bits (s : ByteArray) (q : Nat) (h : 4 ≤ (fr s q).length) :
    gw s (8 * q) 2 = bn (fr s q) 0 / 64 ∧ gw s (8 * q + 2) 1 = bn (fr s q) 0 / 32 % 2 ∧ gw s (8 * q + 2 + 1) 5 = bn (fr s q) 0 % 32 ∧ gw s (8 * q + 2 + 1 + 5) 8 = bn (fr s q) 1 ∧ gw s (8 * q + 2 + 1 + 5 + 8) 16 = 256 * bn (fr s q) 2 + bn (fr s q) 3 := by
  rw [fr_len] at h
  have b0 := bn_lt (fr s q) 0
  have b1 := bn_lt (fr s q) 1
  have b2 := bn_lt (fr s q) 2
  have b3 := bn_lt (fr s q) 3
  rw [gw_in (by omega), gw_in (by omega), gw_in (by omega), gw_in (by omega), gw_in (by omega)]
  refine ⟨?_, ?_, ?_, ?_, ?_⟩
  · rw [gv_bn s q 0 _ _ (by omega) (by omega), show 8 * q % 8 = 0 by omega]; omega
  · rw [gv_bn s q 0 _ _ (by omega) (by omega), show (8 * q + 2) % 8 = 2 by omega]; omega
  · rw [gv_bn s q 0 _ _ (by omega) (by omega), show (8 * q + 2 + 1) % 8 = 3 by omega]; omega
  · rw [gv_bn s q 1 _ _ (by omega) (by omega), show (8 * q + 2 + 1 + 5) % 8 = 0 by omega]; omega
  · have := gv_add s (8 * q + 2 + 1 + 5 + 8) 8 8
    rw [show (8 : Nat) + 8 = 16 from rfl] at this
    rw [this, gv_bn s q 2 _ _ (by omega) (by omega), gv_bn s q 3 _ _ (by omega) (by omega), show (8 * q + 2 + 1 + 5 + 8) % 8 = 0 by omega, show (8 * q + 2 + 1 + 5 + 8 + 8) % 8 = 0 by omega]
    omega
theorem txS_bytes (s : ByteArray) (q m : Nat) (h : q + m ≤ s.size) : txS s (8 * q) m = ⟨((fr s q).take m).toArray⟩ := by
  unfold txS
  congr 2
  apply List.ext_getElem?
  intro i
  by_cases hi : i < m
  · have hl : i < (fr s q).length := by rw [fr_len]; omega
    rw [List.getElem?_map, List.getElem?_range hi, List.getElem?_take_of_lt hi, List.getElem?_eq_getElem hl]
    simp only [Option.map_some, Option.some.injEq]
    rw [gw_in (by omega), gv_bn s q i _ _ (by omega) (by omega), show (8 * q + 8 * i) % 8 = 0 by omega]
    have e : bn (fr s q) i = ((fr s q)[i]).toNat := by unfold bn; rw [List.getD_eq_getElem?_getD, List.getElem?_eq_getElem hl]; rfl
    rw [e]
    have := ((fr s q)[i]).toNat_lt
    rw [show ((fr s q)[i]).toNat * 2 ^ 0 % 256 / 2 ^ (8 - 8) = ((fr s q)[i]).toNat by omega]
    simp
  · rw [List.getElem?_eq_none (by simp; omega), List.getElem?_eq_none (by simp; omega)]
/-- The last byte of a body. -/
theorem last_byte (d : ByteArray) (h : 0 < d.size) : ((d[d.size - 1]'(by omega)).toNat) = bn d.data.toList (d.size - 1) := by
  unfold bn
  rw [List.getD_eq_getElem?_getD, List.getElem?_eq_getElem (by show d.size - 1 < d.size; omega)]
  rfl
set_option maxRecDepth 100000 in
theorem bared_empty (d : ByteArray) (h : d.size = 0) (w : World) : Calls Tryz.prog 75 #[.string d] w fun e w' => e = thrown 91 ∧ w' = w := by
  obtain rfl : d = ⟨#[]⟩ := by
    obtain ⟨⟨l⟩⟩ := d
    have : l = [] := List.eq_nil_of_length_eq_zero h
    rw [this]
  go_enter Tryz.func75, Tryz.ntmps75
  go_wp2
  exact ⟨rfl, rfl, rfl⟩
set_option maxRecDepth 100000 in
theorem bared_some (d : ByteArray) (h : 0 < d.size) (hs : d.size ≤ 1000000) (k : Nat) (hk : bn d.data.toList (d.size - 1) = k) (w : World) :
    Calls Tryz.prog 75 #[.string d] w fun e w' => (((4 ≤ k ∧ k ≤ d.size ∧ k % 4 = 0) ∧ e = .returned (.string (d.extract 0 (d.size - k)))) ∨ (¬ (4 ≤ k ∧ k ≤ d.size ∧ k % 4 = 0) ∧ e = thrown 91)) ∧ w' = w := by
  have hlb := last_byte d h
  rw [hk] at hlb
  have hk1 : (k : Int) < 256 := by have := bn_lt d.data.toList (d.size - 1); omega
  have he : d.toList.isEmpty = false := by
    cases hh : d.toList.isEmpty with
    | false => rfl
    | true =>
      have h2 : d.toList = [] := by simpa using hh
      have h3 : d.toList.length = d.size := by rw [ByteArray.toList_eq]; rfl
      rw [h2] at h3
      simp at h3
      omega
  have K1 := mkHid (within_any k 4 d.size)
  have hd : (d.size : Int) ≤ 1000000 := by omega
  by_cases h1 : 4 ≤ k ∧ k ≤ d.size
  · rw [inR_yes (by omega) (by omega)] at K1
    have h1' : (k : Int) ≤ d.size := by omega
    by_cases h2 : k % 4 = 0
    · have h2' : (k : Int) % 4 = 0 := by omega
      clear hk
      go_enter Tryz.func75, Tryz.ntmps75
      go_wp2_with fail
      refine (K1.out _).mono ?_
      rintro e w1 ⟨rfl, rfl⟩
      go_wp2
      go_ret
      exact ⟨.inl ⟨⟨h1.1, h1.2, h2⟩, rfl⟩, rfl⟩
    · have h2' : ¬ (k : Int) % 4 = 0 := by omega
      clear hk
      go_enter Tryz.func75, Tryz.ntmps75
      go_wp2_with fail
      refine (K1.out _).mono ?_
      rintro e w1 ⟨rfl, rfl⟩
      go_wp2
      exact ⟨rfl, .inr ⟨by omega, rfl⟩, rfl⟩
  · rw [inR_no (by omega)] at K1
    clear hk
    go_enter Tryz.func75, Tryz.ntmps75
    go_wp2_with fail
    refine (K1.out _).mono ?_
    rintro e w1 ⟨rfl, rfl⟩
    go_wp2
    exact ⟨rfl, .inr ⟨by omega, rfl⟩, rfl⟩
end Go.Proofs.YtdhbakknplnnkaaGreat.Rc
namespace Go.Proofs.YtdhbakknplnnkaaGreat.Rc
open Go.RowKit

theorem gE_short {r : List UInt8} (h : r.length < 4) : gE r = 60 := by unfold gE; rw [if_pos h]
theorem gE_lacks {r : List UInt8} (h1 : ¬ r.length < 4) (h : r.length < 4 + hN r) : gE r = 60 := by unfold gE; rw [if_neg h1, if_pos h]
theorem gE_mark {r : List UInt8} (h1 : ¬ r.length < 4) (h2 : ¬ r.length < 4 + hN r) (h : bn r 0 / 64 ≠ 2) : gE r = 70 := by unfold gE; rw [if_neg h1, if_neg h2, if_pos h]
theorem gE_kind {r : List UInt8} (h1 : ¬ r.length < 4) (h2 : ¬ r.length < 4 + hN r) (h3 : ¬ bn r 0 / 64 ≠ 2) (h : bn r 1 < 192 ∨ 223 < bn r 1) : gE r = 81 := by unfold gE; rw [if_neg h1, if_neg h2, if_neg h3, if_pos h]
theorem gE_pad {r : List UInt8} (h1 : ¬ r.length < 4) (h2 : ¬ r.length < 4 + hN r) (h3 : ¬ bn r 0 / 64 ≠ 2) (h4 : ¬ (bn r 1 < 192 ∨ 223 < bn r 1)) (hp : hP r = true) (h : 4 + hN r < r.length ∨ hN r = 0 ∨ hK r < 4 ∨ hK r % 4 ≠ 0 ∨ hN r < hK r) : gE r = 91 := by
  unfold gE; rw [if_neg h1, if_neg h2, if_neg h3, if_neg h4, if_pos ⟨hp, h⟩]
theorem res26 {W : World} {bx : Nat} {c t : Int} {d : ByteArray} (tmps : Array Value) (h2 : tmps.getD 2 undef = .pointer (some ⟨bx, 0, none⟩)) (h : W.heap[bx]? = some (.cells #[.int .i64 c, .int .i64 t, .string d] 56 (0, 0))) :
    (results Tryz.f55 tmps).run Tryz.prog W = .ok (.agg #[.int .i64 c, .int .i64 t, .string d]) W := by
  obtain ⟨c0, c1, c2, _⟩ := cells3 h
  clear h
  have h2' : tmps[2]?.getD undef = .pointer (some ⟨bx, 0, none⟩) := by rw [← h2]; simp
  simp [results, Tryz.results55, h2', c0, c1, c2, go_sem]
theorem fr_drop (s : ByteArray) (q k : Nat) : fr s (q + k) = (fr s q).drop k := by simp [fr]
/-- The body that is read, padding and all. -/
theorem body_list (s : ByteArray) (q : Nat) (h : 4 + hN (fr s q) ≤ (fr s q).length) : txS s (8 * (q + 4)) (hN (fr s q)) = ⟨(((fr s q).drop 4).take (hN (fr s q))).toArray⟩ := by
  rw [txS_bytes s (q + 4) _ (by rw [fr_len] at h; omega), fr_drop]
theorem body_last (s : ByteArray) (q : Nat) (h : 4 + hN (fr s q) ≤ (fr s q).length) (h0 : 0 < hN (fr s q)) : bn (txS s (8 * (q + 4)) (hN (fr s q))).data.toList ((txS s (8 * (q + 4)) (hN (fr s q))).size - 1) = hK (fr s q) := by
  rw [txS_size, body_list s q h]
  generalize fr s q = r at *
  simp only [bn, hK]
  rw [List.getD_eq_getElem?_getD, List.getD_eq_getElem?_getD, List.getElem?_take_of_lt (by omega), List.getElem?_drop]
  congr 3
  omega
theorem body_bared (s : ByteArray) (q k : Nat) (h : 4 + hN (fr s q) ≤ (fr s q).length) : (txS s (8 * (q + 4)) (hN (fr s q))).extract 0 ((txS s (8 * (q + 4)) (hN (fr s q))).size - k) = ⟨(((fr s q).drop 4).take (hN (fr s q) - k)).toArray⟩ := by
  rw [txS_size, body_list s q h]
  generalize fr s q = r at *
  apply ByteArray.ext
  apply Array.ext'
  simp only [ByteArray.data_extract, Array.toList_extract, List.extract_eq_take_drop]
  simp [List.take_take]
/-- Three cells that are stored. -/
theorem store3 {w : World} {bx : Nat} {a b c : Value} {T : TypeId} (h : w.heap[bx]? = some (.cells #[a, b, c] T (0, 0))) (x y z : Value) :
    (((w.setCell ⟨bx, 0, none⟩ x).setCell ⟨bx, 1, none⟩ y).setCell ⟨bx, 2, none⟩ z).heap[bx]? = some (.cells #[x, y, z] T (0, 0)) ∧ Apart (· = bx) w (((w.setCell ⟨bx, 0, none⟩ x).setCell ⟨bx, 1, none⟩ y).setCell ⟨bx, 2, none⟩ z) := by
  have h1 := heap_setCell_same w bx 0 _ T x h
  have h2 := heap_setCell_same _ bx 1 _ T y h1
  have h3 := heap_setCell_same _ bx 2 _ T z h2
  refine ⟨by rw [h3]; rfl, ?_⟩
  exact Apart.setCell (Apart.setCell (Apart.setCell (Apart.refl (· = bx) w) (p := ⟨bx, 0, none⟩) (fun _ => rfl) _) (p := ⟨bx, 1, none⟩) (fun _ => rfl) _) (p := ⟨bx, 2, none⟩) (fun _ => rfl) _
/-- What getPart leaves behind. -/
def PartPost (b : Nat) (s : ByteArray) (q : Nat) (w : World) (e : Ending) (w' : World) : Prop :=
  ((gE (fr s q) = 0 ∧ e = .returned (pv (gP (fr s q))) ∧ Rd 143 w' b s (At s (8 * (q + (4 + hN (fr s q)))))) ∨ (¬ gE (fr s q) = 0 ∧ e = thrown (gE (fr s q)))) ∧ Apart (· = b) w w'
set_option maxRecDepth 100000 in
set_option maxHeartbeats 1000000 in
theorem getpart_any (b : Nat) (s : ByteArray) (hs : s.size ≤ 1000000) (q : Nat) (hq : q ≤ s.size) (w : World) (h : Rd 143 w b s (At s (8 * q))) :
    Calls Tryz.prog 55 #[.pointer (some ⟨b, 0, none⟩)] w (PartPost b s q w) := by
  obtain ⟨bx, HBX⟩ : ∃ bx, Hid (w.heap.size = bx) := ⟨_, rfl⟩
  have hbx : b < bx := by have := h.heap; rw [HBX.out] at this; exact this
  have HN := mkHid (heap_alloc_new w (.cells #[.int .i64 0, .int .i64 0, .string ⟨#[]⟩] 56))
  have A0 := mkHid ((Apart.refl (· = b) w).alloc (.cells #[.int .i64 0, .int .i64 0, .string ⟨#[]⟩] 56))
  have R0 := mkHid (h.kept ((Apart.refl (fun _ => False) w).alloc (.cells #[.int .i64 0, .int .i64 0, .string ⟨#[]⟩] 56)) (fun h => h))
  rw [HBX.out] at HN
  have hne : ¬ bx = b := by omega
  obtain ⟨m, HM⟩ : ∃ m, Hid (gw s (8 * q) 2 = m) := ⟨_, rfl⟩
  obtain ⟨p, HP⟩ : ∃ p, Hid (gw s (8 * q + 2) 1 = p) := ⟨_, rfl⟩
  obtain ⟨c, HC⟩ : ∃ c, Hid (gw s (8 * q + 2 + 1) 5 = c) := ⟨_, rfl⟩
  obtain ⟨t, HT⟩ : ∃ t, Hid (gw s (8 * q + 2 + 1 + 5) 8 = t) := ⟨_, rfl⟩
  obtain ⟨n, HL⟩ : ∃ n : Int, Hid ((gw s (8 * q + 2 + 1 + 5 + 8) 16 : Int) = n) := ⟨_, rfl⟩
  have bm : (m : Int) < 4 := by have := gw_lt s (8 * q) 2; rw [HM.out] at this; omega
  have bp : (p : Int) < 2 := by have := gw_lt s (8 * q + 2) 1; rw [HP.out] at this; omega
  have bc : (c : Int) < 32 := by have := gw_lt s (8 * q + 2 + 1) 5; rw [HC.out] at this; omega
  have bt : (t : Int) < 256 := by have := gw_lt s (8 * q + 2 + 1 + 5) 8; rw [HT.out] at this; omega
  have bl : n < 65536 := by have := gw_lt s (8 * q + 2 + 1 + 5 + 8) 16; have := HL.out; omega
  have bl0 : 0 ≤ n := by have := HL.out; omega
  have HS := mkHid hs
  have HQ := mkHid hq
  clear h hs hq
  go_enter Tryz.func55, Tryz.ntmps55
  go_wp2_with fail
  rw [HBX.out]
  refine (get_at b s HS.out _ _ 2 rfl (by omega) _ R0.out).mono ?_
  rw [HM.out]
  rintro e w1 ⟨rfl, r1, a1⟩
  have R1 := mkHid r1
  have A1 := mkHid (A0.out.trans a1 (fun _ _ h => h))
  have N1 := mkHid (a1.heap HN.out hne)
  clear r1 a1 R0 A0 HN
  go_wp2_with fail
  refine (get_at b s HS.out _ _ 1 rfl (by omega) _ R1.out).mono ?_
  rw [HP.out]
  rintro e w2 ⟨rfl, r1, a1⟩
  have R2 := mkHid r1
  have A2 := mkHid (A1.out.trans a1 (fun _ _ h => h))
  have N2 := mkHid (a1.heap N1.out hne)
  clear r1 a1 R1 A1 N1
  go_wp2_with fail
  refine (get_at b s HS.out _ _ 5 rfl (by omega) _ R2.out).mono ?_
  rw [HC.out]
  rintro e w3 ⟨rfl, r1, a1⟩
  have R3 := mkHid r1
  have A3 := mkHid (A2.out.trans a1 (fun _ _ h => h))
  have N3 := mkHid (a1.heap N2.out hne)
  clear r1 a1 R2 A2 N2
  go_wp2_with fail
  refine (get_at b s HS.out _ _ 8 rfl (by omega) _ R3.out).mono ?_
  rw [HT.out]
  rintro e w4 ⟨rfl, r1, a1⟩
  have R4 := mkHid r1
  have A4 := mkHid (A3.out.trans a1 (fun _ _ h => h))
  have N4 := mkHid (a1.heap N3.out hne)
  clear r1 a1 R3 A3 N3
  go_wp2_with fail
  refine (get_at b s HS.out _ _ 16 rfl (by omega) _ R4.out).mono ?_
  rw [HL.out]
  rintro e w5 ⟨rfl, r1, a1⟩
  have R5 := mkHid r1
  have A5 := mkHid (A4.out.trans a1 (fun _ _ h => h))
  have N5 := mkHid (a1.heap N4.out hne)
  clear r1 a1 R4 A4 N4
  have BD := mkHid (bad_at b s _ _ R5.out)
  by_cases hl : (fr s q).length < 4
  · rw [badB_yes (by rw [fr_len] at hl; have := HQ.out; omega)] at BD
    have HE := mkHid (gE_short hl)
    clear hl
    go_wp2_with fail
    refine (BD.out).mono ?_
    rintro e w6 ⟨rfl, rfl⟩
    go_wp2
    refine ⟨rfl, .inr ⟨by rw [HE.out]; decide, by rw [HE.out]⟩, A5.out⟩
  · obtain ⟨x0, x1, x2, x3, x4⟩ := fr_bits s q (by omega)
    rw [HM.out] at x0
    rw [HP.out] at x1
    rw [HC.out] at x2
    rw [HT.out] at x3
    have HX0 := mkHid x0
    have HX1 := mkHid x1
    have HX2 := mkHid x2
    have HX3 := mkHid x3
    have HNN := mkHid (show (hN (fr s q) : Int) = n * 4 by have := HL.out; rw [x4] at this; unfold hN; omega)
    have HFL := mkHid (fr_len s q)
    have HL4 := mkHid hl
    have hz : q + 4 ≤ s.size := by rw [HFL.out] at hl; omega
    rw [badB_no (by omega)] at BD
    have LF := mkHid (left_any b s HS.out _ _ R5.out)
    obtain ⟨f, HF⟩ : ∃ f : Int, Hid ((s.size : Int) - q - 4 = f) := ⟨_, rfl⟩
    obtain ⟨lf, HLF⟩ : ∃ lf : Int, Hid (gleft s (At s (8 * q + 2 + 1 + 5 + 8 + 16)) = lf) := ⟨_, rfl⟩
    have e1 : gleft s (At s (8 * q + 2 + 1 + 5 + 8 + 16)) = 8 * f := by unfold At; rw [if_pos (by omega)]; simp only [gleft]; have := HF.out; omega
    rw [HLF.out] at LF e1
    have hf0 : 0 ≤ f := by have := HF.out; omega
    have hf1 : f ≤ 1000000 := by have := HF.out; have := HS.out; omega
    have hl0 : 0 ≤ lf := by omega
    have hl1 : lf ≤ 8000000 := by omega
    have hlf : lf / 8 = f := by omega
    have HZ := mkHid hz
    clear x0 x1 x2 x3 x4 hl e1 hz
    go_wp2_with fail
    refine (BD.out).mono ?_
    rintro e w6 ⟨rfl, rfl⟩
    by_cases h2 : f < n * 4
    · have HE := mkHid (gE_lacks HL4.out (by rw [HFL.out]; have := HNN.out; have := HF.out; omega))
      go_wp2_with fail
      refine (LF.out).mono ?_
      rintro e w7 ⟨rfl, nd, rfl⟩
      go_wp2
      refine ⟨rfl, .inr ⟨by rw [HE.out]; decide, by rw [HE.out]⟩, A5.out.drewN nd⟩
    · have H2 := mkHid (show ¬ (fr s q).length < 4 + hN (fr s q) by rw [HFL.out]; have := HNN.out; have := HF.out; omega)
      go_wp2_with fail
      refine (LF.out).mono ?_
      rintro e w7 ⟨rfl, nd, rfl⟩
      by_cases h3 : (m : Int) = 2
      · have H3 := mkHid (show ¬ bn (fr s q) 0 / 64 ≠ 2 by have := HX0.out; omega)
        have KW := mkHid (within_any t 192 223)
        by_cases h4 : (192 : Int) ≤ t ∧ (t : Int) ≤ 223
        · rw [inR_yes h4.1 h4.2] at KW
          have H4 := mkHid (show ¬ (bn (fr s q) 1 < 192 ∨ 223 < bn (fr s q) 1) by have := HX3.out; omega)
          obtain ⟨M, HMM⟩ : ∃ M, Hid (hN (fr s q) = M) := ⟨_, rfl⟩
          have hM : n * 4 = (M : Int) := by have := HNN.out; rw [HMM.out] at this; omega
          have hM1 : M ≤ 1000000 := by have := HMM.out; have := HF.out; have := HS.out; omega
          have GT := mkHid (gtext_any b s HS.out _ M hM1 _ (drew_rd nd R5.out))
          have HB1 := mkHid (show 4 + hN (fr s q) ≤ (fr s q).length by have := H2.out; omega)
          have HMI := mkHid hM
          rw [show 8 * q + 2 + 1 + 5 + 8 + 16 = 8 * (q + 4) by omega, show 8 * (q + 4) + 8 * M = 8 * (q + (4 + M)) by omega] at GT
          clear hM hM1 h4 BD
          go_wp2_with fail
          refine (KW.out _).mono ?_
          rintro e w8 ⟨rfl, rfl⟩
          go_wp2_with fail
          rw [HMI.out]
          refine (GT.out).mono ?_
          rintro e w9 ⟨rfl, r9, a9⟩
          have R9 := mkHid r9
          have A9 := mkHid ((A5.out.drewN nd).trans a9 (fun _ _ h => h))
          have N9 := mkHid (a9.heap (w := w6.drewN nd) N5.out hne)
          clear r9 a9 R5 A5 N5 LF
          obtain ⟨c0, c1, c2, f0, f1, f2⟩ := cells3 N9.out
          obtain ⟨d, HD⟩ : ∃ d, Hid (txS s (8 * (q + 4)) M = d) := ⟨_, rfl⟩
          rw [HD.out]
          by_cases h5 : (p : Int) = 1
          · have HPP := mkHid (show hP (fr s q) = true by have := HX1.out; simp [hP]; omega)
            have LF := mkHid (left_any b s HS.out _ _ R9.out)
            obtain ⟨lg, HLG⟩ : ∃ lg : Int, Hid (gleft s (At s (8 * (q + (4 + M)))) = lg) := ⟨_, rfl⟩
            have e1 : gleft s (At s (8 * (q + (4 + M)))) = 8 * ((fr s q).length - (4 + M) : Int) := by
              have h1 := HFL.out
              have h2 := HB1.out
              rw [HMM.out] at h2
              unfold At; rw [if_pos (by omega)]; simp only [gleft]; have := HQ.out; omega
            rw [HLG.out] at LF e1
            have HE1 := mkHid e1
            have hlg0 : 0 ≤ lg := by have := HB1.out; rw [HMM.out] at this; omega
            have hds := txS_size s (8 * (q + 4)) M
            rw [HD.out] at hds
            have HDS := mkHid hds
            clear e1 hds
            by_cases h6 : 0 < lg
            · have HE := mkHid (gE_pad HL4.out H2.out H3.out H4.out HPP.out (.inl (by rw [HMM.out]; have := HE1.out; omega)))
              go_wp2_with fail
              refine (LF.out).mono ?_
              rintro e w10 ⟨rfl, nd2, rfl⟩
              go_wp2
              refine ⟨rfl, .inr ⟨by rw [HE.out]; decide, by rw [HE.out]⟩, A9.out.drewN nd2⟩
            · have HLN := mkHid (show (fr s q).length = 4 + hN (fr s q) by have := HB1.out; rw [HMM.out] at this ⊢; have := HE1.out; omega)
              by_cases h7 : M = 0
              · have HE := mkHid (gE_pad HL4.out H2.out H3.out H4.out HPP.out (.inr (.inl (by rw [HMM.out]; exact h7))))
                have BR := mkHid (bared_empty d (by rw [HDS.out]; exact h7))
                clear h7
                go_wp2_with fail
                refine (LF.out).mono ?_
                rintro e w10 ⟨rfl, nd2, rfl⟩
                go_wp2_with fail
                refine (BR.out _).mono ?_
                rintro e w11 ⟨rfl, rfl⟩
                go_wp2
                refine ⟨rfl, .inr ⟨by rw [HE.out]; decide, by rw [HE.out]⟩, A9.out.drewN nd2⟩
              · have BR := mkHid (bared_some d (by rw [HDS.out]; omega) (by rw [HDS.out]; have := HMM.out; have := HB1.out; have := HFL.out; have := HS.out; omega) (hK (fr s q)) (by
                  have := body_last s q HB1.out (by rw [HMM.out]; omega)
                  rw [HMM.out, HD.out] at this
                  exact this))
                rw [HDS.out] at BR
                have H7 := mkHid h7
                clear h7
                obtain ⟨k, HK⟩ : ∃ k, Hid (hK (fr s q) = k) := ⟨_, rfl⟩
                rw [HK.out] at BR
                obtain ⟨db, HDB⟩ : ∃ db, Hid (d.extract 0 (M - k) = db) := ⟨_, rfl⟩
                rw [HDB.out] at BR
                go_wp2_with fail
                refine (LF.out).mono ?_
                rintro e w10 ⟨rfl, nd2, rfl⟩
                go_wp2_with fail
                refine (BR.out _).mono ?_
                rintro e w11 ⟨(⟨hk, rfl⟩ | ⟨hk, rfl⟩), rfl⟩
                · have HKK := mkHid hk
                  clear hk
                  have HE := mkHid (show gE (fr s q) = 0 from gE_is HB1.out (by have := H3.out; omega) (by have := H4.out; omega) (by have := H4.out; omega) (fun _ => by rw [HK.out]; have := HKK.out; have := HLN.out; rw [HMM.out] at this ⊢; omega))
                  have HG := mkHid (show pv (gP (fr s q)) = .agg #[.int .i64 c, .int .i64 t, .string db] by
                    unfold pv gP hD
                    have := body_bared s q k HB1.out
                    rw [HMM.out, HD.out, HDS.out, HDB.out] at this
                    rw [if_pos HPP.out, HK.out, HMM.out, ← this, ← HX2.out, ← HX3.out])
                  go_wp2
                  show bodyPost _ _ _ _ _ _
                  obtain ⟨s1, s2⟩ := store3 (w := w9.drewN nd2) N9.out (.int .i64 c) (.int .i64 t) (.string db)
                  refine bodyPost_ret (res26 _ rfl s1) rfl ⟨.inl ⟨HE.out, by rw [HG.out], ?_⟩, (A9.out.drewN nd2).trans s2 (fun i hi e => by rw [HBX.out] at hi; omega)⟩
                  rw [HMM.out]
                  exact (drew_rd nd2 R9.out).kept s2 (by omega)
                · have HE := mkHid (gE_pad HL4.out H2.out H3.out H4.out HPP.out (by rw [HK.out, HMM.out]; omega))
                  clear hk
                  go_wp2
                  refine ⟨rfl, .inr ⟨by rw [HE.out]; decide, by rw [HE.out]⟩, A9.out.drewN nd2⟩
          · have HPP := mkHid (show ¬ hP (fr s q) = true by have := HX1.out; simp [hP]; omega)
            have HE := mkHid (show gE (fr s q) = 0 from gE_is HB1.out (by have := H3.out; omega) (by have := H4.out; omega) (by have := H4.out; omega) (fun h => absurd h HPP.out))
            have HG := mkHid (show pv (gP (fr s q)) = .agg #[.int .i64 c, .int .i64 t, .string d] by
              unfold pv gP hD
              rw [if_neg HPP.out, Nat.sub_zero, ← HD.out, ← HMM.out, body_list s q HB1.out, ← HX2.out, ← HX3.out])
            go_wp2
            show bodyPost _ _ _ _ _ _
            obtain ⟨s1, s2⟩ := store3 N9.out (.int .i64 c) (.int .i64 t) (.string d)
            refine bodyPost_ret (res26 _ rfl s1) rfl ⟨.inl ⟨HE.out, by rw [HG.out], ?_⟩, A9.out.trans s2 (fun i hi e => by rw [HBX.out] at hi; omega)⟩
            rw [HMM.out]
            exact R9.out.kept s2 (by omega)
        · have HE := mkHid (gE_kind HL4.out H2.out H3.out (by have := HX3.out; omega))
          rw [inR_no h4] at KW
          go_wp2_with fail
          refine (KW.out _).mono ?_
          rintro e w8 ⟨rfl, rfl⟩
          go_wp2
          refine ⟨rfl, .inr ⟨by rw [HE.out]; decide, by rw [HE.out]⟩, A5.out.drewN nd⟩
      · have HE := mkHid (gE_mark HL4.out H2.out (by have := HX0.out; omega))
        go_wp2
        refine ⟨rfl, .inr ⟨by rw [HE.out]; decide, by rw [HE.out]⟩, A5.out.drewN nd⟩
end Go.Proofs.YtdhbakknplnnkaaGreat.Rc
namespace Go.Proofs.YtdhbakknplnnkaaGreat.Rc
open Go.RowKit

/-- A slice value that holds n elements of so many cells each, the cells xs; it may be nil. -/
def SrcN (w : World) (size : Nat) (v : Value) (n : Nat) (xs : List Value) : Prop :=
  (∃ c, v = .slice none 0 c ∧ n = 0 ∧ xs = []) ∨ ∃ ad c, v = .slice (some ad) n c ∧ xs.length = n * size ∧ ∀ j u, xs[j]? = some u → w.cell? (ad.add j) = some u
section
variable {P : Program} (w : World)
theorem run_append_onto (base : Nat) (t ty e : TypeId) (i : TypeInfo) (z : Value) (size bytes : Nat) (ht : P.underlying t = some (.slice e)) (hi : P.info? e = some i) (hz : i.zero = some z)
    (hsize : i.size = size) (hby : i.bytes = bytes) (hzs : z.cells.size = size) (hsz : 0 < size)
    (v : Value) (n : Nat) (xs : List Value) (hown : w.ownsRow base e size v n xs)
    (s : Value) (m : Nat) (news : List Value) (hs : SrcN w size s m news) (h1 : ∀ u ∈ news, u.oneCell' = true)
    (h63 : n + m ≤ maxLen) (hbytes : (n + m) * bytes ≤ 140737488355328) (hbase : base ≤ w.heap.size) :
    ∃ v' w', (Builtin.append_ #[t, t] ty #[v, s]).run P w = .ok v' w' ∧ w'.ownsRow base e size v' (n + m) (xs ++ news) ∧ w.grownBy w' v.ownBlock := by
  rcases hs with ⟨c, rfl, rfl, rfl⟩ | ⟨ad, c, rfl, hl, hcell⟩
  · refine ⟨v, w, ?_, by simpa using hown, ⟨rfl, rfl, rfl, Nat.le_refl _, fun _ _ _ => rfl⟩⟩
    rcases hown.2 with ⟨rfl, rfl⟩ | ⟨g, cap, cur, rfl, hb, hg, hn, h2, h3, h4⟩
    · simp [Builtin.append_, run_underlying ht, sizeOf, typeInfo, hi, Builtin.lenOf, Builtin.firstCells]
    · simp [Builtin.append_, run_underlying ht, sizeOf, typeInfo, hi, Builtin.lenOf, Builtin.firstCells, hn, storeCells]
  · obtain ⟨v', w', a, b, c', _⟩ := run_append_own (P := P) w base t ty e i z size bytes ht hi hz hsize hby hzs hsz v n xs hown ad m c news hl hcell h1 h63 hbytes hbase
    exact ⟨v', w', a, b, c'⟩
theorem wpList_append_onto {ops : Array Oper} {rest : List Oper} {o : Oper} {a : Act} {Q : Exit → Act → World → Prop} (hgd : o.guard = none) (s x : Operand) (t : TypeId)
    (ho : o.op = .call { callee := .builtin .append, args := #[s, x], argTypes := #[t, t] })
    (base : Nat) (e : TypeId) (i : TypeInfo) (z : Value) (size bytes : Nat) (ht : P.underlying t = some (.slice e)) (hi : P.info? e = some i) (hz : i.zero = some z)
    (hsize : i.size = size) (hby : i.bytes = bytes) (hzs : z.cells.size = size) (hsz : 0 < size)
    (v : Value) (n : Nat) (xs : List Value) (hs : a.eval s = v) (hown : w.ownsRow base e size v n xs)
    (u : Value) (m : Nat) (news : List Value) (hx : a.eval x = u) (hsrc : SrcN w size u m news) (h1 : ∀ u ∈ news, u.oneCell' = true)
    (h63 : n + m ≤ maxLen) (hbytes : (n + m) * bytes ≤ 140737488355328) (hbase : base ≤ w.heap.size)
    (h : ∀ v' w', w'.ownsRow base e size v' (n + m) (xs ++ news) → w.grownBy w' v.ownBlock → wpList P ops Q rest (a.put o.dst v') w') : wpList P ops Q (o :: rest) a w :=
  wpList_plain hgd fun K hK => by
    obtain ⟨v', w', hr, h2, h3⟩ := run_append_onto (P := P) w base t o.type e i z size bytes ht hi hz hsize hby hzs hsz v n xs hown u m news hsrc h1 h63 hbytes hbase
    unfold Oper.wp execOp
    simp only [ho, resolve, invoke, builtin, Sem.run_bind, Sem.run_pure, Result.andThen_ok, List.map_toArray, List.map_cons, List.map_nil, hs, hx, hr]
    exact hK _ _ (h v' w' h2 h3)
end
theorem ownsRow_apart {w w' : World} {X : Nat → Prop} {base : Nat} {e : TypeId} {size : Nat} {v : Value} {n : Nat} {xs : List Value} (h : w.ownsRow base e size v n xs) (ha : Apart X w w') (hx : ∀ k, base ≤ k → ¬ X k) : w'.ownsRow base e size v n xs := by
  refine ⟨h.1, ?_⟩
  rcases h.2 with hn | ⟨g, cap, cur, rfl, hg, hh, r⟩
  · exact .inl hn
  · exact .inr ⟨g, cap, cur, rfl, hg, ha.heap hh (hx g hg), r⟩
theorem ownsRow_base {w : World} {base base' : Nat} {e : TypeId} {size : Nat} {v : Value} {n : Nat} {xs : List Value} (h : w.ownsRow base e size v n xs) (hb : base' ≤ base) : w.ownsRow base' e size v n xs := by
  refine ⟨h.1, ?_⟩
  rcases h.2 with hn | ⟨g, cap, cur, rfl, hg, hh, r⟩
  · exact .inl hn
  · exact .inr ⟨g, cap, cur, rfl, by omega, hh, r⟩
theorem ownsRow_slice {w : World} {base : Nat} {e : TypeId} {size : Nat} {v : Value} {n : Nat} {xs : List Value} (h : w.ownsRow base e size v n xs) : ∃ a c, v = .slice a n c := by
  rcases h.2 with ⟨rfl, rfl⟩ | ⟨g, cap, cur, rfl, _⟩
  · exact ⟨none, 0, rfl⟩
  · exact ⟨_, _, rfl⟩
theorem own_empty (w : World) (base : Nat) (e : TypeId) (size : Nat) (hb : base ≤ w.heap.size) : (w.alloc (.cells #[] e)).ownsRow base e size (.slice (some ⟨w.heap.size, 0, none⟩) 0 0) 0 [] :=
  ⟨by simp, .inr ⟨w.heap.size, 0, #[], rfl, hb, heap_alloc_new _ _, Nat.le_refl _, by unfold maxLen; omega, by simp, by simp⟩⟩
theorem ownsRow_apart2 {w w' : World} {X : Nat → Prop} {base : Nat} {e : TypeId} {size : Nat} {v : Value} {n : Nat} {xs : List Value} (h : w.ownsRow base e size v n xs) (ha : Apart X w w') (hx : ∀ k, v.ownBlock = some k → ¬ X k) : w'.ownsRow base e size v n xs := by
  refine ⟨h.1, ?_⟩
  rcases h.2 with hn | ⟨g, cap, cur, rfl, hg, hh, r⟩
  · exact .inl hn
  · exact .inr ⟨g, cap, cur, rfl, hg, ha.heap hh (hx g rfl), r⟩
theorem ownsRow_below {w w' : World} {B base : Nat} {e : TypeId} {size : Nat} {v : Value} {n : Nat} {xs : List Value} (h : w.ownsRow base e size v n xs) (ha : Below B w w') (hx : ∀ k, v.ownBlock = some k → k < B) : w'.ownsRow base e size v n xs := by
  refine ⟨h.1, ?_⟩
  rcases h.2 with hn | ⟨g, cap, cur, rfl, hg, hh, r⟩
  · exact .inl hn
  · exact .inr ⟨g, cap, cur, rfl, hg, (ha.block g (hx g rfl)).trans hh, r⟩
/-- The cells of parts. -/
def pC : List Pt → List Value
  | [] => []
  | p :: l => .int .i64 p.c :: .int .i64 p.t :: .string p.d :: pC l
@[simp] theorem pC_len (l : List Pt) : (pC l).length = l.length * 3 := by induction l with | nil => rfl | cons p l ih => simp [pC, ih]; omega
theorem pC_app (l k : List Pt) : pC (l ++ k) = pC l ++ pC k := by induction l with | nil => rfl | cons p l ih => simp [pC, ih]
theorem pC_get (l : List Pt) (i : Nat) (p : Pt) (h : l[i]? = some p) : (pC l)[i * 3]? = some (.int .i64 p.c) ∧ (pC l)[i * 3 + 1]? = some (.int .i64 p.t) ∧ (pC l)[i * 3 + 2]? = some (.string p.d) := by
  induction l generalizing i with
  | nil => simp at h
  | cons x l ih =>
    cases i with
    | zero => simp at h; subst h; exact ⟨rfl, rfl, rfl⟩
    | succ i =>
      obtain ⟨h0, h1, h2⟩ := ih i (by simpa using h)
      rw [show (i + 1) * 3 = i * 3 + 1 + 1 + 1 by omega, show i * 3 + 1 + 1 + 1 + 1 = (i * 3 + 1) + 1 + 1 + 1 by omega, show i * 3 + 1 + 1 + 1 + 2 = (i * 3 + 2) + 1 + 1 + 1 by omega]
      simp only [pC, List.getElem?_cons_succ]
      exact ⟨h0, h1, h2⟩
theorem pC_one (l : List Pt) : ∀ u ∈ pC l, u.oneCell' = true := by
  induction l with
  | nil => simp [pC]
  | cons p l ih =>
    intro u hu
    simp only [pC, List.mem_cons] at hu
    rcases hu with rfl | rfl | rfl | hu
    · rfl
    · rfl
    · rfl
    · exact ih u hu
theorem pa_src {B : Nat} {w : World} {a : Option Addr} {l : List Pt} {cap : Nat} (h : PA B w a l) : SrcN w 3 (.slice a l.length cap) l.length (pC l) := by
  rcases h.2 with h0 | ⟨b, off, rfl, hb, hc⟩
  · subst h0
    cases a with
    | none => exact .inl ⟨cap, rfl, rfl, rfl⟩
    | some ad => exact .inr ⟨ad, cap, rfl, rfl, fun j u hj => by simp [pC] at hj⟩
  · refine .inr ⟨_, cap, rfl, by simp, fun j u hj => ?_⟩
    have hl : j < l.length * 3 := by have := (List.getElem?_eq_some_iff.1 hj).1; simpa using this
    have hi : j / 3 < l.length := by omega
    obtain ⟨c0, c1, c2, _⟩ := hc (j / 3) _ (List.getElem?_eq_getElem hi)
    obtain ⟨g0, g1, g2⟩ := pC_get l (j / 3) _ (List.getElem?_eq_getElem hi)
    rw [Addr.add_lit, ← hj]
    rcases (by omega : j = j / 3 * 3 ∨ j = j / 3 * 3 + 1 ∨ j = j / 3 * 3 + 2) with e | e | e
    · rw [e, c0, g0]
    · rw [e, ← Nat.add_assoc, c1, g1]
    · rw [e, ← Nat.add_assoc, c2, g2]
theorem own_pa {w : World} {base B : Nat} {v : Value} {l : List Pt} (h : w.ownsRow base 56 3 v l.length (pC l)) (hb : w.heap.size ≤ B) (hm : l.length ≤ maxLen) (hD : ∀ p ∈ l, p.d.size ≤ maxLen) : ∃ a c, v = .slice a l.length c ∧ PA B w a l ∧ ∀ x, a = some x → base ≤ x.block := by
  rcases h.2 with ⟨rfl, h0⟩ | ⟨g, cap, cur, rfl, hg, hh, r⟩
  · obtain rfl := List.eq_nil_of_length_eq_zero h0
    exact ⟨none, 0, rfl, ⟨hm, .inl rfl⟩, fun x hx => by cases hx⟩
  · refine ⟨_, cap, rfl, ⟨hm, .inr ⟨g, 0, rfl, by have := lt_of_heap hh; omega, fun i p hi => ?_⟩⟩, fun x hx => by cases hx; exact hg⟩
    have hl : i < l.length := (List.getElem?_eq_some_iff.1 hi).1
    obtain ⟨g0, g1, g2⟩ := pC_get l i p hi
    refine ⟨?_, ?_, ?_, hD p (List.mem_of_getElem? hi)⟩
    · rw [Nat.zero_add, h.cellAt _ (by omega), g0]
    · rw [Nat.zero_add, h.cellAt _ (by omega), g1]
    · rw [Nat.zero_add, h.cellAt _ (by omega), g2]
theorem PA.apart {B : Nat} {w w' : World} {a : Option Addr} {l : List Pt} {X : Nat → Prop} (h : PA B w a l) (hB : B ≤ w.heap.size) (ha : Apart X w w') (hx : ∀ x, a = some x → ¬ X x.block) : PA B w' a l := by
  refine ⟨h.1, ?_⟩
  rcases h.2 with h0 | ⟨b, off, rfl, hl, hc⟩
  · exact .inl h0
  · have hn := hx _ rfl
    refine .inr ⟨b, off, rfl, hl, fun i p hi => ?_⟩
    obtain ⟨c0, c1, c2, c3⟩ := hc i p hi
    exact ⟨by rw [ha.cell (p := ⟨b, off + i * 3, none⟩) (by show b < _; omega) hn]; exact c0, by rw [ha.cell (p := ⟨b, off + i * 3 + 1, none⟩) (by show b < _; omega) hn]; exact c1, by rw [ha.cell (p := ⟨b, off + i * 3 + 2, none⟩) (by show b < _; omega) hn]; exact c2, c3⟩
theorem info40 : (Tryz.prog.info? 56).map (fun i => (i.zero, i.size, i.bytes)) = some (some (.agg #[.int .i64 0, .int .i64 0, .string ⟨#[]⟩]), 3, 32) := by kernel_rfl
theorem cell_three_new (w : World) (x y z : Value) (t : TypeId) : ∀ j u, [x, y, z][j]? = some u → (w.alloc (.cells #[x, y, z] t)).cell? ((⟨w.heap.size, 0, none⟩ : Addr).add j) = some u := by
  intro j u hj
  rw [Addr.add_lit, Nat.zero_add, cell_of_row _ w.heap.size j _ t _ (heap_alloc_new w _)]
  simpa using hj
end Go.Proofs.YtdhbakknplnnkaaGreat.Rc
namespace Go.Proofs.YtdhbakknplnnkaaGreat.Rc
open Go.RowKit

/-- The parts that are read may be, and are no longer than what they are read of. -/
theorem sL_mem (n : Nat) : ∀ r : List UInt8, r.length ≤ n → ∀ p ∈ sL r, p.ok = true ∧ p.d.size ≤ r.length := by
  induction n with
  | zero =>
    intro r hr p hp
    have : gE r = 60 := gE_short (by omega)
    rw [sL_wrong (by rw [this]; decide)] at hp
    cases hp
  | succ n ih =>
    intro r hr p hp
    by_cases h : gE r = 0
    · have h1 := (gE_zero h).1
      have h2 := gP_size h
      have h3 := gP_ok h
      by_cases hx : nx r = []
      · rw [sL_last h hx] at hp
        simp at hp
        subst hp
        exact ⟨h3, by omega⟩
      · rw [sL_more h hx] at hp
        rcases List.mem_cons.1 hp with rfl | hp
        · exact ⟨h3, by omega⟩
        · have hl : (nx r).length = r.length - (4 + hN r) := by simp [nx]
          have := ih (nx r) (by omega) p hp
          exact ⟨this.1, by omega⟩
    · rw [sL_wrong h] at hp; cases hp
theorem sL_len (n : Nat) : ∀ r : List UInt8, r.length ≤ n → 4 * (sL r).length ≤ r.length := by
  induction n with
  | zero =>
    intro r hr
    have : gE r = 60 := gE_short (by omega)
    rw [sL_wrong (by rw [this]; decide)]
    simp
  | succ n ih =>
    intro r hr
    by_cases h : gE r = 0
    · have h1 := (gE_zero h).1
      by_cases hx : nx r = []
      · rw [sL_last h hx]; simp; omega
      · rw [sL_more h hx]
        have hl : (nx r).length = r.length - (4 + hN r) := by simp [nx]
        have := ih (nx r) (by omega)
        simp; omega
    · rw [sL_wrong h]; simp
theorem nx_fr (s : ByteArray) (q : Nat) : nx (fr s q) = fr s (q + (4 + hN (fr s q))) := (fr_drop s q _).symm
theorem fr_nil {s : ByteArray} {q : Nat} : fr s q = [] ↔ s.size ≤ q := by
  rw [← List.length_eq_zero_iff, fr_len]; omega
def lenV : Value → Nat
  | .slice _ n _ => n
  | _ => 0
/-- What read leaves behind. -/
def ReadPost (s : ByteArray) (w : World) (e : Ending) (w' : World) : Prop :=
  ((sE (fr s 0) = 0 ∧ ∃ a cap, e = .returned (.slice a (sL (fr s 0)).length cap) ∧ PA w'.heap.size w' a (sL (fr s 0)) ∧ ∀ x, a = some x → w.heap.size ≤ x.block) ∨ (¬ sE (fr s 0) = 0 ∧ e = thrown (sE (fr s 0)))) ∧ Below w.heap.size w w'
theorem frame16 (a : Act) (hs : a.tmps.size = 16) (hd : a.defers = []) : ∃ u : Nat → Value, (∀ i, a.tmps.getD i undef = u i) ∧ a = { tmps := #[u 0, u 1, u 2, u 3, u 4, u 5, u 6, u 7, u 8, u 9, u 10, u 11, u 12, u 13, u 14, u 15], defers := [] } := frame_of a 16 hs hd
set_option maxRecDepth 100000 in
set_option maxHeartbeats 1000000 in
theorem read_all (s : ByteArray) (hs : s.size ≤ 1000000) (w : World) : Calls Tryz.prog 38 #[.string s] w (ReadPost s w) := by
  obtain ⟨b, HB⟩ : ∃ b, Hid (w.heap.size = b) := ⟨_, rfl⟩
  obtain ⟨i0, hi, hz0, hz1, hz2⟩ := info_parts info40
  have HS := mkHid hs
  clear hs
  go_enter Tryz.func38, Tryz.ntmps38
  go_wp2
  refine wp_scope_label 0 (fun a' w' => ∃ (q : Nat) (acc : List Pt) (v : Value), (a'.tmps.size = 16 ∧ a'.defers = [] ∧ a'.tmps.getD 0 undef = .string s ∧ a'.tmps.getD 2 undef = .slice none 0 0 ∧ a'.tmps.getD 3 undef = v ∧ a'.tmps.getD 4 undef = .pointer (some ⟨b, 0, none⟩)) ∧ q ≤ s.size ∧ 4 * acc.length ≤ q ∧ sE (fr s 0) = sE (fr s q) ∧ sL (fr s 0) = acc ++ sL (fr s q) ∧ Rd 143 w' b s (At s (8 * q)) ∧ w'.ownsRow (b + 1) 56 3 v acc.length (pC acc) ∧ Below b w w') (fun a' _ => s.size + 1 - lenV (a'.tmps.getD 3 undef)) rfl ?_ ?_
  · intro Q' hh
    have HH := mkHid hh
    clear hh
    go_wp2_with fail
    refine (read_any s _).mono ?_
    rw [HB.out]
    rintro e w1 ⟨rfl, h1, p1, z1⟩
    have R1 := mkHid h1
    have P1 := mkHid (p1.belowF b (by rw [HB.out]; exact Nat.le_refl _))
    clear h1 p1 z1
    go_wp2
    go_step3
    refine ‹∀ a w, Code.wp _ _ _ a w → _› _ _ (HH.out _ _ ?_)
    refine ⟨0, [], .slice none 0 0, ⟨rfl, rfl, rfl, rfl, rfl, rfl⟩, Nat.zero_le _, Nat.zero_le _, rfl, rfl, ?_, World.ownsRow_nil _ _ _ _, P1.out⟩
    unfold At
    rw [if_pos (Nat.zero_le _)]
    exact R1.out
  · rintro a' w' ⟨q, acc, v, ⟨z, d, e0, e2, e3, e4⟩, hq, hacc, hE, hL, hr, how, hb⟩
    obtain ⟨u, hu, ha⟩ := frame16 a' z d
    rw [hu] at e0 e2 e3 e4
    rw [e0, e2, e3, e4] at ha
    clear z d hu e0 e2 e3 e4
    subst ha
    have HQ := mkHid hq
    have HACC := mkHid hacc
    have HE := mkHid hE
    have HL := mkHid hL
    have HR := mkHid hr
    have HOW := mkHid how
    have HBL := mkHid hb
    have GP := mkHid (getpart_any b s HS.out q hq _ hr)
    obtain ⟨va, vc, HV⟩ := ownsRow_slice how
    subst HV
    have hbw : b < w'.heap.size := hr.heap
    clear hq hacc hE hL hr how hb
    go_wp2_with fail
    refine (GP.out).mono ?_
    rintro e w1 ⟨(⟨hg, rfl, r1⟩ | ⟨hg, rfl⟩), a1⟩
    · have HG := mkHid hg
      have R1 := mkHid r1
      have O1 := mkHid (ownsRow_apart HOW.out a1 (by intro k hk e; omega))
      have B1 := mkHid (HBL.out.trans (a1.belowE b (by omega) (Nat.le_refl _)))
      have hb1 : b < w1.heap.size := r1.heap
      have NX := mkHid (nx_fr s q)
      have H4 := mkHid (gE_zero hg).1
      have HPQ := mkHid (show pC acc ++ [.int .i64 (gP (fr s q)).c, .int .i64 (gP (fr s q)).t, .string (gP (fr s q)).d] = pC (acc ++ [gP (fr s q)]) by rw [pC_app]; rfl)
      clear hg r1 a1
      unfold pv
      obtain ⟨p, HP⟩ : ∃ p, Hid (gP (fr s q) = p) := ⟨_, rfl⟩
      rw [HP.out] at HPQ ⊢
      obtain ⟨c, t, d⟩ := p
      simp only at HPQ ⊢
      have hal : acc.length ≤ 1000000 := by have := HACC.out; have := HQ.out; have := HS.out; omega
      have HAL := mkHid hal
      clear hal
      go_wp2_with (at_builtin; refine wpList_append_own2 _ rfl (.tmp 7) (.tmp 10) 36 rfl (b + 1) 56 i0 (.agg #[.int .i64 0, .int .i64 0, .string ⟨#[]⟩]) 3 32 Tryz.underlying36 hi hz0 hz1 hz2 rfl (by decide) (.slice va acc.length vc) acc.length (pC acc) rfl (O1.out.alloc _) ⟨w1.heap.size, 0, none⟩ 1 1 [.int .i64 c, .int .i64 t, .string d] rfl rfl (cell_three_new _ _ _ _ _) (by intro u hu; simp at hu; rcases hu with rfl | rfl | rfl <;> rfl) (by unfold maxLen; have := HAL.out; omega) (by have := HAL.out; omega) (by simp; omega) ?_; intro v2 w2 hown2 hgrow2 hnew2; obtain ⟨va2, vc2, hv2⟩ := ownsRow_slice hown2; subst hv2; have OW2 := mkHid hown2; have GR2 := mkHid hgrow2; clear hown2 hgrow2 hnew2)
      have A2 := Apart.grown (X := fun k => (Value.slice va acc.length vc).ownBlock = some k) ((Apart.refl _ w1).alloc (.cells #[.int .i64 c, .int .i64 t, .string d] 56)) GR2.out (fun k _ e => e)
      have R2 := mkHid (R1.out.kept A2 (fun e => by have := O1.out.lt b e; omega))
      have B2 := mkHid (B1.out.trans (A2.below b (by omega) (fun k e => by have := O1.out.lt k e; omega)))
      have O3 := mkHid (show w2.ownsRow (b + 1) 56 3 (.slice va2 (acc.length + 1) vc2) (acc ++ [(⟨c, t, d⟩ : Pt)]).length (pC (acc ++ [(⟨c, t, d⟩ : Pt)])) by rw [← HPQ.out, List.length_append]; exact OW2.out)
      obtain ⟨q', HQ'⟩ : ∃ q', Hid (q + (4 + hN (fr s q)) = q') := ⟨_, rfl⟩
      rw [HQ'.out] at R2 NX
      have hq' : q' ≤ s.size := by have := H4.out; rw [fr_len] at this; have := HQ'.out; omega
      have hqq : q + 4 ≤ q' := by have := HQ'.out; omega
      have LF := mkHid (left_any b s HS.out _ _ R2.out)
      obtain ⟨lg, HLG⟩ : ∃ lg : Int, Hid (gleft s (At s (8 * q')) = lg) := ⟨_, rfl⟩
      have e1 : gleft s (At s (8 * q')) = 8 * ((s.size : Int) - q') := by unfold At; rw [if_pos (by omega)]; simp only [gleft]; omega
      rw [HLG.out] at LF e1
      have HE1 := mkHid e1
      have HQ2 := mkHid hq'
      have HQQ := mkHid hqq
      clear e1 A2 GR2 OW2 hq' hqq
      refine (LF.out).mono ?_
      rintro e w3 ⟨rfl, nd, rfl⟩
      by_cases hlg : 0 < lg
      · have HNN := mkHid (show ¬ nx (fr s q) = [] by rw [NX.out, fr_nil]; have := HE1.out; omega)
        go_wp2
        go_step3
        refine ⟨rfl, ⟨q', acc ++ [⟨c, t, d⟩], .slice va2 (acc.length + 1) vc2, ⟨rfl, rfl, rfl, rfl, rfl, rfl⟩, HQ2.out, ?_, ?_, ?_, drew_rd nd R2.out, ?_, ?_⟩, ?_⟩
        · have := HACC.out; have := HQQ.out; simp; omega
        · rw [HE.out, sE_more HG.out HNN.out, NX.out]
        · rw [HL.out, sL_more HG.out HNN.out, NX.out, HP.out, List.append_assoc]; rfl
        · exact O3.out
        · exact ⟨B2.out.os, B2.out.tape, B2.out.output, B2.out.size, B2.out.block⟩
        · have := HAL.out; have := HACC.out; have := HQ.out
          show s.size + 1 - (acc.length + 1) < s.size + 1 - acc.length
          omega
      · have HNN := mkHid (show nx (fr s q) = [] by rw [NX.out, fr_nil]; have := HE1.out; omega)
        go_wp2
        simp only [Exit.jump]
        go_ret
        have hsl : sL (fr s 0) = acc ++ [⟨c, t, d⟩] := by rw [HL.out, sL_last HG.out HNN.out, HP.out]
        have hm := sL_mem _ (fr s 0) (Nat.le_refl _)
        have hfl := fr_len s 0
        have hs := HS.out
        refine ⟨.inl ⟨by rw [HE.out]; exact sE_last HG.out HNN.out, ?_⟩, ?_⟩
        · have ho := O3.out
          rw [← hsl] at ho
          have ho2 : (w2.drewN nd).ownsRow (b + 1) 56 3 (.slice va2 (acc.length + 1) vc2) (sL (fr s 0)).length (pC (sL (fr s 0))) := ho
          obtain ⟨a, cp, h1, h2, h3⟩ := own_pa ho2 (Nat.le_refl _) (by have := sL_len _ (fr s 0) (Nat.le_refl _); unfold maxLen; omega) (fun p hp => by have := (hm p hp).2; unfold maxLen; omega)
          exact ⟨a, cp, by rw [← h1]; rfl, h2, fun x hx => by have := h3 x hx; rw [HB.out]; omega⟩
        · rw [HB.out]
          exact ⟨B2.out.os, B2.out.tape, B2.out.output, B2.out.size, B2.out.block⟩
    · have HG := mkHid (sE_wrong hg)
      have HGN := mkHid hg
      have B1 := mkHid (HBL.out.trans (a1.belowE b (by omega) (Nat.le_refl _)))
      clear hg a1
      go_wp2
      simp only [Exit.jump]
      refine ⟨rfl, .inr ⟨?_, ?_⟩, by rw [HB.out]; exact B1.out⟩
      · rw [HE.out, HG.out]; exact HGN.out
      · rw [HE.out, HG.out]
end Go.Proofs.YtdhbakknplnnkaaGreat.Rc
namespace Go.Proofs.YtdhbakknplnnkaaGreat.Rc
open Go.RowKit

theorem scatch (p q : Addr) (e : Int) (older : List PanicEntry) (w : World) (v0 v1 : Value) (hc : w.cell? p = some v0) (hz : w.frozen? p = false) (hq : w.cell? q = some v1) (hy : w.frozen? q = false) (hpq : ¬ p.block = q.block) :
    CallsD Tryz.prog 37 #[.pointer (some p), .pointer (some q)] (.panicking ({ v := .iface 27 (.int .i64 e), recovered := false } :: older)) w fun en u' w' =>
      en = .returned (.tuple #[]) ∧ u' = .panicking ({ v := .iface 27 (.int .i64 e), recovered := true } :: older) ∧ w' = (w.setCell p (.slice none 0 0)).setCell q (.int .i64 e) := by
  have hq2 : ∀ u, (w.setCell p u).cell? q = some v1 := fun u => (World.cell?_of_block (w := w) (Below.heap_setCell w p u q.block (fun h => hpq h.symm))).trans hq
  refine callsD_of_wpS Tryz.func37 rfl fun c₀ cs hu => ?_
  have e0 : ({ tmps := #[Value.pointer (some p), Value.pointer (some q)] ++ Array.replicate (Tryz.f37.ntmps - #[Value.pointer (some p), Value.pointer (some q)].size) undef, defers := [] } : Act) = { tmps := #[.pointer (some p), .pointer (some q), undef, undef, undef, undef, undef, undef, undef, undef, undef], defers := [] } := by rw [Tryz.ntmps37]; rfl
  rw [e0]
  apply wpS_seq
  apply wpS_region
  simp [wpOpsS, go_sem, recoverD, hu, Exit.thenS, ta_hit, Oper.upon, Act.put]
  apply wpS_seq
  apply wpS_region
  simp [wpOpsS, go_sem, Exit.thenS, Oper.upon, Act.put]
  refine wpS_cond (t := true) (by simp [Act.eval]) ?_
  simp only [if_true]
  apply wpS_region
  simp [wpOpsS, go_sem, hc, hz, hq2, hy, bodyPostS, results, Tryz.results37]
theorem sidle (p q : Addr) (w : World) :
    CallsD Tryz.prog 37 #[.pointer (some p), .pointer (some q)] .returning w fun en u' w' => en = .returned (.tuple #[]) ∧ u' = .returning ∧ w' = w := by
  refine callsD_of_wpS Tryz.func37 rfl fun c₀ cs hu => ?_
  have e0 : ({ tmps := #[Value.pointer (some p), Value.pointer (some q)] ++ Array.replicate (Tryz.f37.ntmps - #[Value.pointer (some p), Value.pointer (some q)].size) undef, defers := [] } : Act) = { tmps := #[.pointer (some p), .pointer (some q), undef, undef, undef, undef, undef, undef, undef, undef, undef], defers := [] } := by rw [Tryz.ntmps37]; rfl
  rw [e0]
  apply wpS_seq
  apply wpS_region
  simp [wpOpsS, go_sem, recoverD, hu, Exit.thenS, ta_miss, Oper.upon, Act.put]
  apply wpS_seq
  apply wpS_region
  simp [wpOpsS, go_sem, Exit.thenS, Oper.upon, Act.put]
  refine wpS_cond (t := false) (by simp [Act.eval]) ?_
  simp only [Bool.false_eq_true, if_false]
  refine wpS_of_wp (wp_skip ?_)
  cases c₀
  simp_all [bodyPostS, results, Tryz.results37]
theorem res14 {W : World} {b : Nat} {x y : Value} (tmps : Array Value) (h2 : tmps.getD 2 undef = .pointer (some ⟨b, 0, none⟩)) (h3 : tmps.getD 3 undef = .pointer (some ⟨b + 1, 0, none⟩)) (h : Two W b x y 36 27) :
    (results Tryz.f17 tmps).run Tryz.prog W = .ok (.tuple #[x, y]) W := by
  obtain ⟨c0, c1, _, _⟩ := h.cells
  clear h
  have h2' : tmps[2]?.getD undef = .pointer (some ⟨b, 0, none⟩) := by rw [← h2]; simp
  have h3' : tmps[3]?.getD undef = .pointer (some ⟨b + 1, 0, none⟩) := by rw [← h3]; simp
  simp [results, Tryz.results17, h2', h3', c0, c1, go_sem]
/-- What Split answers. -/
def rE (s : ByteArray) : Int := if 65536 < s.size then 2 else sE (fr s 0)
def rL (s : ByteArray) : List Pt := if rE s = 0 then sL (fr s 0) else []
def SplitPost (s : ByteArray) (w : World) (e : Ending) (w' : World) : Prop :=
  (∃ a cap, e = .returned (.tuple #[.slice a (rL s).length cap, .int .i64 (rE s)]) ∧ PA w'.heap.size w' a (rL s)) ∧ Below w.heap.size w w'
theorem pa_nil (B : Nat) (w : World) (a : Option Addr) : PA B w a [] := ⟨Nat.zero_le _, .inl rfl⟩
set_option maxRecDepth 100000 in
theorem split_any (s : ByteArray) (hs : s.size ≤ 1000000) (w : World) : Calls Tryz.prog 17 #[.string s] w (SplitPost s w) := by
  have hmf : ∀ (fn : Fn) (first cap : Array Value) (w : World), (Instr.makeFunc fn first cap).run Tryz.prog w = .ok (.func fn first cap) w := fun _ _ _ _ => rfl
  have TW := mkHid (Two.new w (.slice none 0 0) (.int .i64 0) 36 27)
  have B0 := mkHid (show Below w.heap.size w ((w.alloc (.cells #[.slice none 0 0] 36)).alloc (.cells #[.int .i64 0] 27)) from ((Below.refl _ _).alloc (Nat.le_refl _) _).alloc (by simp) _)
  have Z0 := mkHid (show ((w.alloc (.cells #[.slice none 0 0] 36)).alloc (.cells #[.int .i64 0] 27)).heap.size = w.heap.size + 2 from by simp)
  have RD := mkHid (read_all s hs ((w.alloc (.cells #[.slice none 0 0] 36)).alloc (.cells #[.int .i64 0] 27)))
  obtain ⟨b, HB⟩ : ∃ b, Hid (w.heap.size = b) := ⟨_, rfl⟩
  rw [HB.out] at TW B0 Z0
  have hs1 : (s.size : Int) ≤ 1000000 := by omega
  clear hs
  by_cases hl : 65536 < s.size
  · have HE := mkHid (show rE s = 2 by unfold rE; rw [if_pos hl])
    have HR := mkHid (show rL s = [] by unfold rL; rw [HE.out]; rfl)
    have hl' : (65536 : Int) < s.size := by omega
    clear TW RD
    have TW := mkHid (Two.new w (.slice none 0 0) (.int .i64 2) 36 27)
    rw [HB.out] at TW
    clear hl
    go_enter_defers Tryz.func17, Tryz.ntmps17
    go_wp2
    rw [HB.out]
    refine leaves_cons (f := 37) (args := #[.pointer (some ⟨b, 0, none⟩), .pointer (some ⟨b + 1, 0, none⟩)]) (by simp) (by simp [go_sem]) ?_
    refine (sidle ⟨b, 0, none⟩ ⟨b + 1, 0, none⟩ _).mono ?_
    rintro e u' w'' ⟨rfl, rfl, rfl⟩
    refine ⟨_, res14 _ rfl rfl TW.out, ⟨none, 0, by rw [HE.out, HR.out]; rfl, by rw [HR.out]; exact pa_nil _ _ _⟩, ?_⟩
    exact ((Below.refl _ _).alloc (Nat.le_refl _) _).alloc (by simp) _
  · have HE := mkHid (show rE s = sE (fr s 0) by unfold rE; rw [if_neg hl])
    have hl' : ¬ (65536 : Int) < s.size := by omega
    clear hl
    go_enter_defers Tryz.func17, Tryz.ntmps17
    go_wp2_with fail
    rw [HB.out]
    refine (RD.out).mono ?_
    unfold ReadPost
    rw [Z0.out]
    rintro e w1 ⟨(⟨hE, a, cap, rfl, hp, hpx⟩ | ⟨hE, rfl⟩), hb⟩
    · have T1 := mkHid (TW.out.kept hb (by omega))
      have B1 := mkHid (B0.out.trans (hb.mono (by omega)))
      obtain ⟨c0, c1, f0, f1⟩ := T1.out.cells
      have HR := mkHid (show rL s = sL (fr s 0) by unfold rL; rw [HE.out, if_pos hE])
      have HE0 := mkHid hE
      have HP := mkHid hp
      have HPX := mkHid hpx
      clear hE hp hb hpx
      go_wp2
      refine leaves_cons (f := 37) (args := #[.pointer (some ⟨b, 0, none⟩), .pointer (some ⟨b + 1, 0, none⟩)]) (by simp) (by simp [go_sem]) ?_
      refine (sidle ⟨b, 0, none⟩ ⟨b + 1, 0, none⟩ _).mono ?_
      rintro e u' w'' ⟨rfl, rfl, rfl⟩
      refine ⟨_, res14 _ rfl rfl (T1.out.set _ _), ⟨a, cap, by rw [HE.out, HR.out, HE0.out], ?_⟩, by rw [HB.out]; exact two_below B1.out _ _⟩
      rw [HR.out]
      refine PA.up (PA.apart HP.out (Nat.le_refl _) (X := fun k => k = b ∨ k = b + 1) ?_ (fun x hx e => by have := HPX.out x hx; omega)) (by simp)
      exact Apart.setCell (Apart.setCell (Apart.refl _ w1) (p := ⟨b, 0, none⟩) (fun _ => .inl rfl) _) (p := ⟨b + 1, 0, none⟩) (fun _ => .inr rfl) _
    · have T1 := mkHid (TW.out.kept hb (by omega))
      have B1 := mkHid (B0.out.trans (hb.mono (by omega)))
      obtain ⟨c0, c1, f0, f1⟩ := T1.out.cells
      have HR := mkHid (show rL s = [] by unfold rL; rw [HE.out, if_neg hE])
      clear hE hb
      obtain ⟨x, HX⟩ : ∃ x, Hid (sE (fr s 0) = x) := ⟨_, rfl⟩
      rw [HX.out] at HE ⊢
      go_wp2
      refine leaves_cons (f := 37) (args := #[.pointer (some ⟨b, 0, none⟩), .pointer (some ⟨b + 1, 0, none⟩)]) (by simp) (by simp [go_sem]) ?_
      refine (scatch ⟨b, 0, none⟩ ⟨b + 1, 0, none⟩ x [] _ _ _ c0 f0 c1 f1 (by simp)).mono ?_
      rintro e u' w'' ⟨rfl, rfl, rfl⟩
      refine ⟨_, res14 _ rfl rfl (T1.out.set _ _), ⟨none, 0, by rw [HE.out, HR.out]; rfl, by rw [HR.out]; exact pa_nil _ _ _⟩, by rw [HB.out]; exact two_below B1.out _ _⟩
end Go.Proofs.YtdhbakknplnnkaaGreat.Rc
