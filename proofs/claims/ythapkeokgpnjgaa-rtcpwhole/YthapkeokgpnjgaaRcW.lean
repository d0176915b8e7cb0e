/-
  What the function that writes a part does.
-/
import Derived.Test.YthapkeokgpnjgaaRcM
namespace Go.Proofs.Ythapkeokgpnjgaa
open Go.RowKit

theorem put_fit (b : Nat) (v : Value) (l : List Bool) (x n : Int) (X m : Nat) (eX : x = X) (e : n = m) (x1 : X < 4294967296) (hm : m ≤ 32) (hl : l.length + m ≤ 524288) (w : World) (h : Wr 59 w b v l) :
    Calls Try.prog 29 #[.pointer (some ⟨b, 0, none⟩), .int .u32 x, .int .i64 n] w fun e w' => e = .returned (.tuple #[]) ∧ ∃ v', Wr 59 w' b v' (l ++ bitsOf X m) ∧ Tch b v v' w w' := by
  subst e eX
  have := put_any b v l X m (by omega) (by omega) w h
  unfold putS at this
  rw [if_pos (by omega)] at this
  exact this
/-- A block that is none of a writer's. -/
structure Bx (o : Obj) (w : World) (bx b : Nat) (v : Value) : Prop where
  heap : w.heap[bx]? = some o
  ne : bx ≠ b
  own : v.ownBlock ≠ some bx
theorem Bx.next {o : Obj} {w w' : World} {bx b : Nat} {v v' : Value} (h : Bx o w bx b v) (t : Tch b v v' w w') : Bx o w' bx b v' := by
  refine ⟨t.ap.heap h.heap ?_, h.ne, fun e => ?_⟩
  · rintro (e | e)
    · exact h.ne e
    · exact h.own e
  · rcases t.own bx e with e | e
    · exact h.own e
    · have := lt_of_heap h.heap; omega
theorem Bx.new {w : World} {b : Nat} {v : Value} {T : TypeId} {l : List Bool} (h : Wr T w b v l) (o : Obj) : Bx o (w.alloc o) w.heap.size b v :=
  ⟨heap_alloc_new _ _, by have := h.lt; omega, fun e => by have := h.ownlt _ e; omega⟩
theorem wr_alloc {T : TypeId} {w : World} {b : Nat} {v : Value} {l : List Bool} (h : Wr T w b v l) (o : Obj) : Wr T (w.alloc o) b v l := h.kept ((Apart.refl (fun _ => False) w).alloc o) (fun h => h) (fun _ _ h => h)
theorem tch_alloc (b : Nat) (v : Value) (w : World) (o : Obj) : Tch b v v w (w.alloc o) := ⟨(Apart.refl _ w).alloc o, fun _ h => .inl h⟩

/-- A byte of a text. -/
def byt (s : ByteArray) (k : Nat) : Nat := (s.data.toList.getD k 0).toNat
theorem byt_lt (s : ByteArray) (k : Nat) : byt s k < 256 := (s.data.toList.getD k 0).toNat_lt
theorem byt_get (s : ByteArray) (k : Nat) (h : k < s.size) : s[k].toNat = byt s k := by
  unfold byt
  rw [List.getD_eq_getElem?_getD, List.getElem?_eq_getElem (by simpa using h)]
  rfl
/-- The bits of the first k bytes of a text. -/
def txtB (s : ByteArray) : Nat → List Bool
  | 0 => []
  | k + 1 => txtB s k ++ bitsOf (byt s k) 8
@[simp] theorem txtB_len (s : ByteArray) (k : Nat) : (txtB s k).length = 8 * k := by induction k with | zero => rfl | succ k ih => simp [txtB, ih]; omega
/-- The bits of a part, but for its body. -/
def hB (c t n : Nat) : List Bool := bitsOf 2 2 ++ bitsOf 0 1 ++ bitsOf c 5 ++ bitsOf t 8 ++ bitsOf (n / 4) 16
@[simp] theorem hB_len (c t n : Nat) : (hB c t n).length = 32 := by simp [hB]
def pB (p : Pt) : List Bool := hB p.c.toNat p.t.toNat p.d.size ++ txtB p.d p.d.size
@[simp] theorem pB_len (p : Pt) : (pB p).length = 8 * (4 + p.d.size) := by simp [pB]; omega

set_option maxRecDepth 100000 in
set_option maxHeartbeats 1000000 in
theorem putpart_any (b : Nat) (v : Value) (l : List Bool) (p : Pt) (hok : p.ok = true) (hl : l.length + 8 * (4 + p.d.size) ≤ 524288) (w : World) (h : Wr 59 w b v l) :
    Calls Try.prog 24 #[.pointer (some ⟨b, 0, none⟩), pv p] w fun e w' => e = .returned (.tuple #[]) ∧ ∃ v', Wr 59 w' b v' (l ++ pB p) ∧ Tch b v v' w w' := by
  obtain ⟨o0, o1, o2, o3, o4, o5⟩ := Pt.ok_iff.1 hok
  obtain ⟨pc, pt, d⟩ := p
  simp only at *
  obtain ⟨c, rfl⟩ : ∃ c : Nat, pc = c := ⟨pc.toNat, by omega⟩
  obtain ⟨t, rfl⟩ : ∃ t : Nat, pt = t := ⟨pt.toNat, by omega⟩
  unfold pv pB
  simp only [Int.toNat_natCast]
  obtain ⟨L, HL⟩ : ∃ L, Hid (l ++ (hB c t d.size ++ txtB d d.size) = L) := ⟨_, rfl⟩
  have HH := mkHid (show l ++ bitsOf 2 2 ++ bitsOf 0 1 ++ bitsOf c 5 ++ bitsOf t 8 ++ bitsOf (d.size / 4) 16 = l ++ hB c t d.size from by simp [hB])
  have LL := mkHid hl
  rw [HL.out]
  obtain ⟨bx, HBX⟩ : ∃ bx, Hid (w.heap.size = bx) := ⟨_, rfl⟩
  have W0 := mkHid (wr_alloc h (.cells #[.int .i64 c, .int .i64 t, .string d] 40))
  have X0 := mkHid (Bx.new h (.cells #[.int .i64 c, .int .i64 t, .string d] 40))
  have T0 := mkHid (tch_alloc b v w (.cells #[.int .i64 c, .int .i64 t, .string d] 40))
  rw [HBX.out] at X0
  have hdz : (d.size : Int) ≤ 262140 := by omega
  obtain ⟨z, hz⟩ : ∃ z : Nat, (d.size : Int) / 4 = z := ⟨d.size / 4, by omega⟩
  have hz2 : (z : Int) < 65536 := by omega
  have HZ := mkHid hz
  clear hok h o4 o5 hl
  go_enter Try.func24, Try.ntmps24
  go_wp2_with fail
  rw [HBX.out]
  refine (put_fit b v _ _ _ 2 2 rfl rfl (by omega) (by omega) (by have := LL.out; omega) _ W0.out).mono ?_
  rintro e w1 ⟨rfl, v1, h1, t1⟩
  have W1 := mkHid h1
  have T1 := mkHid (T0.out.trans t1)
  have X1 := mkHid (X0.out.next t1)
  clear h1 t1 W0 T0 X0
  go_wp2_with fail
  refine (put_fit b v1 _ _ _ 0 1 rfl rfl (by omega) (by omega) (by have := LL.out; simp; omega) _ W1.out).mono ?_
  rintro e w2 ⟨rfl, v2, h1, t1⟩
  have W2 := mkHid h1
  have T2 := mkHid (T1.out.trans t1)
  have X2 := mkHid (X1.out.next t1)
  clear h1 t1 W1 T1 X1
  obtain ⟨c0, c1, c2, f0⟩ := cells3 X2.out.heap
  go_wp2_with fail
  refine (put_fit b v2 _ _ _ c 5 rfl rfl (by omega) (by omega) (by have := LL.out; simp; omega) _ W2.out).mono ?_
  rintro e w3 ⟨rfl, v3, h1, t1⟩
  have W3 := mkHid h1
  have T3 := mkHid (T2.out.trans t1)
  have X3 := mkHid (X2.out.next t1)
  clear h1 t1 W2 T2 X2 c0 c1 c2 f0
  obtain ⟨c0, c1, c2, f0⟩ := cells3 X3.out.heap
  go_wp2_with fail
  refine (put_fit b v3 _ _ _ t 8 rfl rfl (by omega) (by omega) (by have := LL.out; simp; omega) _ W3.out).mono ?_
  rintro e w4 ⟨rfl, v4, h1, t1⟩
  have W4 := mkHid h1
  have T4 := mkHid (T3.out.trans t1)
  have X4 := mkHid (X3.out.next t1)
  clear h1 t1 W3 T3 X3 c0 c1 c2 f0
  obtain ⟨c0, c1, c2, f0⟩ := cells3 X4.out.heap
  go_wp2_with fail
  refine (put_fit b v4 _ _ _ (d.size / 4) 16 (by have := HZ.out; omega) rfl (by omega) (by omega) (by have := LL.out; simp; omega) _ W4.out).mono ?_
  rintro e w5 ⟨rfl, v5, h1, t1⟩
  rw [HH.out] at h1
  have W5 := mkHid h1
  have T5 := mkHid (T4.out.trans t1)
  have X5 := mkHid (X4.out.next t1)
  clear h1 t1 W4 T4 X4 c0 c1 c2 f0
  obtain ⟨c0, c1, c2, f0⟩ := cells3 X5.out.heap
  go_wp2
  go_loopw [29] (fun i wr => ∃ (k : Nat) (vc : Value), k ≤ d.size ∧ i = .int .i64 (k : Int) ∧ Wr 59 wr b vc (l ++ hB c t d.size ++ txtB d k) ∧ Tch b v vc w wr ∧ Bx (.cells #[.int .i64 c, .int .i64 t, .string d] 40) wr bx b vc) (fun i _ => d.size - (intOf i).toNat)
  case atStart => exact ⟨0, v5, Nat.zero_le _, rfl, by simpa [txtB] using W5.out, T5.out, X5.out⟩
  case round =>
    obtain ⟨k, vc, hk, rfl, hw, ht, hx⟩ := hrel
    have HW := mkHid hw
    have HT := mkHid ht
    have HX := mkHid hx
    clear hw ht c0 c1 c2 f0
    obtain ⟨c0, c1, c2, f0⟩ := cells3 hx.heap
    clear hx
    by_cases hlt : k < d.size
    · have hb := byt_get d k hlt
      have hbl := byt_lt d k
      rw [← hb] at hbl
      have HB := mkHid hb
      clear hb
      go_wp2_with fail
      refine (put_fit b vc _ _ _ d[k].toNat 8 (by omega) rfl (by omega) (by omega) (by have := LL.out; simp; omega) _ HW.out).mono ?_
      rintro e w6 ⟨rfl, v6, h3, t3⟩
      have H3 := mkHid h3
      have T6 := mkHid (HT.out.trans t3)
      have X6 := mkHid (HX.out.next t3)
      clear h3 t3
      go_wp2
      go_roundw
      case rel =>
        refine ⟨k + 1, v6, by omega, by go_num, ?_, T6.out, X6.out⟩
        have := H3.out
        rw [HB.out, List.append_assoc] at this
        exact this
      case measure => simp [intOf]; omega
    · obtain rfl : k = d.size := by omega
      go_wp2
      go_returns
      refine ⟨rfl, vc, ?_, HT.out⟩
      rw [← HL.out, ← List.append_assoc]
      exact HW.out
end Go.Proofs.Ythapkeokgpnjgaa
