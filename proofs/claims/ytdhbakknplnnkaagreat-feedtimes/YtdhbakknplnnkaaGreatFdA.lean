/-
  What feedback tells, as plain numbers.
-/
import Derived.Test.YtdhbakknplnnkaaGreatCc1
import Derived.Test.YtdhbakknplnnkaaGreatUn1
import Derived.Test.YtdhbakknplnnkaaGreatNk2
namespace Go.Proofs.YtdhbakknplnnkaaGreat.Fd
open Go.RowKit

/-- What is told of a packet. -/
structure Rt where
  q : Int
  g : Bool
  t : Int
  la : Bool
  ec : Bool
/-- Of the first kind: one packet. -/
def r1 (a f : Int) (i : Nat) (m : Cc.Mt) : Rt :=
  if m.g = true then (if 8190 ≤ m.a then ⟨(f + i) % 65536, true, 0, true, m.e == 3⟩ else ⟨(f + i) % 65536, true, wrap64 (a - Un.mdV m.a 1000000 1024 1), false, m.e == 3⟩) else ⟨(f + i) % 65536, false, 0, false, false⟩
def r1L (a f : Int) : Nat → List Cc.Mt → List Rt
  | _, [] => []
  | i, m :: t => r1 a f i m :: r1L a f (i + 1) t
def firstL (a : Int) (l : List Cc.Bk) : List Rt := l.flatMap fun k => r1L a k.f 0 k.m
/-- Of the second kind, from packet i and time a on. -/
def secL (f : Int) : Int → Nat → List Int → List Int → List Rt
  | _, _, [], _ => []
  | a, i, s :: st, ds => if 0 < s then (match ds with
    | d :: dr => ⟨(f + i) % 65536, true, wrap64 (a + wrap64 (250 * d)), false, false⟩ :: secL f (wrap64 (a + wrap64 (250 * d))) (i + 1) st dr
    | [] => []) else ⟨(f + i) % 65536, false, 0, false, false⟩ :: secL f a (i + 1) st ds
/-- Are there as many deltas as packets that were got? -/
def fits : List Int → List Int → Bool
  | [], _ => true
  | s :: st, ds => if 0 < s then (match ds with
    | _ :: dr => fits st dr
    | [] => false) else fits st ds
theorem secL_len (f : Int) (st : List Int) : ∀ (a : Int) (i : Nat) (ds : List Int), fits st ds = true → (secL f a i st ds).length = st.length := by
  induction st with
  | nil => intro a i ds _; rfl
  | cons s st ih =>
    intro a i ds h
    unfold fits at h
    unfold secL
    by_cases hs : 0 < s
    · rw [if_pos hs] at h ⊢
      cases ds with
      | nil => cases h
      | cons d dr => simp [ih _ _ dr h]
    · rw [if_neg hs] at h ⊢
      simp [ih _ _ ds h]
theorem secL_no {f a : Int} {i : Nat} {s : Int} {st ds : List Int} (h : ¬ 0 < s) : secL f a i (s :: st) ds = ⟨(f + i) % 65536, false, 0, false, false⟩ :: secL f a (i + 1) st ds := by
  conv => lhs; unfold secL
  rw [if_neg h]
theorem secL_yes {f a : Int} {i : Nat} {s d : Int} {st dr : List Int} (h : 0 < s) : secL f a i (s :: st) (d :: dr) = ⟨(f + i) % 65536, true, wrap64 (a + wrap64 (250 * d)), false, false⟩ :: secL f (wrap64 (a + wrap64 (250 * d))) (i + 1) st dr := by
  conv => lhs; unfold secL
  rw [if_pos h]
theorem fits_no {s : Int} {st ds : List Int} (h : ¬ 0 < s) : fits (s :: st) ds = fits st ds := by
  conv => lhs; unfold fits
  rw [if_neg h]
theorem fits_yes {s d : Int} {st dr : List Int} (h : 0 < s) : fits (s :: st) (d :: dr) = fits st dr := by
  conv => lhs; unfold fits
  rw [if_pos h]
theorem fits_none {s : Int} {st : List Int} (h : 0 < s) : fits (s :: st) [] = false := by
  conv => lhs; unfold fits
  rw [if_pos h]
/-- Reports as cells. -/
def rC : List Rt → List Value
  | [] => []
  | r :: l => .int .i64 r.q :: .bool r.g :: .int .i64 r.t :: .bool r.la :: .bool r.ec :: rC l
@[simp] theorem rC_len (l : List Rt) : (rC l).length = l.length * 5 := by induction l with | nil => rfl | cons p l ih => simp [rC, ih]; omega
theorem rC_app (l k : List Rt) : rC (l ++ k) = rC l ++ rC k := by induction l with | nil => rfl | cons p l ih => simp [rC, ih]
theorem rC_one (l : List Rt) : ∀ u ∈ rC l, u.oneCell' = true := by
  induction l with
  | nil => intro u hu; cases hu
  | cons r l ih =>
    intro u hu
    simp only [rC, List.mem_cons] at hu
    rcases hu with rfl | rfl | rfl | rfl | rfl | hu
    · rfl
    · rfl
    · rfl
    · rfl
    · rfl
    · exact ih u hu
end Go.Proofs.YtdhbakknplnnkaaGreat.Fd
namespace Go.Proofs.YtdhbakknplnnkaaGreat.Fd
open Go.RowKit Go.Proofs.YtdhbakknplnnkaaGreat.Nk

theorem info46 : (Tryz.prog.info? 58).map (fun i => (i.zero, i.size, i.bytes)) = some (some (.agg #[.int .i64 0, .bool false, .int .i64 0, .bool false, .bool false]), 5, 32) := by kernel_rfl
theorem info46' : ∃ i, Tryz.prog.info? 58 = some i ∧ i.zero = some (.agg #[.int .i64 0, .bool false, .int .i64 0, .bool false, .bool false]) ∧ i.size = 5 ∧ i.bytes = 32 := by
  obtain ⟨i, hi, hh⟩ := Option.map_eq_some_iff.1 info46
  simp only [Prod.mk.injEq] at hh
  exact ⟨i, hi, hh.1, hh.2.1, hh.2.2⟩
/-- A row of reports of one's own. -/
def OR (B : Nat) (w : World) (v : Value) (l : List Rt) : Prop := w.ownsRow B 58 5 v l.length (rC l)
theorem OR.below {B : Nat} {w w' : World} {v : Value} {l : List Rt} (h : OR B w v l) (hb : Below w.heap.size w w') : OR B w' v l := ownsRow_below h hb (fun k hk => (h.lt k hk).2)
theorem OR.nil (B : Nat) (w : World) : OR B w (.slice none 0 0) [] := World.ownsRow_nil _ _ _ _
theorem OR.grown {B : Nat} {w' : World} {v' : Value} {n : Nat} {l : List Rt} {r : Rt} (ho : w'.ownsRow B 58 5 v' (n + 1) (rC l ++ [.int .i64 r.q, .bool r.g, .int .i64 r.t, .bool r.la, .bool r.ec])) (hn : n = l.length) : OR B w' v' (l ++ [r]) := by
  subst hn
  unfold OR
  rw [rC_app, List.length_append]
  exact ho
/-- What a row of one's own that grows by one leaves as it was. -/
theorem or_below {B : Nat} {w w' : World} {v : Value} {l : List Rt} {o : Obj} (h : OR B w v l) (hB : B ≤ w.heap.size) (hg : (w.alloc o).grownBy w' v.ownBlock) : Below B w w' :=
  ((Below.refl B w).alloc hB o).trans ⟨hg.os, hg.tape, hg.output, hg.size, fun k hk => hg.block k (by simp; omega) (fun e => by have := (h.lt k e.symm).1; omega)⟩
theorem cell_five_new (w : World) (x y z u v : Value) (t : TypeId) : ∀ j q, [x, y, z, u, v][j]? = some q → (w.alloc (.cells #[x, y, z, u, v] t)).cell? ((⟨w.heap.size, 0, none⟩ : Addr).add j) = some q := by
  intro j q hj
  rw [Addr.add_lit, Nat.zero_add, cell_of_row _ w.heap.size j _ t _ (heap_alloc_new w _)]
  simpa using hj
/-- A report in block bx. -/
def Ed (w : World) (bx : Nat) (r : Rt) : Prop := w.heap[bx]? = some (.cells #[.int .i64 r.q, .bool r.g, .int .i64 r.t, .bool r.la, .bool r.ec] 58 (0, 0))
section
variable {w w' : World} {bx : Nat} {r : Rt}
theorem Ed.kept {X : Nat → Prop} (h : Ed w bx r) (ha : Apart X w w') (hx : ¬ X bx) : Ed w' bx r := ha.heap h hx
theorem Ed.c (h : Ed w bx r) : w.cell? ⟨bx, 0, none⟩ = some (.int .i64 r.q) ∧ w.cell? ⟨bx, 1, none⟩ = some (.bool r.g) ∧ w.cell? ⟨bx, 2, none⟩ = some (.int .i64 r.t) ∧ w.cell? ⟨bx, 3, none⟩ = some (.bool r.la) ∧ w.cell? ⟨bx, 4, none⟩ = some (.bool r.ec) :=
  ⟨cell_of_row w bx 0 _ 58 _ h, cell_of_row w bx 1 _ 58 _ h, cell_of_row w bx 2 _ 58 _ h, cell_of_row w bx 3 _ 58 _ h, cell_of_row w bx 4 _ 58 _ h⟩
theorem Ed.f (h : Ed w bx r) : w.frozen? ⟨bx, 0, none⟩ = false ∧ w.frozen? ⟨bx, 1, none⟩ = false ∧ w.frozen? ⟨bx, 2, none⟩ = false ∧ w.frozen? ⟨bx, 3, none⟩ = false ∧ w.frozen? ⟨bx, 4, none⟩ = false :=
  ⟨frozen_of_row w bx 0 _ 58 h, frozen_of_row w bx 1 _ 58 h, frozen_of_row w bx 2 _ 58 h, frozen_of_row w bx 3 _ 58 h, frozen_of_row w bx 4 _ 58 h⟩
theorem Ed.set1 (h : Ed w bx r) (x : Bool) : Ed (w.setCell ⟨bx, 1, none⟩ (.bool x)) bx ⟨r.q, x, r.t, r.la, r.ec⟩ := by unfold Ed; rw [heap_setCell_same _ bx 1 _ 58 _ h]; rfl
theorem Ed.set2 (h : Ed w bx r) (x : Int) : Ed (w.setCell ⟨bx, 2, none⟩ (.int .i64 x)) bx ⟨r.q, r.g, x, r.la, r.ec⟩ := by unfold Ed; rw [heap_setCell_same _ bx 2 _ 58 _ h]; rfl
theorem Ed.set3 (h : Ed w bx r) (x : Bool) : Ed (w.setCell ⟨bx, 3, none⟩ (.bool x)) bx ⟨r.q, r.g, r.t, x, r.ec⟩ := by unfold Ed; rw [heap_setCell_same _ bx 3 _ 58 _ h]; rfl
theorem Ed.set4 (h : Ed w bx r) (x : Bool) : Ed (w.setCell ⟨bx, 4, none⟩ (.bool x)) bx ⟨r.q, r.g, r.t, r.la, x⟩ := by unfold Ed; rw [heap_setCell_same _ bx 4 _ 58 _ h]; rfl
theorem Ed.box (w : World) (r : Rt) : Ed (w.alloc (.cells #[.int .i64 r.q, .bool r.g, .int .i64 r.t, .bool r.la, .bool r.ec] 58)) w.heap.size r := heap_alloc_new _ _
end
end Go.Proofs.YtdhbakknplnnkaaGreat.Fd
