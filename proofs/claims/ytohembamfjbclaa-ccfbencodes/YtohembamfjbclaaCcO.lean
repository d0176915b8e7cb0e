/-
  A report that came in: its fields, where its sources and their packets lie.
-/
import Derived.Test.YtohembamfjbclaaCcM
import Derived.ProofKit
import Derived.OpenShut
import Derived.Deep.Slices
namespace Go.Proofs.Ytohembamfjbclaa
open Go.ChangeShapes Go.WideShapes Go.ChangeAt Go.RowKit

theorem co3 : Try.prog.cellsOf 3 = 1 := by kernel_rfl
theorem co4 : Try.prog.cellsOf 4 = 1 := by kernel_rfl
theorem co22 : Try.prog.cellsOf 22 = 1 := by kernel_rfl
theorem co23 : Try.prog.cellsOf 23 = 1 := by kernel_rfl
theorem co42 : Try.prog.cellsOf 42 = 1 := by kernel_rfl
theorem co44 : Try.prog.cellsOf 44 = 3 := by kernel_rfl
theorem co47 : Try.prog.cellsOf 47 = 3 := by kernel_rfl
theorem co25 : Try.prog.cellsOf 25 = 3 := by kernel_rfl
theorem open_ma {H : Type} {enc : TypeId × Value → H} {W : World} {v : Value} {fuel : Nat} {x : DataW H × List MemPlace}
    (h : DataW.trod enc Try.prog W 0 (fun _ => true) true fuel 42 [v] = some x) : ∃ (a : Option Addr) (cap : Nat) (l : List Mt), v = .slice a l.length cap ∧ MA W.heap.size W a l := by
  rcases Go.Deep.open_slice Try.underlying42 h with ⟨hcs, _⟩ | ⟨x, len, c, m, n, D, Pl, hcs, hb, hl, hm, hmm, _, hx⟩
  · simp at hcs
    exact ⟨none, 0, [], hcs, by simp, .inl rfl⟩
  · simp at hcs
    have each : ∀ i, i < len → ∃ q : Bool × Int × Int, W.cell? (x.add (i * 3)) = some (.bool q.1) ∧ W.cell? (x.add (i * 3 + 1)) = some (.int .i64 q.2.1) ∧ W.cell? (x.add (i * 3 + 2)) = some (.int .i64 q.2.2) := by
      intro i hi
      obtain ⟨cs', h1, h2⟩ := hx i (by simp at hmm; omega)
      rw [co47] at h1
      obtain ⟨_, hlen, hcell⟩ := World.cells?_some h1
      obtain ⟨xs, k, hk, hxy, _, hxl, hf⟩ := DataW.trod_struct Try.underlying47 h2
      match xs, hxl, cs', hlen with
      | [y0, y1, y2], _, [v0, v1, v2], _ =>
        have g0 := hf 0 _ rfl
        have g1 := hf 1 _ rfl
        have g2 := hf 2 _ rfl
        simp [co3, co4] at g0 g1 g2
        obtain ⟨z0, e0, _⟩ := DataW.trod_bool Try.underlying4 g0
        obtain ⟨z1, e1, _, _⟩ := DataW.trod_int Try.underlying3 g1
        obtain ⟨z2, e2, _, _⟩ := DataW.trod_int Try.underlying3 g2
        simp at e0 e1 e2
        subst e0 e1 e2
        have c0 := hcell 0 (by omega)
        have c1 := hcell 1 (by omega)
        have c2 := hcell 2 (by omega)
        rw [Go.Deep.add_add] at c0 c1 c2
        exact ⟨(z0, z1, z2), by simpa using c0, by simpa using c1, by simpa using c2⟩
    obtain ⟨q, hq⟩ := Go.Deep.choose_lt each
    refine ⟨some x, c, (List.range len).map fun i => ⟨(q i).1, (q i).2.1, (q i).2.2⟩, by simpa using hcs, by simp; omega, ?_⟩
    by_cases h0 : len = 0
    · left; subst h0; rfl
    · right
      obtain ⟨b, off, spot⟩ := x
      have hspot : spot = none := by simpa [Addr.add] using World.cell?_spot (hq 0 (by omega)).1
      subst hspot
      have key : ∀ i, i < len → MC W b (off + i * 3) ⟨(q i).1, (q i).2.1, (q i).2.2⟩ := by
        intro i hi
        obtain ⟨c0, c1, c2⟩ := hq i hi
        rw [Addr.add_lit] at c0 c1 c2
        exact ⟨c0, by rw [Nat.add_assoc]; exact c1, by rw [Nat.add_assoc]; exact c2⟩
      refine ⟨b, off, rfl, World.block_lt_of_cell? W _ (key 0 (by omega)).1, fun i p hi => ?_⟩
      have hl2 : i < len := by have := (List.getElem?_eq_some_iff.1 hi).1; simpa using this
      rw [List.getElem?_map, List.getElem?_range hl2] at hi
      simp at hi
      subst hi
      exact key i hl2
theorem open_ba {H : Type} {enc : TypeId × Value → H} {W : World} {v : Value} {fuel : Nat} {x : DataW H × List MemPlace}
    (h : DataW.trod enc Try.prog W 0 (fun _ => true) true fuel 23 [v] = some x) : ∃ (a : Option Addr) (cap : Nat) (l : List Bk), v = .slice a l.length cap ∧ BA W.heap.size W a l := by
  rcases Go.Deep.open_slice Try.underlying23 h with ⟨hcs, _⟩ | ⟨x, len, c, m, n, D, Pl, hcs, hb, hl, hm, hmm, _, hx⟩
  · simp at hcs
    exact ⟨none, 0, [], hcs, by simp, .inl rfl⟩
  · simp at hcs
    have each : ∀ i, i < len → ∃ q : Int × Int × List Mt, W.cell? (x.add (i * 3)) = some (.int .u32 q.1) ∧ W.cell? (x.add (i * 3 + 1)) = some (.int .i64 q.2.1) ∧ (∃ ma mc, W.cell? (x.add (i * 3 + 2)) = some (.slice ma q.2.2.length mc) ∧ MA W.heap.size W ma q.2.2) ∧ 0 ≤ q.1 ∧ q.1 < 4294967296 := by
      intro i hi
      obtain ⟨cs', h1, h2⟩ := hx i (by simp at hmm; omega)
      rw [co44] at h1
      obtain ⟨_, hlen, hcell⟩ := World.cells?_some h1
      obtain ⟨xs, k, hk, hxy, _, hxl, hf⟩ := DataW.trod_struct Try.underlying44 h2
      match xs, hxl, cs', hlen with
      | [y0, y1, y2], _, [v0, v1, v2], _ =>
        have g0 := hf 0 _ rfl
        have g1 := hf 1 _ rfl
        have g2 := hf 2 _ rfl
        simp [co3, co22, co42] at g0 g1 g2
        obtain ⟨z0, e0, _, w0⟩ := DataW.trod_int Try.underlying22 g0
        obtain ⟨z1, e1, _, _⟩ := DataW.trod_int Try.underlying3 g1
        obtain ⟨ma, mc, ml, e2, hma⟩ := open_ma g2
        simp at e0 e1
        subst e0 e1 e2
        have bd := bounds_u32 w0
        have c0 := hcell 0 (by omega)
        have c1 := hcell 1 (by omega)
        have c2 := hcell 2 (by omega)
        rw [Go.Deep.add_add] at c0 c1 c2
        exact ⟨(z0, z1, ml), by simpa using c0, by simpa using c1, ⟨ma, mc, by simpa using c2, hma⟩, by simp; omega, by simp; omega⟩
    obtain ⟨q, hq⟩ := Go.Deep.choose_lt each
    refine ⟨some x, c, (List.range len).map fun i => ⟨(q i).1, (q i).2.1, (q i).2.2⟩, by simpa using hcs, by simp; omega, ?_⟩
    by_cases h0 : len = 0
    · left; subst h0; rfl
    · right
      obtain ⟨b, off, spot⟩ := x
      have hspot : spot = none := by simpa [Addr.add] using World.cell?_spot (hq 0 (by omega)).1
      subst hspot
      have key : ∀ i, i < len → KC W.heap.size W b (off + i * 3) ⟨(q i).1, (q i).2.1, (q i).2.2⟩ := by
        intro i hi
        obtain ⟨c0, c1, ⟨ma, mc, c2, hma⟩, r⟩ := hq i hi
        rw [Addr.add_lit] at c0 c1 c2
        exact ⟨c0, by rw [Nat.add_assoc]; exact c1, ⟨ma, mc, by rw [Nat.add_assoc]; exact c2, hma⟩, r⟩
      refine ⟨b, off, rfl, World.block_lt_of_cell? W _ (key 0 (by omega)).1, fun i p hi => ?_⟩
      have hl2 : i < len := by have := (List.getElem?_eq_some_iff.1 hi).1; simpa using this
      rw [List.getElem?_map, List.getElem?_range hl2] at hi
      simp at hi
      subst hi
      exact key i hl2
/-- What is known of a report that came in. -/
structure CIn (W : World) (sd : Int) (a : Option Addr) (l : List Bk) (st : Int) : Prop where
  s0 : 0 ≤ sd
  s1 : sd < 4294967296
  t0 : 0 ≤ st
  t1 : st < 4294967296
  b : BA W.heap.size W a l
theorem open_ccfb {H : Type} {enc : TypeId × Value → H} {W : World} {r : Reach} {b0 : Nat} {v : Value} {d : DataW H} {p : List MemPlace} (hv : Value.okWide Try.prog W r b0 25 v)
    (h : DataW.Trod enc Try.prog W 0 (fun _ => true) true 25 v d p) : ∃ sd a cap l st, v = rv sd a l.length cap st ∧ CIn W sd a l st := by
  obtain ⟨cs, rfl, hsz⟩ := okWide_struct Try.underlying25 hv
  rw [co25] at hsz
  obtain ⟨fuel, hf⟩ := h
  obtain ⟨xs, k, hk, hxy, _, hxl, hf⟩ := DataW.trod_struct Try.underlying25 hf
  obtain ⟨l⟩ := cs
  have hl : l.length = 3 := by simpa using hsz
  match xs, hxl, l, hl with
  | [y0, y1, y2], _, [v0, v1, v2], _ =>
    have g0 := hf 0 _ rfl
    have g1 := hf 1 _ rfl
    have g2 := hf 2 _ rfl
    simp [Value.cells, co22, co23] at g0 g1 g2
    obtain ⟨z0, e0, _, w0⟩ := DataW.trod_int Try.underlying22 g0
    obtain ⟨a, cap, bl, e1, hb⟩ := open_ba g1
    obtain ⟨z2, e2, _, w2⟩ := DataW.trod_int Try.underlying22 g2
    simp at e0 e2
    subst e0 e1 e2
    have b0 := bounds_u32 w0
    have b2 := bounds_u32 w2
    exact ⟨z0, a, cap, bl, z2, rfl, by omega, by omega, by omega, by omega, hb⟩
/-- What a world keeps of a report that came in. -/
structure Ck (w0 w : World) (bx : Nat) (sd : Int) (a : Option Addr) (cap : Nat) (l : List Bk) (st : Int) : Prop where
  k : Apart (fun _ => False) w0 w
  d : Rv w bx sd (.slice a l.length cap) st
  b : BA w.heap.size w a l
theorem apart_below {w w' : World} (h : Below w.heap.size w w') : Apart (fun _ => False) w w' := ⟨h.os, h.tape, h.output, h.size, fun k hk _ => h.block k hk⟩
theorem Ck.next {w0 w w' : World} {bx : Nat} {sd : Int} {a : Option Addr} {cap : Nat} {l : List Bk} {st : Int} (h : Ck w0 w bx sd a cap l st) (hb : Below w.heap.size w w') : Ck w0 w' bx sd a cap l st :=
  ⟨h.k.trans (apart_below hb) (fun _ _ h => h), h.d.kept (apart_below hb) (fun h => h), h.b.on hb⟩
theorem Ck.ap {w0 w w' : World} {bx : Nat} {sd : Int} {a : Option Addr} {cap : Nat} {l : List Bk} {st : Int} (h : Ck w0 w bx sd a cap l st) (hb : Apart (fun _ => False) w w') : Ck w0 w' bx sd a cap l st := h.next hb.belowZ
theorem ck_box {w : World} {sd : Int} {a : Option Addr} {cap : Nat} {l : List Bk} {st : Int} (h : BA w.heap.size w a l) : Ck w (w.alloc (.cells #[.int .u32 sd, .slice a l.length cap, .int .u32 st] 25)) w.heap.size sd a cap l st :=
  ⟨(Apart.refl _ _).alloc _, Rv.new w sd _ st, h.on ((Apart.refl (fun _ => False) w).alloc _).belowZ⟩
theorem ck_new {w0 w : World} {sd : Int} {a : Option Addr} {cap : Nat} {l : List Bk} {st : Int} (h : BA w.heap.size w a l) (ha : Apart (fun _ => False) w0 w) : Ck w0 (w.alloc (.cells #[.int .u32 sd, .slice a l.length cap, .int .u32 st] 25)) w.heap.size sd a cap l st :=
  ⟨ha.alloc _, Rv.new w sd _ st, h.on ((Apart.refl (fun _ => False) w).alloc _).belowZ⟩
/-- A report laid into its box. -/
theorem boxed (w : World) (sd : Int) (v : Value) (st : Int) : ∃ (bx : Nat) (W : World), Hid (w.heap.size = bx) ∧ Hid (w.alloc (.cells #[.int .u32 sd, v, .int .u32 st] 25) = W) := ⟨_, _, rfl, rfl⟩
end Go.Proofs.Ytohembamfjbclaa
