/-
  Lists of reports, and of steps, that came in: where they lie.
-/
import Derived.Test.YtdojphkibgfomaaHiE
import Derived.ProofKit
import Derived.OpenShut
import Derived.Deep.Slices
namespace Go.Proofs.Ytdojphkibgfomaa
open Go.ChangeShapes Go.WideShapes Go.ChangeAt Go.RowKit

theorem co2 : Try.prog.cellsOf 2 = 1 := by kernel_rfl
theorem co3 : Try.prog.cellsOf 3 = 1 := by kernel_rfl
theorem co4 : Try.prog.cellsOf 4 = 1 := by kernel_rfl
theorem coR : Try.prog.cellsOf 62 = 5 := by kernel_rfl
theorem coL : Try.prog.cellsOf 30 = 1 := by kernel_rfl
theorem coS : Try.prog.cellsOf 32 = 4 := by kernel_rfl
set_option maxRecDepth 100000 in
theorem open_ra {H : Type} {enc : TypeId × Value → H} {W : World} {v : Value} {fuel : Nat} {x : DataW H × List MemPlace}
    (h : DataW.trod enc Try.prog W 0 (fun _ => true) true fuel 30 [v] = some x) : ∃ (a : Option Addr) (cap : Nat) (l : List Rp), v = .slice a l.length cap ∧ l.length ≤ maxLen ∧ RA (· < W.heap.size) W a l := by
  rcases Go.Deep.open_slice Try.underlying30 h with ⟨hcs, _⟩ | ⟨x, len, c, m, n, D, Pl, hcs, hb, hl, hm, hmm, _, hx⟩
  · simp at hcs
    exact ⟨none, 0, [], hcs, by unfold maxLen; simp, .inl rfl⟩
  · simp at hcs
    have each : ∀ i, i < len → ∃ q : Rp, W.cell? (x.add (i * 5)) = some (.int .i64 q.q) ∧ W.cell? (x.add (i * 5 + 1)) = some (.bool q.g) ∧ W.cell? (x.add (i * 5 + 2)) = some (.int .i64 q.t) ∧ W.cell? (x.add (i * 5 + 3)) = some (.bool q.la) ∧ W.cell? (x.add (i * 5 + 4)) = some (.bool q.ec) := by
      intro i hi
      obtain ⟨cs', h1, h2⟩ := hx i (by simp at hmm; omega)
      rw [coR] at h1
      obtain ⟨_, hlen, hcell⟩ := World.cells?_some h1
      obtain ⟨xs, k, hk, hxy, _, hxl, hf⟩ := DataW.trod_struct Try.underlying62 h2
      match xs, hxl, cs', hlen with
      | [y0, y1, y2, y3, y4], _, [v0, v1, v2, v3, v4], _ =>
        have g0 := hf 0 _ rfl
        have g1 := hf 1 _ rfl
        have g2 := hf 2 _ rfl
        have g3 := hf 3 _ rfl
        have g4 := hf 4 _ rfl
        simp [co2, co3, co4] at g0 g1 g2 g3 g4
        obtain ⟨z0, e0, _, _⟩ := DataW.trod_int Try.underlying3 g0
        obtain ⟨z1, e1, _⟩ := DataW.trod_bool Try.underlying4 g1
        obtain ⟨z2, e2, _, _⟩ := DataW.trod_int Try.underlying2 g2
        obtain ⟨z3, e3, _⟩ := DataW.trod_bool Try.underlying4 g3
        obtain ⟨z4, e4, _⟩ := DataW.trod_bool Try.underlying4 g4
        simp at e0 e1 e2 e3 e4
        subst e0 e1 e2 e3 e4
        have c0 := hcell 0 (by omega)
        have c1 := hcell 1 (by omega)
        have c2 := hcell 2 (by omega)
        have c3 := hcell 3 (by omega)
        have c4 := hcell 4 (by omega)
        rw [Go.Deep.add_add] at c0 c1 c2 c3 c4
        exact ⟨⟨z0, z1, z2, z3, z4⟩, by simpa using c0, by simpa using c1, by simpa using c2, by simpa using c3, by simpa using c4⟩
    obtain ⟨q, hq⟩ : ∃ q : Nat → Rp, ∀ i, i < len → W.cell? (x.add (i * 5)) = some (.int .i64 (q i).q) ∧ W.cell? (x.add (i * 5 + 1)) = some (.bool (q i).g) ∧ W.cell? (x.add (i * 5 + 2)) = some (.int .i64 (q i).t) ∧ W.cell? (x.add (i * 5 + 3)) = some (.bool (q i).la) ∧ W.cell? (x.add (i * 5 + 4)) = some (.bool (q i).ec) := by
      have each' : ∀ i, i < len → ∃ q : Int × Bool × Int × Bool × Bool, W.cell? (x.add (i * 5)) = some (.int .i64 q.1) ∧ W.cell? (x.add (i * 5 + 1)) = some (.bool q.2.1) ∧ W.cell? (x.add (i * 5 + 2)) = some (.int .i64 q.2.2.1) ∧ W.cell? (x.add (i * 5 + 3)) = some (.bool q.2.2.2.1) ∧ W.cell? (x.add (i * 5 + 4)) = some (.bool q.2.2.2.2) := fun i hi => by
        obtain ⟨q, hq⟩ := each i hi
        exact ⟨(q.q, q.g, q.t, q.la, q.ec), hq⟩
      obtain ⟨q, hq⟩ := Go.Deep.choose_lt each'
      exact ⟨fun i => ⟨(q i).1, (q i).2.1, (q i).2.2.1, (q i).2.2.2.1, (q i).2.2.2.2⟩, hq⟩
    refine ⟨some x, c, (List.range len).map q, by simpa using hcs, by simp; omega, ?_⟩
    by_cases h0 : len = 0
    · left; subst h0; rfl
    · right
      obtain ⟨b, off, spot⟩ := x
      have hspot : spot = none := by simpa [Addr.add] using World.cell?_spot (hq 0 (by omega)).1
      subst hspot
      have key : ∀ i, i < len → RC W b (off + i * 5) (q i) := by
        intro i hi
        obtain ⟨c0, c1, c2, c3, c4⟩ := hq i hi
        rw [Addr.add_lit] at c0 c1 c2 c3 c4
        exact ⟨c0, by rw [Nat.add_assoc]; exact c1, by rw [Nat.add_assoc]; exact c2, by rw [Nat.add_assoc]; exact c3, by rw [Nat.add_assoc]; exact c4⟩
      refine ⟨b, off, rfl, World.block_lt_of_cell? W _ (key 0 (by omega)).1, fun i p hi => ?_⟩
      have hl2 : i < len := by have := (List.getElem?_eq_some_iff.1 hi).1; simpa using this
      rw [List.getElem?_map, List.getElem?_range hl2] at hi
      simp at hi
      subst hi
      exact key i hl2
/-- A step: what is called, a size, a time, reports. -/
structure St where
  k : Int
  z : Int
  t : Int
  l : List Rp
def SC (W : World) (b o : Nat) (s : St) : Prop := W.cell? ⟨b, o, none⟩ = some (.int .i64 s.k) ∧ W.cell? ⟨b, o + 1, none⟩ = some (.int .i64 s.z) ∧ W.cell? ⟨b, o + 2, none⟩ = some (.int .i64 s.t) ∧
  (∃ ra rc, W.cell? ⟨b, o + 3, none⟩ = some (.slice ra s.l.length rc) ∧ s.l.length ≤ maxLen ∧ RA (· < W.heap.size) W ra s.l) ∧ -9223372036854775808 ≤ s.z ∧ s.z ≤ 9223372036854775807 ∧ -9223372036854775808 ≤ s.t ∧ s.t ≤ 9223372036854775807
/-- Steps that came in. -/
def SA (W : World) (a : Option Addr) (l : List St) : Prop := l.length ≤ maxLen ∧ (l = [] ∨ ∃ b off, a = some ⟨b, off, none⟩ ∧ b < W.heap.size ∧ ∀ i s, l[i]? = some s → SC W b (off + i * 4) s)
theorem SA.at {W : World} {a : Option Addr} {l : List St} (h : SA W a l) (i : Nat) (hi : i < l.length) : ∃ b off s, a = some ⟨b, off, none⟩ ∧ b < W.heap.size ∧ l[i]? = some s ∧ SC W b (off + i * 4) s := by
  rcases h.2 with h0 | ⟨b, off, ha, hl, hc⟩
  · subst h0; simp at hi
  · exact ⟨b, off, l[i], ha, hl, List.getElem?_eq_getElem hi, hc i _ (List.getElem?_eq_getElem hi)⟩
set_option maxRecDepth 100000 in
theorem open_steps {H : Type} {enc : TypeId × Value → H} {W : World} {a : Option Addr} {len cap : Nat} {d : DataW H} {p : List MemPlace}
    (h : DataW.Trod enc Try.prog W 0 (fun _ => true) true 22 (.slice a len cap) d p) : ∃ l : List St, l.length = len ∧ SA W a l := by
  obtain ⟨fuel, hf⟩ := h
  rcases Go.Deep.open_slice Try.underlying22 hf with ⟨hcs, _⟩ | ⟨x, l, c, m, n, D, Pl, hcs, hb, hl, hm, hmm, _, hx⟩
  · simp [Value.cells] at hcs
    obtain ⟨rfl, rfl, rfl⟩ := hcs
    exact ⟨[], rfl, by unfold maxLen; simp, .inl rfl⟩
  · simp [Value.cells] at hcs
    obtain ⟨rfl, rfl, rfl⟩ := hcs
    have each : ∀ i, i < len → ∃ q : Int × Int × Int × List Rp, W.cell? (x.add (i * 4)) = some (.int .i64 q.1) ∧ W.cell? (x.add (i * 4 + 1)) = some (.int .i64 q.2.1) ∧ W.cell? (x.add (i * 4 + 2)) = some (.int .i64 q.2.2.1) ∧
        (∃ ra rc, W.cell? (x.add (i * 4 + 3)) = some (.slice ra q.2.2.2.length rc) ∧ q.2.2.2.length ≤ maxLen ∧ RA (· < W.heap.size) W ra q.2.2.2) ∧ -9223372036854775808 ≤ q.2.1 ∧ q.2.1 ≤ 9223372036854775807 ∧ -9223372036854775808 ≤ q.2.2.1 ∧ q.2.2.1 ≤ 9223372036854775807 := by
      intro i hi
      obtain ⟨cs', h1, h2⟩ := hx i (by simp at hmm; omega)
      rw [coS] at h1
      obtain ⟨_, hlen, hcell⟩ := World.cells?_some h1
      obtain ⟨xs, k, hk, hxy, _, hxl, hf⟩ := DataW.trod_struct Try.underlying32 h2
      match xs, hxl, cs', hlen with
      | [y0, y1, y2, y3], _, [v0, v1, v2, v3], _ =>
        have g0 := hf 0 _ rfl
        have g1 := hf 1 _ rfl
        have g2 := hf 2 _ rfl
        have g3 := hf 3 _ rfl
        simp [co2, co3, coL] at g0 g1 g2 g3
        obtain ⟨z0, e0, _, _⟩ := DataW.trod_int Try.underlying3 g0
        obtain ⟨z1, e1, _, wf1⟩ := DataW.trod_int Try.underlying3 g1
        obtain ⟨z2, e2, _, wf2⟩ := DataW.trod_int Try.underlying2 g2
        obtain ⟨ra, rc, rl, e3, hrl, hra⟩ := open_ra g3
        simp at e0 e1 e2
        subst e0 e1 e2 e3
        have b1 := bounds_i64 wf1
        have b2 := bounds_i64 wf2
        have c0 := hcell 0 (by omega)
        have c1 := hcell 1 (by omega)
        have c2 := hcell 2 (by omega)
        have c3 := hcell 3 (by omega)
        rw [Go.Deep.add_add] at c0 c1 c2 c3
        exact ⟨(z0, z1, z2, rl), by simpa using c0, by simpa using c1, by simpa using c2, ⟨ra, rc, by simpa using c3, hrl, hra⟩, b1.1, b1.2, b2.1, b2.2⟩
    obtain ⟨q, hq⟩ := Go.Deep.choose_lt each
    refine ⟨(List.range len).map fun i => ⟨(q i).1, (q i).2.1, (q i).2.2.1, (q i).2.2.2⟩, by simp, by simp; omega, ?_⟩
    by_cases h0 : len = 0
    · left; subst h0; rfl
    · right
      obtain ⟨b, off, spot⟩ := x
      have hspot : spot = none := by simpa [Addr.add] using World.cell?_spot (hq 0 (by omega)).1
      subst hspot
      have key : ∀ i, i < len → SC W b (off + i * 4) ⟨(q i).1, (q i).2.1, (q i).2.2.1, (q i).2.2.2⟩ := by
        intro i hi
        obtain ⟨c0, c1, c2, ⟨ra, rc, c3, hrl, hra⟩, r⟩ := hq i hi
        rw [Addr.add_lit] at c0 c1 c2 c3
        exact ⟨c0, by rw [Nat.add_assoc]; exact c1, by rw [Nat.add_assoc]; exact c2, ⟨ra, rc, by rw [Nat.add_assoc]; exact c3, hrl, hra⟩, r⟩
      refine ⟨b, off, rfl, World.block_lt_of_cell? W _ (key 0 (by omega)).1, fun i p hi => ?_⟩
      have hl2 : i < len := by have := (List.getElem?_eq_some_iff.1 hi).1; simpa using this
      rw [List.getElem?_map, List.getElem?_range hl2] at hi
      simp at hi
      subst hi
      exact key i hl2
end Go.Proofs.Ytdojphkibgfomaa
