/-
  Lists of lists of reports that came in; a copy of a list of reports; how often each number is told.
-/
import Derived.Test.YtdojphkibgfomaaHiO
import Derived.Test.YtdojphkibgfomaaHiX
namespace Go.Proofs.Ytdojphkibgfomaa
open Go.ChangeShapes Go.WideShapes Go.ChangeAt Go.RowKit

/-- Lists of reports that came in. -/
def QC (W : World) (b o : Nat) (l : List Rp) : Prop := ∃ ra rc, W.cell? ⟨b, o, none⟩ = some (.slice ra l.length rc) ∧ l.length ≤ maxLen ∧ RA (· < W.heap.size) W ra l
def QA (W : World) (a : Option Addr) (l : List (List Rp)) : Prop := l.length ≤ maxLen ∧ (l = [] ∨ ∃ b off, a = some ⟨b, off, none⟩ ∧ b < W.heap.size ∧ ∀ i s, l[i]? = some s → QC W b (off + i) s)
theorem QA.at {W : World} {a : Option Addr} {l : List (List Rp)} (h : QA W a l) (i : Nat) (hi : i < l.length) : ∃ b off s, a = some ⟨b, off, none⟩ ∧ b < W.heap.size ∧ l[i]? = some s ∧ QC W b (off + i) s := by
  rcases h.2 with h0 | ⟨b, off, ha, hl, hc⟩
  · subst h0; simp at hi
  · exact ⟨b, off, l[i], ha, hl, List.getElem?_eq_getElem hi, hc i _ (List.getElem?_eq_getElem hi)⟩
theorem open_qa {H : Type} {enc : TypeId × Value → H} {W : World} {a : Option Addr} {len cap : Nat} {d : DataW H} {p : List MemPlace}
    (h : DataW.Trod enc Try.prog W 0 (fun _ => true) true 52 (.slice a len cap) d p) : ∃ l : List (List Rp), l.length = len ∧ QA W a l := by
  obtain ⟨fuel, hf⟩ := h
  rcases Go.Deep.open_slice Try.underlying52 hf with ⟨hcs, _⟩ | ⟨x, l, c, m, n, D, Pl, hcs, hb, hl, hm, hmm, _, hx⟩
  · simp [Value.cells] at hcs
    obtain ⟨rfl, rfl, rfl⟩ := hcs
    exact ⟨[], rfl, by unfold maxLen; simp, .inl rfl⟩
  · simp [Value.cells] at hcs
    obtain ⟨rfl, rfl, rfl⟩ := hcs
    have each : ∀ i, i < len → ∃ q : List Rp, ∃ ra rc, W.cell? (x.add i) = some (.slice ra q.length rc) ∧ q.length ≤ maxLen ∧ RA (· < W.heap.size) W ra q := by
      intro i hi
      obtain ⟨cs', h1, h2⟩ := hx i (by simp at hmm; omega)
      rw [coL] at h1
      obtain ⟨_, hlen, hcell⟩ := World.cells?_some h1
      match cs', hlen with
      | [v0], _ =>
        obtain ⟨ra, rc, rl, e0, hrl, hra⟩ := open_ra h2
        subst e0
        have c0 := hcell 0 (by omega)
        rw [Go.Deep.add_add] at c0
        exact ⟨rl, ra, rc, by simpa using c0, hrl, hra⟩
    obtain ⟨q, hq⟩ := Go.Deep.choose_lt each
    refine ⟨(List.range len).map q, by simp, by simp; omega, ?_⟩
    by_cases h0 : len = 0
    · left; subst h0; rfl
    · right
      obtain ⟨b, off, spot⟩ := x
      have hspot : spot = none := by
        obtain ⟨ra, rc, c0, _⟩ := hq 0 (by omega)
        simpa [Addr.add] using World.cell?_spot c0
      subst hspot
      have key : ∀ i, i < len → QC W b (off + i) (q i) := by
        intro i hi
        obtain ⟨ra, rc, c0, r⟩ := hq i hi
        rw [Addr.add_lit] at c0
        exact ⟨ra, rc, c0, r⟩
      obtain ⟨ra, rc, c0, _⟩ := key 0 (by omega)
      refine ⟨b, off, rfl, World.block_lt_of_cell? W _ c0, fun i p hi => ?_⟩
      have hl2 : i < len := by have := (List.getElem?_eq_some_iff.1 hi).1; simpa using this
      rw [List.getElem?_map, List.getElem?_range hl2] at hi
      simp at hi
      subst hi
      exact key i hl2

/-- The cells of a list of reports. -/
def rC (l : List Rp) : List Value := l.flatMap rE
@[simp] theorem rE_len (r : Rp) : (rE r).length = 5 := rfl
@[simp] theorem rC_len (l : List Rp) : (rC l).length = l.length * 5 := by
  induction l with
  | nil => rfl
  | cons s l ih => show (rE s ++ rC l).length = _; rw [List.length_append, ih, rE_len, List.length_cons]; omega
theorem one_rC (l : List Rp) : ∀ u ∈ rC l, u.oneCell' = true := by
  intro u hu
  obtain ⟨s, _, hs⟩ := List.mem_flatMap.1 hu
  simp only [rE, List.mem_cons, List.not_mem_nil, or_false] at hs
  rcases hs with rfl | rfl | rfl | rfl | rfl <;> rfl
theorem rC_get (l : List Rp) : ∀ (k : Nat) (a : Rp) (j : Nat) (v : Value), l[k]? = some a → (rE a)[j]? = some v → (rC l)[k * 5 + j]? = some v := by
  induction l with
  | nil => intro k a j v h; simp at h
  | cons x r ih =>
    intro k a j v h hv
    have hj : j < 5 := by
      have := (List.getElem?_eq_some_iff.1 hv).1
      simpa using this
    show (rE x ++ rC r)[k * 5 + j]? = some v
    cases k with
    | zero =>
      simp at h
      subst h
      rw [List.getElem?_append_left (by simp; omega)]
      simpa using hv
    | succ k =>
      rw [List.getElem?_append_right (by simp; omega), rE_len, show (k + 1) * 5 + j - 5 = k * 5 + j by omega]
      exact ih k a j v (by simpa using h) hv
theorem rC_inv (l : List Rp) : ∀ (t : Nat) (v : Value), (rC l)[t]? = some v → ∃ k a j, t = k * 5 + j ∧ l[k]? = some a ∧ (rE a)[j]? = some v := by
  induction l with
  | nil => intro t v h; simp [rC] at h
  | cons x r ih =>
    intro t v h
    have h : (rE x ++ rC r)[t]? = some v := h
    by_cases ht : t < 5
    · rw [List.getElem?_append_left (by simpa using ht)] at h
      exact ⟨0, x, t, by omega, rfl, h⟩
    · rw [List.getElem?_append_right (by simp; omega), rE_len] at h
      obtain ⟨k, a, j, e, h1, h2⟩ := ih _ _ h
      exact ⟨k + 1, a, j, by omega, by simpa using h1, h2⟩
theorem RC.nth {w : World} {b o : Nat} {r : Rp} (h : RC w b o r) {j : Nat} {v : Value} (hv : (rE r)[j]? = some v) : w.cell? ⟨b, o + j, none⟩ = some v := by
  obtain ⟨c0, c1, c2, c3, c4⟩ := h
  have hj : j < 5 := (List.getElem?_eq_some_iff.1 hv).1
  have : j = 0 ∨ j = 1 ∨ j = 2 ∨ j = 3 ∨ j = 4 := by omega
  rcases this with rfl | rfl | rfl | rfl | rfl <;> (cases hv; assumption)
/-- Reports in memory, as what an append can take. -/
theorem ra_src {N : Nat → Prop} {w : World} {a : Option Addr} {c : Nat} {l : List Rp} (h : RA N w a l) : SrcN w 5 (.slice a l.length c) l.length (rC l) := by
  rcases h with h0 | ⟨b, off, e, _, hc⟩
  · subst h0
    cases a with
    | none => exact .inl ⟨c, rfl, rfl, rfl⟩
    | some ad => exact .inr ⟨ad, c, rfl, rfl, fun j u hj => by simp [rC] at hj⟩
  · subst e
    refine .inr ⟨⟨b, off, none⟩, c, rfl, by simp, fun t u ht => ?_⟩
    obtain ⟨k, r, j, rfl, h1, h2⟩ := rC_inv l t u ht
    rw [Addr.add_lit, ← Nat.add_assoc]
    exact (hc k r h1).nth h2
/-- A row of one's own that holds reports. -/
theorem own_ra {w : World} {B n cp : Nat} {ad : Option Addr} {l : List Rp} {N : Nat → Prop} (h : w.ownsRow B 62 5 (.slice ad n cp) n (rC l)) (hn : n = l.length) (hN : ∀ b, B ≤ b → b < w.heap.size → N b) : RA N w ad l := by
  rcases h.2 with ⟨_, h0⟩ | ⟨g, cap, cur, e, hg, hh, _⟩
  · exact .inl (List.eq_nil_of_length_eq_zero (by omega))
  · obtain ⟨rfl, rfl⟩ : ad = some ⟨g, 0, none⟩ ∧ cp = cap := by simpa using e
    refine .inr ⟨g, 0, rfl, hN g hg (lt_of_heap hh), fun i r hi => ?_⟩
    have c : ∀ j v, (rE r)[j]? = some v → w.cell? ⟨g, 0 + i * 5 + j, none⟩ = some v := by
      intro j v hv
      have := h.cells (g := g) rfl _ _ (rC_get l i r j v hi hv)
      rw [Addr.add_lit] at this
      rw [Nat.add_assoc]
      exact this
    exact ⟨c 0 _ rfl, c 1 _ rfl, c 2 _ rfl, c 3 _ rfl, c 4 _ rfl⟩
theorem info62 : ∃ i, Try.prog.info? 62 = some i ∧ i.zero = some (.agg #[.int .i64 0, .bool false, .int .i64 0, .bool false, .bool false]) ∧ i.size = 5 ∧ i.bytes = 32 := by
  obtain ⟨i, hi, hh⟩ := Option.map_eq_some_iff.1 (show (Try.prog.info? 62).map (fun i => (i.zero, i.size, i.bytes)) = some (some (.agg #[.int .i64 0, .bool false, .int .i64 0, .bool false, .bool false]), 5, 32) by kernel_rfl)
  simp only [Prod.mk.injEq] at hh
  exact ⟨i, hi, hh.1, hh.2.1, hh.2.2⟩

/-- How often a number stands in a list. -/
def cN (L : List Sn) (j : Nat) : Nat := L.countP fun s => s.1 == (j : Int)
def gN (G : List Ak) (j : Nat) : Nat := G.countP fun a => a.s.1 == (j : Int)
theorem cN_drop {L : List Sn} (hr : Rise L) {s : Sn} (hs : s ∈ L) (j : Nat) : cN (L.filter fun u => u.1 != s.1) j + (if s.1 = (j : Int) then 1 else 0) = cN L j := by
  unfold cN
  have e : ∀ M : List Sn, M.countP (fun u => u.1 == (j : Int)) = (M.filter fun u => u.1 != s.1).countP (fun u => u.1 == (j : Int)) + (M.filter fun u => !(u.1 != s.1)).countP (fun u => u.1 == (j : Int)) := by
    intro M
    induction M with
    | nil => rfl
    | cons x r ih =>
      cases hx : (x.1 != s.1) <;> cases hy : (x.1 == (j : Int)) <;> simp only [List.filter_cons, hx, hy, List.countP_cons, if_true, if_false, Bool.false_eq_true, Bool.not_true, Bool.not_false] <;> omega
  rw [e L, filter_one hr hs]
  simp [List.countP_cons]
theorem hr_count (nx : Int) (j : Nat) : ∀ (l : List Rp) (L : List Sn), Rise L → gN (hrG nx L l) j + cN (hrL nx L l) j + cN (hrR nx L l) j = cN L j
  | [], L, _ => by simp [hrG, hrL, hrR, gN, cN]
  | r :: rs, L, hr => by
    simp only [hrG, hrL, hrR]
    cases hf : fd nx L r.q with
    | none => exact hr_count nx j rs L hr
    | some s =>
      have hs : s ∈ L := List.mem_of_find?_eq_some hf
      have ih := hr_count nx j rs (L.filter fun u => u.1 != s.1) (rise_filter hr _)
      have hd := cN_drop hr hs j
      cases hg : r.g
      · simp only [Bool.false_eq_true, if_false]
        have e : cN (s :: hrL nx (L.filter fun u => u.1 != s.1) rs) j = cN (hrL nx (L.filter fun u => u.1 != s.1) rs) j + (if s.1 = (j : Int) then 1 else 0) := by
          unfold cN; rw [List.countP_cons]; simp
        omega
      · simp only [if_true]
        have e : gN (mk s r :: hrG nx (L.filter fun u => u.1 != s.1) rs) j = gN (hrG nx (L.filter fun u => u.1 != s.1) rs) j + (if s.1 = (j : Int) then 1 else 0) := by
          unfold gN; rw [List.countP_cons]; simp [mk]
        omega
theorem hr_sub (nx : Int) : ∀ (l : List Rp) (L : List Sn), (∀ a ∈ hrG nx L l, a.s ∈ L) ∧ (∀ s ∈ hrL nx L l, s ∈ L) ∧ (∀ s ∈ hrR nx L l, s ∈ L)
  | [], L => by simp [hrG, hrL, hrR]
  | r :: rs, L => by
    simp only [hrG, hrL, hrR]
    cases hf : fd nx L r.q with
    | none => exact hr_sub nx rs L
    | some s =>
      have hs : s ∈ L := List.mem_of_find?_eq_some hf
      obtain ⟨i1, i2, i3⟩ := hr_sub nx rs (L.filter fun u => u.1 != s.1)
      have up : ∀ u, u ∈ L.filter (fun u => u.1 != s.1) → u ∈ L := fun u hu => (List.mem_filter.1 hu).1
      cases hg : r.g
      · simp only [Bool.false_eq_true, if_false]
        refine ⟨fun a ha => up _ (i1 a ha), fun u hu => ?_, fun u hu => up _ (i3 u hu)⟩
        rcases List.mem_cons.1 hu with rfl | hu
        · exact hs
        · exact up _ (i2 u hu)
      · simp only [if_true]
        refine ⟨fun a ha => ?_, fun u hu => up _ (i2 u hu), fun u hu => up _ (i3 u hu)⟩
        rcases List.mem_cons.1 ha with rfl | ha
        · exact hs
        · exact up _ (i1 a ha)
/-- Packets of ten bytes, one a tick. -/
def OL : Nat → List Sn
  | 0 => []
  | k + 1 => OL k ++ [((k : Int), 10, (k : Int))]
theorem OL_len (k : Nat) : (OL k).length = k := by
  induction k with
  | zero => rfl
  | succ k ih => simp only [OL, List.length_append, ih]; rfl
theorem OL_mem {k : Nat} {s : Sn} (h : s ∈ OL k) : ∃ j : Nat, j < k ∧ s = ((j : Int), 10, (j : Int)) := by
  induction k with
  | zero => simp [OL] at h
  | succ k ih =>
    simp only [OL, List.mem_append, List.mem_singleton] at h
    rcases h with h | h
    · obtain ⟨j, h1, h2⟩ := ih h
      exact ⟨j, by omega, h2⟩
    · exact ⟨k, by omega, h⟩
theorem OL_count (k j : Nat) : cN (OL k) j = if j < k then 1 else 0 := by
  induction k with
  | zero => simp [OL, cN]
  | succ k ih =>
    have e : cN (OL (k + 1)) j = cN (OL k) j + (if (k : Int) = (j : Int) then 1 else 0) := by
      show (OL k ++ [((k : Int), 10, (k : Int))]).countP _ = _
      rw [List.countP_append]
      simp [List.countP_cons, cN]
    rw [e, ih]
    by_cases h1 : j < k
    · have : ¬ (k : Int) = (j : Int) := by omega
      rw [if_pos h1, if_neg this, if_pos (by omega)]
    · by_cases h2 : j = k
      · subst h2; rw [if_neg h1, if_pos rfl, if_pos (by omega)]
      · have : ¬ (k : Int) = (j : Int) := by omega
        rw [if_neg h1, if_neg this, if_neg (by omega)]
/-- The sum over the first numbers. -/
def sm (f : Nat → Nat) : Nat → Nat
  | 0 => 0
  | i + 1 => sm f i + f i
theorem sm_add (f g h : Nat → Nat) (k : Nat) (e : ∀ j, j < k → f j + g j = h j) : sm f k + sm g k = sm h k := by
  induction k with
  | zero => rfl
  | succ k ih =>
    have := ih (fun j hj => e j (by omega))
    have := e k (by omega)
    simp only [sm]; omega
theorem sm_zero (k : Nat) : sm (fun _ => 0) k = 0 := by
  induction k with
  | zero => rfl
  | succ k ih => simp only [sm, ih]
theorem sm_one (k : Nat) : sm (fun _ => 1) k = k := by
  induction k with
  | zero => rfl
  | succ k ih => simp only [sm, ih]
theorem sm_hit (k j : Nat) : sm (fun i => if j = i then 1 else 0) k = if j < k then 1 else 0 := by
  induction k with
  | zero => rfl
  | succ k ih =>
    simp only [sm, ih]
    by_cases h1 : j < k
    · rw [if_pos h1, if_neg (by omega), if_pos (by omega)]
    · by_cases h2 : j = k
      · subst h2; rw [if_neg h1, if_pos rfl, if_pos (by omega)]
      · rw [if_neg h1, if_neg h2, if_neg (by omega)]
theorem sm_len (k : Nat) : ∀ L : List Sn, (∀ s ∈ L, ∃ j : Nat, j < k ∧ s = ((j : Int), 10, (j : Int))) → sm (cN L) k = L.length
  | [], _ => by
    have : cN [] = fun _ => 0 := by funext j; simp [cN]
    rw [this, sm_zero]; rfl
  | s :: r, h => by
    obtain ⟨q, hq, rfl⟩ := h s (by simp)
    have ih := sm_len k r (fun u hu => h u (by simp [hu]))
    have := sm_add (cN r) (fun i => if q = i then 1 else 0) (cN (((q : Int), 10, (q : Int)) :: r)) k (fun j _ => by
      unfold cN
      rw [List.countP_cons]
      by_cases e : q = j
      · subst e; simp
      · have : ¬ (q : Int) = (j : Int) := by omega
        simp [e, this])
    rw [← this, ih, sm_hit, if_pos hq]
    rfl
theorem fl_ten : ∀ L : List Sn, (∀ s ∈ L, s.2.1 = 10) → fl L = 10 * (L.length : Int)
  | [], _ => rfl
  | s :: r, h => by
    rw [fl_cons, h s (by simp), fl_ten r (fun u hu => h u (by simp [hu]))]
    simp only [List.length_cons, Int.natCast_add, Int.natCast_one]
    omega
/-- A row of counts. -/
def tA (f : Nat → Nat) (k : Nat) : Array Value := ((List.range k).map fun j => Value.int .i64 (f j : Int)).toArray
theorem tA_get (f : Nat → Nat) {k j : Nat} (h : j < k) : (tA f k)[j]? = some (.int .i64 (f j : Int)) := by
  unfold tA
  simp [h]
theorem tA_zero (k : Nat) : madeCells #[.int .i64 0] k = tA (fun _ => 0) k := by
  apply Array.ext_getElem?
  intro j
  by_cases h : j < k
  · rw [tA_get _ h]
    simp [madeCells, h, Nat.mod_one]
  · rw [Array.getElem?_eq_none (by simp [madeCells]; omega), Array.getElem?_eq_none (by simp [tA]; omega)]
theorem tA_set (f : Nat → Nat) {k x : Nat} (v : Int) (hv : v = (f x : Int) + 1) : (tA f k).setIfInBounds x (.int .i64 v) = tA (fun j => f j + (if x = j then 1 else 0)) k := by
  apply Array.ext_getElem?
  intro j
  rw [Array.getElem?_setIfInBounds]
  by_cases h : j < k
  · by_cases e : x = j
    · subst e
      rw [if_pos rfl, if_pos (by simpa [tA] using h), tA_get _ h, hv]
      simp
    · rw [if_neg e, tA_get _ h, tA_get _ h]
      simp [e]
  · by_cases e : x = j
    · subst e
      rw [if_pos rfl, if_neg (by simp [tA]; omega), Array.getElem?_eq_none (by simp [tA]; omega)]
    · rw [if_neg e, Array.getElem?_eq_none (by simp [tA]; omega), Array.getElem?_eq_none (by simp [tA]; omega)]
theorem gN_take {G : List Ak} {p : Nat} {a : Ak} (h : G[p]? = some a) (j : Nat) : gN (G.take (p + 1)) j = gN (G.take p) j + (if a.s.1 = (j : Int) then 1 else 0) := by
  unfold gN
  rw [List.take_add_one, h, List.countP_append]
  simp [Option.toList, List.countP_cons]
theorem cN_take {G : List Sn} {p : Nat} {a : Sn} (h : G[p]? = some a) (j : Nat) : cN (G.take (p + 1)) j = cN (G.take p) j + (if a.1 = (j : Int) then 1 else 0) := by
  unfold cN
  rw [List.take_add_one, h, List.countP_append]
  simp [Option.toList, List.countP_cons]
end Go.Proofs.Ytdojphkibgfomaa
