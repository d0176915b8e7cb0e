/-
  Lists of parts that a call makes: their row, what an append does to it, and parts that lie in memory as a list to be appended.
-/
import Derived.Test.YthapkeokgpnjgaaRcM
import Derived.Test.YthapkeokgpnjgaaBiX
namespace Go.Proofs.Ythapkeokgpnjgaa
open Go.RowKit

/-- A slice value that holds n elements of so many cells each, the cells xs; it may be nil. -/
def SrcN (w : World) (size : Nat) (v : Value) (n : Nat) (xs : List Value) : Prop :=
  (∃ c, v = .slice none 0 c ∧ n = 0 ∧ xs = []) ∨ ∃ ad c, v = .slice (some ad) n c ∧ xs.length = n * size ∧ ∀ j u, xs[j]? = some u → w.cell? (ad.add j) = some u
section
variable {P : Program} (w : World)
theorem run_append_onto (base : Nat) (t ty e : TypeId) (i : TypeInfo) (z : Value) (size bytes : Nat) (ht : P.underlying t = some (.slice e)) (hi : P.info? e = some i) (hz : i.zero = some z)
    (hsize : i.size = size) (hby : i.bytes = bytes) (hzs : z.cells.size = size) (hsz : 0 < size)
    (v : Value) (n : Nat) (xs : List Value) (hown : w.ownsRow base e size v n xs)
    (s : Value) (m : Nat) (news : List Value) (hs : SrcN w size s m news) (h1 : ∀ u ∈ news, u.oneCell' = true)
    (h63 : n + m ≤ maxLen) (hbytes : (n + m) * bytes ≤ 140737488355328) (hbase : base ≤ w.heap.size) :
    ∃ v' w', (Builtin.append_ #[t, t] ty #[v, s]).run P w = .ok v' w' ∧ w'.ownsRow base e size v' (n + m) (xs ++ news) ∧ w.grownBy w' v.ownBlock := by
  rcases hs with ⟨c, rfl, rfl, rfl⟩ | ⟨ad, c, rfl, hl, hcell⟩
  · refine ⟨v, w, ?_, by simpa using hown, ⟨rfl, rfl, rfl, Nat.le_refl _, fun _ _ _ => rfl⟩⟩
    rcases hown.2 with ⟨rfl, rfl⟩ | ⟨g, cap, cur, rfl, hb, hg, hn, h2, h3, h4⟩
    · simp [Builtin.append_, run_underlying ht, sizeOf, typeInfo, hi, Builtin.lenOf, Builtin.firstCells]
    · simp [Builtin.append_, run_underlying ht, sizeOf, typeInfo, hi, Builtin.lenOf, Builtin.firstCells, hn, storeCells]
  · obtain ⟨v', w', a, b, c', _⟩ := run_append_own (P := P) w base t ty e i z size bytes ht hi hz hsize hby hzs hsz v n xs hown ad m c news hl hcell h1 h63 hbytes hbase
    exact ⟨v', w', a, b, c'⟩
theorem wpList_append_onto {ops : Array Oper} {rest : List Oper} {o : Oper} {a : Act} {Q : Exit → Act → World → Prop} (hgd : o.guard = none) (s x : Operand) (t : TypeId)
    (ho : o.op = .call { callee := .builtin .append, args := #[s, x], argTypes := #[t, t] })
    (base : Nat) (e : TypeId) (i : TypeInfo) (z : Value) (size bytes : Nat) (ht : P.underlying t = some (.slice e)) (hi : P.info? e = some i) (hz : i.zero = some z)
    (hsize : i.size = size) (hby : i.bytes = bytes) (hzs : z.cells.size = size) (hsz : 0 < size)
    (v : Value) (n : Nat) (xs : List Value) (hs : a.eval s = v) (hown : w.ownsRow base e size v n xs)
    (u : Value) (m : Nat) (news : List Value) (hx : a.eval x = u) (hsrc : SrcN w size u m news) (h1 : ∀ u ∈ news, u.oneCell' = true)
    (h63 : n + m ≤ maxLen) (hbytes : (n + m) * bytes ≤ 140737488355328) (hbase : base ≤ w.heap.size)
    (h : ∀ v' w', w'.ownsRow base e size v' (n + m) (xs ++ news) → w.grownBy w' v.ownBlock → wpList P ops Q rest (a.put o.dst v') w') : wpList P ops Q (o :: rest) a w :=
  wpList_plain hgd fun K hK => by
    obtain ⟨v', w', hr, h2, h3⟩ := run_append_onto (P := P) w base t o.type e i z size bytes ht hi hz hsize hby hzs hsz v n xs hown u m news hsrc h1 h63 hbytes hbase
    unfold Oper.wp execOp
    simp only [ho, resolve, invoke, builtin, Sem.run_bind, Sem.run_pure, Result.andThen_ok, List.map_toArray, List.map_cons, List.map_nil, hs, hx, hr]
    exact hK _ _ (h v' w' h2 h3)
end
theorem ownsRow_apart {w w' : World} {X : Nat → Prop} {base : Nat} {e : TypeId} {size : Nat} {v : Value} {n : Nat} {xs : List Value} (h : w.ownsRow base e size v n xs) (ha : Apart X w w') (hx : ∀ k, base ≤ k → ¬ X k) : w'.ownsRow base e size v n xs := by
  refine ⟨h.1, ?_⟩
  rcases h.2 with hn | ⟨g, cap, cur, rfl, hg, hh, r⟩
  · exact .inl hn
  · exact .inr ⟨g, cap, cur, rfl, hg, ha.heap hh (hx g hg), r⟩
theorem ownsRow_base {w : World} {base base' : Nat} {e : TypeId} {size : Nat} {v : Value} {n : Nat} {xs : List Value} (h : w.ownsRow base e size v n xs) (hb : base' ≤ base) : w.ownsRow base' e size v n xs := by
  refine ⟨h.1, ?_⟩
  rcases h.2 with hn | ⟨g, cap, cur, rfl, hg, hh, r⟩
  · exact .inl hn
  · exact .inr ⟨g, cap, cur, rfl, by omega, hh, r⟩
theorem ownsRow_slice {w : World} {base : Nat} {e : TypeId} {size : Nat} {v : Value} {n : Nat} {xs : List Value} (h : w.ownsRow base e size v n xs) : ∃ a c, v = .slice a n c := by
  rcases h.2 with ⟨rfl, rfl⟩ | ⟨g, cap, cur, rfl, _⟩
  · exact ⟨none, 0, rfl⟩
  · exact ⟨_, _, rfl⟩
theorem own_empty (w : World) (base : Nat) (e : TypeId) (size : Nat) (hb : base ≤ w.heap.size) : (w.alloc (.cells #[] e)).ownsRow base e size (.slice (some ⟨w.heap.size, 0, none⟩) 0 0) 0 [] :=
  ⟨by simp, .inr ⟨w.heap.size, 0, #[], rfl, hb, heap_alloc_new _ _, Nat.le_refl _, by unfold maxLen; omega, by simp, by simp⟩⟩
theorem ownsRow_apart2 {w w' : World} {X : Nat → Prop} {base : Nat} {e : TypeId} {size : Nat} {v : Value} {n : Nat} {xs : List Value} (h : w.ownsRow base e size v n xs) (ha : Apart X w w') (hx : ∀ k, v.ownBlock = some k → ¬ X k) : w'.ownsRow base e size v n xs := by
  refine ⟨h.1, ?_⟩
  rcases h.2 with hn | ⟨g, cap, cur, rfl, hg, hh, r⟩
  · exact .inl hn
  · exact .inr ⟨g, cap, cur, rfl, hg, ha.heap hh (hx g rfl), r⟩
theorem ownsRow_below {w w' : World} {B base : Nat} {e : TypeId} {size : Nat} {v : Value} {n : Nat} {xs : List Value} (h : w.ownsRow base e size v n xs) (ha : Below B w w') (hx : ∀ k, v.ownBlock = some k → k < B) : w'.ownsRow base e size v n xs := by
  refine ⟨h.1, ?_⟩
  rcases h.2 with hn | ⟨g, cap, cur, rfl, hg, hh, r⟩
  · exact .inl hn
  · exact .inr ⟨g, cap, cur, rfl, hg, (ha.block g (hx g rfl)).trans hh, r⟩
/-- The cells of parts. -/
def pC : List Pt → List Value
  | [] => []
  | p :: l => .int .i64 p.c :: .int .i64 p.t :: .string p.d :: pC l
@[simp] theorem pC_len (l : List Pt) : (pC l).length = l.length * 3 := by induction l with | nil => rfl | cons p l ih => simp [pC, ih]; omega
theorem pC_app (l k : List Pt) : pC (l ++ k) = pC l ++ pC k := by induction l with | nil => rfl | cons p l ih => simp [pC, ih]
theorem pC_get (l : List Pt) (i : Nat) (p : Pt) (h : l[i]? = some p) : (pC l)[i * 3]? = some (.int .i64 p.c) ∧ (pC l)[i * 3 + 1]? = some (.int .i64 p.t) ∧ (pC l)[i * 3 + 2]? = some (.string p.d) := by
  induction l generalizing i with
  | nil => simp at h
  | cons x l ih =>
    cases i with
    | zero => simp at h; subst h; exact ⟨rfl, rfl, rfl⟩
    | succ i =>
      obtain ⟨h0, h1, h2⟩ := ih i (by simpa using h)
      rw [show (i + 1) * 3 = i * 3 + 1 + 1 + 1 by omega, show i * 3 + 1 + 1 + 1 + 1 = (i * 3 + 1) + 1 + 1 + 1 by omega, show i * 3 + 1 + 1 + 1 + 2 = (i * 3 + 2) + 1 + 1 + 1 by omega]
      simp only [pC, List.getElem?_cons_succ]
      exact ⟨h0, h1, h2⟩
theorem pC_one (l : List Pt) : ∀ u ∈ pC l, u.oneCell' = true := by
  induction l with
  | nil => simp [pC]
  | cons p l ih =>
    intro u hu
    simp only [pC, List.mem_cons] at hu
    rcases hu with rfl | rfl | rfl | hu
    · rfl
    · rfl
    · rfl
    · exact ih u hu
theorem pa_src {B : Nat} {w : World} {a : Option Addr} {l : List Pt} {cap : Nat} (h : PA B w a l) : SrcN w 3 (.slice a l.length cap) l.length (pC l) := by
  rcases h.2 with h0 | ⟨b, off, rfl, hb, hc⟩
  · subst h0
    cases a with
    | none => exact .inl ⟨cap, rfl, rfl, rfl⟩
    | some ad => exact .inr ⟨ad, cap, rfl, rfl, fun j u hj => by simp [pC] at hj⟩
  · refine .inr ⟨_, cap, rfl, by simp, fun j u hj => ?_⟩
    have hl : j < l.length * 3 := by have := (List.getElem?_eq_some_iff.1 hj).1; simpa using this
    have hi : j / 3 < l.length := by omega
    obtain ⟨c0, c1, c2, _⟩ := hc (j / 3) _ (List.getElem?_eq_getElem hi)
    obtain ⟨g0, g1, g2⟩ := pC_get l (j / 3) _ (List.getElem?_eq_getElem hi)
    rw [Addr.add_lit, ← hj]
    rcases (by omega : j = j / 3 * 3 ∨ j = j / 3 * 3 + 1 ∨ j = j / 3 * 3 + 2) with e | e | e
    · rw [e, c0, g0]
    · rw [e, ← Nat.add_assoc, c1, g1]
    · rw [e, ← Nat.add_assoc, c2, g2]
theorem own_pa {w : World} {base B : Nat} {v : Value} {l : List Pt} (h : w.ownsRow base 40 3 v l.length (pC l)) (hb : w.heap.size ≤ B) (hm : l.length ≤ maxLen) (hD : ∀ p ∈ l, p.d.size ≤ maxLen) : ∃ a c, v = .slice a l.length c ∧ PA B w a l ∧ ∀ x, a = some x → base ≤ x.block := by
  rcases h.2 with ⟨rfl, h0⟩ | ⟨g, cap, cur, rfl, hg, hh, r⟩
  · obtain rfl := List.eq_nil_of_length_eq_zero h0
    exact ⟨none, 0, rfl, ⟨hm, .inl rfl⟩, fun x hx => by cases hx⟩
  · refine ⟨_, cap, rfl, ⟨hm, .inr ⟨g, 0, rfl, by have := lt_of_heap hh; omega, fun i p hi => ?_⟩⟩, fun x hx => by cases hx; exact hg⟩
    have hl : i < l.length := (List.getElem?_eq_some_iff.1 hi).1
    obtain ⟨g0, g1, g2⟩ := pC_get l i p hi
    refine ⟨?_, ?_, ?_, hD p (List.mem_of_getElem? hi)⟩
    · rw [Nat.zero_add, h.cellAt _ (by omega), g0]
    · rw [Nat.zero_add, h.cellAt _ (by omega), g1]
    · rw [Nat.zero_add, h.cellAt _ (by omega), g2]
theorem PA.apart {B : Nat} {w w' : World} {a : Option Addr} {l : List Pt} {X : Nat → Prop} (h : PA B w a l) (hB : B ≤ w.heap.size) (ha : Apart X w w') (hx : ∀ x, a = some x → ¬ X x.block) : PA B w' a l := by
  refine ⟨h.1, ?_⟩
  rcases h.2 with h0 | ⟨b, off, rfl, hl, hc⟩
  · exact .inl h0
  · have hn := hx _ rfl
    refine .inr ⟨b, off, rfl, hl, fun i p hi => ?_⟩
    obtain ⟨c0, c1, c2, c3⟩ := hc i p hi
    exact ⟨by rw [ha.cell (p := ⟨b, off + i * 3, none⟩) (by show b < _; omega) hn]; exact c0, by rw [ha.cell (p := ⟨b, off + i * 3 + 1, none⟩) (by show b < _; omega) hn]; exact c1, by rw [ha.cell (p := ⟨b, off + i * 3 + 2, none⟩) (by show b < _; omega) hn]; exact c2, c3⟩
theorem info40 : (Try.prog.info? 40).map (fun i => (i.zero, i.size, i.bytes)) = some (some (.agg #[.int .i64 0, .int .i64 0, .string ⟨#[]⟩]), 3, 32) := by kernel_rfl
theorem cell_three_new (w : World) (x y z : Value) (t : TypeId) : ∀ j u, [x, y, z][j]? = some u → (w.alloc (.cells #[x, y, z] t)).cell? ((⟨w.heap.size, 0, none⟩ : Addr).add j) = some u := by
  intro j u hj
  rw [Addr.add_lit, Nat.zero_add, cell_of_row _ w.heap.size j _ t _ (heap_alloc_new w _)]
  simpa using hj
end Go.Proofs.Ythapkeokgpnjgaa
