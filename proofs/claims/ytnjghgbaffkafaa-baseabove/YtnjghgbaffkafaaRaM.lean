/-
  Samples as cells; a queue of samples in memory, and where one is laid into it; copying whole elements of several cells.
-/
import Derived.Test.YtnjghgbaffkafaaHiA
import Derived.Laws.CopyOwn
import Derived.Laws.NewBlocks
import Derived.Lib.Overlaps
import Derived.Lib.AppendZerosOnto
import Derived.Deep.AppendSrc
import Derived.ArgAppend
namespace Go.Proofs.Ytnjghgbaffkafaa
open Go.RowKit

/-- A sample: when it came, its size. -/
abbrev Sm := Int × Int
def sV (s : Sm) : Value := .agg #[.int .i64 s.1, .int .i64 s.2]
def sE (s : Sm) : List Value := [.int .i64 s.1, .int .i64 s.2]
def sC (l : List Sm) : List Value := l.flatMap sE
@[simp] theorem sE_len (s : Sm) : (sE s).length = 2 := rfl
@[simp] theorem sC_len (l : List Sm) : (sC l).length = l.length * 2 := by
  induction l with
  | nil => rfl
  | cons s l ih => show (sE s ++ sC l).length = _; rw [List.length_append, ih, sE_len, List.length_cons]; omega
theorem sC_app (l m : List Sm) : sC (l ++ m) = sC l ++ sC m := by unfold sC; rw [List.flatMap_append]
theorem sC_cons (s : Sm) (l : List Sm) : sC (s :: l) = sE s ++ sC l := by unfold sC; rw [List.flatMap_cons]
theorem sC_one (s : Sm) : sC [s] = sE s := by unfold sC; simp
theorem sC_nil : sC [] = [] := rfl
theorem one_sC (l : List Sm) : ∀ u ∈ sC l, u.oneCell' = true := by
  intro u hu
  unfold sC at hu
  obtain ⟨s, -, h⟩ := List.mem_flatMap.1 hu
  simp [sE] at h
  rcases h with rfl | rfl <;> rfl
theorem one_sE (s : Sm) : ∀ u ∈ sE s, u.oneCell' = true := by rw [← sC_one]; exact one_sC [s]
theorem sC_take (l : List Sm) (i : Nat) (hi : i ≤ l.length) : sC (l.take i) = (sC l).take (i * 2) := by
  have h := congrArg (List.take (i * 2)) (sC_app (l.take i) (l.drop i))
  rw [List.take_append_drop] at h
  have e : (sC (l.take i)).length = i * 2 := by simp; omega
  rw [h, List.take_append_of_le_length (Nat.le_of_eq e.symm), List.take_of_length_le (Nat.le_of_eq e)]
theorem sC_drop (l : List Sm) (i : Nat) (hi : i ≤ l.length) : sC (l.drop i) = (sC l).drop (i * 2) := by
  have h := congrArg (List.drop (i * 2)) (sC_app (l.take i) (l.drop i))
  rw [List.take_append_drop] at h
  have e : (sC (l.take i)).length = i * 2 := by simp; omega
  rw [h, List.drop_append_of_le_length (Nat.le_of_eq e.symm), List.drop_of_length_le (Nat.le_of_eq e), List.nil_append]
theorem sC_at {l : List Sm} {i : Nat} {s : Sm} (h : l[i]? = some s) : (sC l)[i * 2]? = some (.int .i64 s.1) ∧ (sC l)[i * 2 + 1]? = some (.int .i64 s.2) := by
  obtain ⟨hi, rfl⟩ := List.getElem?_eq_some_iff.1 h
  have e : (sC l).drop (i * 2) = sE l[i] ++ sC (l.drop (i + 1)) := by rw [← sC_drop l i (by omega), List.drop_eq_getElem_cons hi, sC_cons]
  have h0 : ∀ j, (sC l)[i * 2 + j]? = (sE l[i] ++ sC (l.drop (i + 1)))[j]? := fun j => by rw [← e, List.getElem?_drop]
  exact ⟨by have := h0 0; simpa [sE] using this, by have := h0 1; simpa [sE] using this⟩

/-- A queue in memory: the blocks of which N holds are its own. -/
def Qr (N : Nat → Prop) (w : World) (v : Value) (l : List Sm) : Prop :=
  (v = .slice none 0 0 ∧ l = []) ∨ ∃ g off cap cur, v = .slice (some ⟨g, off, none⟩) l.length cap ∧ N g ∧ w.heap[g]? = some (.cells (List.toArray cur) 55 (0, 0)) ∧ l.length ≤ cap ∧ cap ≤ maxLen ∧ off + cap * 2 ≤ cur.length ∧
    ∀ j u, (sC l)[j]? = some u → cur[off + j]? = some u
theorem Qr.kept {N : Nat → Prop} {w w' : World} {v : Value} {l : List Sm} {X : Nat → Prop} (h : Qr N w v l) (ha : Apart X w w') (hx : ∀ k, N k → ¬ X k) : Qr N w' v l := by
  rcases h with h | ⟨g, off, cap, cur, h1, h2, h3, h4⟩
  · exact .inl h
  · exact .inr ⟨g, off, cap, cur, h1, h2, ha.heap h3 (hx g h2), h4⟩
theorem Qr.mono {N M : Nat → Prop} {w : World} {v : Value} {l : List Sm} (h : Qr N w v l) (hm : ∀ k, N k → M k) : Qr M w v l := by
  rcases h with h | ⟨g, off, cap, cur, h1, h2, h4⟩
  · exact .inl h
  · exact .inr ⟨g, off, cap, cur, h1, hm g h2, h4⟩
theorem cell_of {w : World} {g : Nat} {cur : List Value} {T : TypeId} (h : w.heap[g]? = some (.cells (List.toArray cur) T (0, 0))) {j : Nat} {u : Value} (hj : cur[j]? = some u) : w.cell? ⟨g, j, none⟩ = some u := by
  simp [World.cell?, h, hj]
theorem frozen_of {w : World} {g : Nat} {cur : Array Value} {T : TypeId} (h : w.heap[g]? = some (.cells cur T (0, 0))) (j : Nat) : w.frozen? ⟨g, j, none⟩ = false := by
  simp [World.frozen?, h]
theorem shape_of {w : World} {g : Nat} {cur : Array Value} {T : TypeId} (h : w.heap[g]? = some (.cells cur T (0, 0))) : w.shape? g = some (T, cur.size) := by
  simp [World.shape?, h]

theorem splice_get {α : Type} (L : List α) (o : Nat) (cs : List α) (h : o + cs.length ≤ L.length) (j : Nat) : (splice L o cs)[j]? = if j < o then L[j]? else if j < o + cs.length then cs[j - o]? else L[j]? := by
  unfold splice
  by_cases h1 : j < o
  · rw [if_pos h1, List.getElem?_append_left (by rw [List.length_take]; omega), List.getElem?_take, if_pos h1]
  · rw [if_neg h1, List.getElem?_append_right (by rw [List.length_take]; omega), List.length_take, Nat.min_eq_left (by omega)]
    by_cases h2 : j < o + cs.length
    · rw [if_pos h2, List.getElem?_append_left (by omega)]
    · rw [if_neg h2, List.getElem?_append_right (by omega), List.getElem?_drop]
      congr 1; omega

section
variable {P : Program}
/-- copy of elements of so many cells. -/
theorem run_copy_at (w : World) (dT sT ty elem : TypeId) (size g o dLen dCap : Nat) (ad : Addr) (sLen sCap n : Nat) (cur : List Value) (T : TypeId) (cs : List Value)
    (hu : P.underlying dT = some (.slice elem)) (hs : (P.info? elem).map (·.size) = some size) (hm : Nat.min sLen dLen = n) (hn : cs.length = n * size)
    (hsrc : ∀ j v, cs[j]? = some v → w.cell? (ad.add j) = some v) (hg : w.heap[g]? = some (.cells (List.toArray cur) T (0, 0))) (hfit : o + cs.length ≤ cur.length) (h1 : ∀ v ∈ cs, v.oneCell' = true) :
    (Builtin.copy_ #[dT, sT] ty #[.slice (some ⟨g, o, none⟩) dLen dCap, .slice (some ad) sLen sCap]).run P w = .ok (goInt n) (w.setRow g (splice cur o cs).toArray) := by
  have hl := run_loadCells_list (P := P) w ad cs hsrc
  rw [hn] at hl
  have hst := run_storeCells_at P g o T cs 0 cur.toArray w hg (by simpa using hfit) h1
  simp only [Nat.add_zero] at hst
  obtain ⟨i, hi, hz⟩ := Option.map_eq_some_iff.1 hs
  simp [Builtin.copy_, run_underlying hu, Builtin.lenOf, Builtin.firstCells, sizeOf, typeInfo, hi, hz, hm, hl, hst, splice, List.append_assoc]
theorem wp_copy_run (w : World) {o : Oper} {a : Act} {K : Act → World → Prop} {Q : Exit → Act → World → Prop} (d s : Operand) (t t' : TypeId)
    (ho : o.op = .call { callee := .builtin .copy, args := #[d, s], argTypes := #[t, t'] }) (v u : Value) (hd : a.eval d = v) (hs : a.eval s = u) {v' : Value} {w' : World}
    (hr : (Builtin.copy_ #[t, t'] o.type #[v, u]).run P w = .ok v' w') (h : K (a.put o.dst v') w') : o.wp P a w K Q := by
  unfold Oper.wp execOp
  simp only [ho, resolve, invoke, builtin, Sem.run_bind, Sem.run_pure, Result.andThen_ok, List.map_toArray, List.map_cons, List.map_nil, hd, hs, hr]
  exact h
theorem wpList_copy_run (w : World) {ops : Array Oper} {rest : List Oper} {o : Oper} {a : Act} {Q : Exit → Act → World → Prop} (hgd : o.guard = none) (d s : Operand) (t t' : TypeId)
    (ho : o.op = .call { callee := .builtin .copy, args := #[d, s], argTypes := #[t, t'] }) (v u : Value) (hd : a.eval d = v) (hs : a.eval s = u) {v' : Value} {w' : World}
    (hr : (Builtin.copy_ #[t, t'] o.type #[v, u]).run P w = .ok v' w') (h : wpList P ops Q rest (a.put o.dst v') w') : wpList P ops Q (o :: rest) a w :=
  wpList_plain hgd fun _ hK => wp_copy_run w d s t t' ho v u hd hs hr (hK _ _ h)
theorem step_copy_run {ops : Array Oper} {o : Oper} {a : Act} {w : World} {K : Act → World → Prop} {Q : Exit → Act → World → Prop} {E : Prop}
    (hg : o.guard = none) (d x : Operand) (dT sT : TypeId) (hop : o.op = Op.call { callee := Callee.builtin Builtin.copy, args := #[d, x], argTypes := #[dT, sT] })
    (v u : Value) (hd : a.eval d = v) (hx : a.eval x = u) {v' : Value} {w' : World} (hr : (Builtin.copy_ #[dT, sT] o.type #[v, u]).run P w = .ok v' w') (hK : K (a.put o.dst v') w') :
    if Region.wanted o (yielded ops a.tmps) = true then Oper.wp P o a w K Q else E := by
  have hw : Region.wanted o (yielded ops a.tmps) = true := by simp [Region.wanted, hg]
  rw [if_pos hw]
  exact wp_copy_run w d x dT sT hop v u hd hx hr hK
end

/-- What is laid in at place i. -/
def insL (l : List Sm) (i : Nat) (s : Sm) : List Sm := l.take i ++ s :: l.drop i
theorem insL_len (l : List Sm) (i : Nat) (s : Sm) (hi : i ≤ l.length) : (insL l i s).length = l.length + 1 := by simp [insL]; omega
theorem insL_end (l : List Sm) (s : Sm) : insL l l.length s = l ++ [s] := by simp [insL]
theorem sC_ins (l : List Sm) (i : Nat) (s : Sm) (hi : i ≤ l.length) (j : Nat) : (sC (insL l i s))[j]? = if j < i * 2 then (sC l)[j]? else if j < i * 2 + 2 then (sE s)[j - i * 2]? else (sC l)[j - 2]? := by
  unfold insL
  rw [sC_app, sC_cons]
  by_cases h1 : j < i * 2
  · rw [if_pos h1, List.getElem?_append_left (by simp; omega), sC_take l i hi, List.getElem?_take, if_pos h1]
  · rw [if_neg h1, List.getElem?_append_right (by simp; omega)]
    have e : (sC (l.take i)).length = i * 2 := by simp; omega
    rw [e]
    by_cases h2 : j < i * 2 + 2
    · rw [if_pos h2, List.getElem?_append_left (by simp; omega)]
    · rw [if_neg h2, List.getElem?_append_right (by simp; omega), sC_drop l i hi, List.getElem?_drop, sE_len]
      congr 1; omega
end Go.Proofs.Ytnjghgbaffkafaa
