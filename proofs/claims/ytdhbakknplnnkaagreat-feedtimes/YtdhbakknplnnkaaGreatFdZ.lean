/-
  Parts that are joined: rows of them in memory.
-/
import Derived.Test.YtdhbakknplnnkaaGreatFdT
namespace Go.Proofs.YtdhbakknplnnkaaGreat.Fd
open Go.RowKit Go.Proofs.YtdhbakknplnnkaaGreat.Nk

theorem sz_app (l k : List Rc.Pt) : Rc.sz (l ++ k) = Rc.sz l + Rc.sz k := by
  induction l with
  | nil => simp [Rc.sz]
  | cons p l ih => simp [Rc.sz, ih]; omega
theorem rL_sz (s : ByteArray) : Rc.sz (Rc.rL s) ≤ s.size := by
  by_cases h : Rc.rE s = 0
  · exact (Rc.again h).2.2
  · unfold Rc.rL; rw [if_neg h]; exact Nat.zero_le _
theorem rL_none {s : ByteArray} (h : ¬ Rc.rE s = 0) : Rc.rL s = [] := by unfold Rc.rL; rw [if_neg h]
theorem len_sz (l : List Rc.Pt) : 4 * l.length ≤ Rc.sz l := Rc.sz_len l
theorem pt_ok {c t : Int} {d : ByteArray} (c0 : 0 ≤ c) (c1 : c ≤ 31) (t0 : 192 ≤ t) (t1 : t ≤ 223) (hd : d.size = 4) : (⟨c, t, d⟩ : Rc.Pt).ok = true :=
  Rc.Pt.ok_iff.2 ⟨c0, c1, t0, t1, by show d.size ≤ 262140; omega, by show d.size % 4 = 0; omega⟩
theorem oo_join {o : Rc.Pt} (h : o.ok = true) (hd : o.d.size = 4) : Rc.jE [o, o] = 0 := by
  refine Rc.jE_is (by simp) (Rc.allOk_iff.2 fun p hp => ?_) (by simp only [Rc.sz]; omega)
  simp only [List.mem_cons, List.not_mem_nil, or_false, or_self] at hp
  subst hp; exact h
theorem olo_join {o : Rc.Pt} (h : o.ok = true) (hd : o.d.size = 4) {s : ByteArray} (hs : Rc.rE s = 0) (hz : s.size ≤ 30000) : Rc.jE (o :: Rc.rL s ++ [o]) = 0 := by
  have h1 := rL_sz s
  have h2 := (Rc.jE_zero (Rc.again hs).1).2.1
  refine Rc.jE_is (by simp) (Rc.allOk_iff.2 fun p hp => ?_) ?_
  · simp only [List.cons_append, List.mem_cons, List.mem_append, List.not_mem_nil, or_false] at hp
    rcases hp with rfl | hp | rfl
    · exact h
    · exact Rc.allOk_iff.1 h2 p hp
    · exact h
  · rw [List.cons_append]
    show 4 + o.d.size + Rc.sz (Rc.rL s ++ [o]) ≤ 65536
    rw [sz_app]
    simp only [Rc.sz]
    omega
/-- Three cells of a part. -/
abbrev pO (p : Rc.Pt) : Obj := .cells #[.int .i64 p.c, .int .i64 p.t, .string p.d] 56
/-- A new row of one part. -/
theorem own_part (w : World) (p : Rc.Pt) (B : Nat) (hB : B ≤ w.heap.size) : (w.alloc (.cells #[.int .i64 p.c, .int .i64 p.t, .string p.d] 56)).ownsRow B 56 3 (.slice (some ⟨w.heap.size, 0, none⟩) 1 1) 1 (Rc.pC [p]) :=
  ⟨by simp [Rc.pC], .inr ⟨w.heap.size, 1, #[.int .i64 p.c, .int .i64 p.t, .string p.d], rfl, hB, heap_alloc_new _ _, Nat.le_refl _, by unfold maxLen; omega, by simp, by simp [Rc.pC]⟩⟩
theorem src_part (w : World) (p : Rc.Pt) : SrcN (w.alloc (.cells #[.int .i64 p.c, .int .i64 p.t, .string p.d] 56)) 3 (.slice (some ⟨w.heap.size, 0, none⟩) 1 1) 1 (Rc.pC [p]) := by
  refine .inr ⟨_, 1, rfl, by simp, fun j u hj => ?_⟩
  rw [addr0, cell_of_row _ _ j _ 56 _ (heap_alloc_new w _)]
  simpa [Rc.pC] using hj
theorem pa_two (w : World) (p : Rc.Pt) (h : p.d.size ≤ maxLen) : Rc.PA (w.alloc (.cells #[.int .i64 p.c, .int .i64 p.t, .string p.d, .int .i64 p.c, .int .i64 p.t, .string p.d] 56)).heap.size (w.alloc (.cells #[.int .i64 p.c, .int .i64 p.t, .string p.d, .int .i64 p.c, .int .i64 p.t, .string p.d] 56)) (some ⟨w.heap.size, 0, none⟩) [p, p] := by
  refine ⟨by unfold maxLen; simp, .inr ⟨_, 0, rfl, by simp, fun i x hi => ?_⟩⟩
  have cl := fun k => cell_of_row (w.alloc (.cells #[.int .i64 p.c, .int .i64 p.t, .string p.d, .int .i64 p.c, .int .i64 p.t, .string p.d] 56)) w.heap.size k _ 56 _ (heap_alloc_new w _)
  match i, hi with
  | 0, hi =>
    simp at hi; subst hi
    exact ⟨by rw [cl]; rfl, by rw [cl]; rfl, by rw [cl]; rfl, h⟩
  | 1, hi =>
    simp at hi; subst hi
    exact ⟨by rw [cl]; rfl, by rw [cl]; rfl, by rw [cl]; rfl, h⟩
  | i + 2, hi => simp at hi
theorem info56 : (Tryz.prog.info? 56).map (fun i => (i.zero, i.size, i.bytes)) = some (some (.agg #[.int .i64 0, .int .i64 0, .string ByteArray.empty]), 3, 32) := by kernel_rfl
theorem info56' : ∃ i, Tryz.prog.info? 56 = some i ∧ i.zero = some (.agg #[.int .i64 0, .int .i64 0, .string ByteArray.empty]) ∧ i.size = 3 ∧ i.bytes = 32 := by
  obtain ⟨i, hi, hh⟩ := Option.map_eq_some_iff.1 info56
  simp only [Prod.mk.injEq] at hh
  exact ⟨i, hi, hh.1, hh.2.1, hh.2.2⟩
/-- What a row of one's own that grows leaves as it was. -/
theorem grow_below {B : Nat} {w w' : World} {o : Obj} {n c : Nat} (hg : ((w.alloc o).drew).grownBy w' (Value.slice (some ⟨w.heap.size, 0, none⟩) n c).ownBlock) (hB : B ≤ w.heap.size) : Below B w w' :=
  have hb := (Below.refl B w).alloc hB o
  hb.drew.trans ⟨hg.os, hg.tape, hg.output, hg.size, fun k hk => hg.block k (by simp; omega) (fun e => by simp [Value.ownBlock] at e; omega)⟩
theorem grow_own {B : Nat} {w w' : World} {o : Obj} {e : TypeId} {size : Nat} {v : Value} {n : Nat} {xs : List Value} (h : w.ownsRow B e size v n xs) (hB : B ≤ w.heap.size) (hg : (w.alloc o).grownBy w' v.ownBlock) : Below B w w' :=
  ((Below.refl B w).alloc hB o).trans ⟨hg.os, hg.tape, hg.output, hg.size, fun k hk => hg.block k (by simp; omega) (fun e => by have := (h.lt k e.symm).1; omega)⟩
theorem heap_below {B : Nat} {w w' : World} (h : Below B w w') {b : Nat} {o : Obj} (hb : w.heap[b]? = some o) (hl : b < B) : w'.heap[b]? = some o := (h.block b hl).trans hb
theorem olo_pa {B : Nat} {w : World} {v : Value} {n : Nat} {o : Rc.Pt} {l : List Rc.Pt} (h : w.ownsRow B 56 3 v (1 + n + 1) ((Rc.pC [o] ++ Rc.pC l) ++ Rc.pC [o])) (hn : l.length = n) (ho : o.d.size ≤ maxLen) {B' : Nat} {w' : World} {a' : Option Addr} (hp : Rc.PA B' w' a' l) (hm : n ≤ 1000000) :
    ∃ a c, v = .slice a (1 + n + 1) c ∧ Rc.PA w.heap.size w a (o :: l ++ [o]) := by
  have e : (Rc.pC [o] ++ Rc.pC l) ++ Rc.pC [o] = Rc.pC (o :: l ++ [o]) := by rw [← Rc.pC_app, ← Rc.pC_app]; rfl
  have en : (o :: l ++ [o]).length = 1 + n + 1 := by simp; omega
  rw [e, ← en] at h
  have hD : ∀ p ∈ o :: l ++ [o], p.d.size ≤ maxLen := by
    intro p hpp
    simp only [List.cons_append, List.mem_cons, List.mem_append, List.not_mem_nil, or_false] at hpp
    rcases hpp with rfl | hpp | rfl
    · exact ho
    · rcases hp.2 with h0 | ⟨b, off, _, _, hc⟩
      · subst h0; cases hpp
      · obtain ⟨i, hi, rfl⟩ := List.getElem_of_mem hpp
        exact (hc i _ (List.getElem?_eq_getElem hi)).2.2.2
    · exact ho
  obtain ⟨a, c, hv, hpa, _⟩ := Rc.own_pa h (Nat.le_refl _) (by rw [en]; unfold maxLen; omega) hD
  rw [en] at hv
  exact ⟨a, c, hv, hpa⟩
theorem grow_row {B : Nat} {w w' : World} {e : TypeId} {size : Nat} {v : Value} {n : Nat} {xs : List Value} (h : w.ownsRow B e size v n xs) (hB : B ≤ w.heap.size) (hg : w.grownBy w' v.ownBlock) : Below B w w' :=
  ⟨hg.os, hg.tape, hg.output, hg.size, fun k hk => hg.block k (by omega) (fun e => by have := (h.lt k e.symm).1; omega)⟩
theorem own_at {w : World} {b B : Nat} {p : Rc.Pt} (h : w.heap[b]? = some (.cells #[.int .i64 p.c, .int .i64 p.t, .string p.d] 56 (0, 0))) (hB : B ≤ b) : w.ownsRow B 56 3 (.slice (some ⟨b, 0, none⟩) 1 1) 1 (Rc.pC [p]) :=
  ⟨by simp [Rc.pC], .inr ⟨b, 1, #[.int .i64 p.c, .int .i64 p.t, .string p.d], rfl, hB, h, Nat.le_refl _, by unfold maxLen; omega, by simp, by simp [Rc.pC]⟩⟩
theorem src_at {w : World} {b : Nat} {p : Rc.Pt} (h : w.heap[b]? = some (.cells #[.int .i64 p.c, .int .i64 p.t, .string p.d] 56 (0, 0))) : SrcN w 3 (.slice (some ⟨b, 0, none⟩) 1 1) 1 (Rc.pC [p]) := by
  refine .inr ⟨_, 1, rfl, by simp, fun j u hj => ?_⟩
  rw [addr0, cell_of_row _ _ j _ 56 _ h]
  simpa [Rc.pC] using hj
theorem grow_at {B b n c : Nat} {w w1 w' : World} (hb : Below B w w1) (hg : w1.grownBy w' (Value.slice (some ⟨b, 0, none⟩) n c).ownBlock) (hB : B ≤ b) (hw : B ≤ w1.heap.size) : Below B w w' :=
  hb.trans ⟨hg.os, hg.tape, hg.output, hg.size, fun k hk => hg.block k (by omega) (fun e => by simp [Value.ownBlock] at e; omega)⟩
theorem keep_at {b n c k : Nat} {w1 w' : World} {o : Obj} (hg : w1.grownBy w' (Value.slice (some ⟨b, 0, none⟩) n c).ownBlock) (h : w1.heap[k]? = some o) (hk : k ≠ b) : w'.heap[k]? = some o :=
  (hg.block _ (lt_of_heap h) (fun e => hk (by simp [Value.ownBlock] at e; exact e))).trans h
/-- Two rows of one part that are made one behind the other. -/
theorem build_two (w : World) (c t : Int) (d : ByteArray) : (((w.alloc (.cells #[.int .i64 c, .int .i64 t, .string d] 56)).alloc (.cells #[.int .i64 c, .int .i64 t, .string d] 56)).drew).heap[w.heap.size]? = some (.cells #[.int .i64 c, .int .i64 t, .string d] 56 (0, 0)) ∧
    (((w.alloc (.cells #[.int .i64 c, .int .i64 t, .string d] 56)).alloc (.cells #[.int .i64 c, .int .i64 t, .string d] 56)).drew).heap[w.heap.size + 1]? = some (.cells #[.int .i64 c, .int .i64 t, .string d] 56 (0, 0)) ∧
    Below w.heap.size w (((w.alloc (.cells #[.int .i64 c, .int .i64 t, .string d] 56)).alloc (.cells #[.int .i64 c, .int .i64 t, .string d] 56)).drew) := by
  refine ⟨((Apart.refl (fun _ => False) _).alloc _).heap (heap_alloc_new w _) (fun h => h), ?_, ((al_below w _).alloc (by simp) _).drew⟩
  have := heap_alloc_new (w.alloc (.cells #[.int .i64 c, .int .i64 t, .string d] 56)) (.cells #[.int .i64 c, .int .i64 t, .string d] 56)
  rw [World.size_alloc] at this
  exact this
end Go.Proofs.YtdhbakknplnnkaaGreat.Fd
