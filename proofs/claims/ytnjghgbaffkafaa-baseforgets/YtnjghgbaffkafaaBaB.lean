/-
  The base in memory; what its small functions hand back.
-/
import Derived.Test.YtnjghgbaffkafaaBaP
import Derived.Test.YtnjghgbaffkafaaRaQ
import Derived.Test.YtnjghgbaffkafaaSatWalks
import Derived.Laws.Tables
import Derived.Deep.RegionHeld3
namespace Go.Proofs.Ytnjghgbaffkafaa
open Go.RowKit

/-- What stands in a cell of a base. -/
def bV (W : Int) (k : Nat) (R : Nat → Rw) (N Q : Int) (j : Nat) : Value :=
  if j = 0 then .int .i64 W else if j = 1 then .int .i64 k else if j = 194 then .int .i64 N else if j = 195 then .int .i64 Q
  else if (j - 2) % 3 = 0 then .int .i64 (R ((j - 2) / 3)).1 else if (j - 2) % 3 = 1 then .int .i64 (R ((j - 2) / 3)).2.1 else .bool (R ((j - 2) / 3)).2.2
def bC (W : Int) (k : Nat) (R : Nat → Rw) (N Q : Int) : Array Value := ((List.range 196).map (bV W k R N Q)).toArray
theorem bC_size (W : Int) (k : Nat) (R : Nat → Rw) (N Q : Int) : (bC W k R N Q).size = 196 := by simp [bC]
theorem bC_get (W : Int) (k : Nat) (R : Nat → Rw) (N Q : Int) (j : Nat) (h : j < 196) : (bC W k R N Q)[j]? = some (bV W k R N Q j) := by
  simp [bC, List.getElem?_range h]
theorem bC_set {W W' : Int} {k k' : Nat} {R R' : Nat → Rw} {N N' Q Q' : Int} {i : Nat} {v : Value} (h0 : bV W' k' R' N' Q' i = v) (h1 : ∀ j, j < 196 → j ≠ i → bV W' k' R' N' Q' j = bV W k R N Q j) :
    (bC W k R N Q).setIfInBounds i v = bC W' k' R' N' Q' := by
  apply Array.ext_getElem?
  intro j
  by_cases hj : j < 196
  · rw [Array.getElem?_setIfInBounds, bC_get _ _ _ _ _ _ hj, bC_get _ _ _ _ _ _ hj, bC_size]
    by_cases e : i = j
    · subst e; rw [if_pos rfl, if_pos hj, h0]
    · rw [if_neg e, h1 j hj (fun h => e h.symm)]
  · rw [Array.getElem?_eq_none (by rw [Array.size_setIfInBounds, bC_size]; omega), Array.getElem?_eq_none (by rw [bC_size]; omega)]
/-- A base of so many rows of such a width. -/
def Bx (w : World) (b : Nat) (W : Int) (k : Nat) (R : Nat → Rw) (N Q : Int) : Prop := w.heap[b]? = some (.cells (bC W k R N Q) 48 (0, 0))
theorem Bx.cell {w : World} {b : Nat} {W : Int} {k : Nat} {R : Nat → Rw} {N Q : Int} (h : Bx w b W k R N Q) {j : Nat} (hj : j < 196) : w.cell? ⟨b, j, none⟩ = some (bV W k R N Q j) := by
  simp [World.cell?, show w.heap[b]? = _ from h, bC_get _ _ _ _ _ _ hj]
theorem Bx.width {w : World} {b : Nat} {W : Int} {k : Nat} {R : Nat → Rw} {N Q : Int} (h : Bx w b W k R N Q) : w.cell? ⟨b, 0, none⟩ = some (.int .i64 W) := h.cell (by omega)
theorem Bx.rows {w : World} {b : Nat} {W : Int} {k : Nat} {R : Nat → Rw} {N Q : Int} (h : Bx w b W k R N Q) : w.cell? ⟨b, 1, none⟩ = some (.int .i64 k) := h.cell (by omega)
theorem Bx.newest {w : World} {b : Nat} {W : Int} {k : Nat} {R : Nat → Rw} {N Q : Int} (h : Bx w b W k R N Q) : w.cell? ⟨b, 194, none⟩ = some (.int .i64 N) := h.cell (by omega)
theorem Bx.queue {w : World} {b : Nat} {W : Int} {k : Nat} {R : Nat → Rw} {N Q : Int} (h : Bx w b W k R N Q) : w.cell? ⟨b, 195, none⟩ = some (.int .i64 Q) := h.cell (by omega)
theorem bV_0 {W : Int} {k : Nat} {R : Nat → Rw} {N Q : Int} {i : Nat} (hi : i < 64) : bV W k R N Q (2 + i * 3) = .int .i64 (R i).1 := by
  unfold bV
  rw [if_neg (by omega), if_neg (by omega), if_neg (by omega), if_neg (by omega), if_pos (by omega), show (2 + i * 3 - 2) / 3 = i by omega]
theorem bV_1 {W : Int} {k : Nat} {R : Nat → Rw} {N Q : Int} {i : Nat} (hi : i < 64) : bV W k R N Q (2 + i * 3 + 1) = .int .i64 (R i).2.1 := by
  unfold bV
  rw [if_neg (by omega), if_neg (by omega), if_neg (by omega), if_neg (by omega), if_neg (by omega), if_pos (by omega), show (2 + i * 3 + 1 - 2) / 3 = i by omega]
theorem bV_2 {W : Int} {k : Nat} {R : Nat → Rw} {N Q : Int} {i : Nat} (hi : i < 64) : bV W k R N Q (2 + i * 3 + 2) = .bool (R i).2.2 := by
  unfold bV
  rw [if_neg (by omega), if_neg (by omega), if_neg (by omega), if_neg (by omega), if_neg (by omega), if_neg (by omega), show (2 + i * 3 + 2 - 2) / 3 = i by omega]
theorem Bx.row {w : World} {b : Nat} {W : Int} {k : Nat} {R : Nat → Rw} {N Q : Int} (h : Bx w b W k R N Q) {i : Nat} (hi : i < 64) :
    w.cell? ⟨b, 2 + i * 3, none⟩ = some (.int .i64 (R i).1) ∧ w.cell? ⟨b, 2 + i * 3 + 1, none⟩ = some (.int .i64 (R i).2.1) ∧ w.cell? ⟨b, 2 + i * 3 + 2, none⟩ = some (.bool (R i).2.2) :=
  ⟨by rw [h.cell (by omega), bV_0 hi], by rw [h.cell (by omega), bV_1 hi], by rw [h.cell (by omega), bV_2 hi]⟩
theorem Bx.kept {w w' : World} {b : Nat} {W : Int} {k : Nat} {R : Nat → Rw} {N Q : Int} {X : Nat → Prop} (h : Bx w b W k R N Q) (ha : Apart X w w') (hx : ¬ X b) : Bx w' b W k R N Q := ha.heap h hx
theorem Bx.lt {w : World} {b : Nat} {W : Int} {k : Nat} {R : Nat → Rw} {N Q : Int} (h : Bx w b W k R N Q) : b < w.heap.size := lt_of_heap h
theorem Bx.frozen {w : World} {b : Nat} {W : Int} {k : Nat} {R : Nat → Rw} {N Q : Int} (h : Bx w b W k R N Q) (j : Nat) : w.frozen? ⟨b, j, none⟩ = false := frozen_of h j
theorem set_heap {w : World} {b i : Nat} {c : Array Value} {T : TypeId} (v : Value) (h : w.heap[b]? = some (.cells c T (0, 0))) : (w.setCell ⟨b, i, none⟩ v).heap[b]? = some (.cells (c.setIfInBounds i v) T (0, 0)) := heap_setCell_same w b i c T v h
theorem Bx.set_newest {w : World} {b : Nat} {W : Int} {k : Nat} {R : Nat → Rw} {N Q : Int} (h : Bx w b W k R N Q) (x : Int) : Bx (w.setCell ⟨b, 194, none⟩ (.int .i64 x)) b W k R x Q := by
  unfold Bx
  rw [set_heap _ h, bC_set (W' := W) (k' := k) (R' := R) (N' := x) (Q' := Q) (v := .int .i64 x) rfl (fun j _ h => by unfold bV; simp [h])]
theorem Bx.set_queue {w : World} {b : Nat} {W : Int} {k : Nat} {R : Nat → Rw} {N Q : Int} (h : Bx w b W k R N Q) (x : Int) : Bx (w.setCell ⟨b, 195, none⟩ (.int .i64 x)) b W k R N x := by
  unfold Bx
  rw [set_heap _ h, bC_set (W' := W) (k' := k) (R' := R) (N' := N) (Q' := x) (v := .int .i64 x) rfl (fun j _ h => by unfold bV; simp [h])]
theorem bV_upd {W : Int} {k : Nat} {R : Nat → Rw} {N Q : Int} {i : Nat} {r : Rw} {j : Nat} (hj : j < 196) (m : Nat) (hne : j ≠ 2 + i * 3 + m)
    (h0 : m ≠ 0 → r.1 = (R i).1) (h1 : m ≠ 1 → r.2.1 = (R i).2.1) (h2 : m ≠ 2 → r.2.2 = (R i).2.2) : bV W k (upd R i r) N Q j = bV W k R N Q j := by
  unfold bV
  by_cases a0 : j = 0
  · rw [if_pos a0, if_pos a0]
  · rw [if_neg a0, if_neg a0]
    by_cases a1 : j = 1
    · rw [if_pos a1, if_pos a1]
    · rw [if_neg a1, if_neg a1]
      by_cases a2 : j = 194
      · rw [if_pos a2, if_pos a2]
      · rw [if_neg a2, if_neg a2]
        by_cases a3 : j = 195
        · rw [if_pos a3, if_pos a3]
        · rw [if_neg a3, if_neg a3]
          unfold upd
          by_cases e : (j - 2) / 3 = i
          · rw [if_pos e, e]
            by_cases b0 : (j - 2) % 3 = 0
            · rw [if_pos b0, if_pos b0, h0 (by omega)]
            · rw [if_neg b0, if_neg b0]
              by_cases b1 : (j - 2) % 3 = 1
              · rw [if_pos b1, if_pos b1, h1 (by omega)]
              · rw [if_neg b1, if_neg b1, h2 (by omega)]
          · rw [if_neg e]
theorem Bx.set_num {w : World} {b : Nat} {W : Int} {k : Nat} {R : Nat → Rw} {N Q : Int} (h : Bx w b W k R N Q) {i : Nat} (hi : i < 64) (x : Int) : Bx (w.setCell ⟨b, 2 + i * 3, none⟩ (.int .i64 x)) b W k (upd R i (x, (R i).2)) N Q := by
  unfold Bx
  rw [set_heap _ h, bC_set (W' := W) (k' := k) (R' := upd R i (x, (R i).2)) (N' := N) (Q' := Q) (v := .int .i64 x) (by rw [bV_0 hi]; simp [upd]) (fun j hj hne => bV_upd hj 0 (by omega) (fun h => absurd rfl h) (fun _ => rfl) (fun _ => rfl))]
theorem Bx.set_least {w : World} {b : Nat} {W : Int} {k : Nat} {R : Nat → Rw} {N Q : Int} (h : Bx w b W k R N Q) {i : Nat} (hi : i < 64) (x : Int) : Bx (w.setCell ⟨b, 2 + i * 3 + 1, none⟩ (.int .i64 x)) b W k (upd R i ((R i).1, x, (R i).2.2)) N Q := by
  unfold Bx
  rw [set_heap _ h, bC_set (W' := W) (k' := k) (R' := upd R i ((R i).1, x, (R i).2.2)) (N' := N) (Q' := Q) (v := .int .i64 x) (by rw [bV_1 hi]; simp [upd]) (fun j hj hne => bV_upd hj 1 hne (fun _ => rfl) (fun h => absurd rfl h) (fun _ => rfl))]
theorem Bx.set_filled {w : World} {b : Nat} {W : Int} {k : Nat} {R : Nat → Rw} {N Q : Int} (h : Bx w b W k R N Q) {i : Nat} (hi : i < 64) (x : Bool) : Bx (w.setCell ⟨b, 2 + i * 3 + 2, none⟩ (.bool x)) b W k (upd R i ((R i).1, (R i).2.1, x)) N Q := by
  unfold Bx
  rw [set_heap _ h, bC_set (W' := W) (k' := k) (R' := upd R i ((R i).1, (R i).2.1, x)) (N' := N) (Q' := Q) (v := .bool x) (by rw [bV_2 hi]; simp [upd]) (fun j hj hne => bV_upd hj 2 hne (fun _ => rfl) (fun _ => rfl) (fun h => absurd rfl h))]
theorem upd_upd (R : Nat → Rw) (i : Nat) (r s : Rw) : upd (upd R i r) i s = upd R i s := by funext j; unfold upd; split <;> rfl
theorem upd_at (R : Nat → Rw) (i : Nat) (r : Rw) : upd R i r i = r := by unfold upd; rw [if_pos rfl]

section
variable {P : Program}
theorem wpList_build_is {ops : Array Oper} {rest : List Oper} {o : Oper} {a : Act} {w : World} {Q : Exit → Act → World → Prop} (hg : o.guard = none) (t : TypeId) (parts : Array (Nat × Operand)) (ho : o.op = .build t parts)
    (cells : Array Value) (hf : P.built t (parts.map fun (i, x) => (i, a.eval x)).toList = some cells)
    (h : wpList P ops Q rest (a.put o.dst (.agg cells)) w) : wpList P ops Q (o :: rest) a w :=
  wpList_build hg t parts ho (by rw [hf]; rfl) (by rw [hf]; exact h)
end
set_option maxHeartbeats 400000 in
theorem new_any (W : Int) (k : Nat) (h1 : 1 ≤ W) (h2 : W ≤ 1125899906842624) (k1 : 1 ≤ k) (k2 : k ≤ 64) (w : World) :
    Calls Try.prog 8 #[.int .i64 W, .int .i64 k] w fun e w' => e = .returned (.tuple #[.pointer (some ⟨w.heap.size, 0, none⟩), .int .i64 0]) ∧ Bx w' w.heap.size W k (fun _ => (0, 0, false)) 0 0 ∧ Apart (fun _ => False) w w' := by
  have A0 := mkHid ((Apart.refl (fun _ => False) w).alloc (.cells (bC W k (fun _ => (0, 0, false)) 0 0) 48))
  go_enter Try.func8, Try.ntmps8
  go_wp2_with (refine wpList_build_is rfl 48 _ rfl (bC W k (fun _ => (0, 0, false)) 0 0) (by kernel_rfl) ?_)
  go_ret2
  exact ⟨rfl, heap_alloc_new w _, A0.out⟩
/-- What New refuses. -/
def bad (W k : Int) : Prop := W < 1 ∨ 1125899906842624 < W ∨ k < 1 ∨ 64 < k
set_option maxHeartbeats 400000 in
theorem new_no (W k : Int) (h : bad W k) (w : World) :
    Calls Try.prog 8 #[.int .i64 W, .int .i64 k] w fun e w' => e = .returned (.tuple #[.pointer none, .int .i64 1]) ∧ w' = w := by
  by_cases h1 : W < 1
  · clear h
    go_enter Try.func8, Try.ntmps8
    go_wp2
    go_ret2
    exact ⟨rfl, rfl⟩
  · by_cases h2 : 1125899906842624 < W
    · clear h
      go_enter Try.func8, Try.ntmps8
      go_wp2
      go_ret2
      exact ⟨rfl, rfl⟩
    · by_cases h3 : k < 1
      · clear h
        go_enter Try.func8, Try.ntmps8
        go_wp2
        go_ret2
        exact ⟨rfl, rfl⟩
      · have h4 : 64 < k := by unfold bad at h; omega
        clear h
        go_enter Try.func8, Try.ntmps8
        go_wp2
        go_ret2
        exact ⟨rfl, rfl⟩
set_option maxHeartbeats 400000 in
theorem queue_any {w : World} {b : Nat} {W : Int} {k : Nat} {R : Nat → Rw} {N Q : Int} (h : Bx w b W k R N Q) :
    Calls Try.prog 14 #[.pointer (some ⟨b, 0, none⟩)] w fun e w' => e = .returned (.int .i64 Q) ∧ w' = w := by
  have c := h.queue
  clear h
  go_enter Try.func14, Try.ntmps14
  go_wp2
  go_ret
  exact ⟨rfl, rfl⟩
theorem queue_nil (w : World) : Calls Try.prog 14 #[.pointer none] w fun e w' => e = .returned (.int .i64 0) ∧ w' = w := by
  go_enter Try.func14, Try.ntmps14
  go_wp2
  go_ret
  exact ⟨rfl, rfl⟩
theorem least_nil (w : World) : Calls Try.prog 12 #[.pointer none] w fun e w' => e = .returned (.tuple #[.int .i64 0, .bool false]) ∧ w' = w := by
  go_enter Try.func12, Try.ntmps12
  go_wp2
  go_ret2
  exact ⟨rfl, rfl⟩
theorem add_nil (at0 d : Int) (w : World) : Calls Try.prog 10 #[.pointer none, .int .i64 at0, .int .i64 d] w fun e w' => e = .returned (.int .i64 0) ∧ w' = w := by
  go_enter Try.func10, Try.ntmps10
  go_wp2
  go_ret
  exact ⟨rfl, rfl⟩
set_option maxHeartbeats 400000 in
theorem clamp_any (a lo hi : Int) (hl : lo ≤ hi) (w : World) : Calls Try.prog 19 #[.int .i64 a, .int .i64 lo, .int .i64 hi] w fun e w' => e = .returned (.int .i64 (max lo (min a hi))) ∧ w' = w := by
  go_enter Try.func19, Try.ntmps19
  go_wp2
  all_goals go_ret
  all_goals exact ⟨ret_i (by omega), rfl⟩
/-- An array behind a pointer, cut to its first elements. -/
theorem run_cut {P : Program} (w : World) (t e : TypeId) (n : Nat) (hu : P.underlying t = some (.array n e)) {i : TypeInfo} (hi : P.info? e = some i) (b off k : Nat) (kk : IntKind) (hk : k ≤ n) :
    (Instr.sliceAt t (.pointer (some ⟨b, off, none⟩)) none (some (.int kk k)) none).run P w = .ok (.slice (some ⟨b, off, none⟩) k n) w := by
  have h1 : ¬ n < k := by omega
  simp [Instr.sliceAt, run_underlying hu, Instr.sureAddr, Instr.sliceBounds, Instr.sliceBound, asIntOf, sizeOf, typeInfo, hi, Addr.add]
  omega
theorem info45 : ∃ i, Try.prog.info? 45 = some i := Option.isSome_iff_exists.1 (by kernel_rfl)
set_option maxHeartbeats 400000 in
theorem cut_any {w : World} {b : Nat} {W : Int} {k : Nat} {R : Nat → Rw} {N Q : Int} (h : Bx w b W k R N Q) (k2 : k ≤ 64) :
    Calls Try.prog 23 #[.pointer (some ⟨b, 0, none⟩)] w fun e w' => e = .returned (.slice (some ⟨b, 2, none⟩) k 64) ∧ Apart (fun _ => False) w w' := by
  have c := fun p => Bx.rows (w := wd w p) (wd_heap h p)
  obtain ⟨i45, hi45⟩ := info45
  have r := fun w => run_cut (P := Try.prog) w 46 45 64 (by kernel_rfl) hi45 b 2 k .i64 k2
  clear h hi45
  go_enter Try.func23, Try.ntmps23
  go_upto_region 1 with fail
  refine wp_region_wd (by kernel_rfl) (by kernel_rfl) ?_
  repeat (go_big_quiet_step (fail))
  refine wpQuiet_nil ?_
  rintro _ ⟨p, rfl⟩
  go_wp2
  go_ret
  exact ⟨rfl, wd_apart _ _⟩
set_option maxHeartbeats 400000 in
theorem counts_any {w : World} {b : Nat} {W : Int} {k : Nat} {R : Nat → Rw} {N Q : Int} (h : Bx w b W k R N Q) (n0 : 0 ≤ N) (n1 : N ≤ 1125899906842624) (k2 : k ≤ 64) (n : Int) :
    Calls Try.prog 20 #[.pointer (some ⟨b, 0, none⟩), .int .i64 n] w fun e w' => e = .returned (.bool (decide (N - k < n))) ∧ Apart (fun _ => False) w w' := by
  have S := mkHid (fun W => (Sat.sub_any N k (by omega) (by omega) (by omega) (by omega) W).mono (fun e w' ⟨h1, h2⟩ => And.intro h1 (below_apart h2)))
  have E : Sat.satH (N - k) = N - k := Sat.satH_in _ (by omega) (by omega)
  rw [E] at S
  have c1 := fun p => Bx.rows (w := wd w p) (wd_heap h p)
  have c2 := fun p => Bx.newest (w := wd w p) (wd_heap h p)
  clear h E
  go_enter Try.func20, Try.ntmps20
  go_upto_region 1 with fail
  refine wp_region_wd (by kernel_rfl) (by kernel_rfl) ?_
  repeat (go_big_quiet_step ((go_at_call 24; exact wd_call (S.out _))))
  refine wpQuiet_nil ?_
  rintro _ ⟨p, rfl⟩
  go_wp2
  go_ret
  exact ⟨rfl, wd_apart _ _⟩
end Go.Proofs.Ytnjghgbaffkafaa
