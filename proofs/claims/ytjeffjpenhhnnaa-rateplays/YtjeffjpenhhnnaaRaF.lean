/-
  The reference's meter in memory; how it takes down what was lost.
-/
import Derived.Test.YtjeffjpenhhnnaaRaQ
import Derived.Deep.LoopGhost
import Derived.Deep.RegionHeld3
namespace Go.Proofs.Ytjeffjpenhhnnaa
open Go.RowKit

/-- A list of elements of so many cells in a block of N's. -/
def Lq (N : Nat → Prop) (w : World) (size : Nat) (v : Value) (n : Nat) (xs : List Value) : Prop :=
  (v = .slice none 0 0 ∧ n = 0 ∧ xs = []) ∨ ∃ g off c, v = .slice (some ⟨g, off, none⟩) n c ∧ N g ∧ n ≤ c ∧ c ≤ maxLen ∧ g < w.heap.size ∧ xs.length = n * size ∧ ∀ j u, xs[j]? = some u → w.cell? ⟨g, off + j, none⟩ = some u
theorem Lq.src {N : Nat → Prop} {w : World} {size : Nat} {v : Value} {n : Nat} {xs : List Value} (h : Lq N w size v n xs) : SrcN w size v n xs := by
  rcases h with ⟨rfl, rfl, rfl⟩ | ⟨g, off, c, rfl, _, _, _, _, hl, hc⟩
  · exact .inl ⟨0, rfl, rfl, rfl⟩
  · exact .inr ⟨_, _, rfl, hl, fun j u hj => by rw [Addr.add_lit]; exact hc j u hj⟩
theorem Lq.kept {N Y : Nat → Prop} {w w' : World} {size : Nat} {v : Value} {n : Nat} {xs : List Value} (h : Lq N w size v n xs) (ha : Apart Y w w') (hy : ∀ k, N k → ¬ Y k) : Lq N w' size v n xs := by
  rcases h with h | ⟨g, off, c, h1, h2, h3, h4, h5, h6, h7⟩
  · exact .inl h
  · exact .inr ⟨g, off, c, h1, h2, h3, h4, Nat.lt_of_lt_of_le h5 ha.size, h6, fun j u hj => by rw [ha.cell (p := ⟨g, off + j, none⟩) h5 (hy g h2)]; exact h7 j u hj⟩
theorem Lq.mono {N M : Nat → Prop} {w : World} {size : Nat} {v : Value} {n : Nat} {xs : List Value} (h : Lq N w size v n xs) (hm : ∀ k, N k → M k) : Lq M w size v n xs := by
  rcases h with h | ⟨g, off, c, h1, h2, h3⟩
  · exact .inl h
  · exact .inr ⟨g, off, c, h1, hm g h2, h3⟩
theorem Lq.slice {N : Nat → Prop} {w : World} {size : Nat} {v : Value} {n : Nat} {xs : List Value} (h : Lq N w size v n xs) : ∃ a c, v = .slice a n c := by
  rcases h with ⟨rfl, rfl, rfl⟩ | ⟨g, off, c, rfl, _⟩
  · exact ⟨none, 0, rfl⟩
  · exact ⟨_, _, rfl⟩
theorem Lq.cut {N : Nat → Prop} {w : World} {size g off n c : Nat} {xs : List Value} (h : Lq N w size (.slice (some ⟨g, off, none⟩) n c) n xs) (i : Nat) (hi : i ≤ n) : Lq N w size (.slice (some ⟨g, off + i * size, none⟩) (n - i) (c - i)) (n - i) (xs.drop (i * size)) := by
  rcases h with ⟨h, _⟩ | ⟨g', off', c', e, h2, h3, h4, h5, h6, h7⟩
  · cases h
  · simp only [Value.slice.injEq, Option.some.injEq, Addr.mk.injEq, and_true] at e
    obtain ⟨⟨rfl, rfl⟩, -, rfl⟩ := e
    refine .inr ⟨g, off + i * size, c - i, rfl, h2, by omega, by omega, h5, by rw [List.length_drop, h6, Nat.sub_mul], fun j u hj => ?_⟩
    rw [List.getElem?_drop] at hj
    rw [Nat.add_assoc]
    exact h7 _ u hj
theorem lq_own {w : World} {base size : Nat} {e : TypeId} {v : Value} {n : Nat} {xs : List Value} (h : w.ownsRow base e size v n xs) : Lq (fun k => base ≤ k ∧ v.ownBlock = some k) w size v n xs := by
  obtain ⟨hl, h⟩ := h
  rcases h with ⟨rfl, rfl⟩ | ⟨g, cap, cur, rfl, hg, hh, hn, hm, h1, h2⟩
  · refine .inl ⟨rfl, rfl, ?_⟩
    rw [Nat.zero_mul] at hl
    exact List.length_eq_zero_iff.1 hl
  · refine .inr ⟨g, 0, cap, rfl, ⟨hg, rfl⟩, hn, hm, lt_of_heap hh, hl, fun j u hj => ?_⟩
    rw [Nat.zero_add, cell_of_row _ _ j _ e _ hh]
    have := (List.getElem?_eq_some_iff.1 hj).1
    have h3 := congrArg (fun l => l[j]?) h2
    simp only [List.getElem?_take] at h3
    rw [if_pos (by omega), Array.getElem?_toList] at h3
    rw [h3]; exact hj

theorem src_new (w : World) (cs : List Value) (t : TypeId) (size : Nat) (h : cs.length = size) : SrcN (w.alloc (.cells cs.toArray t)) size (.slice (some ⟨w.heap.size, 0, none⟩) 1 1) 1 cs := by
  refine .inr ⟨_, 1, rfl, by omega, fun j u hj => ?_⟩
  rw [Addr.add_lit, Nat.zero_add, cell_of_row _ _ j _ t _ (heap_alloc_new _ _)]
  simpa using hj
theorem info3 : ∃ i, Try.prog.info? 3 = some i ∧ i.zero = some (.int .i64 0) ∧ i.size = 1 ∧ i.bytes = 8 := by
  obtain ⟨i, hi, hh⟩ := Option.map_eq_some_iff.1 (show (Try.prog.info? 3).map (fun i => (i.zero, i.size, i.bytes)) = some (some (.int .i64 0), 1, 8) by kernel_rfl)
  simp only [Prod.mk.injEq] at hh
  exact ⟨i, hi, hh.1, hh.2.1, hh.2.2⟩
theorem info59 : ∃ i, Try.prog.info? 59 = some i ∧ i.zero = some (sV (0, 0)) ∧ i.size = 2 ∧ i.bytes = 16 := by
  obtain ⟨i, hi, hh⟩ := Option.map_eq_some_iff.1 (show (Try.prog.info? 59).map (fun i => (i.zero, i.size, i.bytes)) = some (some (sV (0, 0)), 2, 16) by kernel_rfl)
  simp only [Prod.mk.injEq] at hh
  exact ⟨i, hi, hh.1, hh.2.1, hh.2.2⟩

def b2i (x : Bool) : Int := if x then 1 else 0
def vB (x : Bool) : Value := .int .i64 (b2i x)
def bC (l : List Bool) : List Value := l.map vB
@[simp] theorem bC_len (l : List Bool) : (bC l).length = l.length := List.length_map ..
theorem bC_app (l m : List Bool) : bC (l ++ m) = bC l ++ bC m := List.map_append ..
theorem one_bC (l : List Bool) : ∀ u ∈ bC l, u.oneCell' = true := by
  intro u hu
  obtain ⟨x, -, rfl⟩ := List.mem_map.1 hu
  rfl

/-- The reference's meter. -/
def Rb (w : World) (c : Nat) (win : Int) (lv : Value) (sm : Bool) (en ear : Int) (tv : Value) : Prop :=
  w.heap[c]? = some (.cells #[.int .i64 win, lv, .bool sm, .int .i64 en, .int .i64 ear, tv] 53 (0, 0))
theorem cells6 {w : World} {b : Nat} {v0 v1 v2 v3 v4 v5 : Value} {T : TypeId} (h : w.heap[b]? = some (.cells #[v0, v1, v2, v3, v4, v5] T (0, 0))) :
    w.cell? ⟨b, 0, none⟩ = some v0 ∧ w.cell? ⟨b, 1, none⟩ = some v1 ∧ w.cell? ⟨b, 2, none⟩ = some v2 ∧ w.cell? ⟨b, 3, none⟩ = some v3 ∧ w.cell? ⟨b, 4, none⟩ = some v4 ∧ w.cell? ⟨b, 5, none⟩ = some v5 ∧ (∀ j, w.frozen? ⟨b, j, none⟩ = false) :=
  ⟨cell_of_row w b 0 _ T _ h, cell_of_row w b 1 _ T _ h, cell_of_row w b 2 _ T _ h, cell_of_row w b 3 _ T _ h, cell_of_row w b 4 _ T _ h, cell_of_row w b 5 _ T _ h, fun j => frozen_of h j⟩
theorem Rb.kept {w w' : World} {c : Nat} {win : Int} {lv : Value} {sm : Bool} {en ear : Int} {tv : Value} {X : Nat → Prop} (h : Rb w c win lv sm en ear tv) (ha : Apart X w w') (hx : ¬ X c) : Rb w' c win lv sm en ear tv := ha.heap h hx

theorem rnew_any (T : Int) (h1 : 1 ≤ T) (h2 : T ≤ 1125899906842624) (w : World) :
    Calls Try.prog 9 #[.int .i64 T] w fun e w' => (∃ b, e = .returned (.tuple #[.pointer (some ⟨b, 0, none⟩), .int .i64 0]) ∧ Rb w' b T (.slice none 0 0) false 0 0 (.slice none 0 0) ∧ b = w.heap.size) ∧ Apart (fun _ => False) w w' := by
  have A0 := mkHid ((Apart.refl (fun _ => False) w).alloc (.cells #[.int .i64 T, .slice none 0 0, .bool false, .int .i64 0, .int .i64 0, .slice none 0 0] 53))
  go_enter Try.func9, Try.ntmps9
  go_wp2
  go_ret2
  exact ⟨⟨w.heap.size, rfl, heap_alloc_new w _, rfl⟩, A0.out⟩
theorem rnew_no (T : Int) (h : T < 1 ∨ 1125899906842624 < T) (w : World) :
    Calls Try.prog 9 #[.int .i64 T] w fun e w' => e = .returned (.tuple #[.pointer none, .int .i64 1]) ∧ w' = w := by
  by_cases h1 : T < 1
  · clear h
    go_enter Try.func9, Try.ntmps9
    go_wp2
    go_ret2
    exact ⟨rfl, rfl⟩
  · have h2 : 1125899906842624 < T := by omega
    clear h
    go_enter Try.func9, Try.ntmps9
    go_wp2
    go_ret2
    exact ⟨rfl, rfl⟩

def ntF (T : List Bool) (x : Bool) : List Bool := (T ++ [x]).drop (T.length + 1 - 64)
def NoP (c : Nat) (win : Int) (lv : Value) (sm : Bool) (en ear : Int) (T : List Bool) (x : Bool) (w : World) (e : Ending) (w' : World) : Prop :=
  e = .returned (.tuple #[]) ∧ ∃ tv, Rb w' c win lv sm en ear tv ∧ Lq (fun k => w.heap.size ≤ k) w' 1 tv (ntF T x).length (bC (ntF T x)) ∧ Apart (fun k => k = c) w w'
set_option maxHeartbeats 4000000 in
set_option maxRecDepth 100000 in
theorem note_any {M : Nat → Prop} {w : World} {c : Nat} {win : Int} {lv : Value} {sm : Bool} {en ear : Int} {tv : Value} (h : Rb w c win lv sm en ear tv) (T : List Bool) (hq : Lq M w 1 tv T.length (bC T)) (hT : T.length ≤ 64) (x : Bool) :
    Calls Try.prog 28 #[.pointer (some ⟨c, 0, none⟩), .int .i64 (b2i x)] w (NoP c win lv sm en ear T x w) := by
  obtain ⟨i3, hi3, hz30, hz31, hz32⟩ := info3
  obtain ⟨ta, tc, rfl⟩ := hq.slice
  have A0 := mkHid ((Apart.refl (fun _ => False) w).alloc (.cells #[] 3))
  have OE := mkHid (own_empty w w.heap.size 3 1 (Nat.le_refl _))
  have S0 := mkHid ((hq.kept A0.out (fun _ _ h => h)).src)
  have H0 := mkHid (h.kept A0.out (fun h => h))
  have H9 := mkHid h
  have hcw : c < w.heap.size := lt_of_heap h
  obtain ⟨n, HN⟩ : ∃ n, Hid (T.length = n) := ⟨_, mkHid rfl⟩
  obtain ⟨c0, c1, c2, c3, c4, c5, cf⟩ := cells6 H0.out
  rw [HN.out] at S0 hT c5
  obtain ⟨y, HY⟩ : ∃ y, Hid (b2i x = y) := ⟨_, mkHid rfl⟩
  rw [HY.out]
  clear h hq c0 c1 c2 c3 c4
  go_enter Try.func28, Try.ntmps28
  go_wp2_with (first | (at_builtin; refine wpList_append_told _ rfl (.tmp 10) (.tmp 12) 45 rfl w.heap.size 3 i3 _ 1 8 Try.underlying45 hi3 hz30 hz31 hz32 rfl (by decide) _ _ _ rfl (ownsRow_apart O6.out ((Apart.refl (fun _ => False) _).alloc _) (fun _ _ h => h)) _ 1 [.int .i64 y] rfl (src_new w6 _ 3 1 rfl) (by intro u hu; rw [List.mem_singleton] at hu; subst hu; rfl) (by unfold maxLen; omega) (by omega) (by simp; omega) ?_; intro v7 w7 hown hgr hx; have O7 := mkHid hown; have B7 := mkHid ((B6.out.alloc _).grown hgr (fun x hx e => absurd hx (Nat.not_lt.2 (O6.out.lt x e).1))); clear hown hgr hx; obtain ⟨va, vc, hv⟩ := ownsRow_slice O7.out; subst hv; obtain ⟨d0, d1, d2, d3, d4, d5, df⟩ := cells6 (H9.out.kept B7.out (fun h => h)); clear d0 d1 d2 d3 d4) | (at_builtin; refine wpList_append_told _ rfl (.tmp 5) (.tmp 9) 45 rfl w.heap.size 3 i3 _ 1 8 Try.underlying45 hi3 hz30 hz31 hz32 rfl (by decide) _ 0 [] rfl OE.out _ n (bC T) rfl S0.out (one_bC T) (by unfold maxLen; omega) (by omega) (by simp) ?_; intro v6 w6 hown hgr hx; have O6 := mkHid hown; have B6 := mkHid (A0.out.grown hgr (fun x hx e => absurd hx (Nat.not_lt.2 (OE.out.lt x e).1))); have hs6 := B6.out.size; clear hown hgr hx))
  · have hn : n = 64 := by omega
    subst hn
    have R8 := mkHid (show Rb (w7.setCell ⟨c, 5, none⟩ (.slice va (64 + 1) vc)) c win lv sm en ear (.slice va (64 + 1) vc) from heap_setCell_same w7 c 5 _ 53 _ (H9.out.kept B7.out (fun h => h)))
    have Q7 := mkHid (((lq_own O7.out).mono (fun _ h => h.1)).kept (ap_set w7 c 5 (.slice va (64 + 1) vc)) (fun k hk e => by omega))
    have A8 := mkHid ((B7.out.mono (fun _ _ h => h.elim)).trans (ap_set w7 c 5 (.slice va (64 + 1) vc)) (fun _ _ h => h))
    obtain ⟨w8, HW8⟩ : ∃ w8, Hid (w7.setCell ⟨c, 5, none⟩ (.slice va (64 + 1) vc) = w8) := ⟨_, mkHid rfl⟩
    rw [HW8.out] at R8 A8 Q7 ⊢
    obtain ⟨g, rfl, hvc⟩ : ∃ g, va = some ⟨g, 0, none⟩ ∧ 65 ≤ vc := by
      rcases O7.out.2 with ⟨_, h⟩ | ⟨g, cap, cur, e, _, _, h, _⟩
      · cases h
      · cases e; exact ⟨g, rfl, h⟩
    clear d5 df cf c5
    obtain ⟨e0, e1, e2, e3, e4, e5, ef⟩ := cells6 R8.out
    have hvc2 : (65 : Int) ≤ vc := by omega
    have hvc3 : 1 < vc := by omega
    have hvc4 : (1 : Int) < vc := by omega
    clear e0 e1 e2 e3 e4 hs6 hT hcw
    go_region
    go_wp2
    go_end0
    have hl : (ntF T x).length = 64 := by unfold ntF; rw [List.length_drop, List.length_append, HN.out]; rfl
    have hc : bC (ntF T x) = ([] ++ bC T ++ [Value.int .i64 y]).drop (1 * 1) := by unfold ntF; rw [HN.out, ← HY.out, List.nil_append]; show bC ((T ++ [x]).drop 1) = (bC T ++ [vB x]).drop 1; unfold bC; rw [List.map_drop, List.map_append]; rfl
    have Q8 := (Q7.out.cut 1 (by omega)).kept ((ap_set w8 c 5 (.slice (some ⟨g, 1, none⟩) 64 (vc - 1))).drew) (fun k hk e => by have := lt_of_heap H9.out; omega)
    refine ⟨rfl, _, heap_setCell_same w8 c 5 _ 53 _ R8.out, ?_, (A8.out.trans (ap_set w8 c 5 _) (fun _ _ h => h)).drew⟩
    rw [hl, hc]
    exact Q8
  · have hn : n < 64 := by omega
    have R8 := mkHid (show Rb (w7.setCell ⟨c, 5, none⟩ (.slice va (n + 1) vc)) c win lv sm en ear (.slice va (n + 1) vc) from heap_setCell_same w7 c 5 _ 53 _ (H9.out.kept B7.out (fun h => h)))
    have Q7 := mkHid (((lq_own O7.out).mono (fun _ h => h.1)).kept (ap_set w7 c 5 (.slice va (n + 1) vc)) (fun k hk e => by omega))
    have A8 := mkHid ((B7.out.mono (fun _ _ h => h.elim)).trans (ap_set w7 c 5 (.slice va (n + 1) vc)) (fun _ _ h => h))
    have hl : (ntF T x).length = 0 + n + 1 := by unfold ntF; rw [List.length_drop, List.length_append, HN.out, List.length_singleton]; omega
    have hc : bC (ntF T x) = [] ++ bC T ++ [Value.int .i64 y] := by unfold ntF; rw [HN.out, ← HY.out, List.nil_append, show n + 1 - 64 = 0 by omega, List.drop_zero]; unfold bC; rw [List.map_append]; rfl
    clear d5 df cf c5
    go_wp2
    go_end0
    refine ⟨rfl, _, R8.out, ?_, A8.out⟩
    rw [hl, hc, show (0 + n + 1 : Nat) = n + 1 by omega]
    have := Q7.out
    rw [show (0 + n + 1 : Nat) = n + 1 by omega] at this
    exact this
end Go.Proofs.Ytjeffjpenhhnnaa
