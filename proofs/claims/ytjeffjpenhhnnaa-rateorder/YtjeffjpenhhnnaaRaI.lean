/-
  slices.Insert of one sample into a queue: at the end or ahead of it, with room or without.
-/
import Derived.Test.YtjeffjpenhhnnaaRaM
namespace Go.Proofs.Ytjeffjpenhhnnaa
open Go.RowKit

theorem info56 : ∃ i, Try.prog.info? 56 = some i ∧ i.zero = some (sV (0, 0)) ∧ i.size = 2 ∧ i.bytes = 16 := by
  obtain ⟨i, hi, hh⟩ := Option.map_eq_some_iff.1 (show (Try.prog.info? 56).map (fun i => (i.zero, i.size, i.bytes)) = some (some (sV (0, 0)), 2, 16) by kernel_rfl)
  simp only [Prod.mk.injEq] at hh
  exact ⟨i, hi, hh.1, hh.2.1, hh.2.2⟩
theorem size56 : (Try.prog.info? 56).map (·.size) = some 2 := by kernel_rfl
theorem apart_row {N : Nat → Prop} {w : World} {g : Nat} (hg : N g) (cs : Array Value) : Apart N w (w.setRow g cs) :=
  ⟨rfl, rfl, rfl, by simp [World.setRow], fun k _ hx => setRow_other w g k cs (fun e => hx (e ▸ hg))⟩

set_option maxHeartbeats 4000000 in
set_option maxRecDepth 100000 in
/-- At the end, with room. -/
theorem ins_room (g off n c vb : Nat) (cur : List Value) (T : TypeId) (s : Sm) {w : World} (hg : w.heap[g]? = some (.cells (List.toArray cur) 56 (0, 0))) (hs : w.heap[vb]? = some (.cells (sE s).toArray T (0, 0)))
    (hroom : n + 1 ≤ c) (hc : c ≤ maxLen) (hfit : off + c * 2 ≤ cur.length) :
    Calls Try.prog 36 #[.slice (some ⟨g, off, none⟩) n c, .int .i64 n, .slice (some ⟨vb, 0, none⟩) 1 1] w fun e w' =>
      e = .returned (.slice (some ⟨g, off, none⟩) (n + 1) c) ∧ w' = w.setRow g (splice cur (off + n * 2) (sE s)).toArray := by
  have hc' : c ≤ 9223372036854775807 := hc
  obtain ⟨i0, hi0, hz0, hzs, hzb⟩ := info56
  have hsrc : ∀ j v, (sE s)[j]? = some v → w.cell? ((⟨vb, 0, none⟩ : Addr).add j) = some v := fun j v hj => by rw [Addr.add_lit]; exact cell_of hs (by rw [Nat.zero_add]; exact hj)
  have hrun : ∀ ty, (Builtin.append_ #[47, 47] ty #[.slice (some ⟨g, off, none⟩) n c, .slice (some ⟨vb, 0, none⟩) 1 1]).run Try.prog w = .ok (.slice (some ⟨g, off, none⟩) (n + 1) c) (w.setRow g (splice cur (off + n * 2) (sE s)).toArray) := fun ty => by
    have hfc := run_firstCells_some (P := Try.prog) w i0.size 1 ⟨vb, 0, none⟩ 1 1 (sE s) (by rw [hzs]; rfl) hsrc
    have hst := run_storeCells_at Try.prog g (off + n * 2) 56 (sE s) 0 cur.toArray w hg (by simp; omega) (one_sE s)
    simp only [Nat.add_zero] at hst
    rw [hzs] at hfc
    simp [Builtin.append_, run_underlying Try.underlying47, sizeOf, typeInfo, hi0, hzs, Builtin.lenOf, hroom, Addr.add_lit, hfc, hst, splice, List.append_assoc]
  clear hg hs hsrc hfit
  go_enter Try.func36, Try.ntmps36
  go_wp2_with (at_builtin; refine Lib.wpList_append_run _ rfl _ _ _ _ rfl _ _ rfl rfl _ _ (hrun _) ?_)
  go_ret
  exact ⟨rfl, rfl⟩

theorem ZL (G : Nat) {n : Nat} : (Builtin.zeroCells (sV (0, 0)).cells (G - (n + 1))).toList.length = (G - (n + 1)) * 2 := by rw [Array.length_toList, size_zeroCells]; rfl
def EndP (w : World) (cs : List Value) (s : Sm) (n : Nat) (e : Ending) (w' : World) : Prop :=
  ∃ G Z, e = .returned (.slice (some ⟨w.heap.size, 0, none⟩) (n + 1) G) ∧ n + 1 ≤ G ∧ G ≤ maxLen ∧ Z.length = (G - (n + 1)) * 2 ∧ w' = w.drew.alloc (.cells (List.toArray (cs ++ (sE s ++ Z))) 56)
set_option maxHeartbeats 4000000 in
set_option maxRecDepth 100000 in
/-- At the end, without room: a new row. -/
theorem ins_end (base : Option Addr) (n c vb : Nat) (cs : List Value) (T : TypeId) (s : Sm) {w : World} (hs : w.heap[vb]? = some (.cells (sE s).toArray T (0, 0)))
    (hnc : n ≤ c) (hroom : c < n + 1) (hn : n ≤ 1000000) (hcl : cs.length = n * 2) (hnil : base = none → n = 0)
    (hcs : ∀ a, base = some a → ∀ j v, cs[j]? = some v → w.cell? (a.add j) = some v) :
    Calls Try.prog 36 #[.slice base n c, .int .i64 n, .slice (some ⟨vb, 0, none⟩) 1 1] w (EndP w cs s n) := by
  obtain ⟨i0, hi0, hz0, hzs, hzb⟩ := info56
  have hsrc : ∀ j v, (sE s)[j]? = some v → w.cell? ((⟨vb, 0, none⟩ : Addr).add j) = some v := fun j v hj => by rw [Addr.add_lit]; exact cell_of hs (by rw [Nat.zero_add]; exact hj)
  have hS : Src Try.prog i0.size 47 (.slice (some ⟨vb, 0, none⟩) 1 1) 1 (sE s) w := by
    rw [hzs]
    exact Src.ofSlice w Try.underlying47 ⟨vb, 0, none⟩ 1 1 (sE s) rfl hsrc (one_sE s)
  have hold : (Builtin.firstCells i0.size n (.slice base n c)).run Try.prog w.drew = .ok cs.toArray w.drew := by
    rw [hzs]
    cases base with
    | none =>
      have h0 := hnil rfl
      subst h0
      rw [List.length_eq_zero_iff.1 (show cs.length = 0 by omega)]
      exact run_firstCells_none w.drew 2 0 0 c
    | some a => exact run_firstCells_some w.drew 2 n a n c cs hcl (fun j v hj => hcs a rfl j v hj)
  obtain ⟨G, HG⟩ : ∃ G, Hid (G = grownCap w (n + 1) c 56) := ⟨_, mkHid rfl⟩
  obtain ⟨W, HW⟩ : ∃ W, Hid (W = w.drew.alloc (.cells (List.toArray (cs ++ (sE s ++ (Builtin.zeroCells (sV (0, 0)).cells (G - (n + 1))).toList))) 56)) := ⟨_, mkHid rfl⟩
  have hrun : ∀ ty, (Builtin.append_ #[47, 47] ty #[.slice base n c, .slice (some ⟨vb, 0, none⟩) 1 1]).run Try.prog w = .ok (.slice (some ⟨w.heap.size, 0, none⟩) (n + 1) G) W := fun ty => by
    rw [HW.out, HG.out, run_append_grow_src w 47 47 ty 56 i0 (sV (0, 0)) Try.underlying47 hi0 hz0 base n c cs hold _ 1 (sE s) hS hroom (by omega) (by rw [hzb]; exact growslice_fits hroom (by omega))]
    congr 3
    apply Array.ext'
    simp
  have hend : n + 1 ≤ G ∧ G ≤ maxLen := by
    rw [HG.out]
    exact ⟨grownCap_ge w _ _ _, grownCap_le_maxLen w (n + 1) c 56 (by unfold maxLen; omega)⟩
  have HE := mkHid hend
  have hc' : c ≤ 9223372036854775807 := by omega
  clear hold hS hsrc hcs hs hend
  go_enter Try.func36, Try.ntmps36
  cases base with
  | none =>
    have h0 := hnil rfl
    subst h0
    go_wp2_with (at_builtin; refine Lib.wpList_append_run _ rfl _ _ _ _ rfl _ _ rfl rfl _ _ (hrun _) ?_)
    go_ret
    exact ⟨G, _, rfl, HE.out.1, HE.out.2, ZL G, HW.out⟩
  | some a =>
    obtain ⟨ab, ao, asp⟩ := a
    go_wp2_with (at_builtin; refine Lib.wpList_append_run _ rfl _ _ _ _ rfl _ _ rfl rfl _ _ (hrun _) ?_)
    all_goals (go_ret; exact ⟨G, _, rfl, HE.out.1, HE.out.2, ZL G, HW.out⟩)

set_option maxHeartbeats 4000000 in
set_option maxRecDepth 100000 in
/-- Ahead of the end, with room: in place. -/
theorem ins_shift (g off n c i vb : Nat) (cur xs : List Value) (T : TypeId) (s : Sm) {w : World} (hg : w.heap[g]? = some (.cells (List.toArray cur) 56 (0, 0))) (hs : w.heap[vb]? = some (.cells (sE s).toArray T (0, 0)))
    (hi : i < n) (hn : n ≤ 1000000) (hroom : n + 1 ≤ c) (hc : c ≤ maxLen) (hfit : off + c * 2 ≤ cur.length) (hxl : xs.length = n * 2) (hxs : ∀ j u, xs[j]? = some u → cur[off + j]? = some u) (h1 : ∀ u ∈ xs, u.oneCell' = true) (hvb : vb ≠ g) :
    Calls Try.prog 36 #[.slice (some ⟨g, off, none⟩) n c, .int .i64 i, .slice (some ⟨vb, 0, none⟩) 1 1] w fun e w' =>
      e = .returned (.slice (some ⟨g, off, none⟩) (n + 1) c) ∧ w' = (w.drew.setRow g (splice cur (off + (i + 1) * 2) (xs.drop (i * 2))).toArray).setRow g (splice (splice cur (off + (i + 1) * 2) (xs.drop (i * 2))) (off + i * 2) (sE s)).toArray := by
  have hc' : c ≤ 9223372036854775807 := hc
  have hdl : (xs.drop (i * 2)).length = (n - i) * 2 := by rw [List.length_drop, hxl]; omega
  have hov : ∀ lb cb, (callFunc 41 #[.slice (some ⟨vb, 0, none⟩) 1 1, .slice (some ⟨g, off + (i + 1) * 2, none⟩) lb cb]).run Try.prog w = .ok (.value (.bool false)) w := fun lb cb => by
    rw [run_callFunc_extern Try.func41 (by kernel_rfl) (by kernel_rfl) (by kernel_rfl) (e := Extern.SlicesOverlaps.overlaps #[47, 47] #[4]) (by kernel_rfl),
      Lib.run_overlaps_apart w 47 4 56 Try.underlying47 2 (fun w => by kernel_rfl) ⟨vb, 0, none⟩ ⟨g, off + (i + 1) * 2, none⟩ 1 1 lb cb hvb T 56 _ _ (shape_of hs) (shape_of hg) (by rw [List.size_toArray]; omega) (frozen_of hs _) (frozen_of hs _)]
    rfl
  obtain ⟨R1, HR1⟩ : ∃ R1, Hid (R1 = splice cur (off + (i + 1) * 2) (xs.drop (i * 2))) := ⟨_, mkHid rfl⟩
  obtain ⟨R2, HR2⟩ : ∃ R2, Hid (R2 = splice R1 (off + i * 2) (sE s)) := ⟨_, mkHid rfl⟩
  have hR1 : R1.length = cur.length := by rw [HR1.out, length_splice _ _ _ (by rw [hdl]; omega)]
  obtain ⟨W1, HW1⟩ : ∃ W1, Hid (W1 = w.drew.setRow g R1.toArray) := ⟨_, mkHid rfl⟩
  obtain ⟨W2, HW2⟩ : ∃ W2, Hid (W2 = W1.setRow g R2.toArray) := ⟨_, mkHid rfl⟩
  have hcp1 : ∀ ty o dL dc so sL sc, o = off + (i + 1) * 2 → so = off + i * 2 → dL = n - i → n - i ≤ sL → (Builtin.copy_ #[47, 47] ty #[.slice (some ⟨g, o, none⟩) dL dc, .slice (some ⟨g, so, none⟩) sL sc]).run Try.prog w.drew = .ok (goInt (n - i : Nat)) W1 := by
    intro ty o dL dc so sL sc e1 e2 e3 e4
    subst e1 e2 e3
    rw [HW1.out, HR1.out]
    refine run_copy_at w.drew 47 47 ty 56 2 g _ (n - i) dc ⟨g, off + i * 2, none⟩ sL sc (n - i) cur 56 _ Try.underlying47 size56 (Nat.min_eq_right e4) hdl (fun j v hj => ?_) hg (by rw [hdl]; omega) (fun v hv => h1 v (List.mem_of_mem_drop hv))
    rw [Addr.add_lit]
    rw [List.getElem?_drop] at hj
    exact cell_of (w := w) hg (by rw [Nat.add_assoc]; exact hxs _ _ hj)
  have hg1 : W1.heap[g]? = some (.cells (List.toArray R1) 56 (0, 0)) := by rw [HW1.out]; exact setRow_heap w.drew g _ _ 56 _ hg
  have hs1 : W1.heap[vb]? = some (.cells (sE s).toArray T (0, 0)) := by rw [HW1.out, setRow_other _ _ _ _ hvb]; exact hs
  have hcp2 : ∀ ty o dL dc, o = off + i * 2 → 1 ≤ dL → (Builtin.copy_ #[47, 47] ty #[.slice (some ⟨g, o, none⟩) dL dc, .slice (some ⟨vb, 0, none⟩) 1 1]).run Try.prog W1 = .ok (goInt (1 : Nat)) W2 := by
    intro ty o dL dc e1 e2
    subst e1
    rw [HW2.out, HR2.out]
    refine run_copy_at W1 47 47 ty 56 2 g _ dL dc ⟨vb, 0, none⟩ 1 1 1 R1 56 (sE s) Try.underlying47 size56 (Nat.min_eq_left e2) rfl (fun j v hj => ?_) hg1 (by rw [hR1, sE_len]; omega) (one_sE s)
    rw [Addr.add_lit]
    exact cell_of hs1 (by rw [Nat.zero_add]; exact hj)
  have hz2 : ¬ ((i : Int) = (n : Int)) := by omega
  have hw1 : IntKind.i64.wrap ((i : Int) + 1) = (i : Int) + 1 := by rw [IntKind.wrap_i64]; omega
  have hw2 : IntKind.i64.wrap ((n : Int) + 1) = (n : Int) + 1 := by rw [IntKind.wrap_i64]; omega
  have hb1 : (0 : Int) ≤ (i : Int) + 1 := by omega
  have hin : i ≤ n := by omega
  have hb3 : (i : Int) ≤ (n : Int) + 1 := by omega
  have htn : ((i : Int) + 1).toNat = i + 1 := by omega
  have hb2 : ¬ (c = i + 1) := by omega
  have hb4 : ¬ (c = i) := by omega
  suffices h : Calls Try.prog 36 #[.slice (some ⟨g, off, none⟩) n c, .int .i64 i, .slice (some ⟨vb, 0, none⟩) 1 1] w fun e w' => e = .returned (.slice (some ⟨g, off, none⟩) (n + 1) c) ∧ w' = W2 by
    refine h.mono ?_
    rintro e w' ⟨rfl, rfl⟩
    exact ⟨rfl, by rw [HW2.out, HW1.out, HR2.out, HR1.out]⟩
  clear hg hs hfit hxl hxs h1 hdl hg1 hs1 hR1
  go_enter Try.func36, Try.ntmps36
  go_wp2_with (simp only [hov])
  go_region_law (refine step_copy_run rfl _ _ 47 47 rfl _ _ (by simp [Act.eval, Act.put]) (by simp [Act.eval, Act.put]) (hcp1 3 (off + (i + 1) * 2) (n - i) (c - (i + 1)) (off + i * 2) (n + 1 - i) (c - i) rfl rfl rfl (by omega)) ?_)
  go_wp2_with (refine wpList_copy_run _ rfl _ _ 47 47 rfl _ _ rfl rfl (hcp2 _ _ _ _ (by omega) (by omega)) ?_)
  go_ret
  exact ⟨rfl, rfl⟩

def GrowP (w : World) (n i : Nat) (xs : List Value) (s : Sm) (e : Ending) (w' : World) : Prop :=
  ∃ G ROW, e = .returned (.slice (some ⟨w.heap.size, 0, none⟩) (n + 1) G) ∧ n + 1 ≤ G ∧ G ≤ maxLen ∧ ROW.length = G * 2 ∧ (∀ j, j < i * 2 → ROW[j]? = xs[j]?) ∧
    w' = ((w.alloc (.cells (List.toArray ROW) 56)).drew.setRow w.heap.size (splice ROW (i * 2) (sE s)).toArray).drew.setRow w.heap.size (splice (splice ROW (i * 2) (sE s)) ((i + 1) * 2) (xs.drop (i * 2))).toArray
set_option maxHeartbeats 4000000 in
set_option maxRecDepth 100000 in
/-- Ahead of the end, without room: a new row. -/
theorem ins_grow (g off n c i vb : Nat) (cur xs : List Value) (T : TypeId) (s : Sm) {w : World} (hg : w.heap[g]? = some (.cells (List.toArray cur) 56 (0, 0))) (hs : w.heap[vb]? = some (.cells (sE s).toArray T (0, 0)))
    (hi : i < n) (hn : n ≤ 1000000) (hnc : n ≤ c) (hroom : c < n + 1) (hxl : xs.length = n * 2) (hxs : ∀ j u, xs[j]? = some u → cur[off + j]? = some u) (h1 : ∀ u ∈ xs, u.oneCell' = true) :
    Calls Try.prog 36 #[.slice (some ⟨g, off, none⟩) n c, .int .i64 i, .slice (some ⟨vb, 0, none⟩) 1 1] w (GrowP w n i xs s) := by
  obtain ⟨i0, hi0, hz0, hzs, hzb⟩ := info56
  have hgw : g < w.heap.size := lt_of_heap hg
  have hvw : vb < w.heap.size := lt_of_heap hs
  have hkk : (n : Int) + 1 - (i : Int) = ((n + 1 - i : Nat) : Int) := by omega
  have hik : i + (n + 1 - i) = n + 1 := by omega
  have htl : (xs.take (i * 2)).length = i * 2 := by rw [List.length_take]; omega
  have hdl : (xs.drop (i * 2)).length = (n - i) * 2 := by rw [List.length_drop, hxl]; omega
  have hold : (Builtin.firstCells i0.size i (.slice (some ⟨g, off, none⟩) i c)).run Try.prog w.drew = .ok (xs.take (i * 2)).toArray w.drew := by
    rw [hzs]
    exact run_firstCells_some w.drew 2 i ⟨g, off, none⟩ i c (xs.take (i * 2)) htl (fun j v hj => by
      rw [Addr.add_lit]
      rw [List.getElem?_take] at hj
      split at hj
      · exact cell_of (w := w) hg (hxs j v hj)
      · cases hj)
  obtain ⟨G, HG⟩ : ∃ G, Hid (G = grownCap w (n + 1) c 56) := ⟨_, mkHid rfl⟩
  obtain ⟨ROW, HROW⟩ : ∃ ROW : List Value, Hid (ROW = xs.take (i * 2) ++ ((Builtin.zeroCells (sV (0, 0)).cells (n + 1 - i)).toList ++ (Builtin.zeroCells (sV (0, 0)).cells (G - (n + 1))).toList)) := ⟨_, mkHid rfl⟩
  have hG1 : n + 1 ≤ G := by rw [HG.out]; exact grownCap_ge w _ _ _
  have hG2 : G ≤ maxLen := by rw [HG.out]; exact grownCap_le_maxLen w (n + 1) c 56 (by unfold maxLen; omega)
  have hRl : ROW.length = G * 2 := by
    rw [HROW.out, List.length_append, List.length_append, htl, Array.length_toList, Array.length_toList, size_zeroCells, size_zeroCells, show (sV (0, 0)).cells.size = 2 from rfl]
    omega
  have hRt : ∀ j, j < i * 2 → ROW[j]? = xs[j]? := fun j hj => by
    rw [HROW.out, List.getElem?_append_left (by omega), List.getElem?_take, if_pos hj]
  obtain ⟨W1, HW1⟩ : ∃ W1, Hid (W1 = w.drew.alloc (.cells (List.toArray ROW) 56)) := ⟨_, mkHid rfl⟩
  have hrz : ∀ ty, (Builtin.append_ #[47, 3] ty #[.slice (some ⟨g, off, none⟩) i c, .int .i64 ((n : Int) + 1 - (i : Int))]).run Try.prog w = .ok (.slice (some ⟨w.heap.size, 0, none⟩) (n + 1) G) W1 := fun ty => by
    have h := Lib.run_append_grow_zeros w 47 3 ty 56 i0 _ .i64 .i64 Try.underlying47 Try.underlying3 hi0 hz0 (some ⟨g, off, none⟩) i c (xs.take (i * 2)) hold (n + 1 - i) (by omega) (by omega) (by omega) (by omega) (by rw [hzb]; omega) (by rw [hzb, hik]; exact growslice_fits hroom (by omega))
    rw [hik] at h
    rw [hkk, h, HW1.out, HG.out, HROW.out, HG.out]
    congr 3
    apply Array.ext'
    simp
  obtain ⟨R1, HR1⟩ : ∃ R1, Hid (R1 = splice ROW (i * 2) (sE s)) := ⟨_, mkHid rfl⟩
  obtain ⟨R2, HR2⟩ : ∃ R2, Hid (R2 = splice R1 ((i + 1) * 2) (xs.drop (i * 2))) := ⟨_, mkHid rfl⟩
  have hR1 : R1.length = G * 2 := by rw [HR1.out, length_splice _ _ _ (by rw [sE_len]; omega), hRl]
  obtain ⟨W2, HW2⟩ : ∃ W2, Hid (W2 = W1.setRow w.heap.size R1.toArray) := ⟨_, mkHid rfl⟩
  obtain ⟨W3, HW3⟩ : ∃ W3, Hid (W3 = W2.drew.setRow w.heap.size R2.toArray) := ⟨_, mkHid rfl⟩
  have hN1 : W1.heap[w.heap.size]? = some (.cells (List.toArray ROW) 56 (0, 0)) := by rw [HW1.out]; exact heap_alloc_new w.drew _
  have hv1 : W1.heap[vb]? = some (.cells (sE s).toArray T (0, 0)) := by rw [HW1.out]; exact (heap_alloc_old w.drew _ hvw).trans hs
  have hg1 : W1.heap[g]? = some (.cells (List.toArray cur) 56 (0, 0)) := by rw [HW1.out]; exact (heap_alloc_old w.drew _ hgw).trans hg
  have hN2 : W2.heap[w.heap.size]? = some (.cells (List.toArray R1) 56 (0, 0)) := by rw [HW2.out]; exact setRow_heap W1 w.heap.size _ _ 56 _ hN1
  have hg2 : W2.heap[g]? = some (.cells (List.toArray cur) 56 (0, 0)) := by rw [HW2.out, setRow_other _ _ _ _ (by omega)]; exact hg1
  have hcp1 : ∀ ty o dL dc, o = i * 2 → 1 ≤ dL → (Builtin.copy_ #[47, 47] ty #[.slice (some ⟨w.heap.size, o, none⟩) dL dc, .slice (some ⟨vb, 0, none⟩) 1 1]).run Try.prog W1 = .ok (goInt (1 : Nat)) W2 := by
    intro ty o dL dc e1 e2
    subst e1
    rw [HW2.out, HR1.out]
    refine run_copy_at W1 47 47 ty 56 2 w.heap.size _ dL dc ⟨vb, 0, none⟩ 1 1 1 ROW 56 (sE s) Try.underlying47 size56 (Nat.min_eq_left e2) rfl (fun j v hj => ?_) hN1 (by rw [hRl, sE_len]; omega) (one_sE s)
    rw [Addr.add_lit]
    exact cell_of hv1 (by rw [Nat.zero_add]; exact hj)
  have hcp2 : ∀ ty o dL dc so sL sc, o = (i + 1) * 2 → so = off + i * 2 → sL = n - i → n - i ≤ dL → (Builtin.copy_ #[47, 47] ty #[.slice (some ⟨w.heap.size, o, none⟩) dL dc, .slice (some ⟨g, so, none⟩) sL sc]).run Try.prog W2.drew = .ok (goInt (n - i : Nat)) W3 := by
    intro ty o dL dc so sL sc e1 e2 e3 e4
    subst e1 e2 e3
    rw [HW3.out, HR2.out]
    refine run_copy_at W2.drew 47 47 ty 56 2 w.heap.size _ dL dc ⟨g, off + i * 2, none⟩ (n - i) sc (n - i) R1 56 _ Try.underlying47 size56 (Nat.min_eq_left e4) hdl (fun j v hj => ?_) hN2 (by rw [hdl, hR1]; omega) (fun v hv => h1 v (List.mem_of_mem_drop hv))
    rw [Addr.add_lit]
    rw [List.getElem?_drop] at hj
    exact cell_of (w := W2) hg2 (by rw [Nat.add_assoc]; exact hxs _ _ hj)
  have HE := mkHid (show n + 1 ≤ G ∧ G ≤ maxLen ∧ ROW.length = G * 2 ∧ (∀ j, j < i * 2 → ROW[j]? = xs[j]?) from ⟨hG1, hG2, hRl, hRt⟩)
  have hz2 : ¬ ((i : Int) = (n : Int)) := by omega
  have hz3 : (c : Int) < (n : Int) + 1 := by omega
  have hw1 : IntKind.i64.wrap ((i : Int) + 1) = (i : Int) + 1 := by rw [IntKind.wrap_i64]; omega
  have hw2 : IntKind.i64.wrap ((n : Int) + 1) = (n : Int) + 1 := by rw [IntKind.wrap_i64]; omega
  have hb1 : (0 : Int) ≤ (i : Int) + 1 := by omega
  have hin : i ≤ n := by omega
  have hb3 : (i : Int) ≤ (n : Int) := by omega
  have htn : ((i : Int) + 1).toNat = i + 1 := by omega
  have hGi : ¬ (G = i) := by omega
  have hGim : ¬ (G = i + 1) := by omega
  have hci : ¬ (c = i) := by omega
  have hic : i ≤ c := by omega
  suffices h : Calls Try.prog 36 #[.slice (some ⟨g, off, none⟩) n c, .int .i64 i, .slice (some ⟨vb, 0, none⟩) 1 1] w fun e w' => e = .returned (.slice (some ⟨w.heap.size, 0, none⟩) (n + 1) G) ∧ w' = W3 by
    refine h.mono ?_
    rintro e w' ⟨rfl, rfl⟩
    exact ⟨G, ROW, rfl, hG1, hG2, hRl, hRt, by rw [HW3.out, HW2.out, HR2.out, HR1.out, HW1.out]; rfl⟩
  clear hg hs hxl hxs h1 hdl hg1 hv1 hN1 hN2 hg2 hR1 hold htl hik hkk hRl hRt
  go_enter Try.func36, Try.ntmps36
  go_wp2_with (first
    | (at_builtin; refine Lib.wpList_append_run _ rfl _ _ _ _ rfl _ _ rfl rfl _ _ (hrz _) ?_)
    | (refine wpList_copy_run _ rfl _ _ 47 47 rfl _ _ rfl rfl (hcp1 _ _ _ _ (by omega) (by omega)) ?_))
  go_region_law (refine step_copy_run rfl _ _ 47 47 rfl _ _ (by simp [Act.eval, Act.put]) (by simp [Act.eval, Act.put]) (hcp2 3 ((i + 1) * 2) (n - i) (G - (i + 1)) (off + i * 2) (n - i) (c - i) rfl rfl rfl (by omega)) ?_)
  go_wp2
  go_ret
  exact ⟨rfl, rfl⟩

/-- What an insertion leaves. -/
def InsP (N : Nat → Prop) (l : List Sm) (i : Nat) (s : Sm) (w : World) (e : Ending) (w' : World) : Prop :=
  ∃ ad cap, e = .returned (.slice (some ad) (l.length + 1) cap) ∧ Qr (fun k => N k ∨ w.heap.size ≤ k) w' (.slice (some ad) (l.length + 1) cap) (insL l i s) ∧ Apart N w w'
theorem apart_new {N : Nat → Prop} {w w' : World} (h : Apart N w w') (cs : Array Value) : Apart N w (w'.setRow w.heap.size cs) :=
  ⟨h.os, h.tape, h.output, by simpa [World.setRow] using h.size, fun k hk hx => (setRow_other w' w.heap.size k cs (by omega)).trans (h.block k hk hx)⟩
theorem insert_any {N : Nat → Prop} {w : World} {v : Value} {l : List Sm} (hq : Qr N w v l) (i : Nat) (hi : i ≤ l.length) (hl : l.length ≤ 1000000) (s : Sm) (vb : Nat) (T : TypeId)
    (hs : w.heap[vb]? = some (.cells (sE s).toArray T (0, 0))) (hvb : ¬ N vb) :
    Calls Try.prog 36 #[v, .int .i64 i, .slice (some ⟨vb, 0, none⟩) 1 1] w (InsP N l i s w) := by
  have hlen := insL_len l i s hi
  have hsl := sC_len l
  rcases hq with ⟨rfl, rfl⟩ | ⟨g, off, cap, cur, rfl, hN, hg, hlc, hcm, hfit, hxs⟩
  · obtain rfl : i = 0 := by simpa using hi
    refine (ins_end none 0 0 vb [] T s hs (by omega) (by omega) (by omega) rfl (fun _ => rfl) (fun a ha => by cases ha)).mono ?_
    rintro e w' ⟨G, Z, rfl, h1, h2, h3, rfl⟩
    refine ⟨_, G, rfl, .inr ⟨w.heap.size, 0, G, _, rfl, .inr (Nat.le_refl _), heap_alloc_new w.drew _, by simpa [insL] using h1, h2, by simp [h3]; omega, fun j u hj => ?_⟩, (Apart.refl N w).drew.alloc _⟩
    rw [show insL [] 0 s = [s] from rfl, sC_one] at hj
    rw [Nat.zero_add, List.nil_append, List.getElem?_append_left (List.getElem?_eq_some_iff.1 hj).1]; exact hj
  · have hcell : ∀ j u, (sC l)[j]? = some u → w.cell? ((⟨g, off, none⟩ : Addr).add j) = some u := fun j u hj => by rw [Addr.add_lit]; exact cell_of hg (hxs j u hj)
    by_cases hin : i = l.length
    · subst hin
      by_cases hroom : l.length + 1 ≤ cap
      · refine (ins_room g off l.length cap vb cur T s hg hs hroom hcm hfit).mono ?_
        rintro e w' ⟨rfl, rfl⟩
        refine ⟨_, cap, rfl, .inr ⟨g, off, cap, _, by rw [hlen], .inl hN, setRow_heap w g _ _ 56 _ hg, by omega, hcm, by rw [length_splice _ _ _ (by rw [sE_len]; omega)]; exact hfit, fun j u hj => ?_⟩, apart_row hN _⟩
        rw [sC_ins l _ s (Nat.le_refl _)] at hj
        rw [splice_get _ _ _ (by rw [sE_len]; omega), sE_len]
        by_cases h1 : j < l.length * 2
        · rw [if_pos h1] at hj
          rw [if_pos (by omega)]
          exact hxs j u hj
        · rw [if_neg h1] at hj
          by_cases h2 : j < l.length * 2 + 2
          · rw [if_pos h2] at hj
            rw [if_neg (by omega), if_pos (by omega), show off + j - (off + l.length * 2) = j - l.length * 2 by omega]
            exact hj
          · rw [if_neg h2] at hj
            have := (List.getElem?_eq_some_iff.1 hj).1
            omega
      · refine (ins_end (some ⟨g, off, none⟩) l.length cap vb (sC l) T s hs hlc (by omega) hl hsl (fun h => by cases h) (fun a ha j u hj => by cases ha; exact hcell j u hj)).mono ?_
        rintro e w' ⟨G, Z, rfl, h1, h2, h3, rfl⟩
        refine ⟨_, G, rfl, .inr ⟨w.heap.size, 0, G, _, by rw [hlen], .inr (Nat.le_refl _), heap_alloc_new w.drew _, by omega, h2, by simp [h3]; omega, fun j u hj => ?_⟩, (Apart.refl N w).drew.alloc _⟩
        rw [insL_end, sC_app, sC_one] at hj
        rw [Nat.zero_add, ← List.append_assoc, List.getElem?_append_left (List.getElem?_eq_some_iff.1 hj).1]; exact hj
    · have hlt : i < l.length := by omega
      have hdl : ((sC l).drop (i * 2)).length = (l.length - i) * 2 := by rw [List.length_drop, hsl]; omega
      by_cases hroom : l.length + 1 ≤ cap
      · refine (ins_shift g off l.length cap i vb cur (sC l) T s hg hs hlt hl hroom hcm hfit hsl hxs (one_sC l) (fun e => hvb (e ▸ hN))).mono ?_
        rintro e w' ⟨rfl, rfl⟩
        have hR1 : (splice cur (off + (i + 1) * 2) ((sC l).drop (i * 2))).length = cur.length := length_splice _ _ _ (by rw [hdl]; omega)
        refine ⟨_, cap, rfl, .inr ⟨g, off, cap, _, by rw [hlen], .inl hN, setRow_heap _ g _ _ 56 _ (setRow_heap w.drew g _ _ 56 _ hg), by omega, hcm, by rw [length_splice _ _ _ (by rw [sE_len, hR1]; omega), hR1]; exact hfit, fun j u hj => ?_⟩,
          (((Apart.refl N w).drew.trans (apart_row hN _) (fun _ _ h => h)).trans (apart_row hN _) (fun _ _ h => h))⟩
        rw [sC_ins l i s hi] at hj
        rw [splice_get _ _ _ (by rw [sE_len, hR1]; omega), sE_len]
        by_cases h1 : j < i * 2
        · rw [if_pos h1] at hj
          rw [if_pos (by omega), splice_get _ _ _ (by rw [hdl]; omega), if_pos (by omega)]
          exact hxs j u hj
        · rw [if_neg h1] at hj
          by_cases h2 : j < i * 2 + 2
          · rw [if_pos h2] at hj
            rw [if_neg (by omega), if_pos (by omega), show off + j - (off + i * 2) = j - i * 2 by omega]
            exact hj
          · rw [if_neg h2] at hj
            have := (List.getElem?_eq_some_iff.1 hj).1
            rw [if_neg (by omega), if_neg (by omega), splice_get _ _ _ (by rw [hdl]; omega), if_neg (by omega), if_pos (by rw [hdl]; omega), List.getElem?_drop, show i * 2 + (off + j - (off + (i + 1) * 2)) = j - 2 by omega]
            exact hj
      · refine (ins_grow g off l.length cap i vb cur (sC l) T s hg hs hlt hl hlc (by omega) hsl hxs (one_sC l)).mono ?_
        rintro e w' ⟨G, ROW, rfl, h1, h2, h3, h4, rfl⟩
        have hR1 : (splice ROW (i * 2) (sE s)).length = ROW.length := length_splice _ _ _ (by rw [sE_len, h3]; omega)
        refine ⟨_, G, rfl, .inr ⟨w.heap.size, 0, G, _, by rw [hlen], .inr (Nat.le_refl _), setRow_heap _ _ _ _ 56 _ (setRow_heap _ _ _ _ 56 _ (heap_alloc_new w _)), by omega, h2, by rw [length_splice _ _ _ (by rw [hdl, hR1, h3]; omega), hR1, h3]; omega, fun j u hj => ?_⟩,
          apart_new (apart_new ((Apart.refl N w).alloc _).drew _).drew _⟩
        rw [sC_ins l i s hi] at hj
        rw [splice_get _ _ _ (by rw [hdl, hR1, h3]; omega), hdl, Nat.zero_add]
        by_cases h5 : j < i * 2
        · rw [if_pos h5] at hj
          rw [if_pos (by omega), splice_get _ _ _ (by rw [sE_len, h3]; omega), if_pos h5, h4 j h5]
          exact hj
        · rw [if_neg h5] at hj
          by_cases h6 : j < i * 2 + 2
          · rw [if_pos h6] at hj
            rw [if_pos (by omega), splice_get _ _ _ (by rw [sE_len, h3]; omega), if_neg h5, if_pos (by rw [sE_len]; exact h6)]
            exact hj
          · rw [if_neg h6] at hj
            have := (List.getElem?_eq_some_iff.1 hj).1
            rw [if_neg (by omega), if_pos (by omega), List.getElem?_drop, show i * 2 + (j - (i + 1) * 2) = j - 2 by omega]
            exact hj
end Go.Proofs.Ytjeffjpenhhnnaa
