/-
  The sort that Expire calls: what its closure hands back; a row of one's own, sorted by number.
-/
import Derived.Test.YtdojphkibgfomaaHiS
import Derived.Test.YtdojphkibgfomaaHiE
namespace Go.Proofs.Ytdojphkibgfomaa
open Go.RowKit Go.Maps Go.Sort Go.Shelf

/-- Which of two numbers is first. -/
def cmI (x y : Int) : Int := if x < y then -1 else if y < x then 1 else 0
theorem ltN (x y : Sn) : ltOf (fun x y : Sn => cmI x.1 y.1) x y = decide (x.1 < y.1) := by
  unfold ltOf cmI
  by_cases h1 : x.1 < y.1
  · simp [h1]
  · by_cases h2 : y.1 < x.1 <;> simp [h1, h2]
theorem swoN : SWO (ltOf fun x y : Sn => cmI x.1 y.1) where
  irrefl x := by rw [ltN]; simp
  trans x y z h1 h2 := by rw [ltN] at *; simp at *; omega
  ntrans x y z h1 h2 := by rw [ltN] at *; simp at *; omega
theorem compare_any (x y : Int) (w : World) : Calls Try.prog 37 #[.int .i64 x, .int .i64 y] w fun e w' => e = .returned (.int .i64 (cmI x y)) ∧ w' = w := by
  go_each [x < y, y < x] => (
    go_enter Try.func37, Try.ntmps37
    go_wp2
    go_ret
    exact ⟨ret_i (by unfold cmI; repeat' split <;> omega), rfl⟩)
set_option maxHeartbeats 1000000 in
theorem closure_any (x y : Sn) (W : World) : Calls Try.prog 36 #[.agg #[.int .i64 x.1, .int .i64 x.2.1, .int .i64 x.2.2], .agg #[.int .i64 y.1, .int .i64 y.2.1, .int .i64 y.2.2]] W fun e w' => e = .returned (.int .i64 (cmI x.1 y.1)) ∧ ∃ q os', w' = grow (W.drewN q) os' := by
  have hcon := mkHid (compare_any x.1 y.1)
  generalize cmI x.1 y.1 = r at hcon ⊢
  go_enter Try.func36, Try.ntmps36
  go_wp2_with (go_at_call 37; refine (hcon.out _).mono ?_; rintro e w' ⟨rfl, rfl⟩)
  go_ret
  exact ⟨rfl, 0, _, by rw [alloc_eq_grow, alloc_eq_grow, grow_grow]; rfl⟩
theorem lays_any (blk off size : Nat) (w : World) : CmpLays Try.prog 36 #[] sE 3 (fun x y => cmI x.1 y.1) blk off size w :=
  fun _ _ _ _ x y => closure_any x y _

theorem sC_get (l : List Sn) : ∀ t : Nat, (sC l)[t]? = if t < l.length * 3 then some ((sE (l[t / 3]?.getD default))[t % 3]!) else none := by
  induction l with
  | nil => intro t; simp [sC]
  | cons s r ih =>
    intro t
    show (sE s ++ sC r)[t]? = _
    by_cases h : t < 3
    · rw [List.getElem?_append_left (by simpa using h)]
      have : t = 0 ∨ t = 1 ∨ t = 2 := by omega
      rcases this with rfl | rfl | rfl <;> simp [sE] <;> omega
    · rw [List.getElem?_append_right (by simp; omega), sE_len, ih (t - 3)]
      simp only [List.length_cons]
      have e1 : t / 3 = (t - 3) / 3 + 1 := by omega
      have e2 : t % 3 = (t - 3) % 3 := by omega
      rw [e1, ← e2, List.getElem?_cons_succ]
      by_cases h2 : t - 3 < r.length * 3
      · rw [if_pos h2, if_pos (by omega)]
      · rw [if_neg h2, if_neg (by omega)]
theorem flat_get (l : List Sn) (t : Nat) (h : t < l.length * 3) : (sC l)[t]? = some ((flatK sE 3 l.toArray)[t]!) := by
  rw [sC_get, if_pos h, get_flatK _ _ _ _ (by simpa using h)]
  have : t / 3 < l.length := by omega
  simp [this]
/-- A row of one's own, in the sort's words. -/
theorem holds_own {w : World} {B blk n cap : Nat} {l : List Sn} (h : w.ownsRow B 56 3 (.slice (some ⟨blk, 0, none⟩) n cap) n (sC l)) : HoldsK sE 3 w blk 0 l.toArray := by
  intro j hj
  rw [size_flatK] at hj
  have hj' : j < l.length * 3 := by simpa using hj
  have hc := h.cells (g := blk) rfl j _ (flat_get l j hj')
  rw [Addr.add_lit] at hc
  refine ⟨hc, ?_⟩
  rcases h.2 with ⟨e, _⟩ | ⟨g, cap', cur, e, _, hg, _⟩
  · cases e
  · simp at e
    obtain ⟨rfl, -⟩ := e
    exact frozen_of_row w blk _ _ 56 hg
theorem put_take (F cur : Array Value) (h : F.size ≤ cur.size) : (putCells id 0 F cur).toList.take F.size = F.toList := by
  apply List.ext_getElem?
  intro i
  by_cases hi : i < F.size
  · have hi2 : i < cur.size := by omega
    rw [List.getElem?_take_of_lt hi]
    simp [putCells, hi, hi2]
  · rw [List.getElem?_eq_none (by simp; omega), List.getElem?_eq_none (by simp; omega)]
theorem flat_list (l : List Sn) : (flatK sE 3 l.toArray).toList = sC l := by
  apply List.ext_getElem?
  intro t
  by_cases h : t < l.length * 3
  · rw [flat_get l t h]
    have h2 : t < (flatK sE 3 l.toArray).size := by simpa using h
    rw [Array.getElem?_toList, Array.getElem?_eq_getElem h2, getElem!_pos _ t h2]
  · rw [List.getElem?_eq_none (by simp; omega), List.getElem?_eq_none (by simp; omega)]
theorem sort_apart (w : World) (blk n : Nat) (d : Array Sn) (os : Array Obj) : Apart (· = blk) w (sortWorldK sE 3 w blk 0 n d os) := by
  refine ⟨rfl, rfl, rfl, ?_, ?_⟩
  · simp [sortWorldK, putRowK, putRow, mapBlock, grow, Sort.ahead]
  · intro k hk hx
    have e : (putRowK sE 3 (Sort.ahead w n) blk 0 d).heap.size = w.heap.size := by simp [putRowK, putRow, mapBlock, Sort.ahead]
    show ((putRowK sE 3 (Sort.ahead w n) blk 0 d).heap ++ os)[k]? = _
    rw [Array.getElem?_append_left (by omega)]
    show (w.heap.modify blk _)[k]? = _
    rw [Array.getElem?_modify]
    have : ¬ blk = k := fun e => hx e.symm
    simp [this]
theorem sort_own {w : World} {B blk n cap : Nat} {l d : List Sn} (h : w.ownsRow B 56 3 (.slice (some ⟨blk, 0, none⟩) n cap) n (sC l)) (hn : n = l.length) (hd : d.length = l.length) (m : Nat) (os : Array Obj) :
    (sortWorldK sE 3 w blk 0 m d.toArray os).ownsRow B 56 3 (.slice (some ⟨blk, 0, none⟩) n cap) n (sC d) := by
  refine ⟨by simp; omega, ?_⟩
  rcases h.2 with ⟨e, _⟩ | ⟨g, cap', cur, e, hB, hg, hnc, hcm, hcs, htake⟩
  · cases e
  · simp at e
    obtain ⟨rfl, rfl⟩ := e
    have hlt : blk < w.heap.size := lt_of_heap hg
    have e1 : (putRowK sE 3 (Sort.ahead w m) blk 0 d.toArray).heap.size = w.heap.size := by simp [putRowK, putRow, mapBlock, Sort.ahead]
    refine .inr ⟨blk, cap, putCells id 0 (flatK sE 3 d.toArray) cur, rfl, hB, ?_, hnc, hcm, by simp [putCells]; exact hcs, ?_⟩
    · show ((putRowK sE 3 (Sort.ahead w m) blk 0 d.toArray).heap ++ os)[blk]? = _
      rw [Array.getElem?_append_left (by omega)]
      show (w.heap.modify blk (onCells (putCells id 0 (flatK sE 3 d.toArray))))[blk]? = _
      rw [Array.getElem?_modify, hg]
      simp [onCells]
    · have hz : (flatK sE 3 d.toArray).size = n * 3 := by simp; omega
      rw [← hz, put_take _ _ (by rw [hz, hcs]; omega), flat_list]
theorem sort_any {w : World} {B blk n cap : Nat} {l : List Sn} (h : w.ownsRow B 56 3 (.slice (some ⟨blk, 0, none⟩) n cap) n (sC l)) (hn : n = l.length) (hl : n ≤ 1000000) :
    Calls Try.prog 35 #[.slice (some ⟨blk, 0, none⟩) n cap, .func (.func 36) #[] #[]] w fun e w' => e = .returned (.tuple #[]) ∧ ∃ d : List Sn, d.Perm l ∧ d.Pairwise (fun a b => ¬ b.1 < a.1) ∧ w'.ownsRow B 56 3 (.slice (some ⟨blk, 0, none⟩) n cap) n (sC d) ∧ Apart (· = blk) w w' := by
  have eg : ∀ args w, (callFunc 36 args).run Try.prog w = .ok (.enter 36 args) w := enters_of Try.func36 (by kernel_rfl) rfl
  have hblk : blk < w.heap.size := (h.lt blk rfl).2
  have hcon := AnyQ.slices_SortFunc sortSent 3 Try.isAgg56 Try.sizeOf56 sE (fun _ => rfl) (fun x v hv => one_sC [x] v (by rw [sC_one]; exact hv)) (fun x y => cmI x.1 y.1) swoN 36 #[] blk 0 cap l.toArray w eg (lays_any blk 0 _ w) (holds_own h) hblk (by simp; omega)
  rw [show l.toArray.size = n by simp [hn]] at hcon
  change Calls Try.prog 35 _ _ _ at hcon
  refine hcon.mono ?_
  rintro e w' ⟨rfl, d', m, os, hp, hs, rfl⟩
  obtain ⟨p1, p2, p3⟩ := hp
  have hz : d'.size = n := by rw [p1]; simp [hn]
  have ed : d'.toList.toArray = d' := by simp
  refine ⟨rfl, d'.toList, ?_, ?_, ?_, ?_⟩
  · have e1 : d'.extract 0 n = d' := by rw [← hz]; simp
    have e2 : l.toArray.extract 0 n = l.toArray := by rw [show n = l.toArray.size by simp [hn]]; simp
    rw [e1, e2] at p3
    simpa using p3
  · rw [List.pairwise_iff_getElem]
    intro i j hi hj hij
    have hi' : i < d'.size := by simpa using hi
    have hj' : j < d'.size := by simpa using hj
    have := hs i j (Nat.zero_le _) hij (by omega)
    rw [ltN, getElem!_pos d' j hj', getElem!_pos d' i hi'] at this
    simpa using this
  · have := sort_own h hn (d := d'.toList) (by simp; omega) m os
    rw [ed] at this
    exact this
  · exact sort_apart w blk m d' os
theorem sort_none (p : Option Addr) (cap : Nat) (w : World) : Calls Try.prog 35 #[.slice p 0 cap, .func (.func 36) #[] #[]] w fun e w' => e = .returned (.tuple #[]) ∧ w' = w :=
  AnyF.slices_SortFunc_none sortSent p cap _ w
end Go.Proofs.Ytdojphkibgfomaa
