/-
  The reference's base in memory; its New, Least, Queue.
-/
import Derived.Test.YtnjghgbaffkafaaBaG
namespace Go.Proofs.Ytnjghgbaffkafaa
open Go.RowKit

/-- A list of elements of so many cells in a block of N's. -/
def Lq (N : Nat → Prop) (w : World) (size : Nat) (v : Value) (n : Nat) (xs : List Value) : Prop :=
  (v = .slice none 0 0 ∧ n = 0 ∧ xs = []) ∨ ∃ g off c, v = .slice (some ⟨g, off, none⟩) n c ∧ N g ∧ n ≤ c ∧ c ≤ maxLen ∧ g < w.heap.size ∧ xs.length = n * size ∧ ∀ j u, xs[j]? = some u → w.cell? ⟨g, off + j, none⟩ = some u
theorem Lq.src {N : Nat → Prop} {w : World} {size : Nat} {v : Value} {n : Nat} {xs : List Value} (h : Lq N w size v n xs) : SrcN w size v n xs := by
  rcases h with ⟨rfl, rfl, rfl⟩ | ⟨g, off, c, rfl, _, _, _, _, hl, hc⟩
  · exact .inl ⟨0, rfl, rfl, rfl⟩
  · exact .inr ⟨_, _, rfl, hl, fun j u hj => by rw [Addr.add_lit]; exact hc j u hj⟩
theorem Lq.kept {N Y : Nat → Prop} {w w' : World} {size : Nat} {v : Value} {n : Nat} {xs : List Value} (h : Lq N w size v n xs) (ha : Apart Y w w') (hy : ∀ k, N k → ¬ Y k) : Lq N w' size v n xs := by
  rcases h with h | ⟨g, off, c, h1, h2, h3, h4, h5, h6, h7⟩
  · exact .inl h
  · exact .inr ⟨g, off, c, h1, h2, h3, h4, Nat.lt_of_lt_of_le h5 ha.size, h6, fun j u hj => by rw [ha.cell (p := ⟨g, off + j, none⟩) h5 (hy g h2)]; exact h7 j u hj⟩
theorem Lq.mono {N M : Nat → Prop} {w : World} {size : Nat} {v : Value} {n : Nat} {xs : List Value} (h : Lq N w size v n xs) (hm : ∀ k, N k → M k) : Lq M w size v n xs := by
  rcases h with h | ⟨g, off, c, h1, h2, h3⟩
  · exact .inl h
  · exact .inr ⟨g, off, c, h1, hm g h2, h3⟩
theorem Lq.slice {N : Nat → Prop} {w : World} {size : Nat} {v : Value} {n : Nat} {xs : List Value} (h : Lq N w size v n xs) : ∃ a c, v = .slice a n c := by
  rcases h with ⟨rfl, rfl, rfl⟩ | ⟨g, off, c, rfl, _⟩
  · exact ⟨none, 0, rfl⟩
  · exact ⟨_, _, rfl⟩
theorem Lq.cut {N : Nat → Prop} {w : World} {size g off n c : Nat} {xs : List Value} (h : Lq N w size (.slice (some ⟨g, off, none⟩) n c) n xs) (i : Nat) (hi : i ≤ n) : Lq N w size (.slice (some ⟨g, off + i * size, none⟩) (n - i) (c - i)) (n - i) (xs.drop (i * size)) := by
  rcases h with ⟨h, _⟩ | ⟨g', off', c', e, h2, h3, h4, h5, h6, h7⟩
  · cases h
  · simp only [Value.slice.injEq, Option.some.injEq, Addr.mk.injEq, and_true] at e
    obtain ⟨⟨rfl, rfl⟩, -, rfl⟩ := e
    refine .inr ⟨g, off + i * size, c - i, rfl, h2, by omega, by omega, h5, by rw [List.length_drop, h6, Nat.sub_mul], fun j u hj => ?_⟩
    rw [List.getElem?_drop] at hj
    rw [Nat.add_assoc]
    exact h7 _ u hj
theorem lq_own {w : World} {base size : Nat} {e : TypeId} {v : Value} {n : Nat} {xs : List Value} (h : w.ownsRow base e size v n xs) : Lq (fun k => base ≤ k ∧ v.ownBlock = some k) w size v n xs := by
  obtain ⟨hl, h⟩ := h
  rcases h with ⟨rfl, rfl⟩ | ⟨g, cap, cur, rfl, hg, hh, hn, hm, h1, h2⟩
  · refine .inl ⟨rfl, rfl, ?_⟩
    rw [Nat.zero_mul] at hl
    exact List.length_eq_zero_iff.1 hl
  · refine .inr ⟨g, 0, cap, rfl, ⟨hg, rfl⟩, hn, hm, lt_of_heap hh, hl, fun j u hj => ?_⟩
    rw [Nat.zero_add, cell_of_row _ _ j _ e _ hh]
    have := (List.getElem?_eq_some_iff.1 hj).1
    have h3 := congrArg (fun l => l[j]?) h2
    simp only [List.getElem?_take] at h3
    rw [if_pos (by omega), Array.getElem?_toList] at h3
    rw [h3]; exact hj

theorem src_new (w : World) (cs : List Value) (t : TypeId) (size : Nat) (h : cs.length = size) : SrcN (w.alloc (.cells cs.toArray t)) size (.slice (some ⟨w.heap.size, 0, none⟩) 1 1) 1 cs := by
  refine .inr ⟨_, 1, rfl, by omega, fun j u hj => ?_⟩
  rw [Addr.add_lit, Nat.zero_add, cell_of_row _ _ j _ t _ (heap_alloc_new _ _)]
  simpa using hj
theorem info55 : ∃ i, Try.prog.info? 55 = some i ∧ i.zero = some (sV (0, 0)) ∧ i.size = 2 ∧ i.bytes = 16 := by
  obtain ⟨i, hi, hh⟩ := Option.map_eq_some_iff.1 (show (Try.prog.info? 55).map (fun i => (i.zero, i.size, i.bytes)) = some (some (sV (0, 0)), 2, 16) by kernel_rfl)
  simp only [Prod.mk.injEq] at hh
  exact ⟨i, hi, hh.1, hh.2.1, hh.2.2⟩
theorem cells6 {w : World} {b : Nat} {v0 v1 v2 v3 v4 v5 : Value} {T : TypeId} (h : w.heap[b]? = some (.cells #[v0, v1, v2, v3, v4, v5] T (0, 0))) :
    w.cell? ⟨b, 0, none⟩ = some v0 ∧ w.cell? ⟨b, 1, none⟩ = some v1 ∧ w.cell? ⟨b, 2, none⟩ = some v2 ∧ w.cell? ⟨b, 3, none⟩ = some v3 ∧ w.cell? ⟨b, 4, none⟩ = some v4 ∧ w.cell? ⟨b, 5, none⟩ = some v5 ∧ (∀ j, w.frozen? ⟨b, j, none⟩ = false) :=
  ⟨cell_of_row w b 0 _ T _ h, cell_of_row w b 1 _ T _ h, cell_of_row w b 2 _ T _ h, cell_of_row w b 3 _ T _ h, cell_of_row w b 4 _ T _ h, cell_of_row w b 5 _ T _ h, fun j => frozen_of h j⟩
theorem own_nil (w : World) (base : Nat) (e : TypeId) (size : Nat) : w.ownsRow base e size (.slice none 0 0) 0 [] := ⟨by simp, .inl ⟨rfl, rfl⟩⟩

/-- The reference's base. -/
def Rb (w : World) (c : Nat) (W : Int) (k : Nat) (lv : Value) (N : Int) (sm : Bool) (Q : Int) : Prop :=
  w.heap[c]? = some (.cells #[.int .i64 W, .int .i64 k, lv, .int .i64 N, .bool sm, .int .i64 Q] 51 (0, 0))
theorem Rb.kept {w w' : World} {c : Nat} {W : Int} {k : Nat} {lv : Value} {N : Int} {sm : Bool} {Q : Int} {X : Nat → Prop} (h : Rb w c W k lv N sm Q) (ha : Apart X w w') (hx : ¬ X c) : Rb w' c W k lv N sm Q := ha.heap h hx
/-- The reference's base: the samples of L; none of it lies in the block b. -/
def Rr (b : Nat) (w : World) (c : Nat) (W : Int) (k : Nat) (L : List Sp) (N Q : Int) : Prop :=
  ∃ lv sm, Rb w c W k lv N sm Q ∧ Lq (fun g => g ≠ b ∧ g ≠ c) w 2 lv L.length (sC L) ∧ (sm = false → N = 0)
theorem Rr.kept {b : Nat} {w w' : World} {c : Nat} {W : Int} {k : Nat} {L : List Sp} {N Q : Int} {X : Nat → Prop} (h : Rr b w c W k L N Q) (ha : Apart X w w') (hx : ¬ X c) (hy : ∀ g, g ≠ b → g ≠ c → ¬ X g) : Rr b w' c W k L N Q := by
  obtain ⟨lv, sm, h1, h2, h3⟩ := h
  exact ⟨lv, sm, h1.kept ha hx, h2.kept ha (fun g hg => hy g hg.1 hg.2), h3⟩
set_option maxHeartbeats 400000 in
theorem rnew_any (b : Nat) (W : Int) (k : Nat) (h1 : 1 ≤ W) (h2 : W ≤ 1125899906842624) (k1 : 1 ≤ k) (k2 : k ≤ 64) (w : World) :
    Calls Try.prog 9 #[.int .i64 W, .int .i64 k] w fun e w' => e = .returned (.tuple #[.pointer (some ⟨w.heap.size, 0, none⟩), .int .i64 0]) ∧ Rr b w' w.heap.size W k [] 0 0 ∧ Apart (fun _ => False) w w' := by
  have A0 := mkHid ((Apart.refl (fun _ => False) w).alloc (.cells #[.int .i64 W, .int .i64 k, .slice none 0 0, .int .i64 0, .bool false, .int .i64 0] 51))
  go_enter Try.func9, Try.ntmps9
  go_wp2
  go_ret2
  exact ⟨rfl, ⟨_, _, heap_alloc_new w _, .inl ⟨rfl, rfl, rfl⟩, fun _ => rfl⟩, A0.out⟩
set_option maxHeartbeats 400000 in
theorem rnew_no (W k : Int) (h : bad W k) (w : World) :
    Calls Try.prog 9 #[.int .i64 W, .int .i64 k] w fun e w' => e = .returned (.tuple #[.pointer none, .int .i64 1]) ∧ w' = w := by
  by_cases h1 : W < 1
  · clear h
    go_enter Try.func9, Try.ntmps9
    go_wp2
    go_ret2
    exact ⟨rfl, rfl⟩
  · by_cases h2 : 1125899906842624 < W
    · clear h
      go_enter Try.func9, Try.ntmps9
      go_wp2
      go_ret2
      exact ⟨rfl, rfl⟩
    · by_cases h3 : k < 1
      · clear h
        go_enter Try.func9, Try.ntmps9
        go_wp2
        go_ret2
        exact ⟨rfl, rfl⟩
      · have h4 : 64 < k := by unfold bad at h; omega
        clear h
        go_enter Try.func9, Try.ntmps9
        go_wp2
        go_ret2
        exact ⟨rfl, rfl⟩
theorem rqueue_any {b : Nat} {w : World} {c : Nat} {W : Int} {k : Nat} {L : List Sp} {N Q : Int} (h : Rr b w c W k L N Q) :
    Calls Try.prog 15 #[.pointer (some ⟨c, 0, none⟩)] w fun e w' => e = .returned (.int .i64 Q) ∧ w' = w := by
  obtain ⟨lv, sm, h1, -⟩ := h
  obtain ⟨c0, c1, c2, c3, c4, c5, cf⟩ := cells6 h1
  clear c0 c1 c2 c3 c4 cf h1
  go_enter Try.func15, Try.ntmps15
  go_wp2
  go_ret
  exact ⟨rfl, rfl⟩
theorem held_any (a lo hi : Int) (hl : lo ≤ hi) (w : World) : Calls Try.prog 22 #[.int .i64 a, .int .i64 lo, .int .i64 hi] w fun e w' => e = .returned (.int .i64 (max lo (min a hi))) ∧ w' = w := by
  go_enter Try.func22, Try.ntmps22
  go_wp2
  all_goals go_ret
  all_goals exact ⟨ret_i (by omega), rfl⟩
theorem mnL_snoc : ∀ (l : List Sp) (s : Sp) (m : Int), mnL (l ++ [s]) m = min (mnL l m) s.2
  | [], _, _ => rfl
  | x :: l, s, m => mnL_snoc l s (min m x.2)
theorem lm_head (s : Sp) (l : List Sp) : lm (s :: l) = (mnL (s :: l) s.2, true) := by
  show (mnL l s.2, true) = (mnL l (min s.2 s.2), true)
  rw [Int.min_self]
theorem ret_m {p q : Int × Bool} (h : p = q) : Ending.returned (.tuple #[.int .i64 p.1, .bool p.2]) = .returned (.tuple #[.int .i64 q.1, .bool q.2]) := by rw [h]
set_option maxHeartbeats 1000000 in
theorem rleast_any {b : Nat} {w : World} {c : Nat} {W : Int} {k : Nat} {L : List Sp} {N Q : Int} (h : Rr b w c W k L N Q) (hl : L.length ≤ 4096) :
    Calls Try.prog 13 #[.pointer (some ⟨c, 0, none⟩)] w fun e w' => e = .returned (.tuple #[.int .i64 (lm L).1, .bool (lm L).2]) ∧ w' = w := by
  obtain ⟨lv, sm, h1, h2, -⟩ := h
  obtain ⟨c0, c1, c2, c3, c4, c5, cf⟩ := cells6 h1
  clear c0 c1 c3 c4 c5 cf h1
  match L, hl, h2 with
  | [], _, h2 =>
    obtain ⟨a, cp, rfl⟩ := h2.slice
    go_enter Try.func13, Try.ntmps13
    go_wp2
    go_ret2
    exact ⟨rfl, rfl⟩
  | s :: l, hl, h2 =>
    obtain ⟨g, off, cc, rfl, hgc⟩ : ∃ g off cc, lv = .slice (some ⟨g, off, none⟩) (s :: l).length cc ∧ ∀ j u, (sC (s :: l))[j]? = some u → w.cell? ⟨g, off + j, none⟩ = some u := by
      rcases h2 with ⟨_, h, _⟩ | ⟨g, off, cc, e, _, _, _, _, _, h⟩
      · simp at h
      · exact ⟨g, off, cc, e, h⟩
    have HG := mkHid hgc
    have LM := mkHid (lm_head s l)
    have x1 := hgc _ _ (sC_at (show (s :: l)[0]? = some s from rfl)).2
    obtain ⟨L, HL⟩ : ∃ L, Hid (s :: l = L) := ⟨_, mkHid rfl⟩
    obtain ⟨n, HN⟩ : ∃ n, Hid (L.length = n) := ⟨_, mkHid rfl⟩
    have hn0 : 0 < n := by rw [← HN.out, ← HL.out]; simp
    have hn1 : (0 : Int) < n := by omega
    have hn2 : ((n : Int) == 0) = false := by simp; omega
    rw [HL.out, HN.out] at hl c2
    rw [HL.out] at HG LM ⊢
    obtain ⟨m0, hm0⟩ : ∃ m, s.2 = m := ⟨_, rfl⟩
    rw [hm0] at LM x1
    have x1 : w.cell? ⟨g, off + 1, none⟩ = some (.int .i64 m0) := by simpa using x1
    have hn3 : (n : Int) ≤ 4096 := by omega
    clear hgc h2 hm0
    go_enter Try.func13, Try.ntmps13
    go_wp2_with fail
    go_loopg [4, 5] n (fun kx m i wr => ∃ j : Nat, m = .int .i64 (mnL (L.take j) m0) ∧ i = .int .i64 j ∧ j ≤ n ∧ kx = n - j ∧ wr = w)
    case atStart => exact ⟨0, rfl, rfl, Nat.zero_le _, rfl, rfl⟩
    case round =>
      obtain ⟨j, rfl, rfl, hj, hkx, rfl⟩ := hrel
      by_cases hlt : j < n
      · have hlt1 : (j : Int) < n := by omega
        obtain ⟨s, hs⟩ : ∃ s, L[j]? = some s := ⟨_, List.getElem?_eq_getElem (by rw [HN.out]; exact hlt)⟩
        have hz := mkHid (mnL_snoc (L.take j) s m0)
        have ht : L.take j ++ [s] = L.take (j + 1) := by rw [List.take_add_one, hs]; rfl
        rw [ht] at hz
        have d1 := HG.out _ _ (sC_at hs).2
        rw [← Nat.add_assoc] at d1
        obtain ⟨v, hv⟩ : ∃ v, s.2 = v := ⟨_, rfl⟩
        obtain ⟨u, hu⟩ : ∃ u, mnL (L.take j) m0 = u := ⟨_, rfl⟩
        rw [hv] at d1 hz
        rw [hu] at hz ⊢
        have hw : IntKind.i64.wrap ((j : Int) + 1) = (j : Int) + 1 := by rw [IntKind.wrap_i64]; omega
        clear hv hu hs ht x1
        by_cases hle : u ≤ v
        · go_wp2_with fail
          go_roundg (n - (j + 1))
          · exact ⟨j + 1, by rw [hz.out, Int.min_eq_left hle], rfl, by omega, rfl, rfl⟩
          · omega
        · go_wp2_with fail
          go_roundg (n - (j + 1))
          · exact ⟨j + 1, by rw [hz.out, Int.min_eq_right (by omega)], rfl, by omega, rfl, rfl⟩
          · omega
      · obtain rfl : j = n := by omega
        have ht : L.take j = L := by rw [← HN.out, List.take_length]
        rw [ht]
        go_wp2_with fail
        go_ret2
        exact ⟨ret_m (q := lm L) (p := (mnL L m0, true)) LM.out.symm, rfl⟩
end Go.Proofs.Ytnjghgbaffkafaa
