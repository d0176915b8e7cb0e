/-
  What the reference's small functions hand back: Large, Copy, Ints, Same, Good.
-/
import Derived.Test.YtdhbakknplnnkaaGreatTw2
import Derived.BigQuiet
import Derived.Test.YtdhbakknplnnkaaGreatTw1
import Derived.Deep.LoopGhost
import Derived.Deep.RegionLaw
import Derived.Deep.AppendLies
namespace Go.Proofs.YtdhbakknplnnkaaGreat.Tw
open Go.RowKit

def lgR (r : Rp) : Bool := decide ((5000 : Int) < r.st.length) || decide ((5000 : Int) < r.dl.length)
theorem lgR_no {r : Rp} (h : lgR r = false) : r.st.length ≤ 5000 ∧ r.dl.length ≤ 5000 := by
  unfold lgR at h
  simp at h
  omega
/-- The box of a report that came in. -/
theorem Td.box (w : World) (v0 v1 v2 v3 v4 v5 v6 : Value) : Td (w.alloc (.cells #[v0, v1, v2, v3, v4, v5, v6] 63)) w.heap.size v0 v1 v2 v3 v4 v5 v6 := heap_alloc_new _ _
theorem ia_src {B : Nat} {w : World} {a : Option Addr} {c : Nat} {l : List Int} (h : IA B w a c l) : SrcN w 1 (.slice a l.length c) l.length (IC l) := by
  rcases h.2.2 with h0 | ⟨b, off, rfl, hb, hc⟩
  · subst h0
    cases a with
    | none => exact .inl ⟨c, rfl, rfl, rfl⟩
    | some ad => exact .inr ⟨ad, c, rfl, rfl, fun j u hj => by simp [IC] at hj⟩
  · refine .inr ⟨⟨b, off, none⟩, c, rfl, by simp, fun j u hj => ?_⟩
    have hj' : ∃ x, l[j]? = some x ∧ u = .int .i64 x := by
      unfold IC at hj
      rw [List.getElem?_map] at hj
      cases hx : l[j]? with
      | none => rw [hx] at hj; cases hj
      | some x => rw [hx] at hj; exact ⟨x, rfl, (Option.some.inj hj).symm⟩
    obtain ⟨x, hx, rfl⟩ := hj'
    have := hc j x hx
    have e : (⟨b, off, none⟩ : Addr).add j = ⟨b, off + j, none⟩ := by
      unfold Addr.add
      split
      · rename_i h; subst h; simp
      · rfl
    rw [e]; exact this
/-- The world ahead of the first append. -/
def cw0 (w : World) (v0 v1 v2 v3 v4 v5 v6 : Value) : World := (w.alloc (.cells #[v0, v1, v2, v3, v4, v5, v6] 63)).alloc (.cells #[.int .u32 0, .int .u32 0, .int .i64 0, .int .i64 0, .int .i64 0, .slice none 0 0, .slice none 0 0] 63)
theorem cw0_is (w : World) (v0 v1 v2 v3 v4 v5 v6 : Value) : (cw0 w v0 v1 v2 v3 v4 v5 v6).heap.size = w.heap.size + 1 + 1 ∧ Td (cw0 w v0 v1 v2 v3 v4 v5 v6) w.heap.size v0 v1 v2 v3 v4 v5 v6 ∧ Td (cw0 w v0 v1 v2 v3 v4 v5 v6) (w.heap.size + 1) (.int .u32 0) (.int .u32 0) (.int .i64 0) (.int .i64 0) (.int .i64 0) (.slice none 0 0) (.slice none 0 0) ∧ Apart (fun _ => False) w (cw0 w v0 v1 v2 v3 v4 v5 v6) := by
  refine ⟨by simp [cw0], ?_, ?_, ((Apart.refl _ _).alloc _).alloc _⟩
  · exact Td.kept (w := w.alloc _) (X := fun _ => False) (heap_alloc_new _ _) ((Apart.refl _ _).alloc _) (fun h => h)
  · have := heap_alloc_new (w.alloc (.cells #[v0, v1, v2, v3, v4, v5, v6] 63)) (.cells #[.int .u32 0, .int .u32 0, .int .i64 0, .int .i64 0, .int .i64 0, .slice none 0 0, .slice none 0 0] 63)
    simp only [World.size_alloc] at this
    exact this
/-- Behind the first append and its store, and the making of an empty list: what holds. -/
structure Cw (w0 w1 w2 : World) (bx : Nat) (v0 v1 v2 v3 v4 v5 v6 : Value) (l : List Int) : Prop where
  ap : Apart (fun _ => False) w0 w2
  d : Td w2 bx v0 v1 v2 v3 v4 v5 v6
  y : Td w2 (bx + 1) (.int .u32 0) (.int .u32 0) (.int .i64 0) (.int .i64 0) (.int .i64 0) (.slice none 0 0) (.slice none 0 0)
  o : w2.ownsRow (bx + 1 + 1) 3 1 v5 l.length (IC l)
  n : w2.ownsRow w1.heap.size 3 1 (.slice (some ⟨w1.heap.size, 0, none⟩) 0 0) 0 []
  z : w2.heap.size = w1.heap.size + 1
  l : bx + 1 + 1 < w1.heap.size
  k : ∀ k, v5.ownBlock = some k → k < w1.heap.size
theorem cw_is {w0 W w1 : World} {bx : Nat} {v0 v1 v2 v3 v4 u5 v6 v5 : Value} {l : List Int} (h0 : w0.heap.size = bx) (hl : bx + 1 + 1 < W.heap.size) (ap : Apart (fun _ => False) w0 W) (d : Td W bx v0 v1 v2 v3 v4 u5 v6)
    (y : Td W (bx + 1) (.int .u32 0) (.int .u32 0) (.int .i64 0) (.int .i64 0) (.int .i64 0) (.slice none 0 0) (.slice none 0 0)) (g : Apart (· = bx + 1 + 1) W w1) (o : w1.ownsRow (bx + 1 + 1) 3 1 v5 l.length (IC l)) :
    Cw w0 w1 ((w1.setCell ⟨bx, 5, none⟩ v5).alloc (.cells #[] 3)) bx v0 v1 v2 v3 v4 v5 v6 l := by
  have g2 : Apart (fun _ => False) (w1.setCell ⟨bx, 5, none⟩ v5) ((w1.setCell ⟨bx, 5, none⟩ v5).alloc (.cells #[] 3)) := (Apart.refl _ _).alloc _
  have e : (w1.setCell ⟨bx, 5, none⟩ v5).heap.size = w1.heap.size := by simp
  have hz := g.size
  refine ⟨?_, ?_, ?_, ?_, ?_, ?_, by omega, fun k hk => (o.lt k hk).2⟩
  · exact ((ap.trans g (fun i hi e => by omega)).trans (ap_set w1 bx 5 v5) (fun i hi e => by omega)).trans g2 (fun _ _ h => h)
  · exact ((d.kept g (by omega)).set5 v5).kept g2 (fun h => h)
  · exact ((y.kept g (by omega)).kept (ap_set w1 bx 5 v5) (by omega)).kept g2 (fun h => h)
  · exact ownsRow_apart (ownsRow_apart o (ap_set w1 bx 5 v5) (fun k hk e => by omega)) g2 (fun _ _ h => h)
  · have := own_empty (w1.setCell ⟨bx, 5, none⟩ v5) w1.heap.size 3 1 (by rw [e]; exact Nat.le_refl _)
    rw [e] at this
    exact this
  · simp
set_option maxRecDepth 100000 in
set_option maxHeartbeats 400000 in
theorem ints_self (B : Nat) (a : Option Addr) (c : Nat) (a' : Option Addr) (c' : Nat) (l : List Int) (w : World) (hB : B ≤ w.heap.size) (h : IA B w a c l) (h' : IA B w a' c' l) :
    Calls Tryz.prog 11 #[.slice a l.length c, .slice a' l.length c'] w fun e w' => e = .returned (.bool true) ∧ Apart (fun _ => False) w w' := by
  have H := mkHid h
  have H' := mkHid h'
  have m1 := h.len
  obtain ⟨n, HN⟩ : ∃ n, Hid (l.length = n) := ⟨_, rfl⟩
  rw [HN.out] at m1 ⊢
  clear h h'
  go_enter Tryz.func11, Tryz.ntmps11
  go_wp2
  go_loopw [5] (fun i wr => ∃ k : Nat, k ≤ n ∧ i = .int .i64 (k : Int) ∧ Apart (fun _ => False) w wr) (fun i _ => n - (intOf i).toNat)
  case atStart => exact ⟨0, Nat.zero_le _, rfl, Apart.refl _ _⟩
  case round =>
    obtain ⟨k, hk, rfl, hap⟩ := hrel
    have HAP := mkHid hap
    clear hap
    by_cases hlt : k < n
    · obtain ⟨b, off, x, rfl, _, hx, c0⟩ := (H.out.kept (HAP.out.belowF B hB)).at k (by rw [HN.out]; exact hlt)
      obtain ⟨b', off', x', rfl, _, hx', c1⟩ := (H'.out.kept (HAP.out.belowF B hB)).at k (by rw [HN.out]; exact hlt)
      obtain rfl : x = x' := by rw [hx] at hx'; exact Option.some.inj hx'
      have k0 : (0 : Int) ≤ k := by omega
      have k1 : (k : Int) < n := by omega
      clear hx hx'
      go_wp2_with fail
      go_quiet (fail)
      go_wp2
      go_roundw
      case rel => exact ⟨k + 1, by omega, by go_num, HAP.out.drewN _⟩
      case measure => simp [intOf]; omega
    · obtain rfl : k = n := by omega
      go_wp2
      go_ret
      exact ⟨rfl, HAP.out⟩
theorem mat_bad {s : Int} (h : s < 0 ∨ 2 < s) (st dl : List Int) : mat (s :: st) dl = false := by
  cases dl with
  | nil => rw [mat, if_neg (by omega)]
  | cons x dl =>
    have : dOk s x = false := by unfold dOk; rw [if_neg (by omega), if_neg (by omega)]
    rw [mat, if_neg (by omega)]
    simp [this]
set_option maxRecDepth 100000 in
set_option maxHeartbeats 2000000 in
theorem rgood_any (r : Rp) (a : Option Addr) (c : Nat) (a' : Option Addr) (c' : Nat) (w : World) (h : IA w.heap.size w a c r.st) (h' : IA w.heap.size w a' c' r.dl) :
    Calls Tryz.prog 34 #[rv r a r.st.length c a' r.dl.length c'] w fun e w' => e = .returned (.bool (goodR r)) ∧ Apart (fun _ => False) w w' := by
  have m1 := h.len
  have m2 := h'.len
  have HG := mkHid (@goodR_iff r)
  obtain ⟨g, HGG⟩ : ∃ g, Hid (goodR r = g) := ⟨_, rfl⟩
  rw [HGG.out] at HG ⊢
  obtain ⟨sd, md, fi, ba, co, st, dl⟩ := r
  unfold rv
  simp only at *
  obtain ⟨n, HN⟩ : ∃ n, Hid (st.length = n) := ⟨_, rfl⟩
  obtain ⟨m, HM⟩ : ∃ m, Hid (dl.length = m) := ⟨_, rfl⟩
  rw [HN.out] at m1 HG ⊢
  rw [HM.out] at m2 ⊢
  have A0 := mkHid ((Apart.refl (fun _ => False) w).alloc (.cells #[.int .u32 sd, .int .u32 md, .int .i64 fi, .int .i64 ba, .int .i64 co, .slice a n c, .slice a' m c'] 63))
  have T0 := mkHid (Td.box w (.int .u32 sd) (.int .u32 md) (.int .i64 fi) (.int .i64 ba) (.int .i64 co) (.slice a n c) (.slice a' m c'))
  have I0 := mkHid (h.kept A0.out.belowZ)
  have J0 := mkHid (h'.kept A0.out.belowZ)
  obtain ⟨bx, HBX⟩ : ∃ bx, Hid (w.heap.size = bx) := ⟨_, rfl⟩
  obtain ⟨W, HW⟩ : ∃ W, Hid (w.alloc (.cells #[.int .u32 sd, .int .u32 md, .int .i64 fi, .int .i64 ba, .int .i64 co, .slice a n c, .slice a' m c'] 63) = W) := ⟨_, rfl⟩
  rw [HBX.out, HW.out] at T0
  rw [HW.out] at A0 I0 J0
  obtain ⟨c0, c1, c2, c3, c4, c5, c6⟩ := T0.out.c
  have HNO := mkHid (show ¬ ((0 ≤ fi ∧ fi ≤ 65535) ∧ (-8388608 ≤ ba ∧ ba ≤ 8388607) ∧ (0 ≤ co ∧ co ≤ 255) ∧ (1 ≤ n ∧ n ≤ 4096) ∧ mat st dl = true) → false = g by
    intro hn
    cases g with
    | false => rfl
    | true => exact (hn (HG.out.1 rfl)).elim)
  clear h h'
  by_cases h1 : fi < 0
  · have HF := mkHid (HNO.out (by omega))
    go_enter Tryz.func34, Tryz.ntmps34
    go_wp2_with fail
    rw [HW.out, HBX.out]
    go_wp2
    go_ret
    exact ⟨ret_b HF.out, A0.out⟩
  by_cases h2 : 65535 < fi
  · have HF := mkHid (HNO.out (by omega))
    go_enter Tryz.func34, Tryz.ntmps34
    go_wp2_with fail
    rw [HW.out, HBX.out]
    go_wp2
    go_ret
    exact ⟨ret_b HF.out, A0.out⟩
  by_cases h3 : ba < -8388608
  · have HF := mkHid (HNO.out (by omega))
    go_enter Tryz.func34, Tryz.ntmps34
    go_wp2_with fail
    rw [HW.out, HBX.out]
    go_wp2
    go_ret
    exact ⟨ret_b HF.out, A0.out⟩
  by_cases h4 : 8388608 ≤ ba
  · have HF := mkHid (HNO.out (by omega))
    go_enter Tryz.func34, Tryz.ntmps34
    go_wp2_with fail
    rw [HW.out, HBX.out]
    go_wp2
    go_ret
    exact ⟨ret_b HF.out, A0.out⟩
  by_cases h5 : co < 0
  · have HF := mkHid (HNO.out (by omega))
    go_enter Tryz.func34, Tryz.ntmps34
    go_wp2_with fail
    rw [HW.out, HBX.out]
    go_wp2
    go_ret
    exact ⟨ret_b HF.out, A0.out⟩
  by_cases h6 : 255 < co
  · have HF := mkHid (HNO.out (by omega))
    go_enter Tryz.func34, Tryz.ntmps34
    go_wp2_with fail
    rw [HW.out, HBX.out]
    go_wp2
    go_ret
    exact ⟨ret_b HF.out, A0.out⟩
  by_cases h7 : (n : Int) < 1
  · have HF := mkHid (HNO.out (by omega))
    go_enter Tryz.func34, Tryz.ntmps34
    go_wp2_with fail
    rw [HW.out, HBX.out]
    go_wp2
    go_ret
    exact ⟨ret_b HF.out, A0.out⟩
  by_cases h8 : (4096 : Int) < n
  · have HF := mkHid (HNO.out (by omega))
    go_enter Tryz.func34, Tryz.ntmps34
    go_wp2_with fail
    rw [HW.out, HBX.out]
    go_wp2
    go_ret
    exact ⟨ret_b HF.out, A0.out⟩
  have HGM := mkHid (show mat st dl = g by
    cases hm : mat st dl with
    | false => exact HNO.out (by rw [hm]; simp)
    | true => exact (HG.out.2 ⟨by omega, by omega, by omega, by omega, hm⟩).symm)
  clear HG HNO
  go_enter Tryz.func34, Tryz.ntmps34
  go_wp2_with fail
  rw [HW.out, HBX.out]
  go_wp2
  clear h1 h2 h3 h4 h5 h6 h7
  go_loopw [3, 4] (fun x i wr => wr = W ∧ ∃ k j : Nat, k ≤ n ∧ j ≤ m ∧ j ≤ k ∧ i = .int .i64 (k : Int) ∧ x = .int .i64 (j : Int) ∧ mat (st.drop k) (dl.drop j) = g) (fun _ i _ => n - (intOf i).toNat)
  case atStart => exact ⟨rfl, 0, 0, Nat.zero_le _, Nat.zero_le _, Nat.zero_le _, rfl, rfl, HGM.out⟩
  case round =>
    obtain ⟨rfl, k, j, hk, hj, hjk, rfl, rfl, hg⟩ := hrel
    have HGK := mkHid hg
    clear hg
    have hn4 : (n : Int) ≤ 4096 := by omega
    by_cases hlt : k < n
    · obtain ⟨b, off, x, rfl, _, hx, d0⟩ := I0.out.at k (by rw [HN.out]; exact hlt)
      have HX := mkHid (drop_at hx)
      have k0 : (0 : Int) ≤ k := by omega
      have k1 : (k : Int) < n := by omega
      clear hx
      by_cases x0 : x < 0
      · have HF := mkHid (show false = g by have := HGK.out; rw [HX.out, mat_bad (.inl x0)] at this; exact this)
        go_wp2
        go_ret
        exact ⟨ret_b HF.out, A0.out⟩
      · by_cases x2 : 2 < x
        · have HF := mkHid (show false = g by have := HGK.out; rw [HX.out, mat_bad (.inr x2)] at this; exact this)
          go_wp2
          go_ret
          exact ⟨ret_b HF.out, A0.out⟩
        · by_cases xz : x = 0
          · subst xz
            have HGN := mkHid (show mat (st.drop (k + 1)) (dl.drop j) = g by have := HGK.out; rw [HX.out] at this; exact this)
            go_wp2
            go_roundw
            case rel => exact ⟨by trivial, k + 1, j, by omega, hj, by omega, by go_num, rfl, HGN.out⟩
            case measure => simp [intOf]; omega
          · by_cases hjm : j < m
            · obtain ⟨b', off', y, rfl, _, hy, d1⟩ := J0.out.at j (by rw [HM.out]; exact hjm)
              have HY := mkHid (drop_at hy)
              have HGN := mkHid (show (dOk x y && mat (st.drop (k + 1)) (dl.drop (j + 1))) = g by have := HGK.out; rw [HX.out, HY.out, mat, if_neg xz] at this; exact this)
              have j0 : (0 : Int) ≤ j := by omega
              have j1 : (j : Int) < m := by omega
              clear hy
              by_cases x1 : x = 1
              · subst x1
                have e1 : dOk 1 y = (decide (0 ≤ y) && decide (y ≤ 255)) := rfl
                rw [e1] at HGN
                clear e1
                by_cases y0 : y < 0
                · have HF := mkHid (show false = g by have := HGN.out; rw [decide_eq_false (by omega)] at this; exact this)
                  go_wp2
                  go_ret
                  exact ⟨ret_b HF.out, A0.out⟩
                · by_cases y1 : 255 < y
                  · have HF := mkHid (show false = g by have := HGN.out; rw [decide_eq_false (by omega : ¬ y ≤ 255), Bool.and_false] at this; exact this)
                    go_wp2
                    go_ret
                    exact ⟨ret_b HF.out, A0.out⟩
                  · have HN2 := mkHid (show mat (st.drop (k + 1)) (dl.drop (j + 1)) = g by have := HGN.out; rw [decide_eq_true (by omega : 0 ≤ y), decide_eq_true (by omega : y ≤ 255)] at this; exact this)
                    go_wp2
                    go_roundw
                    case rel => exact ⟨by trivial, k + 1, j + 1, by omega, by omega, by omega, by go_num, by go_num, HN2.out⟩
                    case measure => simp [intOf]; omega
              · obtain rfl : x = 2 := by omega
                have e1 : dOk 2 y = (decide (-32768 ≤ y) && decide (y ≤ 32767)) := rfl
                rw [e1] at HGN
                clear e1
                by_cases y0 : y < -32768
                · have HF := mkHid (show false = g by have := HGN.out; rw [decide_eq_false (by omega)] at this; exact this)
                  go_wp2
                  go_ret
                  exact ⟨ret_b HF.out, A0.out⟩
                · by_cases y1 : 32767 < y
                  · have HF := mkHid (show false = g by have := HGN.out; rw [decide_eq_false (by omega : ¬ y ≤ 32767), Bool.and_false] at this; exact this)
                    go_wp2
                    go_ret
                    exact ⟨ret_b HF.out, A0.out⟩
                  · have HN2 := mkHid (show mat (st.drop (k + 1)) (dl.drop (j + 1)) = g by have := HGN.out; rw [decide_eq_true (by omega : -32768 ≤ y), decide_eq_true (by omega : y ≤ 32767)] at this; exact this)
                    go_wp2
                    go_roundw
                    case rel => exact ⟨by trivial, k + 1, j + 1, by omega, by omega, by omega, by go_num, by go_num, HN2.out⟩
                    case measure => simp [intOf]; omega
            · have hjm' : (m : Int) ≤ j := by omega
              have HF := mkHid (show false = g by
                have := HGK.out
                rw [HX.out, List.drop_of_length_le (by rw [HM.out]; omega : dl.length ≤ j), mat, if_neg xz] at this
                exact this)
              go_wp2
              go_ret
              exact ⟨ret_b HF.out, A0.out⟩
    · obtain rfl : k = n := by omega
      have HF := mkHid (show decide (j = m) = g by
        have := HGK.out
        rw [← HN.out, List.drop_length, mat] at this
        rw [← this, Bool.eq_iff_iff]
        simp [HM.out]
        omega)
      by_cases hjm : j = m
      · rw [decide_eq_true hjm] at HF
        subst hjm
        go_wp2
        go_ret
        exact ⟨ret_b HF.out, A0.out⟩
      · rw [decide_eq_false hjm] at HF
        have hj5 : ((j : Int) == m) = false := by simp; omega
        go_wp2
        go_ret
        exact ⟨ret_b HF.out, A0.out⟩
end Go.Proofs.YtdhbakknplnnkaaGreat.Tw
namespace Go.Proofs.YtdhbakknplnnkaaGreat.Tw

theorem gv_mid (A B : List Bool) (c n p : Nat) (L : List Bool) (hL : L = A ++ (bitsOf c n ++ B)) (hp : p = A.length) : gv (packS L) p n = c % 2 ^ n := by
  subst hp hL; rw [gv_pack]; exact val_mid _ _ _ _
theorem rowB_cut (k : Nat) {m : List Int} {j : Nat} {x : Int} (h : m[j]? = some x) : rowB k m = rowB k (m.take j) ++ (bitsOf x.toNat k ++ rowB k (m.drop (j + 1))) := by
  obtain ⟨hj, rfl⟩ := List.getElem?_eq_some_iff.1 h
  have e : m = m.take j ++ (m[j] :: m.drop (j + 1)) := by
    rw [← List.drop_eq_getElem_cons hj, List.take_append_drop]
  conv => lhs; rw [e, rowB_app]
  rfl
theorem bits0_cut (a k c : Nat) : bitsOf 0 (a + k + c) = bitsOf 0 a ++ (bitsOf 0 k ++ bitsOf 0 c) := by
  rw [bitsOf_zero, bitsOf_zero, bitsOf_zero, bitsOf_zero, List.replicate_append_replicate, List.replicate_append_replicate]
  congr 1; omega
theorem row_enc (k S : Nat) (hS : k * S = 14) (m : List Int) (hm : m.length ≤ S) (hx : ∀ x ∈ m, 0 ≤ x ∧ x < (2 ^ k : Nat)) (A B L : List Bool) (p : Nat) (hL : L = A ++ (rowB k m ++ (bitsOf 0 (14 - k * m.length) ++ B))) (hp : p = A.length) :
    rowV (packS L) p k S = m ++ List.replicate (S - m.length) 0 := by
  apply List.ext_getElem?
  intro j
  by_cases hj : j < S
  · have e1 : (rowV (packS L) p k S)[j]? = some (gv (packS L) (p + k * j) k : Int) := by simp [rowV, hj]
    rw [e1]
    by_cases hjm : j < m.length
    · rw [List.getElem?_append_left hjm, List.getElem?_eq_getElem hjm]
      have hc := rowB_cut k (List.getElem?_eq_getElem hjm)
      have hb := hx m[j] (List.getElem_mem hjm)
      rw [gv_mid (A ++ rowB k (m.take j)) (rowB k (m.drop (j + 1)) ++ (bitsOf 0 (14 - k * m.length) ++ B)) m[j].toNat k _ L (by rw [hL, hc]; simp only [List.append_assoc]) (by rw [hp, List.length_append, rowB_len, List.length_take, Nat.min_eq_left (by omega)])]
      rw [Nat.mod_eq_of_lt (by omega)]
      congr 1; omega
    · rw [List.getElem?_append_right (by omega), List.getElem?_replicate, if_pos (by omega)]
      have hk : k * m.length ≤ k * j := Nat.mul_le_mul_left k (by omega)
      have hk2 : k * j + k ≤ 14 := by
        have : k * (j + 1) ≤ k * S := Nat.mul_le_mul_left k (by omega)
        rw [Nat.mul_add, Nat.mul_one] at this; omega
      have e : 14 - k * m.length = (k * j - k * m.length) + k + (14 - k * j - k) := by omega
      rw [e, bits0_cut] at hL
      rw [gv_mid (A ++ (rowB k m ++ bitsOf 0 (k * j - k * m.length))) (bitsOf 0 (14 - k * j - k) ++ B) 0 k _ L (by rw [hL]; simp only [List.append_assoc]) (by rw [hp]; simp; omega)]
      simp
  · rw [List.getElem?_eq_none (by simp; omega), List.getElem?_eq_none (by simp; omega)]
theorem rowD_enc (k S : Nat) (hS : k * S = 14) (l : List Int) (hl : ∀ x ∈ l.take S, 0 ≤ x ∧ x ≤ 2 ∧ x < (2 ^ k : Nat)) (A B L : List Bool) (p : Nat) (hL : L = A ++ (rowB k (l.take S) ++ (bitsOf 0 (14 - k * min S l.length) ++ B))) (hp : p = A.length) :
    rowD (packS L) p k S l.length = some (l.take S) := by
  have hml : (l.take S).length = min S l.length := by simp
  have h1 := row_enc k S hS (l.take S) (by omega) (fun x hx => ⟨(hl x hx).1, (hl x hx).2.2⟩) A B L p (by rw [hml]; exact hL) hp
  unfold rowD
  rw [h1]
  have hok : rowOk (l.take S ++ List.replicate (S - (l.take S).length) 0) l.length = true := by
    unfold rowOk
    simp only [Bool.and_eq_true, List.all_eq_true, decide_eq_true_eq]
    constructor
    · intro x hx
      rcases List.mem_append.1 hx with hx | hx
      · exact (hl x hx).2.1
      · rw [(List.mem_replicate.1 hx).2]; decide
    · intro x hx
      rw [List.drop_append, List.drop_of_length_le (by rw [hml]; omega), List.nil_append, List.drop_replicate] at hx
      exact (List.mem_replicate.1 hx).2
  rw [if_pos hok]
  congr 1
  by_cases h : S ≤ l.length
  · have : S - (l.take S).length = 0 := by omega
    rw [this, List.replicate_zero, List.append_nil, List.take_of_length_le (by omega)]
  · rw [List.take_append_of_le_length (by omega), List.take_of_length_le (by omega)]
theorem kind1_no2 {l : List Int} (h : kind l = 1) : ∀ x ∈ l.take 14, x ≠ 2 := by
  unfold kind at h
  split at h
  · cases h
  · split at h
    · cases h
    · rename_i h2
      intro x hx e
      subst e
      exact h2 (by simpa using hx)
theorem ck_enc (l : List Int) (hn : 0 < l.length) (h4 : l.length ≤ 4096) (h2 : ∀ s ∈ l, 0 ≤ s ∧ s ≤ 2) (A B L : List Bool) (p : Nat) (hL : L = A ++ (ckB l ++ B)) (hp : p = A.length) :
    ckD (packS L) p l.length = some (l.take (ckN l)) := by
  have hk := kind_le l
  unfold ckD
  rcases (by omega : kind l = 0 ∨ kind l = 1 ∨ kind l = 2) with hK | hK | hK
  · have e : ckB l = bitsOf 0 1 ++ (bitsOf (l.getD 0 0).toNat 2 ++ bitsOf (alk l) 13) := by unfold ckB runB; rw [hK]; simp
    rw [e] at hL
    rw [gv_mid A (bitsOf (l.getD 0 0).toNat 2 ++ (bitsOf (alk l) 13 ++ B)) 0 1 p L (by rw [hL]; simp only [List.append_assoc]) hp, if_pos rfl]
    unfold runD
    have ha := alk_le l
    have ha0 := alk_pos hn
    have hs : 0 ≤ l.getD 0 0 ∧ l.getD 0 0 ≤ 2 := by
      cases l with
      | nil => simp at hn
      | cons x l => exact h2 x (by simp)
    rw [gv_mid (A ++ bitsOf 0 1) (bitsOf (alk l) 13 ++ B) (l.getD 0 0).toNat 2 (p + 1) L (by rw [hL]; simp only [List.append_assoc]) (by rw [hp]; simp)]
    rw [gv_mid (A ++ (bitsOf 0 1 ++ bitsOf (l.getD 0 0).toNat 2)) B (alk l) 13 (p + 1 + 2) L (by rw [hL]; simp only [List.append_assoc]) (by rw [hp]; simp)]
    simp only [Nat.reducePow]
    rw [Nat.mod_eq_of_lt (by omega : (l.getD 0 0).toNat < 4), Nat.mod_eq_of_lt (by omega : alk l < 8192), if_neg (by omega), Nat.min_eq_left ha]
    congr 1
    have : ckN l = alk l := by unfold ckN; rw [if_pos hK]
    rw [this, Int.toNat_of_nonneg hs.1]
    unfold alk
    rw [cnt_take]
  · have e : ckB l = bitsOf 1 1 ++ (bitsOf 0 1 ++ (rowB 1 (l.take 14) ++ bitsOf 0 (14 - min 14 l.length))) := by unfold ckB longB; rw [hK]; simp
    rw [e] at hL
    rw [gv_mid A (bitsOf 0 1 ++ (rowB 1 (l.take 14) ++ (bitsOf 0 (14 - min 14 l.length) ++ B))) 1 1 p L (by rw [hL]; simp only [List.append_assoc]) hp, if_neg (by decide)]
    rw [gv_mid (A ++ bitsOf 1 1) (rowB 1 (l.take 14) ++ (bitsOf 0 (14 - min 14 l.length) ++ B)) 0 1 (p + 1) L (by rw [hL]; simp only [List.append_assoc]) (by rw [hp]; simp), if_pos (by decide)]
    have hno := kind1_no2 hK
    rw [rowD_enc 1 14 rfl l (fun x hx => by have := h2 x (List.mem_of_mem_take hx); have := hno x hx; simp; omega) (A ++ (bitsOf 1 1 ++ bitsOf 0 1)) B L (p + 2) (by rw [hL, Nat.one_mul]; simp only [List.append_assoc]) (by rw [hp]; simp)]
    congr 1
    unfold ckN
    rw [if_neg (by omega), if_pos hK]
    by_cases h : 14 ≤ l.length
    · rw [Nat.min_eq_left h]
    · rw [List.take_of_length_le (by omega), List.take_of_length_le (by omega)]
  · have e : ckB l = bitsOf 1 1 ++ (bitsOf 1 1 ++ (rowB 2 (l.take 7) ++ bitsOf 0 (14 - 2 * min 7 l.length))) := by unfold ckB shortB; rw [hK]; simp
    rw [e] at hL
    rw [gv_mid A (bitsOf 1 1 ++ (rowB 2 (l.take 7) ++ (bitsOf 0 (14 - 2 * min 7 l.length) ++ B))) 1 1 p L (by rw [hL]; simp only [List.append_assoc]) hp, if_neg (by decide)]
    rw [gv_mid (A ++ bitsOf 1 1) (rowB 2 (l.take 7) ++ (bitsOf 0 (14 - 2 * min 7 l.length) ++ B)) 1 1 (p + 1) L (by rw [hL]; simp only [List.append_assoc]) (by rw [hp]; simp), if_neg (by decide)]
    rw [rowD_enc 2 7 rfl l (fun x hx => by have := h2 x (List.mem_of_mem_take hx); simp; omega) (A ++ (bitsOf 1 1 ++ bitsOf 1 1)) B L (p + 2) (by rw [hL]; simp only [List.append_assoc]) (by rw [hp]; simp)]
    congr 1
    unfold ckN
    rw [if_neg (by omega), if_neg (by omega)]
    by_cases h : 7 ≤ l.length
    · rw [Nat.min_eq_left h]
    · rw [List.take_of_length_le (by omega), List.take_of_length_le (by omega)]
theorem st_enc (f : Nat) : ∀ (l : List Int) (_ : l.length ≤ f) (_ : l.length ≤ 4096) (_ : ∀ s ∈ l, 0 ≤ s ∧ s ≤ 2) (A B L : List Bool) (p : Nat) (_ : L = A ++ (chB l ++ B)) (_ : p = A.length) (_ : L.length % 8 = 0),
    stD (packS L) f p l.length = ⟨0, l, p + (chB l).length⟩ := by
  induction f with
  | zero =>
    intro l hf _ _ A B L p _ _ _
    obtain rfl := List.eq_nil_of_length_eq_zero (by omega : l.length = 0)
    rfl
  | succ f ih =>
    intro l hf h4 h2 A B L p hL hp h8
    by_cases hl : l.length = 0
    · obtain rfl := List.eq_nil_of_length_eq_zero hl
      rfl
    · have hn : 0 < l.length := by omega
      have hc := chB_cons hn
      have hk := ckN_pos hn
      have hkl := ckN_le l
      have ckl := ckB_len l
      have hck := ck_enc l hn h4 h2 A (chB (l.drop (ckN l)) ++ B) L p (by rw [hL, hc]; simp only [List.append_assoc]) hp
      have hlen : (l.take (ckN l)).length = ckN l := by rw [List.length_take]; omega
      have hsz : p + 16 ≤ 8 * (packS L).size := by
        rw [packS_size]
        have : L.length = A.length + (16 + (chB (l.drop (ckN l))).length + B.length) := by rw [hL, hc]; simp [ckl]; omega
        omega
      have hi := ih (l.drop (ckN l)) (by simp; omega) (by simp; omega) (fun s hs => h2 s (List.mem_of_mem_drop hs)) (A ++ ckB l) B L (p + 16) (by rw [hL, hc]; simp only [List.append_assoc]) (by simp [hp]) h8
      rw [List.length_drop] at hi
      rw [stD, if_neg hl, if_neg (by omega), hck]
      simp only
      rw [hlen, hi]
      simp only [List.take_append_drop]
      rw [hc, List.length_append, ckl]
      simp only [Rs.mk.injEq, true_and]
      omega
theorem u32_small {d : Int} {n : Nat} (hn : n = 8 ∨ n = 16) (h : -32768 ≤ d ∧ d ≤ 32767) : u32 d % 2 ^ n = (d % (2 ^ n : Nat)).toNat := by
  unfold u32
  rcases hn with rfl | rfl <;> simp only [Nat.reducePow] <;> omega
theorem dV_enc (x d : Int) (hd : dOk x d = true) (A B L : List Bool) (p : Nat) (hL : L = A ++ (bitsOf (u32 d) (dW x) ++ B)) (hp : p = A.length) : dV (packS L) p x = d ∧ (x = 1 ∨ x = 2) := by
  unfold dOk at hd
  split at hd
  · rename_i h1
    subst h1
    simp only [Bool.and_eq_true, decide_eq_true_eq] at hd
    refine ⟨?_, .inl rfl⟩
    unfold dV
    rw [if_pos rfl, gv_mid A B (u32 d) 8 p L (by rw [hL]; rfl) hp]
    unfold u32
    simp only [Nat.reducePow]
    omega
  · split at hd
    · rename_i h1 h2
      subst h2
      simp only [Bool.and_eq_true, decide_eq_true_eq] at hd
      refine ⟨?_, .inr rfl⟩
      unfold dV
      rw [if_neg (by omega), gv_mid A B (u32 d) 16 p L (by rw [hL]; rfl) hp]
      unfold u32 sg
      simp only [Nat.reducePow, Nat.reduceSub]
      split <;> omega
    · cases hd
theorem dl_enc : ∀ (st dl : List Int) (_ : mat st dl = true) (A B L : List Bool) (p : Nat) (_ : L = A ++ (dls st dl ++ B)) (_ : p = A.length) (_ : L.length % 8 = 0),
    dlD (packS L) p st = ⟨0, dl, p + (dls st dl).length⟩ := by
  intro st
  induction st with
  | nil =>
    intro dl hm A B L p _ _ _
    have : dl = [] := by
      rw [mat] at hm
      cases dl with
      | nil => rfl
      | cons x dl => cases hm
    subst this
    rfl
  | cons x st ih =>
    intro dl hm A B L p hL hp h8
    by_cases h0 : x = 0
    · subst h0
      have e1 : mat (0 :: st) dl = mat st dl := by cases dl <;> rw [mat, if_pos rfl]
      have e2 : dls (0 :: st) dl = dls st dl := by cases dl <;> rw [dls, if_pos rfl]
      rw [e1] at hm
      rw [e2] at hL ⊢
      rw [dlD, if_pos rfl]
      exact ih dl hm A B L p hL hp h8
    · cases dl with
      | nil => rw [mat, if_neg h0] at hm; cases hm
      | cons y dl =>
        have e1 : mat (x :: st) (y :: dl) = (dOk x y && mat st dl) := by rw [mat, if_neg h0]
        have e2 : dls (x :: st) (y :: dl) = bitsOf (u32 y) (dW x) ++ dls st dl := by rw [dls, if_neg h0]
        rw [e1, Bool.and_eq_true] at hm
        rw [e2] at hL ⊢
        obtain ⟨hv, _⟩ := dV_enc x y hm.1 A (dls st dl ++ B) L p (by rw [hL]; simp only [List.append_assoc]) hp
        have hi := ih dl hm.2 (A ++ bitsOf (u32 y) (dW x)) B L (p + dW x) (by rw [hL]; simp only [List.append_assoc]) (by simp [hp]) h8
        have hsz : p + dW x ≤ 8 * (packS L).size := by
          rw [packS_size]
          have : L.length = A.length + (dW x + (dls st dl).length + B.length) := by rw [hL]; simp; omega
          omega
        rw [dlD, if_neg h0, if_neg (by omega), hv, hi]
        simp only [List.length_append, bitsOf_len, Rs.mk.injEq, true_and]
        omega
theorem encL_len (r : Rp) : (encL r).length % 32 = 0 ∧ (bodyB r).length ≤ (encL r).length ∧ (encL r).length < (bodyB r).length + 32 := by
  unfold encL
  simp only [List.length_append, bitsOf_len]
  omega
theorem lenE_is {n : Nat} (h1 : n ≤ 65536) (h2 : n % 4 = 0) (h3 : 16 ≤ n) : lenE n = 0 := by unfold lenE; rw [if_neg (by omega), if_neg (by omega), if_neg (by omega)]
theorem manyE_is {n : Nat} (h1 : 0 < n) (h2 : n ≤ 4096) : manyE n = 0 := by unfold manyE; rw [if_neg (by omega), if_neg (by omega)]
theorem u24 {b : Int} (h : -8388608 ≤ b ∧ b ≤ 8388607) : sg (u32 b % 2 ^ 24) 24 = b := by
  unfold u32 sg
  simp only [Nat.reducePow, Nat.reduceSub]
  split <;> omega
/-- What is read of a body that is encoded. -/
theorem enc_parts {r : Rp} (hg : goodR r = true) : nS (packS (encL r)) = r.st.length ∧ stR (packS (encL r)) = ⟨0, r.st, 128 + (chB r.st).length⟩ ∧ dlR (packS (encL r)) = ⟨0, r.dl, (bodyB r).length⟩ ∧ (packS (encL r)).size = (encL r).length / 8 := by
  obtain ⟨_, _, _, ⟨h1, h2⟩, h3⟩ := goodR_iff.1 hg
  have hs2 := mat_012 h3
  obtain ⟨l1, l2, l3⟩ := encL_len r
  have hn : nS (packS (encL r)) = r.st.length := by
    unfold nS
    rw [gv_mid (bitsOf r.sd.toNat 32 ++ (bitsOf r.md.toNat 32 ++ bitsOf r.fi.toNat 16)) (bitsOf (u32 r.ba) 24 ++ (bitsOf r.co.toNat 8 ++ (chB r.st ++ (dls r.st r.dl ++ bitsOf 0 ((32 - (bodyB r).length % 32) % 32))))) r.st.length 16 80 (encL r) (by unfold encL bodyB hdB; simp only [List.append_assoc]) (by simp)]
    exact Nat.mod_eq_of_lt (by omega)
  have hst : stR (packS (encL r)) = ⟨0, r.st, 128 + (chB r.st).length⟩ := by
    unfold stR
    rw [hn]
    exact st_enc r.st.length r.st (Nat.le_refl _) h2 hs2 (hdB r) (dls r.st r.dl ++ bitsOf 0 ((32 - (bodyB r).length % 32) % 32)) (encL r) 128 (by unfold encL bodyB; simp only [List.append_assoc]) (by simp) (by omega)
  have hdl : dlR (packS (encL r)) = ⟨0, r.dl, (bodyB r).length⟩ := by
    unfold dlR
    rw [hst]
    have := dl_enc r.st r.dl h3 (hdB r ++ chB r.st) (bitsOf 0 ((32 - (bodyB r).length % 32) % 32)) (encL r) (128 + (chB r.st).length) (by unfold encL bodyB; simp only [List.append_assoc]) (by simp) (by omega)
    rw [this]
    simp only [Rs.mk.injEq, true_and]
    unfold bodyB
    simp
    omega
  exact ⟨hn, hst, hdl, by rw [packS_size]; omega⟩
theorem enc_size {r : Rp} (hg : goodR r = true) : (packS (encL r)).size % 4 = 0 ∧ 20 ≤ (packS (encL r)).size ∧ (packS (encL r)).size ≤ 20000 ∧ ((bodyB r).length : Int) = 128 + (chB r.st).length + 8 * sumL r.st ∧ (bodyB r).length ≤ 8 * (packS (encL r)).size ∧ 8 * (packS (encL r)).size < (bodyB r).length + 32 := by
  obtain ⟨_, _, _, hz⟩ := enc_parts hg
  obtain ⟨b1, b2, b3⟩ := bodyB_len hg
  obtain ⟨l1, l2, l3⟩ := encL_len r
  obtain ⟨_, _, _, ⟨h1, h2⟩, h3⟩ := goodR_iff.1 hg
  have hc := (chB_len r.st).2.2 (by omega)
  have hs := (sumL_bd (mat_012 h3)).1
  omega
theorem dec_enc {r : Rp} (hg : goodR r = true) (s0 : 0 ≤ r.sd) (s1 : r.sd < 4294967296) (t0 : 0 ≤ r.md) (t1 : r.md < 4294967296) : decE (packS (encL r)) = 0 ∧ decR (packS (encL r)) = r := by
  obtain ⟨hn, hst, hdl, hz⟩ := enc_parts hg
  obtain ⟨z1, z2, z3, z4, z5, z6⟩ := enc_size hg
  obtain ⟨⟨f0, f1⟩, hba, ⟨k0, k1⟩, ⟨h1, h2⟩, h3⟩ := goodR_iff.1 hg
  have hE : decE (packS (encL r)) = 0 := by
    unfold decE
    rw [lenE_is (by omega) (by omega) (by omega), hn, manyE_is (by omega) (by omega), hst, hdl]
    simp only [ne_eq, not_true_eq_false, if_false]
    unfold padE
    obtain ⟨l1, l2, l3⟩ := encL_len r
    rw [if_neg]
    have e : 8 * (packS (encL r)).size - (bodyB r).length = (32 - (bodyB r).length % 32) % 32 := by
      have : (encL r).length = (bodyB r).length + (32 - (bodyB r).length % 32) % 32 := by unfold encL; simp
      omega
    rw [gv_mid (bodyB r) [] 0 _ _ (encL r) (by rw [e, List.append_nil]; rfl) rfl]
    simp
    omega
  refine ⟨hE, ?_⟩
  unfold decR
  rw [if_pos hE]
  unfold decG
  rw [hst, hdl]
  have g0 := gv_mid [] (bitsOf r.md.toNat 32 ++ (bitsOf r.fi.toNat 16 ++ (bitsOf r.st.length 16 ++ (bitsOf (u32 r.ba) 24 ++ (bitsOf r.co.toNat 8 ++ (chB r.st ++ (dls r.st r.dl ++ bitsOf 0 ((32 - (bodyB r).length % 32) % 32)))))))) r.sd.toNat 32 0 (encL r) (by unfold encL bodyB hdB; simp only [List.append_assoc, List.nil_append]) rfl
  have g1 := gv_mid (bitsOf r.sd.toNat 32) (bitsOf r.fi.toNat 16 ++ (bitsOf r.st.length 16 ++ (bitsOf (u32 r.ba) 24 ++ (bitsOf r.co.toNat 8 ++ (chB r.st ++ (dls r.st r.dl ++ bitsOf 0 ((32 - (bodyB r).length % 32) % 32))))))) r.md.toNat 32 32 (encL r) (by unfold encL bodyB hdB; simp only [List.append_assoc]) (by simp)
  have g2 := gv_mid (bitsOf r.sd.toNat 32 ++ bitsOf r.md.toNat 32) (bitsOf r.st.length 16 ++ (bitsOf (u32 r.ba) 24 ++ (bitsOf r.co.toNat 8 ++ (chB r.st ++ (dls r.st r.dl ++ bitsOf 0 ((32 - (bodyB r).length % 32) % 32)))))) r.fi.toNat 16 64 (encL r) (by unfold encL bodyB hdB; simp only [List.append_assoc]) (by simp)
  have g4 := gv_mid (bitsOf r.sd.toNat 32 ++ (bitsOf r.md.toNat 32 ++ (bitsOf r.fi.toNat 16 ++ bitsOf r.st.length 16))) (bitsOf r.co.toNat 8 ++ (chB r.st ++ (dls r.st r.dl ++ bitsOf 0 ((32 - (bodyB r).length % 32) % 32)))) (u32 r.ba) 24 96 (encL r) (by unfold encL bodyB hdB; simp only [List.append_assoc]) (by simp)
  have g5 := gv_mid (bitsOf r.sd.toNat 32 ++ (bitsOf r.md.toNat 32 ++ (bitsOf r.fi.toNat 16 ++ (bitsOf r.st.length 16 ++ bitsOf (u32 r.ba) 24)))) (chB r.st ++ (dls r.st r.dl ++ bitsOf 0 ((32 - (bodyB r).length % 32) % 32))) r.co.toNat 8 120 (encL r) (by unfold encL bodyB hdB; simp only [List.append_assoc]) (by simp)
  rw [g0, g1, g2, g4, g5, u24 hba]
  obtain ⟨sd, md, fi, ba, co, st, dl⟩ := r
  simp only [Nat.reducePow, Rp.mk.injEq, and_true, true_and] at *
  omega
/-! ### A text that begins as another one -/
def Pre (s s' : ByteArray) : Prop := s.size ≤ s'.size ∧ ∀ p n, p + n ≤ 8 * s.size → gv s' p n = gv s p n
theorem rowV_pre {s s' : ByteArray} (h : Pre s s') (p k S : Nat) (hp : p + k * S ≤ 8 * s.size) : rowV s' p k S = rowV s p k S := by
  unfold rowV
  apply List.map_congr_left
  intro i hi
  rw [List.mem_range] at hi
  have : k * (i + 1) ≤ k * S := Nat.mul_le_mul_left k (by omega)
  rw [Nat.mul_add, Nat.mul_one] at this
  rw [h.2 _ _ (by omega)]
theorem ckD_pre {s s' : ByteArray} (h : Pre s s') (p n : Nat) (hp : p + 16 ≤ 8 * s.size) : ckD s' p n = ckD s p n := by
  unfold ckD runD rowD
  rw [h.2 _ _ (by omega), h.2 _ _ (by omega), h.2 _ _ (by omega), h.2 _ _ (by omega), rowV_pre h (p + 2) 1 14 (by omega), rowV_pre h (p + 2) 2 7 (by omega)]
theorem stD_pre {s s' : ByteArray} (h : Pre s s') (f : Nat) : ∀ p n, (stD s f p n).e = 0 → p ≤ 8 * s.size → stD s' f p n = stD s f p n ∧ (stD s f p n).p ≤ 8 * s.size := by
  induction f with
  | zero => intro p n _ hp; exact ⟨rfl, hp⟩
  | succ f ih =>
    intro p n he hp
    rw [stD] at he ⊢
    rw [stD]
    by_cases hn : n = 0
    · rw [if_pos hn, if_pos hn]; exact ⟨rfl, hp⟩
    · rw [if_neg hn] at he ⊢
      rw [if_neg hn]
      by_cases h16 : 8 * s.size < p + 16
      · rw [if_pos h16] at he; cases he
      · rw [if_neg h16] at he ⊢
        have hs := h.1
        rw [if_neg (by omega), ckD_pre h p n (by omega)]
        cases hc : ckD s p n with
        | none => rw [hc] at he; cases he
        | some l =>
          rw [hc] at he
          simp only at he ⊢
          obtain ⟨i1, i2⟩ := ih (p + 16) (n - l.length) he (by omega)
          rw [i1]
          exact ⟨rfl, i2⟩
theorem dlD_pre {s s' : ByteArray} (h : Pre s s') : ∀ (st : List Int) (p : Nat), (dlD s p st).e = 0 → p ≤ 8 * s.size → dlD s' p st = dlD s p st ∧ (dlD s p st).p ≤ 8 * s.size := by
  intro st
  induction st with
  | nil => intro p _ hp; exact ⟨rfl, hp⟩
  | cons x st ih =>
    intro p he hp
    rw [dlD] at he ⊢
    rw [dlD]
    by_cases h0 : x = 0
    · rw [if_pos h0] at he ⊢
      rw [if_pos h0]
      exact ih p he hp
    · rw [if_neg h0] at he ⊢
      rw [if_neg h0]
      by_cases hw : 8 * s.size < p + dW x
      · rw [if_pos hw] at he; cases he
      · rw [if_neg hw] at he ⊢
        have hs := h.1
        rw [if_neg (by omega)]
        simp only at he ⊢
        obtain ⟨i1, i2⟩ := ih (p + dW x) he (by omega)
        have hv : dV s' p x = dV s p x := by
          have hd : dW x = 8 ∧ x = 1 ∨ dW x = 16 ∧ ¬ x = 1 := by unfold dW; split <;> simp [*]
          unfold dV
          rcases hd with ⟨hd, h1⟩ | ⟨hd, h1⟩
          · rw [if_pos h1, if_pos h1, h.2 _ _ (by omega)]
          · rw [if_neg h1, if_neg h1, h.2 _ _ (by omega)]
        rw [i1, hv]
        exact ⟨rfl, i2⟩
/-- Where the parts of a text are told, they are those of any longer one. -/
theorem parts_pre {s s' : ByteArray} (h : Pre s s') (h16 : 16 ≤ s.size) (h1 : (stR s).e = 0) (h2 : (dlR s).e = 0) : nS s' = nS s ∧ stR s' = stR s ∧ dlR s' = dlR s ∧ (dlR s).p ≤ 8 * s.size := by
  have hn : nS s' = nS s := h.2 80 16 (by omega)
  obtain ⟨a1, a2⟩ := stD_pre h (nS s) 128 (nS s) h1 (by omega)
  have hst : stR s' = stR s := by unfold stR; rw [hn]; exact a1
  obtain ⟨b1, b2⟩ := dlD_pre h (stR s).l (stR s).p h2 a2
  exact ⟨hn, hst, by unfold dlR; rw [hst]; exact b1, b2⟩
/-- A body with four bytes more behind it. -/
theorem dec_more {r : Rp} (hg : goodR r = true) {s' : ByteArray} (h : Pre (packS (encL r)) s') (hz : s'.size = (packS (encL r)).size + 4) : decE s' = 91 := by
  obtain ⟨hn, hst, hdl, _⟩ := enc_parts hg
  obtain ⟨z1, z2, z3, z4, z5, z6⟩ := enc_size hg
  obtain ⟨_, _, _, ⟨h1, h2⟩, h3⟩ := goodR_iff.1 hg
  obtain ⟨a, b, c, d⟩ := parts_pre h (by omega) (by rw [hst]) (by rw [hdl])
  unfold decE
  rw [lenE_is (by omega) (by omega) (by omega), a, hn, manyE_is (by omega) (by omega), b, hst, c, hdl]
  simp only [ne_eq, not_true_eq_false, if_false]
  unfold padE
  rw [if_pos (.inl (by omega))]
/-- A body that lacks its last four bytes. -/
theorem dec_less {r : Rp} (hg : goodR r = true) {s' : ByteArray} (h : Pre s' (packS (encL r))) (hz : s'.size + 4 = (packS (encL r)).size) : ¬ decE s' = 0 := by
  intro he
  obtain ⟨hn, hst, hdl, _⟩ := enc_parts hg
  obtain ⟨z1, z2, z3, z4, z5, z6⟩ := enc_size hg
  obtain ⟨_, _, d2, d3, _⟩ := decE_zero he
  obtain ⟨a, b, c, d⟩ := parts_pre h (by omega) d2 d3
  rw [hdl] at c
  rw [← c] at d
  simp only at d
  omega
end Go.Proofs.YtdhbakknplnnkaaGreat.Tw
namespace Go.Proofs.YtdhbakknplnnkaaGreat.Tw
open Go.RowKit

theorem gv_sub (s : ByteArray) (p a k c : Nat) : gv s p (a + k + c) / 2 ^ c % 2 ^ k = gv s (p + a) k := by
  have h1 := gv_add s p (a + k) c
  have h2 := gv_lt s (p + (a + k)) c
  have h3 := gv_add s p a k
  have h4 := gv_lt s (p + a) k
  have e1 : gv s p (a + k + c) / 2 ^ c = gv s p (a + k) := by
    rw [h1, Nat.mul_comm, Nat.mul_add_div (Nat.two_pow_pos _), Nat.div_eq_of_lt h2, Nat.add_zero]
  rw [e1, h3, Nat.mul_comm, Nat.mul_add_mod, Nat.mod_eq_of_lt h4]
theorem u32_and (x : Nat) (k : Nat) (hk : k ≤ 31) (m : Int) (hm : m = (2 ^ k : Nat) - 1) (hx : x < 4294967296) : bits .and .u32 (x : Int) m = ((x % 2 ^ k : Nat) : Int) := by
  subst hm
  have h2 : 2 ^ k ≤ 2 ^ 31 := Nat.pow_le_pow_right (by decide) hk
  have h1 : 1 ≤ 2 ^ k := Nat.one_le_two_pow
  have e : ((2 ^ k : Nat) : Int) - 1 = ((2 ^ k - 1 : Nat) : Int) := by omega
  rw [e]
  have hm : (BitVec.ofInt 32 ((2 ^ k - 1 : Nat) : Int)).toNat = 2 ^ k - 1 := by
    rw [BitVec.toNat_ofInt]; omega
  have hx' : (BitVec.ofInt 32 (x : Int)).toNat = x := by
    rw [BitVec.toNat_ofInt]; omega
  have key : (BitVec.ofInt 32 (x : Int) &&& BitVec.ofInt 32 ((2 ^ k - 1 : Nat) : Int)).toNat = x % 2 ^ k := by
    rw [BitVec.toNat_and, hm, hx', Nat.and_two_pow_sub_one_eq_mod]
  show IntKind.u32.wrap ((BitVec.ofInt 32 (x : Int) &&& BitVec.ofInt 32 ((2 ^ k - 1 : Nat) : Int)).toNat : Nat) = _
  rw [key, IntKind.wrap_u32]
  have : x % 2 ^ k < 2 ^ k := Nat.mod_lt _ (by omega)
  omega
theorem rsigned24_any (v : Nat) (h : v < 16777216) (w : World) : Calls Tryz.prog 49 #[.int .u32 (v : Int), .int .i64 24] w fun e w' => e = .returned (.int .i64 (sg v 24)) ∧ w' = w := by
  by_cases h1 : (8388608 : Int) ≤ v
  · have e1 : sg v 24 = (v : Int) - 16777216 := by unfold sg; simp only [Nat.reducePow, Nat.reduceSub]; rw [if_neg (by omega)]; rfl
    rw [e1]
    go_enter Tryz.func49, Tryz.ntmps49
    go_wp2
    go_ret
    exact ⟨rfl, rfl⟩
  · have e1 : sg v 24 = (v : Int) := by unfold sg; simp only [Nat.reducePow, Nat.reduceSub]; rw [if_pos (by omega)]
    rw [e1]
    go_enter Tryz.func49, Tryz.ntmps49
    go_wp2
    go_ret
    exact ⟨rfl, rfl⟩
theorem rsigned16_any (v : Nat) (h : v < 65536) (w : World) : Calls Tryz.prog 49 #[.int .u32 (v : Int), .int .i64 16] w fun e w' => e = .returned (.int .i64 (sg v 16)) ∧ w' = w := by
  by_cases h1 : (32768 : Int) ≤ v
  · have e1 : sg v 16 = (v : Int) - 65536 := by unfold sg; simp only [Nat.reducePow, Nat.reduceSub]; rw [if_neg (by omega)]; rfl
    rw [e1]
    go_enter Tryz.func49, Tryz.ntmps49
    go_wp2
    go_ret
    exact ⟨rfl, rfl⟩
  · have e1 : sg v 16 = (v : Int) := by unfold sg; simp only [Nat.reducePow, Nat.reduceSub]; rw [if_pos (by omega)]
    rw [e1]
    go_enter Tryz.func49, Tryz.ntmps49
    go_wp2
    go_ret
    exact ⟨rfl, rfl⟩
/-- What the reference's chunk leaves behind. -/
def RcPost (o : Option (List Int)) (w : World) (e : Ending) (w' : World) : Prop :=
  ((∃ (l : List Int) (a : Option Addr) (c : Nat), o = some l ∧ e = .returned (.tuple #[.slice a l.length c, .int .i64 0]) ∧ SrcN w' 1 (.slice a l.length c) l.length (IC l)) ∨ (o = none ∧ e = .returned (.tuple #[.slice none 0 0, .int .i64 100]))) ∧ Below w.heap.size w w'
theorem own_srcn {w : World} {B : Nat} {v : Value} {n : Nat} {l : List Int} (h : w.ownsRow B 3 1 v n (IC l)) : SrcN w 1 v n (IC l) := by
  rcases h.2 with ⟨rfl, rfl⟩ | ⟨g, cap, cur, rfl, _, hg, hn, hc, _, ht⟩
  · have hl : l.length = 0 := by have := h.1; simpa using this
    obtain rfl := List.eq_nil_of_length_eq_zero hl
    exact .inl ⟨0, rfl, rfl, rfl⟩
  · refine .inr ⟨⟨g, 0, none⟩, cap, rfl, h.1, fun j u hj => ?_⟩
    rw [addr0, cell_of_row w g j cur 3 _ hg]
    rw [← ht, List.getElem?_take] at hj
    split at hj
    · rw [← Array.getElem?_toList]; exact hj
    · cases hj
set_option maxRecDepth 100000 in
set_option maxHeartbeats 1000000 in
theorem rchunk_run (s : ByteArray) (p n : Nat) (hn : 0 < n) (hn4 : n ≤ 4096) (h0 : gv s p 1 = 0) (w : World) :
    Calls Tryz.prog 50 #[.int .u32 (gv s p 16 : Int), .int .i64 (n : Int)] w (RcPost (ckD s p n) w) := by
  obtain ⟨o, HO⟩ : ∃ o, Hid (ckD s p n = o) := ⟨_, rfl⟩
  rw [HO.out]
  obtain ⟨v, HV⟩ : ∃ v, Hid (gv s p 16 = v) := ⟨_, rfl⟩
  have hv := gv_lt s p 16
  have g0 := gv_sub s p 0 1 15
  have g1 := gv_sub s p 1 2 13
  have g2 := gv_sub s p 3 13 0
  simp only [Nat.zero_add, Nat.add_zero, Nat.reduceAdd, Nat.reducePow, Nat.div_one] at g0 g1 g2 hv
  rw [HV.out] at g0 g1 g2 hv ⊢
  obtain ⟨y, HY⟩ : ∃ y, Hid (gv s (p + 1) 2 = y) := ⟨_, rfl⟩
  obtain ⟨t, HT⟩ : ∃ t, Hid (gv s (p + 3) 13 = t) := ⟨_, rfl⟩
  rw [HY.out] at g1
  rw [HT.out] at g2
  rw [h0] at g0
  have hy : (y : Int) ≤ 3 := by omega
  have ht : (t : Int) ≤ 8191 := by omega
  have e0 : (v : Int) / 32768 = 0 := by omega
  have e1 : bits .and .u32 ((v : Int) / 8192) 3 = (y : Int) := by
    have : (v : Int) / 8192 = ((v / 8192 : Nat) : Int) := by omega
    rw [this, u32_and (v / 8192) 2 (by omega) 3 (by decide) (by omega)]
    simp only [Nat.reducePow]
    omega
  have e2 : bits .and .u32 (v : Int) 8191 = (t : Int) := by
    rw [u32_and v 13 (by omega) 8191 (by decide) (by omega)]
    simp only [Nat.reducePow]
    omega
  have HN := mkHid (show y = 3 ∨ t = 0 → o = none by intro h; rw [← HO.out]; unfold ckD runD; rw [h0, if_pos rfl, HY.out, show p + 1 + 2 = p + 3 from rfl, HT.out, if_pos h])
  have HSO := mkHid (show ¬ (y = 3 ∨ t = 0) → o = some (List.replicate (min t n) (y : Int)) by intro h; rw [← HO.out]; unfold ckD runD; rw [h0, if_pos rfl, HY.out, show p + 1 + 2 = p + 3 from rfl, HT.out, if_neg h])
  obtain ⟨i0, hi, hz0, hz1, hz2⟩ := info3'
  clear h0 g0 g1 g2
  by_cases h3 : y = 3
  · subst h3
    have HNN := mkHid (HN.out (.inl rfl))
    have e1' : bits .and .u32 ((v : Int) / 8192) 3 = 3 := e1
    clear e1
    go_enter Tryz.func50, Tryz.ntmps50
    go_wp2
    go_ret2
    exact ⟨.inr ⟨HNN.out, rfl⟩, Below.refl _ _⟩
  · have h3' : ((y : Int) == 3) = false := by simp; omega
    by_cases h4 : t = 0
    · subst h4
      have HNN := mkHid (HN.out (.inr rfl))
      have e2' : bits .and .u32 (v : Int) 8191 = 0 := e2
      clear e2
      go_enter Tryz.func50, Tryz.ntmps50
      go_wp2
      go_ret2
      exact ⟨.inr ⟨HNN.out, rfl⟩, Below.refl _ _⟩
    · have HSS := mkHid (HSO.out (by omega))
      have h4' : ((t : Int) == 0) = false := by simp; omega
      obtain ⟨m, HM⟩ : ∃ m, Hid (min t n = m) := ⟨_, rfl⟩
      rw [HM.out] at HSS
      have HMB := mkHid (show m ≤ t ∧ m ≤ n ∧ (m = t ∨ m = n) by have := HM.out; omega)
      have B0 := mkHid (Below.refl w.heap.size w)
      go_enter Tryz.func50, Tryz.ntmps50
      go_wp2
      go_loopw [6, 9] (fun x i wr => ∃ (k : Nat), k ≤ m ∧ i = .int .i64 (k : Int) ∧ wr.ownsRow w.heap.size 3 1 x k (IC (List.replicate k (y : Int))) ∧ Below w.heap.size w wr) (fun _ i _ => m - (intOf i).toNat)
      case atStart => exact ⟨0, Nat.zero_le _, rfl, World.ownsRow_nil _ _ _ _, Below.refl _ _⟩
      case round =>
        obtain ⟨k, hk, rfl, ho, hb⟩ := hrel
        obtain ⟨va, vc, rfl⟩ := ownsRow_slice ho
        have OW := mkHid ho
        have HB := mkHid hb
        have hzb := hb.size
        clear ho hb B0
        by_cases hlt : k < m
        · have k0 : (0 : Int) ≤ k := by omega
          have k1 : (k : Int) < t := by have := HMB.out; omega
          have k2 : (k : Int) < n := by have := HMB.out; omega
          go_wp2_with (at_builtin; refine wpList_append_own2 _ rfl (.tmp 40) (.tmp 42) 24 rfl w.heap.size 3 i0 (.int .i64 0) 1 8 Tryz.underlying24 hi hz0 hz1 hz2 rfl (by decide) (.slice va k vc) k (IC (List.replicate k (y : Int))) rfl (OW.out.alloc _) ⟨wr.heap.size, 0, none⟩ 1 1 [.int .i64 (y : Int)] rfl rfl (cell_one_new _ _ _) (by intro u hu; simp at hu; subst hu; rfl) (by unfold maxLen; omega) (by omega) (by simp; omega) ?_; intro v4 w4 hown4 hgrow4 _; have OW4 := mkHid hown4; have GR4 := mkHid hgrow4; clear hown4 hgrow4)
          go_roundw
          case rel =>
            refine ⟨k + 1, by omega, by go_num, ?_, ?_⟩
            · have e : IC (List.replicate (k + 1) (y : Int)) = IC (List.replicate k (y : Int)) ++ [.int .i64 (y : Int)] := by rw [List.replicate_succ', IC_app]; rfl
              rw [e]; exact OW4.out
            · exact ((HB.out.alloc hzb _).grown GR4.out (by simp; omega) (fun j e => (OW.out.lt j e).1))
          case measure => simp [intOf]; omega
        · obtain rfl : k = m := by omega
          have hstop : (t : Int) ≤ k ∨ (n : Int) ≤ k := by have := HMB.out; omega
          have SR := mkHid (own_srcn OW.out)
          by_cases hs1 : (k : Int) < t
          · have hs2 : (n : Int) ≤ k := by omega
            go_wp2
            go_ret2
            exact ⟨.inl ⟨_, va, vc, HSS.out, by rw [List.length_replicate]; rfl, by rw [List.length_replicate]; exact SR.out⟩, HB.out⟩
          · go_wp2
            go_ret2
            exact ⟨.inl ⟨_, va, vc, HSS.out, by rw [List.length_replicate]; rfl, by rw [List.length_replicate]; exact SR.out⟩, HB.out⟩
set_option maxRecDepth 100000 in
set_option maxHeartbeats 2000000 in
theorem rchunk_row (S k : Nat) (hS : S = 14 ∧ k = 1 ∨ S = 7 ∧ k = 2) (s : ByteArray) (p n : Nat) (hn : 0 < n) (hn4 : n ≤ 4096) (h0 : gv s p 1 = 1) (h1 : gv s (p + 1) 1 = k - 1) (w : World) :
    Calls Tryz.prog 50 #[.int .u32 (gv s p 16 : Int), .int .i64 (n : Int)] w (RcPost (rowD s (p + 2) k S n) w) := by
  obtain ⟨o, HO⟩ : ∃ o, Hid (rowD s (p + 2) k S n = o) := ⟨_, rfl⟩
  rw [HO.out]
  have HNO := mkHid (show ∀ j, j < S → (2 < gv s (p + 2 + k * j) k ∨ n ≤ j ∧ gv s (p + 2 + k * j) k ≠ 0) → o = none by
    intro j hj hb
    rw [← HO.out]; unfold rowD
    rw [if_neg]
    intro hr
    have := rowOk_iff.1 hr j hj
    omega)
  have HYS := mkHid (show (∀ j, j < S → gv s (p + 2 + k * j) k ≤ 2 ∧ (n ≤ j → gv s (p + 2 + k * j) k = 0)) → o = some ((rowV s (p + 2) k S).take n) by
    intro h
    rw [← HO.out]; unfold rowD
    rw [if_pos (rowOk_iff.2 h)])
  obtain ⟨v, HV⟩ : ∃ v, Hid (gv s p 16 = v) := ⟨_, rfl⟩
  have hv := gv_lt s p 16
  have g0 := gv_sub s p 0 1 15
  have g1 := gv_sub s p 1 1 14
  have HGJ := mkHid (fun j (hj : k * j + k ≤ 14) => gv_sub s p (2 + k * j) k (14 - (k * j + k)))
  simp only [Nat.zero_add, Nat.add_zero, Nat.reduceAdd, Nat.reducePow] at g0 g1 hv
  rw [HV.out] at g0 g1 hv ⊢
  rw [h0] at g0
  rw [h1] at g1
  have e0 : ((v : Int) / 32768 == 0) = false := by simp; omega
  have HSK := mkHid hS
  have HKS := mkHid (show ∀ j, j < S → k * j + k ≤ 14 by intro j hj; rcases hS with ⟨rfl, rfl⟩ | ⟨rfl, rfl⟩ <;> omega)
  have HVL := mkHid (show v < 4294967296 by omega)
  obtain ⟨i0, hi, hz0, hz1, hz2⟩ := info3'
  clear h0
  rcases hS with ⟨rfl, rfl⟩ | ⟨rfl, rfl⟩
  · have e3 : ((v : Int) / 16384 == 3) = false := by simp; omega
    clear g0 g1 h1
    go_enter Tryz.func50, Tryz.ntmps50
    go_wp2
    go_loopw [6, 12] (fun x i wr => ∃ (j : Nat), j ≤ 14 ∧ i = .int .i64 (j : Int) ∧ wr.ownsRow w.heap.size 3 1 x (min j n) (IC ((rowV s (p + 2) 1 14).take (min j n))) ∧ Below w.heap.size w wr ∧ (∀ q, q < j → gv s (p + 2 + 1 * q) 1 ≤ 2 ∧ (n ≤ q → gv s (p + 2 + 1 * q) 1 = 0))) (fun _ i _ => 14 - (intOf i).toNat)
    case atStart => exact ⟨0, Nat.zero_le _, rfl, by rw [Nat.zero_min]; exact World.ownsRow_nil _ _ _ _, Below.refl _ _, fun q hq => by omega⟩
    case round =>
      obtain ⟨j, hj, rfl, ho, hb, hall⟩ := hrel
      have HALL := mkHid hall
      obtain ⟨va, vc, rfl⟩ := ownsRow_slice ho
      have OW := mkHid ho
      have HB := mkHid hb
      have hzb := hb.size
      clear ho hb hall
      by_cases hlt : j < 14
      · have j0 : (0 : Int) ≤ j := by omega
        have j1 : (j : Int) < 14 := by omega
        have hkj := HKS.out j hlt
        have hgj := HGJ.out j hkj
        rw [show 2 + 1 * j + 1 + (14 - (1 * j + 1)) = 16 by omega, HV.out, ← Nat.add_assoc] at hgj
        obtain ⟨y, HY⟩ : ∃ y, Hid (gv s (p + 2 + 1 * j) 1 = y) := ⟨_, rfl⟩
        rw [HY.out] at hgj
        have hy : y ≤ 3 := by have := gv_lt s (p + 2 + 1 * j) 1; rw [HY.out] at this; simp at this; omega
        have ha : bits .and .u32 ((v : Int) / 2 ^ (13 - j)) 1 = (y : Int) := by
          have e : (v : Int) / 2 ^ (13 - j) = ((v / 2 ^ (14 - (1 * j + 1)) : Nat) : Int) := by
            rw [Int.natCast_ediv, Int.natCast_pow]; congr 2 <;> omega
          rw [e, u32_and _ 1 (by omega) 1 (by decide) (by have := Nat.div_le_self v (2 ^ (14 - (1 * j + 1))); have := HVL.out; omega), hgj]
        have hat : (rowV s (p + 2) 1 14)[j]? = some (y : Int) := by rw [rowV_at hlt, HY.out]
        have HAT := mkHid hat
        have HNX := mkHid (show y ≤ 2 → (n ≤ j → y = 0) → ∀ q, q < j + 1 → gv s (p + 2 + 1 * q) 1 ≤ 2 ∧ (n ≤ q → gv s (p + 2 + 1 * q) 1 = 0) by
          intro h1 h2 q hq
          by_cases e : q = j
          · subst e; rw [HY.out]; exact ⟨h1, h2⟩
          · exact HALL.out q (by omega))
        have HB3 := mkHid (show 2 < y ∨ n ≤ j ∧ y ≠ 0 → o = none by
          intro h; exact HNO.out j hlt (by rw [HY.out]; exact h))
        have hyi : (y : Int) ≤ 3 := by omega
        clear hgj hat hy
        by_cases y3 : y = 3
        · subst y3
          have HF := mkHid (HB3.out (.inl (by omega)))
          have ha' : bits .and .u32 ((v : Int) / 2 ^ (13 - j)) 1 = 3 := ha
          clear ha
          go_wp2
          go_ret2
          exact ⟨.inr ⟨HF.out, rfl⟩, HB.out⟩
        · have hy3 : ((y : Int) == 3) = false := by simp; omega
          by_cases hnj : n ≤ j
          · have hnj' : (n : Int) ≤ j := by omega
            have emin : min j n = n := by omega
            have emin2 : min (j + 1) n = n := by omega
            rw [emin] at OW
            by_cases y0 : y = 0
            · subst y0
              have ha' : bits .and .u32 ((v : Int) / 2 ^ (13 - j)) 1 = 0 := ha
              clear ha
              go_wp2
              go_roundw
              case rel => exact ⟨j + 1, by omega, by go_num, by rw [emin2, emin]; exact OW.out, HB.out, HNX.out (by omega) (fun _ => rfl)⟩
              case measure => simp [intOf]; omega
            · have HF := mkHid (HB3.out (.inr ⟨hnj, y0⟩))
              have hy0 : ((y : Int) != 0) = true := by simp; omega
              go_wp2
              go_ret2
              exact ⟨.inr ⟨HF.out, rfl⟩, HB.out⟩
          · have hnj' : (j : Int) < n := by omega
            have emin : min j n = j := by omega
            have emin2 : min (j + 1) n = j + 1 := by omega
            rw [emin] at OW
            clear hnj
            go_wp2_with (at_builtin; refine wpList_append_own2 _ rfl (.tmp 81) (.tmp 83) 24 rfl w.heap.size 3 i0 (.int .i64 0) 1 8 Tryz.underlying24 hi hz0 hz1 hz2 rfl (by decide) _ j (IC ((rowV s (p + 2) 1 14).take j)) rfl (OW.out.alloc _) ⟨wr.heap.size, 0, none⟩ 1 1 [.int .i64 (y : Int)] rfl rfl (cell_one_new _ _ _) (by intro u hu; simp at hu; subst hu; rfl) (by unfold maxLen; omega) (by omega) (by simp; omega) ?_; intro v4 w4 hown4 hgrow4 _; have OW4 := mkHid hown4; have GR4 := mkHid hgrow4; clear hown4 hgrow4)
            go_roundw
            case rel =>
              refine ⟨j + 1, by omega, by go_num, ?_, ?_, HNX.out (by omega) (fun h => by omega)⟩
              · have e : IC ((rowV s (p + 2) 1 14).take (j + 1)) = IC ((rowV s (p + 2) 1 14).take j) ++ [.int .i64 (y : Int)] := by rw [List.take_add_one, HAT.out, IC_app]; rfl
                rw [emin2, e]; exact OW4.out
              · exact ((HB.out.alloc hzb _).grown GR4.out (by simp; omega) (fun k e => (OW.out.lt k e).1))
            case measure => simp [intOf]; omega
      · obtain rfl : j = 14 := by omega
        have HOS := mkHid (HYS.out HALL.out)
        have emin : (rowV s (p + 2) 1 14).take (min 14 n) = (rowV s (p + 2) 1 14).take n := by
          by_cases h : n ≤ 14
          · rw [Nat.min_eq_right h]
          · rw [Nat.min_eq_left (by omega), List.take_of_length_le (by simp), List.take_of_length_le (by simp; omega)]
        rw [emin] at OW
        obtain ⟨m, HM⟩ : ∃ m, Hid (min 14 n = m) := ⟨_, rfl⟩
        have HLM := mkHid (show ((rowV s (p + 2) 1 14).take n).length = m by rw [List.length_take, rowV_len, ← HM.out]; omega)
        rw [HM.out] at OW ⊢
        have SR := mkHid (own_srcn OW.out)
        clear emin
        go_wp2
        go_ret2
        exact ⟨.inl ⟨_, va, vc, HOS.out, by rw [HLM.out]; rfl, by rw [HLM.out]; exact SR.out⟩, HB.out⟩
  · have e3 : (v : Int) / 16384 = 3 := by omega
    clear g0 g1 h1
    go_enter Tryz.func50, Tryz.ntmps50
    go_wp2
    go_loopw [6, 12] (fun x i wr => ∃ (j : Nat), j ≤ 7 ∧ i = .int .i64 (j : Int) ∧ wr.ownsRow w.heap.size 3 1 x (min j n) (IC ((rowV s (p + 2) 2 7).take (min j n))) ∧ Below w.heap.size w wr ∧ (∀ q, q < j → gv s (p + 2 + 2 * q) 2 ≤ 2 ∧ (n ≤ q → gv s (p + 2 + 2 * q) 2 = 0))) (fun _ i _ => 7 - (intOf i).toNat)
    case atStart => exact ⟨0, Nat.zero_le _, rfl, by rw [Nat.zero_min]; exact World.ownsRow_nil _ _ _ _, Below.refl _ _, fun q hq => by omega⟩
    case round =>
      obtain ⟨j, hj, rfl, ho, hb, hall⟩ := hrel
      have HALL := mkHid hall
      obtain ⟨va, vc, rfl⟩ := ownsRow_slice ho
      have OW := mkHid ho
      have HB := mkHid hb
      have hzb := hb.size
      clear ho hb hall
      by_cases hlt : j < 7
      · have j0 : (0 : Int) ≤ j := by omega
        have j1 : (j : Int) < 7 := by omega
        have hkj := HKS.out j hlt
        have hgj := HGJ.out j hkj
        rw [show 2 + 2 * j + 2 + (14 - (2 * j + 2)) = 16 by omega, HV.out, ← Nat.add_assoc] at hgj
        obtain ⟨y, HY⟩ : ∃ y, Hid (gv s (p + 2 + 2 * j) 2 = y) := ⟨_, rfl⟩
        rw [HY.out] at hgj
        have hy : y ≤ 3 := by have := gv_lt s (p + 2 + 2 * j) 2; rw [HY.out] at this; simp at this; omega
        have ha : bits .and .u32 ((v : Int) / 2 ^ (14 - 2 * (j + 1))) 3 = (y : Int) := by
          have e : (v : Int) / 2 ^ (14 - 2 * (j + 1)) = ((v / 2 ^ (14 - (2 * j + 2)) : Nat) : Int) := by
            rw [Int.natCast_ediv, Int.natCast_pow]; congr 2 <;> omega
          rw [e, u32_and _ 2 (by omega) 3 (by decide) (by have := Nat.div_le_self v (2 ^ (14 - (2 * j + 2))); have := HVL.out; omega), hgj]
        have hat : (rowV s (p + 2) 2 7)[j]? = some (y : Int) := by rw [rowV_at hlt, HY.out]
        have HAT := mkHid hat
        have HNX := mkHid (show y ≤ 2 → (n ≤ j → y = 0) → ∀ q, q < j + 1 → gv s (p + 2 + 2 * q) 2 ≤ 2 ∧ (n ≤ q → gv s (p + 2 + 2 * q) 2 = 0) by
          intro h1 h2 q hq
          by_cases e : q = j
          · subst e; rw [HY.out]; exact ⟨h1, h2⟩
          · exact HALL.out q (by omega))
        have HB3 := mkHid (show 2 < y ∨ n ≤ j ∧ y ≠ 0 → o = none by
          intro h; exact HNO.out j hlt (by rw [HY.out]; exact h))
        have hyi : (y : Int) ≤ 3 := by omega
        clear hgj hat hy
        by_cases y3 : y = 3
        · subst y3
          have HF := mkHid (HB3.out (.inl (by omega)))
          have ha' : bits .and .u32 ((v : Int) / 2 ^ (14 - 2 * (j + 1))) 3 = 3 := ha
          clear ha
          go_wp2
          go_ret2
          exact ⟨.inr ⟨HF.out, rfl⟩, HB.out⟩
        · have hy3 : ((y : Int) == 3) = false := by simp; omega
          by_cases hnj : n ≤ j
          · have hnj' : (n : Int) ≤ j := by omega
            have emin : min j n = n := by omega
            have emin2 : min (j + 1) n = n := by omega
            rw [emin] at OW
            by_cases y0 : y = 0
            · subst y0
              have ha' : bits .and .u32 ((v : Int) / 2 ^ (14 - 2 * (j + 1))) 3 = 0 := ha
              clear ha
              go_wp2
              go_roundw
              case rel => exact ⟨j + 1, by omega, by go_num, by rw [emin2, emin]; exact OW.out, HB.out, HNX.out (by omega) (fun _ => rfl)⟩
              case measure => simp [intOf]; omega
            · have HF := mkHid (HB3.out (.inr ⟨hnj, y0⟩))
              have hy0 : ((y : Int) != 0) = true := by simp; omega
              go_wp2
              go_ret2
              exact ⟨.inr ⟨HF.out, rfl⟩, HB.out⟩
          · have hnj' : (j : Int) < n := by omega
            have emin : min j n = j := by omega
            have emin2 : min (j + 1) n = j + 1 := by omega
            rw [emin] at OW
            clear hnj
            go_wp2_with (at_builtin; refine wpList_append_own2 _ rfl (.tmp 81) (.tmp 83) 24 rfl w.heap.size 3 i0 (.int .i64 0) 1 8 Tryz.underlying24 hi hz0 hz1 hz2 rfl (by decide) _ j (IC ((rowV s (p + 2) 2 7).take j)) rfl (OW.out.alloc _) ⟨wr.heap.size, 0, none⟩ 1 1 [.int .i64 (y : Int)] rfl rfl (cell_one_new _ _ _) (by intro u hu; simp at hu; subst hu; rfl) (by unfold maxLen; omega) (by omega) (by simp; omega) ?_; intro v4 w4 hown4 hgrow4 _; have OW4 := mkHid hown4; have GR4 := mkHid hgrow4; clear hown4 hgrow4)
            go_roundw
            case rel =>
              refine ⟨j + 1, by omega, by go_num, ?_, ?_, HNX.out (by omega) (fun h => by omega)⟩
              · have e : IC ((rowV s (p + 2) 2 7).take (j + 1)) = IC ((rowV s (p + 2) 2 7).take j) ++ [.int .i64 (y : Int)] := by rw [List.take_add_one, HAT.out, IC_app]; rfl
                rw [emin2, e]; exact OW4.out
              · exact ((HB.out.alloc hzb _).grown GR4.out (by simp; omega) (fun k e => (OW.out.lt k e).1))
            case measure => simp [intOf]; omega
      · obtain rfl : j = 7 := by omega
        have HOS := mkHid (HYS.out HALL.out)
        have emin : (rowV s (p + 2) 2 7).take (min 7 n) = (rowV s (p + 2) 2 7).take n := by
          by_cases h : n ≤ 7
          · rw [Nat.min_eq_right h]
          · rw [Nat.min_eq_left (by omega), List.take_of_length_le (by simp), List.take_of_length_le (by simp; omega)]
        rw [emin] at OW
        obtain ⟨m, HM⟩ : ∃ m, Hid (min 7 n = m) := ⟨_, rfl⟩
        have HLM := mkHid (show ((rowV s (p + 2) 2 7).take n).length = m by rw [List.length_take, rowV_len, ← HM.out]; omega)
        rw [HM.out] at OW ⊢
        have SR := mkHid (own_srcn OW.out)
        clear emin
        go_wp2
        go_ret2
        exact ⟨.inl ⟨_, va, vc, HOS.out, by rw [HLM.out]; rfl, by rw [HLM.out]; exact SR.out⟩, HB.out⟩
end Go.Proofs.YtdhbakknplnnkaaGreat.Tw
namespace Go.Proofs.YtdhbakknplnnkaaGreat.Tw
open Go.RowKit

theorem rchunk_any (s : ByteArray) (p n : Nat) (hn : 0 < n) (hn4 : n ≤ 4096) (w : World) :
    Calls Tryz.prog 50 #[.int .u32 (gv s p 16 : Int), .int .i64 (n : Int)] w (RcPost (ckD s p n) w) := by
  have h0 := gv_lt s p 1
  have h1 := gv_lt s (p + 1) 1
  simp only [Nat.pow_one] at h0 h1
  by_cases e0 : gv s p 1 = 0
  · exact rchunk_run s p n hn hn4 e0 w
  · by_cases e1 : gv s (p + 1) 1 = 0
    · have := rchunk_row 14 1 (.inl ⟨rfl, rfl⟩) s p n hn hn4 (by omega) (by omega) w
      unfold ckD
      rw [if_neg e0, if_pos e1]
      exact this
    · have := rchunk_row 7 2 (.inr ⟨rfl, rfl⟩) s p n hn hn4 (by omega) (by omega) w
      unfold ckD
      rw [if_neg e0, if_neg e1]
      exact this
/-- What a chunk came out as. -/
def RcRes (o : Option (List Int)) (w : World) (v : Value) (E : Int) : Prop :=
  (∃ (l : List Int) (a : Option Addr) (c : Nat), o = some l ∧ v = .slice a l.length c ∧ E = 0 ∧ SrcN w 1 (.slice a l.length c) l.length (IC l)) ∨ (o = none ∧ v = .slice none 0 0 ∧ E = 100)
theorem rchunk_at (s : ByteArray) (p n : Nat) (hn : 0 < n) (hn4 : n ≤ 4096) {y : Int} {o : Option (List Int)} (hy : (gv s p 16 : Int) = y) (ho : ckD s p n = o) (w : World) :
    Calls Tryz.prog 50 #[.int .u32 y, .int .i64 (n : Int)] w fun e w' => ∃ v E, e = .returned (.tuple #[v, .int .i64 E]) ∧ RcRes o w' v E ∧ Below w.heap.size w w' := by
  subst hy ho
  refine (rchunk_any s p n hn hn4 w).mono ?_
  rintro e w' ⟨(⟨l, a, c, h, rfl, h2⟩ | ⟨h, rfl⟩), hb⟩
  · exact ⟨_, _, rfl, .inl ⟨l, a, c, h, rfl, rfl, h2⟩, hb⟩
  · exact ⟨_, _, rfl, .inr ⟨h, rfl, rfl⟩, hb⟩
theorem res17 {W : World} {bx : Nat} {sd md fi ba co : Int} {a a' : Option Addr} {n c n' c' : Nat} (tmps : Array Value) (h2 : tmps.getD 2 undef = .pointer (some ⟨bx, 0, none⟩)) (hd : Td W bx (.int .u32 sd) (.int .u32 md) (.int .i64 fi) (.int .i64 ba) (.int .i64 co) (.slice a n c) (.slice a' n' c')) :
    (results Tryz.f25 tmps).run Tryz.prog W = .ok (.tuple #[tv sd md fi ba co (.slice a n c) (.slice a' n' c'), tmps.getD 3 undef]) W := by
  obtain ⟨c0, c1, c2, c3, c4, c5, c6⟩ := hd.c
  clear hd
  have h2' : tmps[2]?.getD undef = .pointer (some ⟨bx, 0, none⟩) := by rw [← h2]; simp
  unfold tv
  simp [results, Tryz.results25, h2', c0, c1, c2, c3, c4, c5, c6, go_sem]
/-- The end where something is wrong. -/
theorem Bw.rno {w wr : World} {q : Nat} {s : ByteArray} (h : Bw w wr q) {E : Int} (hE : decE s = E) (h0 : ¬ E = 0) (tmps : Array Value) (h2 : tmps.getD 2 undef = .pointer (some ⟨q, 0, none⟩)) (h3 : tmps.getD 3 undef = .int .i64 E) (d : List Deferred) (hd : d = []) :
    bodyPost Tryz.prog Tryz.f25 (DecPost s w) Exit.ret { tmps := tmps, defers := d } (put7 wr q (.int .u32 0) (.int .u32 0) (.int .i64 0) (.int .i64 0) (.int .i64 0) (.slice none 0 0) (.slice none 0 0)) := by
  subst hd
  refine bodyPost_ret (res17 _ h2 (put7_is h.r _ _ _ _ _ _ _)) rfl (dec_none (by rw [hE]; exact h0) (by rw [hE, h3]) ?_)
  exact (h.a.trans (put7_ap wr q _ _ _ _ _ _ _) (fun i hi e => by have := h.z; omega)).belowZ
/-- Where the loop over the chunks stands: the result, the reader, what is put together. -/
structure Fw (w wr : World) (q rb ob B : Nat) (s : ByteArray) (p : Nat) (v0 v1 v2 v3 v4 : Value) (va : Option Addr) (n vc : Nat) (st : List Int) : Prop where
  rd : Rd 136 wr rb s (some p)
  o : Td wr ob v0 v1 v2 v3 v4 (.slice va n vc) (.slice none 0 0)
  r : Td wr q (.int .u32 0) (.int .u32 0) (.int .i64 0) (.int .i64 0) (.int .i64 0) (.slice none 0 0) (.slice none 0 0)
  ow : wr.ownsRow B 3 1 (.slice va n vc) n (IC st)
  a : Apart (fun _ => False) w wr
  z : w.heap.size ≤ q ∧ q < rb ∧ rb < ob ∧ ob < B ∧ B ≤ wr.heap.size
section
variable {w wr w2 : World} {q rb ob B : Nat} {s : ByteArray} {p p2 : Nat} {v0 v1 v2 v3 v4 : Value} {va : Option Addr} {n vc : Nat} {st : List Int}
theorem Fw.move (h : Fw w wr q rb ob B s p v0 v1 v2 v3 v4 va n vc st) (ha : Apart (· = rb) wr w2) (hr : Rd 136 w2 rb s (some p2)) : Fw w w2 q rb ob B s p2 v0 v1 v2 v3 v4 va n vc st := by
  obtain ⟨z0, z1, z2, z3, z4⟩ := h.z
  exact ⟨hr, h.o.kept ha (by omega), h.r.kept ha (by omega), ownsRow_apart h.ow ha (by intro k hk e; omega), h.a.trans ha (fun i hi e => by omega), z0, z1, z2, z3, Nat.le_trans z4 ha.size⟩
theorem Fw.drewN (h : Fw w wr q rb ob B s p v0 v1 v2 v3 v4 va n vc st) (k : Nat) : Fw w (wr.drewN k) q rb ob B s p v0 v1 v2 v3 v4 va n vc st :=
  h.move ((Apart.refl _ _).drewN k) (drew_rd k h.rd)
theorem Fw.on (h : Fw w wr q rb ob B s p v0 v1 v2 v3 v4 va n vc st) (hb : Below wr.heap.size wr w2) : Fw w w2 q rb ob B s p v0 v1 v2 v3 v4 va n vc st :=
  h.move ((below_apart hb).mono (fun _ _ h => h.elim)) (h.rd.kept (below_apart hb) (fun h => h))
theorem Fw.bad (h : Fw w wr q rb ob B s p v0 v1 v2 v3 v4 va n vc st) : Bw w wr q := ⟨h.r, h.a, h.z.1⟩
theorem Fw.nb (h : Fw w wr q rb ob B s p v0 v1 v2 v3 v4 va n vc st) (hg : wr.grownBy w2 (Value.slice va n vc).ownBlock) : Td w2 ob v0 v1 v2 v3 v4 (.slice va n vc) (.slice none 0 0) :=
  h.o.kept (Apart.grown (X := fun j => (Value.slice va n vc).ownBlock = some j) (Apart.refl _ _) hg (fun _ _ e => e)) (fun e => by have := (h.ow.lt ob e).1; have := h.z; omega)
theorem Fw.app {va3 : Option Addr} {n3 vc3 : Nat} {l : List Int} (h : Fw w wr q rb ob B s p v0 v1 v2 v3 v4 va n vc st) (ho : w2.ownsRow B 3 1 (.slice va3 n3 vc3) n3 (IC st ++ IC l)) (hg : wr.grownBy w2 (Value.slice va n vc).ownBlock) :
    Fw w (w2.setCell ⟨ob, 5, none⟩ (.slice va3 n3 vc3)) q rb ob B s p v0 v1 v2 v3 v4 va3 n3 vc3 (st ++ l) := by
  obtain ⟨z0, z1, z2, z3, z4⟩ := h.z
  have A : Apart (fun j => (Value.slice va n vc).ownBlock = some j) wr w2 := Apart.grown (Apart.refl _ _) hg (fun _ _ e => e)
  have L : ∀ j, (Value.slice va n vc).ownBlock = some j → B ≤ j := fun j e => (h.ow.lt j e).1
  have S := ap_set w2 ob 5 (.slice va3 n3 vc3)
  rw [← IC_app] at ho
  refine ⟨(h.rd.kept A (fun e => by have := L rb e; omega)).kept S (by omega), (h.o.kept A (fun e => by have := L ob e; omega)).set5 _, (h.r.kept A (fun e => by have := L q e; omega)).kept S (by omega), ownsRow_apart ho S (by intro k hk e; omega), ?_, z0, z1, z2, z3, ?_⟩
  · exact (h.a.trans A (fun i hi e => by have := L i e; omega)).trans S (fun i hi e => by omega)
  · have := A.size; simp; omega
end
/-- Where the loop over the Deltas stands. -/
structure Gw (w wr : World) (q rb ob B D : Nat) (s : ByteArray) (p : Nat) (v0 v1 v2 v3 v4 : Value) (va : Option Addr) (n vc : Nat) (st : List Int) (da : Option Addr) (m dc : Nat) (dl : List Int) : Prop where
  rd : Rd 136 wr rb s (some p)
  o : Td wr ob v0 v1 v2 v3 v4 (.slice va n vc) (.slice da m dc)
  r : Td wr q (.int .u32 0) (.int .u32 0) (.int .i64 0) (.int .i64 0) (.int .i64 0) (.slice none 0 0) (.slice none 0 0)
  ow : wr.ownsRow B 3 1 (.slice va n vc) n (IC st)
  sl : ∀ k, (Value.slice va n vc).ownBlock = some k → k < D
  od : wr.ownsRow D 3 1 (.slice da m dc) m (IC dl)
  a : Apart (fun _ => False) w wr
  z : w.heap.size ≤ q ∧ q < rb ∧ rb < ob ∧ ob < B ∧ B ≤ D ∧ D ≤ wr.heap.size
theorem Fw.gw {w wr : World} {q rb ob B : Nat} {s : ByteArray} {p : Nat} {v0 v1 v2 v3 v4 : Value} {va : Option Addr} {n vc : Nat} {st : List Int} (h : Fw w wr q rb ob B s p v0 v1 v2 v3 v4 va n vc st) :
    Gw w wr q rb ob B wr.heap.size s p v0 v1 v2 v3 v4 va n vc st none 0 0 [] :=
  ⟨h.rd, h.o, h.r, h.ow, fun k e => (h.ow.lt k e).2, World.ownsRow_nil _ _ _ _, h.a, h.z.1, h.z.2.1, h.z.2.2.1, h.z.2.2.2.1, h.z.2.2.2.2, Nat.le_refl _⟩
section
variable {w wr w2 : World} {q rb ob B D : Nat} {s : ByteArray} {p p2 : Nat} {v0 v1 v2 v3 v4 : Value} {va : Option Addr} {n vc : Nat} {st : List Int} {da : Option Addr} {m dc : Nat} {dl : List Int}
theorem Gw.move (h : Gw w wr q rb ob B D s p v0 v1 v2 v3 v4 va n vc st da m dc dl) (ha : Apart (· = rb) wr w2) (hr : Rd 136 w2 rb s (some p2)) : Gw w w2 q rb ob B D s p2 v0 v1 v2 v3 v4 va n vc st da m dc dl := by
  obtain ⟨z0, z1, z2, z3, z4, z5⟩ := h.z
  exact ⟨hr, h.o.kept ha (by omega), h.r.kept ha (by omega), ownsRow_apart h.ow ha (by intro k hk e; omega), h.sl, ownsRow_apart h.od ha (by intro k hk e; omega), h.a.trans ha (fun i hi e => by omega), z0, z1, z2, z3, z4, Nat.le_trans z5 ha.size⟩
theorem Gw.drewN (h : Gw w wr q rb ob B D s p v0 v1 v2 v3 v4 va n vc st da m dc dl) (k : Nat) : Gw w (wr.drewN k) q rb ob B D s p v0 v1 v2 v3 v4 va n vc st da m dc dl :=
  h.move ((Apart.refl _ _).drewN k) (drew_rd k h.rd)
theorem Gw.drew (h : Gw w wr q rb ob B D s p v0 v1 v2 v3 v4 va n vc st da m dc dl) : Gw w wr.drew q rb ob B D s p v0 v1 v2 v3 v4 va n vc st da m dc dl :=
  h.move ((Apart.refl _ _).drew) (h.rd.kept ((Apart.refl (fun _ => False) _).drew) (fun h => h))
theorem Gw.alloc (h : Gw w wr q rb ob B D s p v0 v1 v2 v3 v4 va n vc st da m dc dl) (u : Obj) : Gw w (wr.alloc u) q rb ob B D s p v0 v1 v2 v3 v4 va n vc st da m dc dl :=
  h.move ((Apart.refl _ _).alloc u) (h.rd.kept ((Apart.refl (fun _ => False) _).alloc u) (fun h => h))
theorem Gw.bad (h : Gw w wr q rb ob B D s p v0 v1 v2 v3 v4 va n vc st da m dc dl) : Bw w wr q := ⟨h.r, h.a, h.z.1⟩
theorem Gw.ia (h : Gw w wr q rb ob B D s p v0 v1 v2 v3 v4 va n vc st da m dc dl) : st.length = n ∧ IA wr.heap.size wr va vc st := by
  obtain ⟨a, c, hv, hi⟩ := own_ia h.ow
  simp only [Value.slice.injEq] at hv
  obtain ⟨rfl, h1, rfl⟩ := hv
  exact ⟨h1.symm, hi⟩
theorem Gw.ja (h : Gw w wr q rb ob B D s p v0 v1 v2 v3 v4 va n vc st da m dc dl) : dl.length = m ∧ IA wr.heap.size wr da dc dl := by
  obtain ⟨a, c, hv, hi⟩ := own_ia h.od
  simp only [Value.slice.injEq] at hv
  obtain ⟨rfl, h1, rfl⟩ := hv
  exact ⟨h1.symm, hi⟩
theorem Gw.nb (h : Gw w wr q rb ob B D s p v0 v1 v2 v3 v4 va n vc st da m dc dl) (hg : wr.grownBy w2 (Value.slice da m dc).ownBlock) : Td w2 ob v0 v1 v2 v3 v4 (.slice va n vc) (.slice da m dc) :=
  h.o.kept (Apart.grown (X := fun j => (Value.slice da m dc).ownBlock = some j) (Apart.refl _ _) hg (fun _ _ e => e)) (fun e => by have := (h.od.lt ob e).1; have := h.z; omega)
theorem Gw.app {da3 : Option Addr} {m3 dc3 : Nat} {y : Int} (h : Gw w wr q rb ob B D s p v0 v1 v2 v3 v4 va n vc st da m dc dl) (ho : w2.ownsRow D 3 1 (.slice da3 m3 dc3) m3 (IC dl ++ [.int .i64 y])) (hg : wr.grownBy w2 (Value.slice da m dc).ownBlock) :
    Gw w (w2.setCell ⟨ob, 6, none⟩ (.slice da3 m3 dc3)) q rb ob B D s p v0 v1 v2 v3 v4 va n vc st da3 m3 dc3 (dl ++ [y]) := by
  obtain ⟨z0, z1, z2, z3, z4, z5⟩ := h.z
  have A : Apart (fun j => (Value.slice da m dc).ownBlock = some j) wr w2 := Apart.grown (Apart.refl _ _) hg (fun _ _ e => e)
  have L : ∀ j, (Value.slice da m dc).ownBlock = some j → D ≤ j := fun j e => (h.od.lt j e).1
  have S := ap_set w2 ob 6 (.slice da3 m3 dc3)
  have e : IC dl ++ [.int .i64 y] = IC (dl ++ [y]) := by rw [IC_app]; rfl
  rw [e] at ho
  refine ⟨(h.rd.kept A (fun e => by have := L rb e; omega)).kept S (by omega), (h.o.kept A (fun e => by have := L ob e; omega)).set6 _, (h.r.kept A (fun e => by have := L q e; omega)).kept S (by omega), ?_, h.sl, ownsRow_apart ho S (by intro k hk e; omega), ?_, z0, z1, z2, z3, z4, ?_⟩
  · exact ownsRow_apart (ownsRow_apart2 h.ow A (fun k hk e => by have := h.sl k hk; have := L k e; omega)) S (by intro k hk e; omega)
  · exact (h.a.trans A (fun i hi e => by have := L i e; omega)).trans S (fun i hi e => by omega)
  · have := A.size; simp; omega
end
theorem stD_mod (s : ByteArray) (f : Nat) : ∀ p n, p % 8 = 0 → (stD s f p n).p % 8 = 0 := by
  induction f with
  | zero => intro p n h; exact h
  | succ f ih =>
    intro p n h
    rw [stD]
    split
    · exact h
    · split
      · exact h
      · cases ckD s p n with
        | none => exact h
        | some l => exact ih (p + 16) (n - l.length) (by omega)
theorem dlD_mod (s : ByteArray) : ∀ (st : List Int) (p : Nat), p % 8 = 0 → (dlD s p st).p % 8 = 0 := by
  intro st
  induction st with
  | nil => intro p h; exact h
  | cons x st ih =>
    intro p h
    rw [dlD]
    split
    · exact ih p h
    · split
      · exact h
      · exact ih (p + dW x) (by unfold dW; split <;> omega)
theorem dlR_mod (s : ByteArray) : (dlR s).p % 8 = 0 := dlD_mod s _ _ (stD_mod s _ 128 _ (by omega))
theorem dlD_bd (s : ByteArray) : ∀ (st : List Int) (p : Nat), p ≤ 8 * s.size → (dlD s p st).p ≤ 8 * s.size := by
  intro st
  induction st with
  | nil => intro p h; exact h
  | cons x st ih =>
    intro p h
    rw [dlD]
    split
    · exact ih p h
    · split
      · exact h
      · exact ih (p + dW x) (by omega)
end Go.Proofs.YtdhbakknplnnkaaGreat.Tw
