/-
  What the functions that read a source's packets hand back.
-/
import Derived.Test.YtohembamfjbclaaCcA
import Derived.Test.YtohembamfjbclaaCcW
namespace Go.Proofs.Ytohembamfjbclaa
open Go.RowKit

theorem get_fit (b : Nat) (s : ByteArray) (hs : s.size ≤ 1000000) (p : Nat) (n : Int) (m : Nat) (e : n = m) (h1 : m ≤ 32) (h2 : p + m ≤ 8 * s.size) (w : World) (h : Rd 82 w b s (some p)) :
    Calls Try.prog 31 #[.pointer (some ⟨b, 0, none⟩), .int .i64 n] w fun e w' => e = .returned (.int .u32 (gv s p m)) ∧ Rd 82 w' b s (some (p + m)) ∧ Apart (· = b) w w' := by
  subst e
  exact get_ok b s hs p m h1 h2 w h
theorem holds_any (b : Nat) (s : ByteArray) (hs : s.size ≤ 1000000) (p : Nat) (n : Nat) (hn : n ≤ 1000000) (w : World) (h : Rd 82 w b s (some p)) :
    Calls Try.prog 47 #[.pointer (some ⟨b, 0, none⟩), .int .i64 (n : Int)] w fun e w' => e = .returned (.bool (decide (n + 4 ≤ (8 * s.size - p) / 8))) ∧ ∃ k, w' = w.drewN k := by
  have L := mkHid (left_any b s hs (some p) w h)
  have hp := h.2
  obtain ⟨g, HG⟩ : ∃ g : Int, Hid (gleft s (some p) = g) := ⟨_, rfl⟩
  have e1 : g = 8 * (s.size : Int) - p := by rw [← HG.out]; rfl
  rw [HG.out] at L
  have g0 : 0 ≤ g := by omega
  have g1 : g ≤ 8000000 := by omega
  have hn' : (n : Int) ≤ 1000000 := by omega
  have HE := mkHid (show decide (n + 4 ≤ (8 * s.size - p) / 8) = decide ((n : Int) + 4 ≤ g / 8) by rw [decide_eq_decide]; omega)
  rw [HE.out]
  clear e1 h hp
  go_enter Try.func47, Try.ntmps47
  go_wp2_with fail
  refine (L.out).mono ?_
  rintro e w1 ⟨rfl, k, rfl⟩
  go_wp2
  go_ret
  exact ⟨rfl, k, rfl⟩
theorem holds_at (b : Nat) (s : ByteArray) (hs : s.size ≤ 1000000) (p : Nat) (n : Int) (m : Nat) (e : n = m) (hn : m ≤ 1000000) (B : Bool) (hB : B = decide (m + 4 ≤ (8 * s.size - p) / 8)) (w : World) (h : Rd 82 w b s (some p)) :
    Calls Try.prog 47 #[.pointer (some ⟨b, 0, none⟩), .int .i64 n] w fun e w' => e = .returned (.bool B) ∧ ∃ k, w' = w.drewN k := by
  subst e hB
  exact holds_any b s hs p m hn w h
theorem cells3' {w : World} {b : Nat} {v0 v1 v2 : Value} {T : TypeId} (h : w.heap[b]? = some (.cells #[v0, v1, v2] T (0, 0))) :
    (w.cell? ⟨b, 0, none⟩ = some v0 ∧ w.cell? ⟨b, 1, none⟩ = some v1 ∧ w.cell? ⟨b, 2, none⟩ = some v2) ∧ w.frozen? ⟨b, 0, none⟩ = false ∧ w.frozen? ⟨b, 1, none⟩ = false ∧ w.frozen? ⟨b, 2, none⟩ = false := by
  obtain ⟨h0, h1, h2, h3, h4, h5⟩ := cells3 h
  exact ⟨⟨h0, h1, h2⟩, h3, h4, h5⟩
theorem res51 {W : World} {bx : Nat} {g : Bool} {e a : Int} (tmps : Array Value) (h2 : tmps.getD 2 undef = .pointer (some ⟨bx, 0, none⟩)) (hd : W.heap[bx]? = some (.cells #[.bool g, .int .i64 e, .int .i64 a] 47 (0, 0))) :
    (results Try.f51 tmps).run Try.prog W = .ok (.agg #[.bool g, .int .i64 e, .int .i64 a]) W := by
  obtain ⟨⟨c0, c1, c2⟩, _⟩ := cells3' hd
  clear hd
  have h2' : tmps[2]?.getD undef = .pointer (some ⟨bx, 0, none⟩) := by rw [← h2]; simp
  simp [results, Try.results51, h2', c0, c1, c2, go_sem]
set_option maxRecDepth 100000 in
set_option maxHeartbeats 400000 in
theorem getmetric_any (b : Nat) (s : ByteArray) (hs : s.size ≤ 1000000) (p : Nat) (hp : p + 16 ≤ 8 * s.size) (w : World) (h : Rd 82 w b s (some p)) :
    Calls Try.prog 51 #[.pointer (some ⟨b, 0, none⟩)] w fun e w' => e = .returned (mv (mtAt s p)) ∧ Rd 82 w' b s (some (p + 16)) ∧ Apart (· = b) w w' := by
  have hbl := h.heap
  have H := mkHid (h.kept ((Apart.refl (fun _ => False) _).alloc (.cells #[.bool false, .int .i64 0, .int .i64 0] 47)) (fun h => h))
  have N0 := mkHid (heap_alloc_new w (.cells #[.bool false, .int .i64 0, .int .i64 0] 47))
  have A0 := mkHid ((Apart.refl (· = b) w).alloc (.cells #[.bool false, .int .i64 0, .int .i64 0] 47))
  obtain ⟨q, HQ⟩ : ∃ q, Hid (w.heap.size = q) := ⟨_, rfl⟩
  obtain ⟨W, HW⟩ : ∃ W, Hid (w.alloc (.cells #[.bool false, .int .i64 0, .int .i64 0] 47) = W) := ⟨_, rfl⟩
  rw [HQ.out] at hbl
  rw [HQ.out, HW.out] at N0
  rw [HW.out] at H A0
  have hne : ¬ b = q := by omega
  have hne' : ¬ q = b := by omega
  have HS := mkHid hs
  have HP := mkHid hp
  obtain ⟨g0, G0⟩ : ∃ g0, Hid (gv s p 1 = g0) := ⟨_, rfl⟩
  obtain ⟨g1, G1⟩ : ∃ g1, Hid (gv s (p + 1) 2 = g1) := ⟨_, rfl⟩
  obtain ⟨g2, G2⟩ : ∃ g2, Hid (gv s (p + 3) 13 = g2) := ⟨_, rfl⟩
  have l0 : (g0 : Int) < 2 := by have := gv_lt s p 1; rw [G0.out] at this; omega
  have l1 : (g1 : Int) < 4 := by have := gv_lt s (p + 1) 2; rw [G1.out] at this; omega
  have l2 : (g2 : Int) < 8192 := by have := gv_lt s (p + 3) 13; rw [G2.out] at this; omega
  clear h hs hp
  go_enter Try.func51, Try.ntmps51
  go_wp2_with fail
  rw [HW.out, HQ.out]
  have K1 := get_fit b s HS.out p 1 1 rfl (by omega) (by have := HP.out; omega) _ H.out
  rw [G0.out] at K1
  refine K1.mono ?_
  clear K1
  rintro e w1 ⟨rfl, r1, a1⟩
  have D1 := mkHid (a1.heap N0.out hne')
  have R1 := mkHid (r1.kept (ap_set w1 q 0 (.bool ((g0 : Int) == 1))) hne)
  have A1 := mkHid ((A0.out.trans a1 (fun _ _ h => h)).trans (ap_set w1 q 0 (.bool ((g0 : Int) == 1))) (fun i hi e => by rw [HQ.out] at hi; omega))
  have E1 := mkHid (set0 D1.out (.bool ((g0 : Int) == 1)))
  obtain ⟨⟨c0, c1, c2⟩, f0, f1, f2⟩ := cells3' D1.out
  clear r1 a1 H N0 A0
  go_wp2_with fail
  have K1 := get_fit b s HS.out (p + 1) 2 2 rfl (by omega) (by have := HP.out; omega) _ R1.out
  rw [G1.out] at K1
  refine K1.mono ?_
  clear K1
  rintro e w2 ⟨rfl, r2, a2⟩
  have D2 := mkHid (a2.heap E1.out hne')
  have R2 := mkHid (r2.kept (ap_set w2 q 1 (.int .i64 (g1 : Int))) hne)
  have A2 := mkHid ((A1.out.trans a2 (fun _ _ h => h)).trans (ap_set w2 q 1 (.int .i64 (g1 : Int))) (fun i hi e => by rw [HQ.out] at hi; omega))
  have E2 := mkHid (set1 D2.out (.int .i64 (g1 : Int)))
  clear r2 a2 R1 A1 E1 D1 c0 c1 c2 f0 f1 f2
  obtain ⟨⟨c0, c1, c2⟩, f0, f1, f2⟩ := cells3' D2.out
  go_wp2_with fail
  have K1 := get_fit b s HS.out (p + 3) 13 13 rfl (by omega) (by have := HP.out; omega) _ R2.out
  rw [G2.out] at K1
  refine K1.mono ?_
  clear K1
  rintro e w3 ⟨rfl, r3, a3⟩
  have D3 := mkHid (a3.heap E2.out hne')
  have R3 := mkHid r3
  have A3 := mkHid (A2.out.trans a3 (fun _ _ h => h))
  clear r3 a3 R2 A2 E2 D2 c0 c1 c2 f0 f1 f2
  obtain ⟨⟨c0, c1, c2⟩, f0, f1, f2⟩ := cells3' D3.out
  go_wp2
  have dd := put3_is (set2 D3.out (.int .i64 (g2 : Int))) (.bool ((g0 : Int) == 1)) (.int .i64 (g1 : Int)) (.int .i64 (g2 : Int))
  have ap := (ap_set w3 q 2 (.int .i64 (g2 : Int))).trans (put3_ap _ q 0 (.bool ((g0 : Int) == 1)) (.int .i64 (g1 : Int)) (.int .i64 (g2 : Int))) (fun _ _ h => h)
  refine bodyPost_ret (res51 _ rfl dd) rfl ⟨?_, ?_, ?_⟩
  · have e : ((g0 : Int) == 1) = decide (g0 = 1) := by
      rw [Bool.eq_iff_iff]; simp; omega
    unfold mv mtAt
    rw [G0.out, G1.out, G2.out, e]
  · exact R3.out.kept ap hne
  · exact A3.out.trans ap (fun i hi e => by rw [HQ.out] at hi; omega)

/-- A row of n packets in block g, the first ones laid. -/
def MRow (w : World) (g n : Nat) (l : List Mt) : Prop := ∃ cs : Array Value, w.heap[g]? = some (.cells cs 47 (0, 0)) ∧ cs.size = n * 3 ∧ ∀ i m, l[i]? = some m → cs[i * 3]? = some (.bool m.g) ∧ cs[i * 3 + 1]? = some (.int .i64 m.e) ∧ cs[i * 3 + 2]? = some (.int .i64 m.a)
theorem MRow.kept {X : Nat → Prop} {w w' : World} {g n : Nat} {l : List Mt} (h : MRow w g n l) (ha : Apart X w w') (hx : ¬ X g) : MRow w' g n l := by
  obtain ⟨cs, h0, h1⟩ := h
  exact ⟨cs, ha.heap h0 hx, h1⟩
theorem MRow.at {w : World} {g n : Nat} {l : List Mt} (h : MRow w g n l) (k : Nat) (hk : k < n) : ∃ x0 x1 x2, (w.cell? ⟨g, k * 3, none⟩ = some x0 ∧ w.cell? ⟨g, k * 3 + 1, none⟩ = some x1 ∧ w.cell? ⟨g, k * 3 + 2, none⟩ = some x2) ∧ w.frozen? ⟨g, k * 3, none⟩ = false ∧ w.frozen? ⟨g, k * 3 + 1, none⟩ = false ∧ w.frozen? ⟨g, k * 3 + 2, none⟩ = false := by
  obtain ⟨cs, h0, h1, _⟩ := h
  refine ⟨cs[k * 3]'(by omega), cs[k * 3 + 1]'(by omega), cs[k * 3 + 2]'(by omega), ⟨?_, ?_, ?_⟩, frozen_of_row w g _ _ 47 h0, frozen_of_row w g _ _ 47 h0, frozen_of_row w g _ _ 47 h0⟩
  · rw [cell_of_row w g _ _ 47 _ h0, Array.getElem?_eq_getElem]
  · rw [cell_of_row w g _ _ 47 _ h0, Array.getElem?_eq_getElem]
  · rw [cell_of_row w g _ _ 47 _ h0, Array.getElem?_eq_getElem]
theorem MRow.next {w : World} {g n : Nat} {l : List Mt} (h : MRow w g n l) (hk : l.length < n) (m : Mt) : MRow (put3 w g (l.length * 3) (.bool m.g) (.int .i64 m.e) (.int .i64 m.a)) g n (l ++ [m]) := by
  obtain ⟨cs, h0, h1, h2⟩ := h
  have k0 := heap_setCell_same w g (l.length * 3) _ 47 (.bool m.g) h0
  have k1 := heap_setCell_same _ g (l.length * 3 + 1) _ 47 (.int .i64 m.e) k0
  have k2 := heap_setCell_same _ g (l.length * 3 + 2) _ 47 (.int .i64 m.a) k1
  refine ⟨_, k2, by simp [h1], fun i x hi => ?_⟩
  by_cases hl : i < l.length
  · rw [List.getElem?_append_left hl] at hi
    obtain ⟨q0, q1, q2⟩ := h2 i x hi
    simp only [Array.getElem?_setIfInBounds]
    refine ⟨?_, ?_, ?_⟩
    · rw [if_neg (by omega), if_neg (by omega), if_neg (by omega)]; exact q0
    · rw [if_neg (by omega), if_neg (by omega), if_neg (by omega)]; exact q1
    · rw [if_neg (by omega), if_neg (by omega), if_neg (by omega)]; exact q2
  · have hi2 : i < (l ++ [m]).length := (List.getElem?_eq_some_iff.1 hi).1
    obtain rfl : i = l.length := by simp at hi2; omega
    simp at hi
    subst hi
    simp only [Array.getElem?_setIfInBounds, Array.size_setIfInBounds]
    refine ⟨?_, ?_, ?_⟩
    · rw [if_neg (by omega), if_neg (by omega), if_pos trivial, if_pos (by omega)]
    · rw [if_neg (by omega), if_pos trivial, if_pos (by omega)]
    · rw [if_pos trivial, if_pos (by omega)]
theorem MRow.mx {w : World} {g n : Nat} {l : List Mt} {X : Nat → Prop} (h : MRow w g n l) (hn : n ≤ maxLen) (hl : l.length = n) (hX : ¬ X g) : MX X w (some ⟨g, 0, none⟩) l := by
  obtain ⟨cs, h0, h1, h2⟩ := h
  refine ⟨by omega, .inr ⟨g, 0, rfl, lt_of_heap h0, hX, fun i m hi => ?_⟩⟩
  obtain ⟨q0, q1, q2⟩ := h2 i m hi
  refine ⟨?_, ?_, ?_⟩
  · rw [Nat.zero_add, cell_of_row w g _ _ 47 _ h0, q0]
  · rw [Nat.zero_add, cell_of_row w g _ _ 47 _ h0, q1]
  · rw [Nat.zero_add, cell_of_row w g _ _ 47 _ h0, q2]
theorem mk_row (n : Nat) (hn : n ≤ 1000000) (w : World) :
    (Instr.makeSlice 42 (.int .i64 (n : Int)) (.int .i64 (n : Int))).run Try.prog w = .ok (.slice (some ⟨w.heap.size, 0, none⟩) n n) (w.alloc (.cells (madeCells #[.bool false, .int .i64 0, .int .i64 0] (n * 3)) 47)) := by
  obtain ⟨i0, hi, hz0, hz1, hz2⟩ := info_parts info47
  have := run_make (P := Try.prog) w 42 47 i0 (.agg #[.bool false, .int .i64 0, .int .i64 0]) Try.underlying42 hi hz0 .i64 .i64 n n (by omega) (by omega) (by rw [hz2]; omega) (by omega)
  rw [this, hz1]
  simp only [Int.toNat_natCast]
  rfl
def mE (s : ByteArray) (p n : Nat) : Int := if (msAt s p n).all mtOk = true then (if gv s (p + 16 * n) (16 * (n % 2)) = 0 then 0 else 91) else 70
/-- What getMetrics leaves behind. -/
def GmPost (b : Nat) (s : ByteArray) (p n : Nat) (w : World) (e : Ending) (w' : World) : Prop :=
  ((mE s p n = 0 ∧ e = .returned (.tuple #[.slice (some ⟨w.heap.size, 0, none⟩) n n, .int .i64 0]) ∧ Rd 82 w' b s (some (p + 8 * mb n)) ∧ MRow w' w.heap.size n (msAt s p n)) ∨ (¬ mE s p n = 0 ∧ e = .returned (.tuple #[.slice none 0 0, .int .i64 (mE s p n)]))) ∧ Apart (· = b) w w'
theorem mt_at {s : ByteArray} {p n k : Nat} (h : k < n) : (msAt s p n)[k]? = some (mtAt s (p + 16 * k)) := by
  rw [msAt, List.getElem?_map, List.getElem?_range h]; rfl
set_option maxRecDepth 100000 in
set_option maxHeartbeats 400000 in
theorem getmetrics_any (b : Nat) (s : ByteArray) (hs : s.size ≤ 1000000) (p n : Nat) (hn : n ≤ 4096) (hp : p + 8 * mb n ≤ 8 * s.size) (w : World) (h : Rd 82 w b s (some p)) :
    Calls Try.prog 50 #[.pointer (some ⟨b, 0, none⟩), .int .i64 (n : Int)] w (GmPost b s p n w) := by
  have hbl := h.heap
  have hmk := mk_row n (by omega)
  have H := mkHid (h.kept ((Apart.refl (fun _ => False) _).alloc (.cells (madeCells #[.bool false, .int .i64 0, .int .i64 0] (n * 3)) 47)) (fun h => h))
  have N0 := mkHid (show MRow (w.alloc (.cells (madeCells #[.bool false, .int .i64 0, .int .i64 0] (n * 3)) 47)) w.heap.size n [] from ⟨_, heap_alloc_new w _, size_madeCells _ _, fun i m hi => by simp at hi⟩)
  have A0 := mkHid ((Apart.refl (· = b) w).alloc (.cells (madeCells #[.bool false, .int .i64 0, .int .i64 0] (n * 3)) 47))
  obtain ⟨q, HQ⟩ : ∃ q, Hid (w.heap.size = q) := ⟨_, rfl⟩
  obtain ⟨W, HW⟩ : ∃ W, Hid (w.alloc (.cells (madeCells #[.bool false, .int .i64 0, .int .i64 0] (n * 3)) 47) = W) := ⟨_, rfl⟩
  rw [HQ.out] at hbl
  rw [HQ.out, HW.out] at N0
  rw [HW.out] at H A0
  have hne : ¬ b = q := by omega
  have hne' : ¬ q = b := by omega
  have HS := mkHid hs
  have HP := mkHid hp
  have HNN := mkHid hn
  have hn' : (n : Int) ≤ 4096 := by omega
  have MB := mkHid (mbytes_any n (by omega))
  obtain ⟨mbn, HMB⟩ : ∃ mbn : Nat, Hid (mb n = mbn) := ⟨_, rfl⟩
  have HME := mkHid (show (mbn : Int) = ((n : Int) + 1) / 2 * 4 by rw [← HMB.out]; unfold mb; omega)
  have hmb : (mbn : Int) ≤ 9000 := by have := HME.out; omega
  rw [HMB.out] at MB
  clear h hs hp hn
  go_enter Try.func50, Try.ntmps50
  go_wp2
  rw [HW.out, HQ.out]
  clear hmk
  go_loopw [12] (fun i wr => ∃ k : Nat, k ≤ n ∧ i = .int .i64 (k : Int) ∧ Rd 82 wr b s (some (p + 16 * k)) ∧ MRow wr q n (msAt s p k) ∧ Apart (· = b) w wr ∧ (msAt s p k).all mtOk = true) (fun i _ => n - (intOf i).toNat)
  case atStart => exact ⟨0, Nat.zero_le _, rfl, H.out, N0.out, A0.out, rfl⟩
  case round =>
    obtain ⟨k, hk, rfl, hr, hrow, ha, hall⟩ := hrel
    have HR := mkHid hr
    have HROW := mkHid hrow
    have HA := mkHid ha
    have HALL := mkHid hall
    clear hr hrow ha hall H N0 A0
    by_cases hlt : k < n
    · have GM := mkHid (getmetric_any b s HS.out (p + 16 * k) (by have := HP.out; unfold mb at this; omega) _ HR.out)
      have HMT := mkHid (mt_at (s := s) (p := p) hlt)
      have HSU := mkHid (msAt_succ s p k)
      obtain ⟨m, HM⟩ : ∃ m, Hid (mtAt s (p + 16 * k) = m) := ⟨_, rfl⟩
      rw [HM.out] at GM HMT HSU
      have IM := mkHid (ismetric_any m)
      have NX := mkHid (fun (w1 : World) (h : MRow w1 q n (msAt s p k)) => h.next (by rw [msAt_len]; exact hlt) m)
      obtain ⟨g, ec, ag⟩ := m
      unfold mv at GM IM
      simp only [msAt_len] at GM IM NX
      go_wp2_with fail
      refine (GM.out).mono ?_
      rintro e w1 ⟨rfl, r1, a1⟩
      have ROW1 := mkHid (HROW.out.kept a1 hne')
      obtain ⟨x0, x1, x2, ⟨c0, c1, c2⟩, f0, f1, f2⟩ := ROW1.out.at k hlt
      have R1 := mkHid r1
      have A1 := mkHid (HA.out.trans a1 (fun _ _ h => h))
      clear r1 a1 GM
      go_wp2_with fail
      rw [put3_eq]
      have ROW2 := mkHid (NX.out w1 ROW1.out)
      have R2 := mkHid (R1.out.kept (put3_ap w1 q (k * 3) (.bool g) (.int .i64 ec) (.int .i64 ag)) hne)
      have A2 := mkHid (A1.out.trans (put3_ap w1 q (k * 3) (.bool g) (.int .i64 ec) (.int .i64 ag)) (fun i hi e => by rw [HQ.out] at hi; omega))
      refine (IM.out _).mono ?_
      rintro e w2 ⟨rfl, a2⟩
      have ROW3 := mkHid (ROW2.out.kept a2 (fun h => h))
      have R3 := mkHid (R2.out.kept a2 (fun h => h))
      have A3 := mkHid (A2.out.trans a2 (fun _ _ h => h.elim))
      clear a2 c0 c1 c2 f0 f1 f2 R2 A2 ROW2 ROW1 R1 A1
      cases ho : mtOk ⟨g, ec, ag⟩ with
      | false =>
        have HF := mkHid (show mE s p n = 70 by unfold mE; rw [if_neg (by rw [all_not HMT.out ho]; decide)])
        go_wp2
        go_ret2
        exact ⟨.inr ⟨by rw [HF.out]; decide, by rw [HF.out]; rfl⟩, A3.out⟩
      | true =>
        have HT := mkHid (show (msAt s p (k + 1)).all mtOk = true by rw [HSU.out, List.all_append, HALL.out]; simp [ho])
        go_wp2
        go_roundw
        case rel =>
          refine ⟨k + 1, by omega, by go_num, ?_, ?_, A3.out, HT.out⟩
          · exact R3.out
          · rw [HSU.out]; exact ROW3.out
        case measure => simp [intOf]; omega
    · obtain rfl : k = n := by omega
      obtain ⟨d, HD⟩ : ∃ d : Int, Hid ((16 * (k % 2) : Nat) = d) := ⟨_, rfl⟩
      have hd : (mbn : Int) * 8 - k * 16 = d := by have := HD.out; have := HME.out; omega
      have GT := mkHid (get_fit b s HS.out (p + 16 * k) d (16 * (k % 2)) HD.out.symm (by omega) (by have := HP.out; unfold mb at this; omega) _ HR.out)
      have HGL := mkHid (gv_lt s (p + 16 * k) (16 * (k % 2)))
      have HE := mkHid (show mE s p k = if gv s (p + 16 * k) (16 * (k % 2)) = 0 then 0 else 91 by unfold mE; rw [if_pos HALL.out])
      obtain ⟨z, HZ⟩ : ∃ z, Hid (gv s (p + 16 * k) (16 * (k % 2)) = z) := ⟨_, rfl⟩
      rw [HZ.out] at GT HE
      go_wp2_with fail
      refine (MB.out _).mono ?_
      rintro e w2 ⟨rfl, rfl⟩
      go_wp2_with fail
      refine (GT.out).mono ?_
      rintro e w3 ⟨rfl, r3, a3⟩
      have R3 := mkHid r3
      have A3 := mkHid (HA.out.trans a3 (fun _ _ h => h))
      have ROW3 := mkHid (HROW.out.kept a3 hne')
      clear r3 a3
      by_cases hz : (z : Int) = 0
      · have HF := mkHid (show mE s p k = 0 by rw [HE.out, if_pos (by omega)])
        go_wp2
        go_ret2
        refine ⟨.inl ⟨HF.out, by rw [HQ.out]; rfl, ?_, by rw [HQ.out]; exact ROW3.out⟩, A3.out⟩
        have e : p + 8 * mb k = p + 16 * k + 16 * (k % 2) := by unfold mb; omega
        rw [e]; exact R3.out
      · have HF := mkHid (show mE s p k = 91 by rw [HE.out, if_neg (by omega)])
        go_wp2
        go_ret2
        exact ⟨.inr ⟨by rw [HF.out]; decide, by rw [HF.out]; rfl⟩, A3.out⟩
end Go.Proofs.Ytohembamfjbclaa
