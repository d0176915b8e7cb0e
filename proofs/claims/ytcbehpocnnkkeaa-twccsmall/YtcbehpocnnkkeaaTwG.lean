/-
  What the functions that read a chunk hand back.
-/
import Derived.Test.YtcbehpocnnkkeaaTwR
import Derived.Test.YtcbehpocnnkkeaaTwP
namespace Go.Proofs.Ytcbehpocnnkkeaa
open Go.RowKit

theorem below_apart {w w' : World} (h : Below w.heap.size w w') : Apart (fun _ => False) w w' := ⟨h.os, h.tape, h.output, h.size, fun k hk _ => h.block k hk⟩
/-- What a function that reads a chunk leaves behind. -/
def CkPost (b : Nat) (s : ByteArray) (o : Option (List Int)) (p' : Nat) (w : World) (e : Ending) (w' : World) : Prop :=
  ((∃ (l : List Int) (a : Option Addr) (c : Nat), o = some l ∧ e = .returned (.tuple #[.slice a l.length c, .int .i64 0]) ∧ SrcN w' 1 (.slice a l.length c) l.length (IC l) ∧ Rd 86 w' b s (some p')) ∨ (o = none ∧ e = .returned (.tuple #[.slice none 0 0, .int .i64 100]))) ∧ Apart (· = b) w w'
theorem addr0 (g j : Nat) : (⟨g, 0, none⟩ : Addr).add j = ⟨g, j, none⟩ := by simp [Addr.add]; intro h; exact h.symm
theorem RW.src {w : World} {g n c : Nat} {l : List Value} {xs : List Value} (h : RW w g l) (hl : xs.length = n) (hx : ∀ (j : Nat) (u : Value), xs[j]? = some u → l[j]? = some u) : SrcN w 1 (.slice (some ⟨g, 0, none⟩) n c) n xs :=
  .inr ⟨⟨g, 0, none⟩, c, rfl, by rw [hl, Nat.mul_one], fun j u hj => by rw [addr0]; exact h.at j u (hx j u hj)⟩
theorem RW.kept {w w' : World} {g : Nat} {l : List Value} {X : Nat → Prop} (h : RW w g l) (ha : Apart X w w') (hx : ¬ X g) : RW w' g l := ha.heap h hx
theorem RW.lt {w : World} {g : Nat} {l : List Value} (h : RW w g l) : g < w.heap.size := lt_of_heap h
theorem RW.set {w : World} {g : Nat} {l : List Value} (h : RW w g l) (i : Nat) (v : Value) : RW (w.setCell ⟨g, i, none⟩ v) g (l.set i v) := by
  have := heap_setCell_same w g i _ 3 v h
  simpa [RW] using this
theorem RW.cell {w : World} {g : Nat} {l : List Value} (h : RW w g l) (i : Nat) (hi : i < l.length) : ∃ v, w.cell? ⟨g, i, none⟩ = some v ∧ w.frozen? ⟨g, i, none⟩ = false :=
  ⟨l[i], h.at i _ (List.getElem?_eq_getElem hi), frozen_of_row w g i _ 3 h⟩
set_option maxRecDepth 100000 in
set_option maxHeartbeats 400000 in
theorem getrun_any (b : Nat) (s : ByteArray) (hs : s.size ≤ 1000000) (p n : Nat) (hn : 0 < n) (hn4 : n ≤ 4096) (hp : p + 15 ≤ 8 * s.size) (w : World) (h : Rd 86 w b s (some p)) :
    Calls Try.prog 63 #[.pointer (some ⟨b, 0, none⟩), .int .i64 (n : Int)] w (CkPost b s (runD s p n) (p + 15) w) := by
  obtain ⟨o, HO⟩ : ∃ o, Hid (runD s p n = o) := ⟨_, rfl⟩
  rw [HO.out]
  obtain ⟨y, HY⟩ : ∃ y, Hid (gv s p 2 = y) := ⟨_, rfl⟩
  obtain ⟨t, HT⟩ : ∃ t, Hid (gv s (p + 2) 13 = t) := ⟨_, rfl⟩
  have hy : (y : Int) ≤ 3 := by have := gv_lt s p 2; rw [HY.out] at this; omega
  have ht : (t : Int) ≤ 8191 := by have := gv_lt s (p + 2) 13; rw [HT.out] at this; omega
  have G1 := mkHid (get_fit b s hs p 2 2 rfl (by omega) (by omega) w h)
  have G2 := mkHid (fun w h => get_fit b s hs (p + 2) 13 13 rfl (by omega) (by omega) w h)
  rw [HY.out] at G1
  rw [HT.out] at G2
  have HN := mkHid (show y = 3 ∨ t = 0 → o = none by intro h; rw [← HO.out]; unfold runD; rw [HY.out, HT.out, if_pos h])
  have HSO := mkHid (show ¬ (y = 3 ∨ t = 0) → o = some (List.replicate (min t n) (y : Int)) by intro h; rw [← HO.out]; unfold runD; rw [HY.out, HT.out, if_neg h])
  have HBL := mkHid h.heap
  clear h
  go_enter Try.func63, Try.ntmps63
  go_wp2_with fail
  refine (G1.out).mono ?_
  rintro e w1 ⟨rfl, r1, a1⟩
  have R1 := mkHid r1
  have A1 := mkHid a1
  clear r1 a1
  go_wp2_with fail
  refine (G2.out _ R1.out).mono ?_
  rintro e w2 ⟨rfl, r2, a2⟩
  have R2 := mkHid (show Rd 86 w2 b s (some (p + 15)) from r2)
  have A2 := mkHid (A1.out.trans a2 (fun _ _ h => h))
  clear r2 a2 R1 A1 G1 G2
  by_cases h3 : y = 3
  · subst h3
    go_wp2
    go_ret2
    exact ⟨.inr ⟨HN.out (.inl trivial), rfl⟩, A2.out⟩
  · have hy2 : (y : Int) ≤ 2 := by omega
    by_cases h0 : t = 0
    · subst h0
      go_wp2
      go_ret2
      exact ⟨.inr ⟨HN.out (.inr trivial), rfl⟩, A2.out⟩
    · have HSS := mkHid (HSO.out (by omega))
      have ht0 : (1 : Int) ≤ t := by omega
      have ht9 : ((t : Int) == 0) = false := by simp; omega
      have hy9 : decide ((2 : Int) < y) = false := by simp; omega
      obtain ⟨m, HM⟩ : ∃ m, Hid (min t n = m) := ⟨_, rfl⟩
      rw [HM.out] at HSS
      have hm : min (t : Int) (n : Int) = m := by have := HM.out; omega
      have hm1 : 1 ≤ m := by have := HM.out; omega
      have hm2 : m ≤ 8191 := by have := HM.out; omega
      by_cases htn : t ≤ n
      · obtain rfl : m = t := by omega
        have c0 := cell_of_row _ w2.heap.size 0 _ 3 _ (heap_alloc_new w2 (.cells #[.int .i64 (y : Int)] 3))
        have hrp := repeat_any (y : Int) w2.heap.size m hm1 hm2 (w2.alloc (.cells #[.int .i64 (y : Int)] 3)) (by simp) c0
        rw [World.size_alloc] at hrp
        have RP := mkHid hrp
        clear hrp
        have HB2 := mkHid (Nat.lt_of_lt_of_le HBL.out A2.out.size)
        clear c0 h0 h3
        go_wp2_with fail
        refine (RP.out).mono ?_
        rintro e w3 ⟨rfl, g3, b3⟩
        have G3 := mkHid g3
        have B3 := mkHid ((Apart.refl (fun _ => False) w2).alloc (.cells #[.int .i64 (y : Int)] 3) |>.zz (below_apart (by rw [World.size_alloc]; exact b3)))
        clear g3 b3 RP
        go_wp2
        go_ret2
        refine ⟨.inl ⟨List.replicate m (y : Int), some ⟨w2.heap.size + 1, 0, none⟩, m, HSS.out, by rw [List.length_replicate]; rfl, ?_, ?_⟩, A2.out.trans B3.out (fun _ _ h => h.elim)⟩
        · rw [List.length_replicate]; exact G3.out.src (by simp) (fun _ _ h => h)
        · exact R2.out.kept B3.out (fun h => h)
      · obtain rfl : m = n := by omega
        have c0 := cell_of_row _ w2.heap.size 0 _ 3 _ (heap_alloc_new w2 (.cells #[.int .i64 (y : Int)] 3))
        have hrp := repeat_any (y : Int) w2.heap.size m hm1 hm2 (w2.alloc (.cells #[.int .i64 (y : Int)] 3)) (by simp) c0
        rw [World.size_alloc] at hrp
        have RP := mkHid hrp
        clear hrp
        have HB2 := mkHid (Nat.lt_of_lt_of_le HBL.out A2.out.size)
        clear c0 h0 h3
        go_wp2_with fail
        refine (RP.out).mono ?_
        rintro e w3 ⟨rfl, g3, b3⟩
        have G3 := mkHid g3
        have B3 := mkHid ((Apart.refl (fun _ => False) w2).alloc (.cells #[.int .i64 (y : Int)] 3) |>.zz (below_apart (by rw [World.size_alloc]; exact b3)))
        clear g3 b3 RP
        go_wp2
        go_ret2
        refine ⟨.inl ⟨List.replicate m (y : Int), some ⟨w2.heap.size + 1, 0, none⟩, m, HSS.out, by rw [List.length_replicate]; rfl, ?_, ?_⟩, A2.out.trans B3.out (fun _ _ h => h.elim)⟩
        · rw [List.length_replicate]; exact G3.out.src (by simp) (fun _ _ h => h)
        · exact R2.out.kept B3.out (fun h => h)
theorem rowOk_iff {s : ByteArray} {p k S n : Nat} : rowOk (rowV s p k S) n = true ↔ ∀ j, j < S → gv s (p + k * j) k ≤ 2 ∧ (n ≤ j → gv s (p + k * j) k = 0) := by
  unfold rowOk
  simp only [Bool.and_eq_true, List.all_eq_true, decide_eq_true_eq]
  constructor
  · rintro ⟨h1, h2⟩ j hj
    have e : (rowV s p k S)[j]? = some (gv s (p + k * j) k : Int) := by simp [rowV, hj]
    refine ⟨by have := h1 _ (List.mem_of_getElem? e); omega, fun hn => ?_⟩
    have e2 : ((rowV s p k S).drop n)[j - n]? = some (gv s (p + k * j) k : Int) := by rw [List.getElem?_drop, show n + (j - n) = j by omega, e]
    have := h2 _ (List.mem_of_getElem? e2)
    omega
  · intro h
    constructor
    · intro x hx
      obtain ⟨j, hj, e⟩ := List.mem_iff_getElem.1 hx
      rw [rowV_len] at hj
      have := (h j hj).1
      simp [rowV] at e
      omega
    · intro x hx
      obtain ⟨j, hj, e⟩ := List.mem_iff_getElem.1 hx
      simp at hj
      have := (h (n + j) (by omega)).2 (by omega)
      simp [rowV] at e
      omega
theorem rowV_at {s : ByteArray} {p k S j : Nat} (hj : j < S) : (rowV s p k S)[j]? = some (gv s (p + k * j) k : Int) := by simp [rowV, hj]
set_option maxRecDepth 100000 in
set_option maxHeartbeats 1000000 in
theorem getrow_any (S k : Nat) (hS : S = 14 ∧ k = 1 ∨ S = 7 ∧ k = 2) (b : Nat) (s : ByteArray) (hs : s.size ≤ 1000000) (p n : Nat) (hn : 0 < n) (hn4 : n ≤ 4096) (hp : p + 14 ≤ 8 * s.size) (w : World) (h : Rd 86 w b s (some p)) :
    Calls Try.prog 64 #[.pointer (some ⟨b, 0, none⟩), .int .i64 (S : Int), .int .i64 (n : Int)] w (CkPost b s (rowD s p k S n) (p + 14) w) := by
  have H := mkHid h
  have HS := mkHid hS
  have hk : (14 : Int) / S = k := by rcases hS with ⟨rfl, rfl⟩ | ⟨rfl, rfl⟩ <;> rfl
  have hs0 : (0 : Int) < S := by omega
  have hs1 : (S : Int) ≤ 14 := by omega
  have HK2 := mkHid (show k ≤ 2 by omega)
  have hkS : S * k = 14 := by rcases hS with ⟨rfl, rfl⟩ | ⟨rfl, rfl⟩ <;> rfl
  have HKS := mkHid hkS
  obtain ⟨o, HO⟩ : ∃ o, Hid (rowD s p k S n = o) := ⟨_, rfl⟩
  rw [HO.out]
  have HNO := mkHid (show ∀ j, j < S → (2 < gv s (p + k * j) k ∨ n ≤ j ∧ gv s (p + k * j) k ≠ 0) → o = none by
    intro j hj hb
    rw [← HO.out]; unfold rowD
    rw [if_neg]
    intro hr
    have := rowOk_iff.1 hr j hj
    omega)
  have HYS := mkHid (show (∀ j, j < S → gv s (p + k * j) k ≤ 2 ∧ (n ≤ j → gv s (p + k * j) k = 0)) → o = some ((rowV s p k S).take n) by
    intro h
    rw [← HO.out]; unfold rowD
    rw [if_pos (rowOk_iff.2 h)])
  have hmk := run_make_row' (P := Try.prog) 23 3 (.int .i64 0) 8 Try.underlying23 info3 rfl .i64 .i64 S (by omega) (by omega)
  obtain ⟨z, HZ⟩ : ∃ z : List Value, Hid (madeCells #[.int .i64 0] S = z.toArray) := ⟨(madeCells #[.int .i64 0] S).toList, by simp [Hid]⟩
  have HZL := mkHid (show z.length = S by have := congrArg Array.size HZ.out; simp [size_madeCells] at this; exact this.symm)
  rw [HZ.out] at hmk
  have G0 := mkHid (show RW (w.alloc (.cells z.toArray 3)) w.heap.size z from heap_alloc_new _ _)
  have A0 := mkHid ((Apart.refl (fun _ => False) w).alloc (.cells z.toArray 3))
  have R0 := mkHid (h.kept A0.out (fun h => h))
  have hbg := h.heap
  obtain ⟨g, HG⟩ : ∃ g, Hid (w.heap.size = g) := ⟨_, rfl⟩
  obtain ⟨W, HW⟩ : ∃ W, Hid (w.alloc (.cells z.toArray 3) = W) := ⟨_, rfl⟩
  rw [HW.out] at R0 A0
  rw [HW.out, HG.out] at G0
  rw [HG.out] at hbg
  have HBG := mkHid (show ¬ g = b by omega)
  have n0 : (0 : Int) < n := by omega
  have n1 : (n : Int) ≤ 4096 := by omega
  clear h hS hkS hbg
  go_enter Try.func64, Try.ntmps64
  go_wp2
  rw [HW.out, HG.out]
  go_loopw [14] (fun i wr => ∃ (j : Nat) (L : List Value), j ≤ S ∧ i = .int .i64 (j : Int) ∧ L.length = S ∧ (∀ q, q < j → L[q]? = some (.int .i64 (gv s (p + k * q) k : Int)) ∧ gv s (p + k * q) k ≤ 2 ∧ (n ≤ q → gv s (p + k * q) k = 0)) ∧ RW wr g L ∧ Rd 86 wr b s (some (p + k * j)) ∧ Apart (· = b) w wr) (fun i _ => S - (intOf i).toNat)
  case atStart => exact ⟨0, z, Nat.zero_le _, rfl, HZL.out, fun q hq => by omega, G0.out, R0.out, A0.out.mono (fun _ _ h => h.elim)⟩
  case round =>
    obtain ⟨j, L, hj, rfl, hL, hall, hG, hR, hA⟩ := hrel
    have HL := mkHid hL
    have HALL := mkHid hall
    have HGR := mkHid hG
    have HR := mkHid hR
    have HA := mkHid hA
    clear hL hall hG hR hA hmk G0 R0 A0
    by_cases hlt : j < S
    · have HKJ := mkHid (show k * j + k ≤ 14 by rcases HS.out with ⟨rfl, rfl⟩ | ⟨rfl, rfl⟩ <;> omega)
      obtain ⟨y, HY⟩ : ∃ y, Hid (gv s (p + k * j) k = y) := ⟨_, rfl⟩
      have hy : (y : Int) ≤ 3 := by
        have := gv_lt s (p + k * j) k; rw [HY.out] at this
        rcases HS.out with ⟨rfl, rfl⟩ | ⟨rfl, rfl⟩ <;> simp at this <;> omega
      have G1 := mkHid (get_fit b s hs (p + k * j) k k rfl (by have := HK2.out; omega) (by have := HKJ.out; omega) wr HR.out)
      rw [HY.out] at G1
      have j0 : (0 : Int) ≤ j := by omega
      have j1 : (j : Int) < S := by omega
      go_wp2_with fail
      refine (G1.out).mono ?_
      rintro e w1 ⟨rfl, r1, a1⟩
      have R1 := mkHid (show Rd 86 w1 b s (some (p + k * (j + 1))) by rw [Nat.mul_add, Nat.mul_one, ← Nat.add_assoc]; exact r1)
      have A1 := mkHid (HA.out.trans a1 (fun _ _ h => h))
      have GR1 := mkHid (HGR.out.kept a1 HBG.out)
      obtain ⟨cv, hc, hf⟩ := GR1.out.cell j (by rw [HL.out]; exact hlt)
      have S1 := mkHid (GR1.out.set j (.int .i64 (y : Int)))
      have RS := mkHid (R1.out.kept (ap_set w1 g j (.int .i64 (y : Int))) (fun e => HBG.out e.symm))
      have AS := mkHid (A1.out.trans (ap_set w1 g j (.int .i64 (y : Int))) (fun i hi e => by have := HG.out; omega))
      clear r1 a1 HGR HR HA G1
      by_cases h2 : (2 : Int) < y
      · have HF := mkHid (HNO.out j hlt (.inl (by rw [HY.out]; omega)))
        go_wp2
        go_ret2
        exact ⟨.inr ⟨HF.out, rfl⟩, AS.out⟩
      · have h2' : (y : Int) ≤ 2 := by omega
        clear h2
        have HN1 := mkHid (show (n ≤ j → y = 0) → ∀ q, q < j + 1 → (L.set j (.int .i64 (y : Int)))[q]? = some (.int .i64 (gv s (p + k * q) k : Int)) ∧ gv s (p + k * q) k ≤ 2 ∧ (n ≤ q → gv s (p + k * q) k = 0) by
          intro hz q hq
          rw [List.getElem?_set]
          by_cases e : j = q
          · subst e
            rw [if_pos rfl, if_pos (by rw [HL.out]; exact hlt), HY.out]
            exact ⟨rfl, by omega, hz⟩
          · rw [if_neg e]
            exact HALL.out q (by omega))
        by_cases h4 : (n : Int) ≤ j
        · by_cases h5 : (y : Int) = 0
          · obtain rfl : y = 0 := by omega
            clear h5
            go_wp2
            go_roundw
            case rel => exact ⟨j + 1, _, by omega, by go_num, by rw [List.length_set, HL.out], HN1.out (fun _ => by trivial), S1.out, RS.out, AS.out⟩
            case measure => simp [intOf]; omega
          · have HF := mkHid (HNO.out j hlt (.inr ⟨by omega, by rw [HY.out]; omega⟩))
            have h6 : ((y : Int) != 0) = true := by simp; omega
            have h7 : decide ((2 : Int) < y) = false := by simp; omega
            go_wp2
            go_ret2
            exact ⟨.inr ⟨HF.out, rfl⟩, AS.out⟩
        · have h4' : (j : Int) < n := by omega
          clear h4
          go_wp2
          go_roundw
          case rel => exact ⟨j + 1, _, by omega, by go_num, by rw [List.length_set, HL.out], HN1.out (fun h => by omega), S1.out, RS.out, AS.out⟩
          case measure => simp [intOf]; omega
    · obtain rfl : j = S := by omega
      have HOS := mkHid (HYS.out (fun q hq => (HALL.out q hq).2))
      obtain ⟨m, HM⟩ : ∃ m, Hid (min j n = m) := ⟨_, rfl⟩
      have hm : min (j : Int) (n : Int) = m := by have := HM.out; omega
      have hm1 : (m : Int) ≤ j := by have := HM.out; omega
      have HTL := mkHid (show ((rowV s p k j).take n).length = m by rw [List.length_take, rowV_len, ← HM.out]; omega)
      by_cases hjn : j ≤ n
      · obtain rfl : j = m := by omega
        go_wp2
        go_ret2
        refine ⟨.inl ⟨(rowV s p k j).take n, some ⟨g, 0, none⟩, j, HOS.out, by rw [HTL.out]; rfl, ?_, ?_⟩, HA.out⟩
        · rw [HTL.out]
          refine HGR.out.src (by rw [IC_len, HTL.out]) (fun q u hq => ?_)
          have hqm : q < j := by have := (List.getElem?_eq_some_iff.1 hq).1; rw [IC_len, HTL.out] at this; exact this
          have hqj : q < j := by omega
          rw [(HALL.out q hqj).1, ← hq]
          unfold IC
          rw [List.getElem?_map, List.getElem?_take, if_pos (by have := HM.out; omega), rowV_at hqj]
          rfl
        · rw [show p + 14 = p + k * j by have := HKS.out; rw [Nat.mul_comm] at this; omega]
          exact HR.out
      · obtain rfl : n = m := by omega
        go_wp2
        go_ret2
        refine ⟨.inl ⟨(rowV s p k j).take n, some ⟨g, 0, none⟩, j, HOS.out, by rw [HTL.out]; rfl, ?_, ?_⟩, HA.out⟩
        · rw [HTL.out]
          refine HGR.out.src (by rw [IC_len, HTL.out]) (fun q u hq => ?_)
          have hqm : q < n := by have := (List.getElem?_eq_some_iff.1 hq).1; rw [IC_len, HTL.out] at this; exact this
          have hqj : q < j := by omega
          rw [(HALL.out q hqj).1, ← hq]
          unfold IC
          rw [List.getElem?_map, List.getElem?_take, if_pos (by have := HM.out; omega), rowV_at hqj]
          rfl
        · rw [show p + 14 = p + k * j by have := HKS.out; rw [Nat.mul_comm] at this; omega]
          exact HR.out
end Go.Proofs.Ytcbehpocnnkkeaa
