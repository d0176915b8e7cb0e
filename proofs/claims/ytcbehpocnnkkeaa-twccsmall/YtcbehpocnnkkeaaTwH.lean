/-
  What Decode hands back.
-/
import Derived.Test.YtcbehpocnnkkeaaTwD
namespace Go.Proofs.Ytcbehpocnnkkeaa
open Go.RowKit

/-- A report in block bx. -/
def Td (w : World) (bx : Nat) (v0 v1 v2 v3 v4 v5 v6 : Value) : Prop := w.heap[bx]? = some (.cells #[v0, v1, v2, v3, v4, v5, v6] 25 (0, 0))
section
variable {w w' : World} {bx : Nat} {v0 v1 v2 v3 v4 v5 v6 : Value}
theorem Td.kept {X : Nat → Prop} (h : Td w bx v0 v1 v2 v3 v4 v5 v6) (ha : Apart X w w') (hx : ¬ X bx) : Td w' bx v0 v1 v2 v3 v4 v5 v6 := ha.heap h hx
theorem Td.c (h : Td w bx v0 v1 v2 v3 v4 v5 v6) : w.cell? ⟨bx, 0, none⟩ = some v0 ∧ w.cell? ⟨bx, 1, none⟩ = some v1 ∧ w.cell? ⟨bx, 2, none⟩ = some v2 ∧ w.cell? ⟨bx, 3, none⟩ = some v3 ∧ w.cell? ⟨bx, 4, none⟩ = some v4 ∧ w.cell? ⟨bx, 5, none⟩ = some v5 ∧ w.cell? ⟨bx, 6, none⟩ = some v6 := cells7 h
theorem Td.f (h : Td w bx v0 v1 v2 v3 v4 v5 v6) : w.frozen? ⟨bx, 0, none⟩ = false ∧ w.frozen? ⟨bx, 1, none⟩ = false ∧ w.frozen? ⟨bx, 2, none⟩ = false ∧ w.frozen? ⟨bx, 3, none⟩ = false ∧ w.frozen? ⟨bx, 4, none⟩ = false ∧ w.frozen? ⟨bx, 5, none⟩ = false ∧ w.frozen? ⟨bx, 6, none⟩ = false := frozen7 h
theorem Td.set0 (h : Td w bx v0 v1 v2 v3 v4 v5 v6) (x : Value) : Td (w.setCell ⟨bx, 0, none⟩ x) bx x v1 v2 v3 v4 v5 v6 := by unfold Td; rw [heap_setCell_same _ bx 0 _ 25 _ h]; rfl
theorem Td.set1 (h : Td w bx v0 v1 v2 v3 v4 v5 v6) (x : Value) : Td (w.setCell ⟨bx, 1, none⟩ x) bx v0 x v2 v3 v4 v5 v6 := by unfold Td; rw [heap_setCell_same _ bx 1 _ 25 _ h]; rfl
theorem Td.set2 (h : Td w bx v0 v1 v2 v3 v4 v5 v6) (x : Value) : Td (w.setCell ⟨bx, 2, none⟩ x) bx v0 v1 x v3 v4 v5 v6 := by unfold Td; rw [heap_setCell_same _ bx 2 _ 25 _ h]; rfl
theorem Td.set3 (h : Td w bx v0 v1 v2 v3 v4 v5 v6) (x : Value) : Td (w.setCell ⟨bx, 3, none⟩ x) bx v0 v1 v2 x v4 v5 v6 := by unfold Td; rw [heap_setCell_same _ bx 3 _ 25 _ h]; rfl
theorem Td.set4 (h : Td w bx v0 v1 v2 v3 v4 v5 v6) (x : Value) : Td (w.setCell ⟨bx, 4, none⟩ x) bx v0 v1 v2 v3 x v5 v6 := by unfold Td; rw [heap_setCell_same _ bx 4 _ 25 _ h]; rfl
theorem Td.set5 (h : Td w bx v0 v1 v2 v3 v4 v5 v6) (x : Value) : Td (w.setCell ⟨bx, 5, none⟩ x) bx v0 v1 v2 v3 v4 x v6 := by unfold Td; rw [heap_setCell_same _ bx 5 _ 25 _ h]; rfl
theorem Td.set6 (h : Td w bx v0 v1 v2 v3 v4 v5 v6) (x : Value) : Td (w.setCell ⟨bx, 6, none⟩ x) bx v0 v1 v2 v3 v4 v5 x := by unfold Td; rw [heap_setCell_same _ bx 6 _ 25 _ h]; rfl
end
def put7 (w : World) (bx : Nat) (v0 v1 v2 v3 v4 v5 v6 : Value) : World := ((((((w.setCell ⟨bx, 0, none⟩ v0).setCell ⟨bx, 1, none⟩ v1).setCell ⟨bx, 2, none⟩ v2).setCell ⟨bx, 3, none⟩ v3).setCell ⟨bx, 4, none⟩ v4).setCell ⟨bx, 5, none⟩ v5).setCell ⟨bx, 6, none⟩ v6
theorem put7_is {w : World} {bx : Nat} {u0 u1 u2 u3 u4 u5 u6 : Value} (h : Td w bx u0 u1 u2 u3 u4 u5 u6) (v0 v1 v2 v3 v4 v5 v6 : Value) : Td (put7 w bx v0 v1 v2 v3 v4 v5 v6) bx v0 v1 v2 v3 v4 v5 v6 :=
  ((((((h.set0 v0).set1 v1).set2 v2).set3 v3).set4 v4).set5 v5).set6 v6
theorem put7_ap (w : World) (bx : Nat) (v0 v1 v2 v3 v4 v5 v6 : Value) : Apart (· = bx) w (put7 w bx v0 v1 v2 v3 v4 v5 v6) :=
  ((((((ap_set w bx 0 v0).trans (ap_set _ bx 1 v1) (fun _ _ h => h)).trans (ap_set _ bx 2 v2) (fun _ _ h => h)).trans (ap_set _ bx 3 v3) (fun _ _ h => h)).trans (ap_set _ bx 4 v4) (fun _ _ h => h)).trans (ap_set _ bx 5 v5) (fun _ _ h => h)).trans (ap_set _ bx 6 v6) (fun _ _ h => h)
/-- A report as a value, of any lists. -/
def tv (sd md fi ba co : Int) (v5 v6 : Value) : Value := .agg #[.int .u32 sd, .int .u32 md, .int .i64 fi, .int .i64 ba, .int .i64 co, v5, v6]
theorem res35 {W : World} {bx : Nat} {sd md fi ba co : Int} {a a' : Option Addr} {n c n' c' : Nat} (tmps : Array Value) (h2 : tmps.getD 2 undef = .pointer (some ⟨bx, 0, none⟩)) (hd : Td W bx (.int .u32 sd) (.int .u32 md) (.int .i64 fi) (.int .i64 ba) (.int .i64 co) (.slice a n c) (.slice a' n' c')) :
    (results Try.f35 tmps).run Try.prog W = .ok (.tuple #[tv sd md fi ba co (.slice a n c) (.slice a' n' c'), tmps.getD 3 undef]) W := by
  obtain ⟨c0, c1, c2, c3, c4, c5, c6⟩ := hd.c
  clear hd
  have h2' : tmps[2]?.getD undef = .pointer (some ⟨bx, 0, none⟩) := by rw [← h2]; simp
  unfold tv
  simp [results, Try.results35, h2', c0, c1, c2, c3, c4, c5, c6, go_sem]
theorem res16 {W : World} {bx : Nat} {sd md fi ba co : Int} {a a' : Option Addr} {n c n' c' : Nat} (tmps : Array Value) (h2 : tmps.getD 2 undef = .pointer (some ⟨bx, 0, none⟩)) (hd : Td W bx (.int .u32 sd) (.int .u32 md) (.int .i64 fi) (.int .i64 ba) (.int .i64 co) (.slice a n c) (.slice a' n' c')) :
    (results Try.f16 tmps).run Try.prog W = .ok (.tuple #[tv sd md fi ba co (.slice a n c) (.slice a' n' c'), tmps.getD 3 undef]) W := by
  obtain ⟨c0, c1, c2, c3, c4, c5, c6⟩ := hd.c
  clear hd
  have h2' : tmps[2]?.getD undef = .pointer (some ⟨bx, 0, none⟩) := by rw [← h2]; simp
  unfold tv
  simp [results, Try.results16, h2', c0, c1, c2, c3, c4, c5, c6, go_sem]
/-- Where a function that makes a report in block q out of a reader in block b stands. -/
structure Hw (w wr : World) (b q : Nat) (s : ByteArray) (p : Nat) (v0 v1 v2 v3 v4 v5 v6 : Value) : Prop where
  rd : Rd 86 wr b s (some p)
  t : Td wr q v0 v1 v2 v3 v4 v5 v6
  a : Apart (· = b) w wr
  z : b < q ∧ w.heap.size ≤ q
section
variable {w wr w2 : World} {b q p p2 : Nat} {s : ByteArray} {v0 v1 v2 v3 v4 v5 v6 : Value}
theorem Hw.get (h : Hw w wr b q s p v0 v1 v2 v3 v4 v5 v6) (r : Rd 86 w2 b s (some p2)) (a : Apart (· = b) wr w2) : Hw w w2 b q s p2 v0 v1 v2 v3 v4 v5 v6 :=
  ⟨r, h.t.kept a (by have := h.z; omega), h.a.trans a (fun _ _ h => h), h.z⟩
theorem Hw.put (h : Hw w wr b q s p v0 v1 v2 v3 v4 v5 v6) {u0 u1 u2 u3 u4 u5 u6 : Value} (a : Apart (· = q) wr w2) (t : Td w2 q u0 u1 u2 u3 u4 u5 u6) : Hw w w2 b q s p u0 u1 u2 u3 u4 u5 u6 :=
  ⟨h.rd.kept a (by have := h.z; omega), t, h.a.trans a (fun i hi e => by have := h.z; omega), h.z⟩
end
set_option maxRecDepth 100000 in
set_option maxHeartbeats 1000000 in
theorem gethead_any (b : Nat) (s : ByteArray) (hs : s.size ≤ 1000000) (h16 : 16 ≤ s.size) (w : World) (h : Rd 86 w b s (some 0)) :
    Calls Try.prog 35 #[.pointer (some ⟨b, 0, none⟩)] w fun e w' => e = .returned (.tuple #[tv (gv s 0 32) (gv s 32 32) (gv s 64 16) (sg (gv s 96 24) 24) (gv s 120 8) (.slice none 0 0) (.slice none 0 0), .int .i64 (nS s : Int)]) ∧ Rd 86 w' b s (some 128) ∧ Apart (· = b) w w' := by
  have hbl := h.heap
  have E := (Apart.refl (fun _ => False) w).alloc (.cells #[.int .u32 0, .int .u32 0, .int .i64 0, .int .i64 0, .int .i64 0, .slice none 0 0, .slice none 0 0] 25)
  have H0 := mkHid (show Hw w (w.alloc (.cells #[.int .u32 0, .int .u32 0, .int .i64 0, .int .i64 0, .int .i64 0, .slice none 0 0, .slice none 0 0] 25)) b w.heap.size s 0 (.int .u32 0) (.int .u32 0) (.int .i64 0) (.int .i64 0) (.int .i64 0) (.slice none 0 0) (.slice none 0 0) from
    ⟨h.kept E (fun h => h), heap_alloc_new _ _, E.mono (fun _ _ h => h.elim), hbl, Nat.le_refl _⟩)
  have G0 := mkHid (fun w h => get_fit b s hs 0 32 32 rfl (by omega) (by omega) w h)
  have G1 := mkHid (fun w h => get_fit b s hs 32 32 32 rfl (by omega) (by omega) w h)
  have G2 := mkHid (fun w h => get_fit b s hs 64 16 16 rfl (by omega) (by omega) w h)
  have G3 := mkHid (fun w h => get_fit b s hs 80 16 16 rfl (by omega) (by omega) w h)
  have G4 := mkHid (fun w h => get_fit b s hs 96 24 24 rfl (by omega) (by omega) w h)
  have G5 := mkHid (fun w h => get_fit b s hs 120 8 8 rfl (by omega) (by omega) w h)
  have l2 := gv_lt s 64 16
  have l3 := gv_lt s 80 16
  have l4 := gv_lt s 96 24
  have l5 := gv_lt s 120 8
  unfold nS
  generalize gv s 0 32 = g0 at *
  generalize gv s 32 32 = g1 at *
  generalize gv s 64 16 = g2 at *
  generalize gv s 80 16 = g3 at *
  generalize gv s 96 24 = g4 at *
  generalize gv s 120 8 = g5 at *
  have SG := mkHid (signed24_any g4 (by simpa using l4))
  generalize sg g4 24 = g4s at *
  have m2 : (g2 : Int) < 65536 := by simp at l2; omega
  have m3 : (g3 : Int) < 65536 := by simp at l3; omega
  have m5 : (g5 : Int) < 256 := by simp at l5; omega
  obtain ⟨q, HQ⟩ : ∃ q, Hid (w.heap.size = q) := ⟨_, rfl⟩
  obtain ⟨W, HW⟩ : ∃ W, Hid (w.alloc (.cells #[.int .u32 0, .int .u32 0, .int .i64 0, .int .i64 0, .int .i64 0, .slice none 0 0, .slice none 0 0] 25) = W) := ⟨_, rfl⟩
  rw [HQ.out, HW.out] at H0
  clear h E l2 l3 l4 l5
  go_enter Try.func35, Try.ntmps35
  go_wp2_with fail
  rw [HW.out, HQ.out]
  refine (G0.out _ H0.out.rd).mono ?_
  rintro e w1 ⟨rfl, r1, a1⟩
  have D := mkHid (H0.out.get r1 a1)
  have D1 := mkHid (D.out.put (ap_set _ q 0 (.int .u32 (g0 : Int))) (D.out.t.set0 _))
  obtain ⟨c0, c1, c2, c3, c4, c5, c6⟩ := D.out.t.c
  obtain ⟨f0, f1, f2, f3, f4, f5, f6⟩ := D.out.t.f
  clear r1 a1 D H0 G0
  go_wp2_with fail
  refine (G1.out _ D1.out.rd).mono ?_
  rintro e w2 ⟨rfl, r2, a2⟩
  have D := mkHid (D1.out.get r2 a2)
  have D2 := mkHid (D.out.put (ap_set _ q 1 (.int .u32 (g1 : Int))) (D.out.t.set1 _))
  clear c0 c1 c2 c3 c4 c5 c6 f0 f1 f2 f3 f4 f5 f6
  obtain ⟨c0, c1, c2, c3, c4, c5, c6⟩ := D.out.t.c
  obtain ⟨f0, f1, f2, f3, f4, f5, f6⟩ := D.out.t.f
  clear r2 a2 D D1 G1
  go_wp2_with fail
  refine (G2.out _ D2.out.rd).mono ?_
  rintro e w3 ⟨rfl, r3, a3⟩
  have D := mkHid (D2.out.get r3 a3)
  have D3 := mkHid (D.out.put (ap_set _ q 2 (.int .i64 (g2 : Int))) (D.out.t.set2 _))
  clear c0 c1 c2 c3 c4 c5 c6 f0 f1 f2 f3 f4 f5 f6
  obtain ⟨c0, c1, c2, c3, c4, c5, c6⟩ := D.out.t.c
  obtain ⟨f0, f1, f2, f3, f4, f5, f6⟩ := D.out.t.f
  clear r3 a3 D D2 G2
  go_wp2_with fail
  refine (G3.out _ D3.out.rd).mono ?_
  rintro e w4 ⟨rfl, r4, a4⟩
  have D4 := mkHid (D3.out.get r4 a4)
  clear c0 c1 c2 c3 c4 c5 c6 f0 f1 f2 f3 f4 f5 f6
  obtain ⟨c0, c1, c2, c3, c4, c5, c6⟩ := D4.out.t.c
  obtain ⟨f0, f1, f2, f3, f4, f5, f6⟩ := D4.out.t.f
  clear r4 a4 D3 G3
  go_wp2_with fail
  refine (G4.out _ D4.out.rd).mono ?_
  rintro e w5 ⟨rfl, r5, a5⟩
  have D := mkHid (D4.out.get r5 a5)
  have D5 := mkHid (D.out.put (ap_set _ q 3 (.int .i64 g4s)) (D.out.t.set3 _))
  clear c0 c1 c2 c3 c4 c5 c6 f0 f1 f2 f3 f4 f5 f6
  obtain ⟨c0, c1, c2, c3, c4, c5, c6⟩ := D.out.t.c
  obtain ⟨f0, f1, f2, f3, f4, f5, f6⟩ := D.out.t.f
  clear r5 a5 D D4 G4
  go_wp2_with fail
  refine (SG.out _).mono ?_
  rintro e w6 ⟨rfl, rfl⟩
  go_wp2_with fail
  refine (G5.out _ D5.out.rd).mono ?_
  rintro e w7 ⟨rfl, r7, a7⟩
  have D := mkHid (D5.out.get r7 a7)
  have D7 := mkHid (D.out.put (ap_set _ q 4 (.int .i64 (g5 : Int))) (D.out.t.set4 _))
  clear c0 c1 c2 c3 c4 c5 c6 f0 f1 f2 f3 f4 f5 f6
  obtain ⟨c0, c1, c2, c3, c4, c5, c6⟩ := D.out.t.c
  obtain ⟨f0, f1, f2, f3, f4, f5, f6⟩ := D.out.t.f
  clear r7 a7 D D5 G5
  go_wp2
  have dd := put7_is D7.out.t (.int .u32 (g0 : Int)) (.int .u32 (g1 : Int)) (.int .i64 (g2 : Int)) (.int .i64 g4s) (.int .i64 (g5 : Int)) (.slice none 0 0) (.slice none 0 0)
  have ap := put7_ap (w7.setCell ⟨q, 4, none⟩ (.int .i64 (g5 : Int))) q (.int .u32 (g0 : Int)) (.int .u32 (g1 : Int)) (.int .i64 (g2 : Int)) (.int .i64 g4s) (.int .i64 (g5 : Int)) (.slice none 0 0) (.slice none 0 0)
  have D8 := D7.out.put ap dd
  exact bodyPost_ret (res35 _ rfl dd) rfl ⟨rfl, D8.rd, D8.a⟩
/-- What Decode leaves behind. -/
def DecPost (s : ByteArray) (w : World) (e : Ending) (w' : World) : Prop :=
  (∃ a c a' c', e = .returned (.tuple #[rv (decR s) a (decR s).st.length c a' (decR s).dl.length c', .int .i64 (decE s)]) ∧ IA w'.heap.size w' a c (decR s).st ∧ IA w'.heap.size w' a' c' (decR s).dl) ∧ Below w.heap.size w w'
theorem decR_none {s : ByteArray} (h : ¬ decE s = 0) : decR s = Rp.none := by unfold decR; rw [if_neg h]
theorem dec_none {s : ByteArray} {w W : World} {e : Ending} (h : ¬ decE s = 0) (he : e = .returned (.tuple #[tv 0 0 0 0 0 (.slice none 0 0) (.slice none 0 0), .int .i64 (decE s)])) (hb : Below w.heap.size w W) : DecPost s w e W := by
  have h1 := decR_none h
  refine ⟨⟨none, 0, none, 0, ?_, by rw [h1]; exact IA.nil _ _ _ _ (Nat.zero_le _), by rw [h1]; exact IA.nil _ _ _ _ (Nat.zero_le _)⟩, hb⟩
  rw [he, h1]; rfl
theorem decE_len {s : ByteArray} (h : ¬ lenE s.size = 0) : decE s = lenE s.size := by unfold decE; rw [if_pos h]
theorem decE_many {s : ByteArray} (h0 : lenE s.size = 0) (h : ¬ manyE (nS s) = 0) : decE s = manyE (nS s) := by unfold decE; rw [if_neg (fun f => f h0), if_pos h]
theorem decE_st {s : ByteArray} (h0 : lenE s.size = 0) (h1 : manyE (nS s) = 0) (h : ¬ (stR s).e = 0) : decE s = (stR s).e := by unfold decE; rw [if_neg (fun f => f h0), if_neg (fun f => f h1), if_pos h]
theorem decE_dl {s : ByteArray} (h0 : lenE s.size = 0) (h1 : manyE (nS s) = 0) (h2 : (stR s).e = 0) (h : ¬ (dlR s).e = 0) : decE s = (dlR s).e := by unfold decE; rw [if_neg (fun f => f h0), if_neg (fun f => f h1), if_neg (fun f => f h2), if_pos h]
theorem decE_pad {s : ByteArray} (h0 : lenE s.size = 0) (h1 : manyE (nS s) = 0) (h2 : (stR s).e = 0) (h3 : (dlR s).e = 0) : decE s = padE s (dlR s).p := by unfold decE; rw [if_neg (fun f => f h0), if_neg (fun f => f h1), if_neg (fun f => f h2), if_neg (fun f => f h3)]
theorem lenE_zero {n : Nat} (h : lenE n = 0) : n ≤ 65536 ∧ n % 4 = 0 ∧ 16 ≤ n := by
  unfold lenE at h
  split at h
  · cases h
  · split at h
    · cases h
    · split at h
      · cases h
      · omega
theorem manyE_zero {n : Nat} (h : manyE n = 0) : 0 < n ∧ n ≤ 4096 := by
  unfold manyE at h
  split at h
  · cases h
  · split at h
    · cases h
    · omega
/-- Where Decode stands: its result in q, the reader in b, the report in tb. -/
structure Sw (w wr : World) (q b tb : Nat) (s : ByteArray) (p : Nat) (v0 v1 v2 v3 v4 v5 v6 : Value) : Prop where
  rd : Rd 86 wr b s (some p)
  r : Td wr q (.int .u32 0) (.int .u32 0) (.int .i64 0) (.int .i64 0) (.int .i64 0) (.slice none 0 0) (.slice none 0 0)
  t : Td wr tb v0 v1 v2 v3 v4 v5 v6
  a : Apart (fun _ => False) w wr
  z : w.heap.size ≤ q ∧ q < b ∧ b < tb
section
variable {w wr w2 : World} {q b tb p p2 : Nat} {s : ByteArray} {v0 v1 v2 v3 v4 v5 v6 : Value}
theorem Sw.get (h : Sw w wr q b tb s p v0 v1 v2 v3 v4 v5 v6) (a : Apart (· = b) wr w2) (r : Rd 86 w2 b s (some p2)) : Sw w w2 q b tb s p2 v0 v1 v2 v3 v4 v5 v6 :=
  ⟨r, h.r.kept a (by have := h.z; omega), h.t.kept a (by have := h.z; omega), h.a.trans a (fun i hi e => by have := h.z; omega), h.z⟩
theorem Sw.put (h : Sw w wr q b tb s p v0 v1 v2 v3 v4 v5 v6) {u0 u1 u2 u3 u4 u5 u6 : Value} (a : Apart (· = tb) wr w2) (t : Td w2 tb u0 u1 u2 u3 u4 u5 u6) : Sw w w2 q b tb s p u0 u1 u2 u3 u4 u5 u6 :=
  ⟨h.rd.kept a (by have := h.z; omega), h.r.kept a (by have := h.z; omega), t, h.a.trans a (fun i hi e => by have := h.z; omega), h.z⟩
end
/-- What is left of Sw where the reader isn't wanted any more. -/
structure Bw (w wr : World) (q : Nat) : Prop where
  r : Td wr q (.int .u32 0) (.int .u32 0) (.int .i64 0) (.int .i64 0) (.int .i64 0) (.slice none 0 0) (.slice none 0 0)
  a : Apart (fun _ => False) w wr
  z : w.heap.size ≤ q
theorem Sw.bad {w wr w2 : World} {q b tb p : Nat} {s : ByteArray} {v0 v1 v2 v3 v4 v5 v6 : Value} (h : Sw w wr q b tb s p v0 v1 v2 v3 v4 v5 v6) (a : Apart (· = b) wr w2) (v : Value) (i : Nat) : Bw w (w2.setCell ⟨tb, i, none⟩ v) q :=
  ⟨(h.r.kept a (by have := h.z; omega)).kept (ap_set w2 tb i v) (by have := h.z; omega), (h.a.trans a (fun i hi e => by have := h.z; omega)).trans (ap_set w2 tb i v) (fun i hi e => by have := h.z; omega), h.z.1⟩
theorem Sw.badd {w wr w2 : World} {q b tb p : Nat} {s : ByteArray} {v0 v1 v2 v3 v4 v5 v6 : Value} (h : Sw w wr q b tb s p v0 v1 v2 v3 v4 v5 v6) (a : Apart (· = b) wr w2) : Bw w w2 q :=
  ⟨h.r.kept a (by have := h.z; omega), h.a.trans a (fun i hi e => by have := h.z; omega), h.z.1⟩
/-- The end where something is wrong. -/
theorem Bw.no {w wr : World} {q : Nat} {s : ByteArray} (h : Bw w wr q) {E : Int} (hE : decE s = E) (h0 : ¬ E = 0) (tmps : Array Value) (h2 : tmps.getD 2 undef = .pointer (some ⟨q, 0, none⟩)) (h3 : tmps.getD 3 undef = .int .i64 E) (d : List Deferred) (hd : d = []) :
    bodyPost Try.prog Try.f16 (DecPost s w) Exit.ret { tmps := tmps, defers := d } (put7 wr q (.int .u32 0) (.int .u32 0) (.int .i64 0) (.int .i64 0) (.int .i64 0) (.slice none 0 0) (.slice none 0 0)) := by
  subst hd
  refine bodyPost_ret (res16 _ h2 (put7_is h.r _ _ _ _ _ _ _)) rfl (dec_none (by rw [hE]; exact h0) (by rw [hE, h3]) ?_)
  exact (h.a.trans (put7_ap wr q _ _ _ _ _ _ _) (fun i hi e => by have := h.z; omega)).belowZ
end Go.Proofs.Ytcbehpocnnkkeaa
