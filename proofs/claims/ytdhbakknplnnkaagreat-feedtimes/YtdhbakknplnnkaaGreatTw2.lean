/-
  What slices.Repeat and the function that reads a run hand back.
-/
import Derived.Test.YtdhbakknplnnkaaGreatTw1
import Derived.Laws.CopyOwn
import Derived.Deep.OwnRows
import Derived.Deep.RegionHeld3
namespace Go.Proofs.YtdhbakknplnnkaaGreat.Tw
open Go.RowKit

/-- Numbers as cells. -/
def IC (l : List Int) : List Value := l.map fun x => .int .i64 x
@[simp] theorem IC_len (l : List Int) : (IC l).length = l.length := by simp [IC]
theorem IC_app (l r : List Int) : IC (l ++ r) = IC l ++ IC r := by simp [IC]
theorem IC_one {l : List Int} : ∀ u ∈ IC l, u.oneCell' = true := by
  intro u hu
  obtain ⟨x, _, rfl⟩ := List.mem_map.1 hu
  rfl
theorem info3 : (Tryz.prog.info? 3).map (fun i => (i.zero, i.size, i.bytes)) = some (some (.int .i64 0), 1, 8) := by kernel_rfl
theorem size3 : (Tryz.prog.info? 3).map (·.size) = some 1 := by kernel_rfl
theorem u64_and32 (n : Int) : bits .and .u64 n 4294967295 = n % 4294967296 := by
  have hm : (BitVec.ofInt 64 4294967295).toNat = 2 ^ 32 - 1 := by decide
  have key : (BitVec.ofInt 64 n &&& BitVec.ofInt 64 4294967295).toNat = (n % ((2 ^ 64 : Nat) : Int)).toNat % 2 ^ 32 := by
    rw [BitVec.toNat_and, BitVec.toNat_ofInt, hm, Nat.and_two_pow_sub_one_eq_mod]
  show IntKind.u64.wrap ((BitVec.ofInt 64 n &&& BitVec.ofInt 64 4294967295).toNat : Nat) = n % 4294967296
  rw [key, IntKind.wrap_u64]
  omega
set_option maxHeartbeats 400000 in
theorem mul64_one (y : Int) (h0 : 0 ≤ y) (h1 : y ≤ 65535) (w : World) :
    Calls Tryz.prog 107 #[.int .u64 1, .int .u64 y] w fun e w' => e = .returned (.tuple #[.int .u64 0, .int .u64 y]) ∧ w' = w := by
  have a0 : bits .and .u64 (1 : Int) 4294967295 = 1 := by rw [u64_and32]; rfl
  have a1 : bits .and .u64 y 4294967295 = y := by rw [u64_and32]; omega
  have a2 : bits .and .u64 (0 : Int) 4294967295 = 0 := by rw [u64_and32]; rfl
  have d0 : y / 4294967296 = 0 := by omega
  have d1 : IntKind.u64.wrap y = y := by rw [IntKind.wrap_u64]; omega
  go_enter Tryz.func107, Tryz.ntmps107
  go_wp2
  go_ret2
  exact ⟨rfl, rfl⟩
theorem mul_one' (y : Int) (h0 : 0 ≤ y) (h1 : y ≤ 65535) (w : World) :
    Calls Tryz.prog 104 #[.int .u64 1, .int .u64 y] w fun e w' => e = .returned (.tuple #[.int .u64 0, .int .u64 y]) ∧ w' = w := by
  have M := mkHid (mul64_one y h0 h1)
  go_enter Tryz.func104, Tryz.ntmps104
  go_wp2_with fail
  refine (M.out _).mono ?_
  rintro e w1 ⟨rfl, rfl⟩
  go_wp2
  go_ret2
  exact ⟨rfl, rfl⟩
theorem splice_head (v : Value) (cur : List Value) : splice cur 0 [v] = List.replicate 1 v ++ cur.drop 1 := by
  simp [splice]
theorem splice_more (v : Value) (R : List Value) (k m : Nat) : splice (List.replicate k v ++ R) k (List.replicate m v) = List.replicate (k + m) v ++ R.drop m := by
  unfold splice
  rw [List.take_append_of_le_length (by simp), List.take_of_length_le (by simp), List.length_replicate, List.drop_append, List.drop_of_length_le (by simp), ← List.append_assoc, List.replicate_append_replicate]
  simp
/-- A row that is known whole. -/
def RW (w : World) (g : Nat) (l : List Value) : Prop := w.heap[g]? = some (.cells l.toArray 3 (0, 0))
theorem RW.at {w : World} {g : Nat} {l : List Value} (h : RW w g l) (j : Nat) (u : Value) (hj : l[j]? = some u) : w.cell? ⟨g, j, none⟩ = some u := by
  rw [cell_of_row w g j l.toArray 3 _ h]
  simpa using hj
set_option maxRecDepth 100000 in
set_option maxHeartbeats 1000000 in
theorem repeat_any (s : Int) (bs c : Nat) (h0 : 1 ≤ c) (h1 : c ≤ 8191) (w : World) (hb : bs < w.heap.size) (hc : w.cell? ⟨bs, 0, none⟩ = some (.int .i64 s)) :
    Calls Tryz.prog 97 #[.slice (some ⟨bs, 0, none⟩) 1 1, .int .i64 (c : Int)] w fun e w' => e = .returned (.slice (some ⟨w.heap.size, 0, none⟩) c c) ∧ RW w' w.heap.size (IC (List.replicate c s)) ∧ Below w.heap.size w w' := by
  have MU := mkHid (mul_one' (c : Int) (by omega) (by omega))
  have hmk := run_make_row' (P := Tryz.prog) 24 3 (.int .i64 0) 8 Tryz.underlying24 info3 rfl .i64 .i64 c (by omega) (by omega)
  obtain ⟨z, HZ⟩ : ∃ z : List Value, Hid (madeCells #[.int .i64 0] c = z.toArray) := ⟨(madeCells #[.int .i64 0] c).toList, by simp [Hid]⟩
  have HZL := mkHid (show z.length = c by have := congrArg Array.size HZ.out; simp [size_madeCells] at this; exact this.symm)
  rw [HZ.out] at hmk
  have G0 := mkHid (show RW (w.alloc (.cells z.toArray 3)) w.heap.size z from heap_alloc_new _ _)
  have B0 := mkHid ((Below.refl w.heap.size w).alloc (Nat.le_refl _) (.cells z.toArray 3))
  have C0 := mkHid (B0.out.cell (p := ⟨bs, 0, none⟩) hb)
  rw [hc] at C0
  obtain ⟨g, HG⟩ : ∃ g, Hid (w.heap.size = g) := ⟨_, rfl⟩
  rw [HG.out] at G0 B0 hb ⊢
  have c0 : (0 : Int) ≤ c := by omega
  have c1 : (c : Int) ≤ 8191 := by omega
  have c2 : (1 : Int) ≤ c := by omega
  have c3 : Nat.min 1 c = 1 := Nat.min_eq_left (by omega)
  go_enter Tryz.func97, Tryz.ntmps97
  go_wp2_with fail
  refine (MU.out _).mono ?_
  rintro e w1 ⟨rfl, rfl⟩
  go_wp2_with (refine wpList_copy_splice rfl (.tmp 31) (.tmp 32) 24 24 rfl 3 Tryz.underlying24 size3 (some ⟨w1.heap.size, 0, none⟩) (some ⟨bs, 0, none⟩) c c 1 1 rfl rfl g 0 z 3 G0.out [.int .i64 s] c3.symm (fun _ => ⟨by rw [HG.out], _, rfl, by intro j v hj; cases j with | zero => (simp at hj; subst hj; exact C0.out) | succ j => simp at hj⟩) (by rw [HZL.out]; simp; omega) (by intro v hv; simp at hv; subst hv; rfl) g w1 B0.out (Nat.le_refl _) ?_; intro w2 hg2 hb2; rw [splice_head] at hg2; have G2 := mkHid (show RW w2 g (List.replicate 1 (.int .i64 s) ++ z.drop 1) from hg2.out); have B2 := mkHid hb2; clear hg2 hb2)
  clear hc C0 B0 G0 hmk
  rw [HG.out]
  go_loopw [8] (fun i wr => ∃ (k : Nat) (R : List Value), 1 ≤ k ∧ k ≤ c ∧ i = .int .i64 (k : Int) ∧ R.length = c - k ∧ RW wr g (List.replicate k (.int .i64 s) ++ R) ∧ Below g w1 wr) (fun i _ => c - (intOf i).toNat)
  case atStart => exact ⟨1, z.drop 1, Nat.le_refl _, h0, rfl, by rw [List.length_drop, HZL.out], G2.out, B2.out⟩
  case round =>
    obtain ⟨k, R, k0, k1, rfl, hR, hG, hB⟩ := hrel
    have HR := mkHid hR
    have HGR := mkHid hG
    have HBR := mkHid hB
    clear hR hG hB G2 B2
    by_cases hlt : k < c
    · have k0' : (1 : Int) ≤ k := by omega
      have k1' : (k : Int) < c := by omega
      have kn : ¬ c = k := by omega
      obtain ⟨m, HM⟩ : ∃ m, Hid (min k (c - k) = m) := ⟨_, rfl⟩
      have HMB := mkHid (show 1 ≤ m ∧ m ≤ k ∧ k + m ≤ c by have := HM.out; omega)
      obtain ⟨cur, HCU⟩ : ∃ cur : List Value, Hid (List.replicate k (Value.int .i64 s) ++ R = cur) := ⟨_, rfl⟩
      obtain ⟨rs, HRS⟩ : ∃ rs : List Value, Hid (List.replicate m (Value.int .i64 s) = rs) := ⟨_, rfl⟩
      have HRL := mkHid (show rs.length = m by rw [← HRS.out, List.length_replicate])
      have HCL := mkHid (show cur.length = c by rw [← HCU.out]; have := HR.out; simp; omega)
      have HCC := mkHid (show ∀ j v, rs[j]? = some v → wr.drew.cell? ((⟨g, 0, none⟩ : Addr).add j) = some v by
        intro j v hj
        rw [← HRS.out] at hj
        have hjm := (List.getElem?_eq_some_iff.1 hj).1
        simp at hjm
        rw [List.getElem?_replicate, if_pos hjm] at hj
        obtain rfl := Option.some.inj hj
        have e : (⟨g, 0, none⟩ : Addr).add j = ⟨g, j, none⟩ := by simp [Addr.add, Nat.zero_add]; intro h; exact h.symm
        rw [e]
        exact HGR.out.at j _ (by rw [List.getElem?_append_left (by simp; have := HMB.out; omega), List.getElem?_replicate, if_pos (by have := HMB.out; omega)]))
      have HG1 := mkHid (show wr.drew.heap[g]? = some (.cells cur.toArray 3 (0, 0)) from by rw [← HCU.out]; exact HGR.out)
      have HON := mkHid (show ∀ v ∈ rs, v.oneCell' = true by intro v hv; rw [← HRS.out] at hv; obtain rfl := (List.mem_replicate.1 hv).2; rfl)
      have HBD := mkHid (show Below g w1 wr.drew from HBR.out.drew)
      go_wp2_with fail
      go_region_law (refine step_copy_splice (by rfl) (.tmp 41) (.tmp 44) 24 24 (by rfl) 3 Tryz.underlying24 size3 (some ⟨g, k, none⟩) (some ⟨g, 0, none⟩) (c - k) (c - k) k c (by kernel_rfl) (by kernel_rfl) g k cur 3 HG1.out rs (HRL.out.trans HM.out.symm) (fun _ => ⟨rfl, _, rfl, HCC.out⟩) (by rw [HRL.out, HCL.out]; have := HMB.out; omega) HON.out g w1 HBD.out (Nat.le_refl _) ?_; intro w4 hg4 hb4)
      have hrl : rs.length = m := HRL.out
      have hmb : (k : Int) + m ≤ c := by have := HMB.out; omega
      have hm0 : (1 : Int) ≤ m := by have := HMB.out; omega
      have G4 := mkHid (show RW w4 g (List.replicate (k + m) (.int .i64 s) ++ R.drop m) from by
        have := hg4.out
        rw [← HCU.out, ← HRS.out, splice_more] at this
        exact this)
      have B4 := mkHid hb4
      have hw : IntKind.i64.wrap ((k : Int) + (m : Int)) = (k : Int) + (m : Int) := by rw [IntKind.wrap_i64]; omega
      clear hg4 hb4
      go_simp
      go_roundw
      case rel => exact ⟨_, _, _, _, _, _, _, _, _, _, _, _, _, _, ⟨k + m, R.drop m, by omega, by omega, by go_num, by rw [List.length_drop, HR.out]; omega, G4.out, B4.out⟩, rfl⟩
      case measure => simp [intOf]; omega
    · obtain rfl : k = c := by omega
      obtain rfl := List.eq_nil_of_length_eq_zero (show R.length = 0 by rw [HR.out]; omega)
      go_wp2
      go_ret
      refine ⟨rfl, ?_, HBR.out⟩
      have := HGR.out
      rw [List.append_nil] at this
      unfold IC
      rw [List.map_replicate]
      exact this
end Go.Proofs.YtdhbakknplnnkaaGreat.Tw
namespace Go.Proofs.YtdhbakknplnnkaaGreat.Tw
open Go.RowKit

theorem below_apart {w w' : World} (h : Below w.heap.size w w') : Apart (fun _ => False) w w' := ⟨h.os, h.tape, h.output, h.size, fun k hk _ => h.block k hk⟩
/-- What a function that reads a chunk leaves behind. -/
def CkPost (b : Nat) (s : ByteArray) (o : Option (List Int)) (p' : Nat) (w : World) (e : Ending) (w' : World) : Prop :=
  ((∃ (l : List Int) (a : Option Addr) (c : Nat), o = some l ∧ e = .returned (.tuple #[.slice a l.length c, .int .i64 0]) ∧ SrcN w' 1 (.slice a l.length c) l.length (IC l) ∧ Rd 143 w' b s (some p')) ∨ (o = none ∧ e = .returned (.tuple #[.slice none 0 0, .int .i64 100]))) ∧ Apart (· = b) w w'
theorem addr0 (g j : Nat) : (⟨g, 0, none⟩ : Addr).add j = ⟨g, j, none⟩ := by simp [Addr.add]; intro h; exact h.symm
theorem RW.src {w : World} {g n c : Nat} {l : List Value} {xs : List Value} (h : RW w g l) (hl : xs.length = n) (hx : ∀ (j : Nat) (u : Value), xs[j]? = some u → l[j]? = some u) : SrcN w 1 (.slice (some ⟨g, 0, none⟩) n c) n xs :=
  .inr ⟨⟨g, 0, none⟩, c, rfl, by rw [hl, Nat.mul_one], fun j u hj => by rw [addr0]; exact h.at j u (hx j u hj)⟩
theorem RW.kept {w w' : World} {g : Nat} {l : List Value} {X : Nat → Prop} (h : RW w g l) (ha : Apart X w w') (hx : ¬ X g) : RW w' g l := ha.heap h hx
theorem RW.lt {w : World} {g : Nat} {l : List Value} (h : RW w g l) : g < w.heap.size := lt_of_heap h
theorem RW.set {w : World} {g : Nat} {l : List Value} (h : RW w g l) (i : Nat) (v : Value) : RW (w.setCell ⟨g, i, none⟩ v) g (l.set i v) := by
  have := heap_setCell_same w g i _ 3 v h
  simpa [RW] using this
theorem RW.cell {w : World} {g : Nat} {l : List Value} (h : RW w g l) (i : Nat) (hi : i < l.length) : ∃ v, w.cell? ⟨g, i, none⟩ = some v ∧ w.frozen? ⟨g, i, none⟩ = false :=
  ⟨l[i], h.at i _ (List.getElem?_eq_getElem hi), frozen_of_row w g i _ 3 h⟩
set_option maxRecDepth 100000 in
set_option maxHeartbeats 400000 in
theorem getrun_any (b : Nat) (s : ByteArray) (hs : s.size ≤ 1000000) (p n : Nat) (hn : 0 < n) (hn4 : n ≤ 4096) (hp : p + 15 ≤ 8 * s.size) (w : World) (h : Rd 143 w b s (some p)) :
    Calls Tryz.prog 91 #[.pointer (some ⟨b, 0, none⟩), .int .i64 (n : Int)] w (CkPost b s (runD s p n) (p + 15) w) := by
  obtain ⟨o, HO⟩ : ∃ o, Hid (runD s p n = o) := ⟨_, rfl⟩
  rw [HO.out]
  obtain ⟨y, HY⟩ : ∃ y, Hid (gv s p 2 = y) := ⟨_, rfl⟩
  obtain ⟨t, HT⟩ : ∃ t, Hid (gv s (p + 2) 13 = t) := ⟨_, rfl⟩
  have hy : (y : Int) ≤ 3 := by have := gv_lt s p 2; rw [HY.out] at this; omega
  have ht : (t : Int) ≤ 8191 := by have := gv_lt s (p + 2) 13; rw [HT.out] at this; omega
  have G1 := mkHid (get_fit b s hs p 2 2 rfl (by omega) (by omega) w h)
  have G2 := mkHid (fun w h => get_fit b s hs (p + 2) 13 13 rfl (by omega) (by omega) w h)
  rw [HY.out] at G1
  rw [HT.out] at G2
  have HN := mkHid (show y = 3 ∨ t = 0 → o = none by intro h; rw [← HO.out]; unfold runD; rw [HY.out, HT.out, if_pos h])
  have HSO := mkHid (show ¬ (y = 3 ∨ t = 0) → o = some (List.replicate (min t n) (y : Int)) by intro h; rw [← HO.out]; unfold runD; rw [HY.out, HT.out, if_neg h])
  have HBL := mkHid h.heap
  clear h
  go_enter Tryz.func91, Tryz.ntmps91
  go_wp2_with fail
  refine (G1.out).mono ?_
  rintro e w1 ⟨rfl, r1, a1⟩
  have R1 := mkHid r1
  have A1 := mkHid a1
  clear r1 a1
  go_wp2_with fail
  refine (G2.out _ R1.out).mono ?_
  rintro e w2 ⟨rfl, r2, a2⟩
  have R2 := mkHid (show Rd 143 w2 b s (some (p + 15)) from r2)
  have A2 := mkHid (A1.out.trans a2 (fun _ _ h => h))
  clear r2 a2 R1 A1 G1 G2
  by_cases h3 : y = 3
  · subst h3
    go_wp2
    go_ret2
    exact ⟨.inr ⟨HN.out (.inl trivial), rfl⟩, A2.out⟩
  · have hy2 : (y : Int) ≤ 2 := by omega
    by_cases h0 : t = 0
    · subst h0
      go_wp2
      go_ret2
      exact ⟨.inr ⟨HN.out (.inr trivial), rfl⟩, A2.out⟩
    · have HSS := mkHid (HSO.out (by omega))
      have ht0 : (1 : Int) ≤ t := by omega
      have ht9 : ((t : Int) == 0) = false := by simp; omega
      have hy9 : decide ((2 : Int) < y) = false := by simp; omega
      obtain ⟨m, HM⟩ : ∃ m, Hid (min t n = m) := ⟨_, rfl⟩
      rw [HM.out] at HSS
      have hm : min (t : Int) (n : Int) = m := by have := HM.out; omega
      have hm1 : 1 ≤ m := by have := HM.out; omega
      have hm2 : m ≤ 8191 := by have := HM.out; omega
      by_cases htn : t ≤ n
      · obtain rfl : m = t := by omega
        have c0 := cell_of_row _ w2.heap.size 0 _ 3 _ (heap_alloc_new w2 (.cells #[.int .i64 (y : Int)] 3))
        have hrp := repeat_any (y : Int) w2.heap.size m hm1 hm2 (w2.alloc (.cells #[.int .i64 (y : Int)] 3)) (by simp) c0
        rw [World.size_alloc] at hrp
        have RP := mkHid hrp
        clear hrp
        have HB2 := mkHid (Nat.lt_of_lt_of_le HBL.out A2.out.size)
        clear c0 h0 h3
        go_wp2_with fail
        refine (RP.out).mono ?_
        rintro e w3 ⟨rfl, g3, b3⟩
        have G3 := mkHid g3
        have B3 := mkHid ((Apart.refl (fun _ => False) w2).alloc (.cells #[.int .i64 (y : Int)] 3) |>.zz (below_apart (by rw [World.size_alloc]; exact b3)))
        clear g3 b3 RP
        go_wp2
        go_ret2
        refine ⟨.inl ⟨List.replicate m (y : Int), some ⟨w2.heap.size + 1, 0, none⟩, m, HSS.out, by rw [List.length_replicate]; rfl, ?_, ?_⟩, A2.out.trans B3.out (fun _ _ h => h.elim)⟩
        · rw [List.length_replicate]; exact G3.out.src (by simp) (fun _ _ h => h)
        · exact R2.out.kept B3.out (fun h => h)
      · obtain rfl : m = n := by omega
        have c0 := cell_of_row _ w2.heap.size 0 _ 3 _ (heap_alloc_new w2 (.cells #[.int .i64 (y : Int)] 3))
        have hrp := repeat_any (y : Int) w2.heap.size m hm1 hm2 (w2.alloc (.cells #[.int .i64 (y : Int)] 3)) (by simp) c0
        rw [World.size_alloc] at hrp
        have RP := mkHid hrp
        clear hrp
        have HB2 := mkHid (Nat.lt_of_lt_of_le HBL.out A2.out.size)
        clear c0 h0 h3
        go_wp2_with fail
        refine (RP.out).mono ?_
        rintro e w3 ⟨rfl, g3, b3⟩
        have G3 := mkHid g3
        have B3 := mkHid ((Apart.refl (fun _ => False) w2).alloc (.cells #[.int .i64 (y : Int)] 3) |>.zz (below_apart (by rw [World.size_alloc]; exact b3)))
        clear g3 b3 RP
        go_wp2
        go_ret2
        refine ⟨.inl ⟨List.replicate m (y : Int), some ⟨w2.heap.size + 1, 0, none⟩, m, HSS.out, by rw [List.length_replicate]; rfl, ?_, ?_⟩, A2.out.trans B3.out (fun _ _ h => h.elim)⟩
        · rw [List.length_replicate]; exact G3.out.src (by simp) (fun _ _ h => h)
        · exact R2.out.kept B3.out (fun h => h)
theorem rowOk_iff {s : ByteArray} {p k S n : Nat} : rowOk (rowV s p k S) n = true ↔ ∀ j, j < S → gv s (p + k * j) k ≤ 2 ∧ (n ≤ j → gv s (p + k * j) k = 0) := by
  unfold rowOk
  simp only [Bool.and_eq_true, List.all_eq_true, decide_eq_true_eq]
  constructor
  · rintro ⟨h1, h2⟩ j hj
    have e : (rowV s p k S)[j]? = some (gv s (p + k * j) k : Int) := by simp [rowV, hj]
    refine ⟨by have := h1 _ (List.mem_of_getElem? e); omega, fun hn => ?_⟩
    have e2 : ((rowV s p k S).drop n)[j - n]? = some (gv s (p + k * j) k : Int) := by rw [List.getElem?_drop, show n + (j - n) = j by omega, e]
    have := h2 _ (List.mem_of_getElem? e2)
    omega
  · intro h
    constructor
    · intro x hx
      obtain ⟨j, hj, e⟩ := List.mem_iff_getElem.1 hx
      rw [rowV_len] at hj
      have := (h j hj).1
      simp [rowV] at e
      omega
    · intro x hx
      obtain ⟨j, hj, e⟩ := List.mem_iff_getElem.1 hx
      simp at hj
      have := (h (n + j) (by omega)).2 (by omega)
      simp [rowV] at e
      omega
theorem rowV_at {s : ByteArray} {p k S j : Nat} (hj : j < S) : (rowV s p k S)[j]? = some (gv s (p + k * j) k : Int) := by simp [rowV, hj]
set_option maxRecDepth 100000 in
set_option maxHeartbeats 1000000 in
theorem getrow_any (S k : Nat) (hS : S = 14 ∧ k = 1 ∨ S = 7 ∧ k = 2) (b : Nat) (s : ByteArray) (hs : s.size ≤ 1000000) (p n : Nat) (hn : 0 < n) (hn4 : n ≤ 4096) (hp : p + 14 ≤ 8 * s.size) (w : World) (h : Rd 143 w b s (some p)) :
    Calls Tryz.prog 92 #[.pointer (some ⟨b, 0, none⟩), .int .i64 (S : Int), .int .i64 (n : Int)] w (CkPost b s (rowD s p k S n) (p + 14) w) := by
  have H := mkHid h
  have HS := mkHid hS
  have hk : (14 : Int) / S = k := by rcases hS with ⟨rfl, rfl⟩ | ⟨rfl, rfl⟩ <;> rfl
  have hs0 : (0 : Int) < S := by omega
  have hs1 : (S : Int) ≤ 14 := by omega
  have HK2 := mkHid (show k ≤ 2 by omega)
  have hkS : S * k = 14 := by rcases hS with ⟨rfl, rfl⟩ | ⟨rfl, rfl⟩ <;> rfl
  have HKS := mkHid hkS
  obtain ⟨o, HO⟩ : ∃ o, Hid (rowD s p k S n = o) := ⟨_, rfl⟩
  rw [HO.out]
  have HNO := mkHid (show ∀ j, j < S → (2 < gv s (p + k * j) k ∨ n ≤ j ∧ gv s (p + k * j) k ≠ 0) → o = none by
    intro j hj hb
    rw [← HO.out]; unfold rowD
    rw [if_neg]
    intro hr
    have := rowOk_iff.1 hr j hj
    omega)
  have HYS := mkHid (show (∀ j, j < S → gv s (p + k * j) k ≤ 2 ∧ (n ≤ j → gv s (p + k * j) k = 0)) → o = some ((rowV s p k S).take n) by
    intro h
    rw [← HO.out]; unfold rowD
    rw [if_pos (rowOk_iff.2 h)])
  have hmk := run_make_row' (P := Tryz.prog) 24 3 (.int .i64 0) 8 Tryz.underlying24 info3 rfl .i64 .i64 S (by omega) (by omega)
  obtain ⟨z, HZ⟩ : ∃ z : List Value, Hid (madeCells #[.int .i64 0] S = z.toArray) := ⟨(madeCells #[.int .i64 0] S).toList, by simp [Hid]⟩
  have HZL := mkHid (show z.length = S by have := congrArg Array.size HZ.out; simp [size_madeCells] at this; exact this.symm)
  rw [HZ.out] at hmk
  have G0 := mkHid (show RW (w.alloc (.cells z.toArray 3)) w.heap.size z from heap_alloc_new _ _)
  have A0 := mkHid ((Apart.refl (fun _ => False) w).alloc (.cells z.toArray 3))
  have R0 := mkHid (h.kept A0.out (fun h => h))
  have hbg := h.heap
  obtain ⟨g, HG⟩ : ∃ g, Hid (w.heap.size = g) := ⟨_, rfl⟩
  obtain ⟨W, HW⟩ : ∃ W, Hid (w.alloc (.cells z.toArray 3) = W) := ⟨_, rfl⟩
  rw [HW.out] at R0 A0
  rw [HW.out, HG.out] at G0
  rw [HG.out] at hbg
  have HBG := mkHid (show ¬ g = b by omega)
  have n0 : (0 : Int) < n := by omega
  have n1 : (n : Int) ≤ 4096 := by omega
  clear h hS hkS hbg
  go_enter Tryz.func92, Tryz.ntmps92
  go_wp2
  rw [HW.out, HG.out]
  go_loopw [14] (fun i wr => ∃ (j : Nat) (L : List Value), j ≤ S ∧ i = .int .i64 (j : Int) ∧ L.length = S ∧ (∀ q, q < j → L[q]? = some (.int .i64 (gv s (p + k * q) k : Int)) ∧ gv s (p + k * q) k ≤ 2 ∧ (n ≤ q → gv s (p + k * q) k = 0)) ∧ RW wr g L ∧ Rd 143 wr b s (some (p + k * j)) ∧ Apart (· = b) w wr) (fun i _ => S - (intOf i).toNat)
  case atStart => exact ⟨0, z, Nat.zero_le _, rfl, HZL.out, fun q hq => by omega, G0.out, R0.out, A0.out.mono (fun _ _ h => h.elim)⟩
  case round =>
    obtain ⟨j, L, hj, rfl, hL, hall, hG, hR, hA⟩ := hrel
    have HL := mkHid hL
    have HALL := mkHid hall
    have HGR := mkHid hG
    have HR := mkHid hR
    have HA := mkHid hA
    clear hL hall hG hR hA hmk G0 R0 A0
    by_cases hlt : j < S
    · have HKJ := mkHid (show k * j + k ≤ 14 by rcases HS.out with ⟨rfl, rfl⟩ | ⟨rfl, rfl⟩ <;> omega)
      obtain ⟨y, HY⟩ : ∃ y, Hid (gv s (p + k * j) k = y) := ⟨_, rfl⟩
      have hy : (y : Int) ≤ 3 := by
        have := gv_lt s (p + k * j) k; rw [HY.out] at this
        rcases HS.out with ⟨rfl, rfl⟩ | ⟨rfl, rfl⟩ <;> simp at this <;> omega
      have G1 := mkHid (get_fit b s hs (p + k * j) k k rfl (by have := HK2.out; omega) (by have := HKJ.out; omega) wr HR.out)
      rw [HY.out] at G1
      have j0 : (0 : Int) ≤ j := by omega
      have j1 : (j : Int) < S := by omega
      go_wp2_with fail
      refine (G1.out).mono ?_
      rintro e w1 ⟨rfl, r1, a1⟩
      have R1 := mkHid (show Rd 143 w1 b s (some (p + k * (j + 1))) by rw [Nat.mul_add, Nat.mul_one, ← Nat.add_assoc]; exact r1)
      have A1 := mkHid (HA.out.trans a1 (fun _ _ h => h))
      have GR1 := mkHid (HGR.out.kept a1 HBG.out)
      obtain ⟨cv, hc, hf⟩ := GR1.out.cell j (by rw [HL.out]; exact hlt)
      have S1 := mkHid (GR1.out.set j (.int .i64 (y : Int)))
      have RS := mkHid (R1.out.kept (ap_set w1 g j (.int .i64 (y : Int))) (fun e => HBG.out e.symm))
      have AS := mkHid (A1.out.trans (ap_set w1 g j (.int .i64 (y : Int))) (fun i hi e => by have := HG.out; omega))
      clear r1 a1 HGR HR HA G1
      by_cases h2 : (2 : Int) < y
      · have HF := mkHid (HNO.out j hlt (.inl (by rw [HY.out]; omega)))
        go_wp2
        go_ret2
        exact ⟨.inr ⟨HF.out, rfl⟩, AS.out⟩
      · have h2' : (y : Int) ≤ 2 := by omega
        clear h2
        have HN1 := mkHid (show (n ≤ j → y = 0) → ∀ q, q < j + 1 → (L.set j (.int .i64 (y : Int)))[q]? = some (.int .i64 (gv s (p + k * q) k : Int)) ∧ gv s (p + k * q) k ≤ 2 ∧ (n ≤ q → gv s (p + k * q) k = 0) by
          intro hz q hq
          rw [List.getElem?_set]
          by_cases e : j = q
          · subst e
            rw [if_pos rfl, if_pos (by rw [HL.out]; exact hlt), HY.out]
            exact ⟨rfl, by omega, hz⟩
          · rw [if_neg e]
            exact HALL.out q (by omega))
        by_cases h4 : (n : Int) ≤ j
        · by_cases h5 : (y : Int) = 0
          · obtain rfl : y = 0 := by omega
            clear h5
            go_wp2
            go_roundw
            case rel => exact ⟨j + 1, _, by omega, by go_num, by rw [List.length_set, HL.out], HN1.out (fun _ => by trivial), S1.out, RS.out, AS.out⟩
            case measure => simp [intOf]; omega
          · have HF := mkHid (HNO.out j hlt (.inr ⟨by omega, by rw [HY.out]; omega⟩))
            have h6 : ((y : Int) != 0) = true := by simp; omega
            have h7 : decide ((2 : Int) < y) = false := by simp; omega
            go_wp2
            go_ret2
            exact ⟨.inr ⟨HF.out, rfl⟩, AS.out⟩
        · have h4' : (j : Int) < n := by omega
          clear h4
          go_wp2
          go_roundw
          case rel => exact ⟨j + 1, _, by omega, by go_num, by rw [List.length_set, HL.out], HN1.out (fun h => by omega), S1.out, RS.out, AS.out⟩
          case measure => simp [intOf]; omega
    · obtain rfl : j = S := by omega
      have HOS := mkHid (HYS.out (fun q hq => (HALL.out q hq).2))
      obtain ⟨m, HM⟩ : ∃ m, Hid (min j n = m) := ⟨_, rfl⟩
      have hm : min (j : Int) (n : Int) = m := by have := HM.out; omega
      have hm1 : (m : Int) ≤ j := by have := HM.out; omega
      have HTL := mkHid (show ((rowV s p k j).take n).length = m by rw [List.length_take, rowV_len, ← HM.out]; omega)
      by_cases hjn : j ≤ n
      · obtain rfl : j = m := by omega
        go_wp2
        go_ret2
        refine ⟨.inl ⟨(rowV s p k j).take n, some ⟨g, 0, none⟩, j, HOS.out, by rw [HTL.out]; rfl, ?_, ?_⟩, HA.out⟩
        · rw [HTL.out]
          refine HGR.out.src (by rw [IC_len, HTL.out]) (fun q u hq => ?_)
          have hqm : q < j := by have := (List.getElem?_eq_some_iff.1 hq).1; rw [IC_len, HTL.out] at this; exact this
          have hqj : q < j := by omega
          rw [(HALL.out q hqj).1, ← hq]
          unfold IC
          rw [List.getElem?_map, List.getElem?_take, if_pos (by have := HM.out; omega), rowV_at hqj]
          rfl
        · rw [show p + 14 = p + k * j by have := HKS.out; rw [Nat.mul_comm] at this; omega]
          exact HR.out
      · obtain rfl : n = m := by omega
        go_wp2
        go_ret2
        refine ⟨.inl ⟨(rowV s p k j).take n, some ⟨g, 0, none⟩, j, HOS.out, by rw [HTL.out]; rfl, ?_, ?_⟩, HA.out⟩
        · rw [HTL.out]
          refine HGR.out.src (by rw [IC_len, HTL.out]) (fun q u hq => ?_)
          have hqm : q < n := by have := (List.getElem?_eq_some_iff.1 hq).1; rw [IC_len, HTL.out] at this; exact this
          have hqj : q < j := by omega
          rw [(HALL.out q hqj).1, ← hq]
          unfold IC
          rw [List.getElem?_map, List.getElem?_take, if_pos (by have := HM.out; omega), rowV_at hqj]
          rfl
        · rw [show p + 14 = p + k * j by have := HKS.out; rw [Nat.mul_comm] at this; omega]
          exact HR.out
end Go.Proofs.YtdhbakknplnnkaaGreat.Tw
namespace Go.Proofs.YtdhbakknplnnkaaGreat.Tw
open Go.RowKit

theorem left_at (b : Nat) (s : ByteArray) (hs : s.size ≤ 1000000) (p : Nat) (w : World) (h : Rd 143 w b s (some p)) (L : Int) (hL : 8 * (s.size : Int) - p = L) :
    Calls Tryz.prog 56 #[.pointer (some ⟨b, 0, none⟩)] w fun e w' => e = .returned (.int .i64 L) ∧ ∃ n, w' = w.drewN n := by
  have := left_any b s hs (some p) w h
  have e : gleft s (some p) = L := hL
  rw [e] at this
  exact this
set_option maxRecDepth 100000 in
set_option maxHeartbeats 400000 in
theorem getchunk_short (b : Nat) (s : ByteArray) (hs : s.size ≤ 1000000) (p n : Nat) (hp : 8 * s.size < p + 16) (w : World) (h : Rd 143 w b s (some p)) :
    Calls Tryz.prog 81 #[.pointer (some ⟨b, 0, none⟩), .int .i64 (n : Int)] w fun e w' => e = .returned (.tuple #[.slice none 0 0, .int .i64 60]) ∧ Apart (· = b) w w' := by
  obtain ⟨L, HL⟩ : ∃ L : Int, Hid (8 * (s.size : Int) - p = L) := ⟨_, rfl⟩
  have LF := mkHid (left_at b s hs p w h L HL.out)
  have hl : L < 16 := by have := HL.out; omega
  clear h
  go_enter Tryz.func81, Tryz.ntmps81
  go_wp2_with fail
  refine (LF.out).mono ?_
  rintro e w1 ⟨rfl, k1, rfl⟩
  go_wp2
  go_ret2
  exact ⟨rfl, (Apart.refl _ _).drewN k1⟩
/-- A piece's post behind what was read ahead of it. -/
theorem CkPost.on {b : Nat} {s : ByteArray} {o : Option (List Int)} {p' : Nat} {w w1 : World} {e : Ending} {w' : World} (h : CkPost b s o p' w1 e w') (ha : Apart (· = b) w w1) : CkPost b s o p' w e w' := ⟨h.1, ha.trans h.2 (fun _ _ h => h)⟩
set_option maxRecDepth 100000 in
set_option maxHeartbeats 400000 in
theorem getchunk_any (b : Nat) (s : ByteArray) (hs : s.size ≤ 1000000) (p n : Nat) (hn : 0 < n) (hn4 : n ≤ 4096) (hp : p + 16 ≤ 8 * s.size) (w : World) (h : Rd 143 w b s (some p)) :
    Calls Tryz.prog 81 #[.pointer (some ⟨b, 0, none⟩), .int .i64 (n : Int)] w (CkPost b s (ckD s p n) (p + 16) w) := by
  obtain ⟨L, HL⟩ : ∃ L : Int, Hid (8 * (s.size : Int) - p = L) := ⟨_, rfl⟩
  have LF := mkHid (left_at b s hs p w h L HL.out)
  have hl : 16 ≤ L := by have := HL.out; omega
  obtain ⟨o, HO⟩ : ∃ o, Hid (ckD s p n = o) := ⟨_, rfl⟩
  rw [HO.out]
  obtain ⟨y, HY⟩ : ∃ y, Hid (gv s p 1 = y) := ⟨_, rfl⟩
  obtain ⟨z, HZ⟩ : ∃ z, Hid (gv s (p + 1) 1 = z) := ⟨_, rfl⟩
  have hy : (y : Int) ≤ 1 := by have := gv_lt s p 1; rw [HY.out] at this; omega
  have hz : (z : Int) ≤ 1 := by have := gv_lt s (p + 1) 1; rw [HZ.out] at this; omega
  have H := mkHid h
  have G1 := mkHid (fun w h => get_fit b s hs p 1 1 rfl (by omega) (by omega) w h)
  have G2 := mkHid (fun w h => get_fit b s hs (p + 1) 1 1 rfl (by omega) (by omega) w h)
  rw [HY.out] at G1
  rw [HZ.out] at G2
  have GR := mkHid (fun w h => getrun_any b s hs (p + 1) n hn hn4 (by omega) w h)
  have GL := mkHid (fun w h => getrow_any 14 1 (.inl ⟨rfl, rfl⟩) b s hs (p + 2) n hn hn4 (by omega) w h)
  have GS := mkHid (fun w h => getrow_any 7 2 (.inr ⟨rfl, rfl⟩) b s hs (p + 2) n hn hn4 (by omega) w h)
  have HO0 := mkHid (show y = 0 → runD s (p + 1) n = o by intro e; rw [← HO.out]; unfold ckD; rw [HY.out, if_pos e])
  have HO1 := mkHid (show ¬ y = 0 → z = 0 → rowD s (p + 2) 1 14 n = o by intro e e2; rw [← HO.out]; unfold ckD; rw [HY.out, HZ.out, if_neg e, if_pos e2])
  have HO2 := mkHid (show ¬ y = 0 → ¬ z = 0 → rowD s (p + 2) 2 7 n = o by intro e e2; rw [← HO.out]; unfold ckD; rw [HY.out, HZ.out, if_neg e, if_neg e2])
  clear h
  go_enter Tryz.func81, Tryz.ntmps81
  go_wp2_with fail
  refine (LF.out).mono ?_
  rintro e w1 ⟨rfl, k1, rfl⟩
  have R1 := mkHid (drew_rd k1 H.out)
  have A1 := mkHid ((Apart.refl (· = b) w).drewN k1)
  obtain ⟨w1, HW1⟩ : ∃ w1, Hid (w.drewN k1 = w1) := ⟨_, rfl⟩
  rw [HW1.out] at R1 A1 ⊢
  clear H LF
  go_wp2_with fail
  refine (G1.out _ R1.out).mono ?_
  rintro e w2 ⟨rfl, r2, a2⟩
  have R2 := mkHid r2
  have A2 := mkHid (A1.out.trans a2 (fun _ _ h => h))
  clear r2 a2 R1 A1 G1
  by_cases h0 : y = 0
  · subst h0
    have HO0' := mkHid (HO0.out rfl)
    clear HO0 HO1 HO2
    go_wp2_with fail
    refine (GR.out _ R2.out).mono ?_
    rintro e w3 ⟨(⟨l, a, c, ho, rfl, src, r3⟩ | ⟨ho, rfl⟩), a3⟩
    · have HOL := mkHid ho
      have SRC := mkHid src
      have R3 := mkHid r3
      have A3 := mkHid a3
      clear ho src r3 a3
      obtain ⟨m, HM⟩ : ∃ m, Hid (l.length = m) := ⟨_, rfl⟩
      rw [HM.out]
      go_wp2
      go_ret2
      exact ⟨.inl ⟨l, a, c, HO0'.out.symm.trans HOL.out, by rw [HM.out]; rfl, SRC.out, R3.out⟩, A2.out.trans A3.out (fun _ _ h => h)⟩
    · have HOL := mkHid ho
      have A3 := mkHid a3
      clear ho a3
      go_wp2
      go_ret2
      exact ⟨.inr ⟨HO0'.out.symm.trans HOL.out, rfl⟩, A2.out.trans A3.out (fun _ _ h => h)⟩
  · have hy1 : (y : Int) = 1 := by omega
    have h0' : ((y : Int) == 0) = false := by simp; omega
    rw [hy1]
    go_wp2_with fail
    refine (G2.out _ R2.out).mono ?_
    rintro e w3 ⟨rfl, r3, a3⟩
    have R3 := mkHid (show Rd 143 w3 b s (some (p + 2)) from r3)
    have A3 := mkHid (A2.out.trans a3 (fun _ _ h => h))
    clear r3 a3 R2 A2 G2
    by_cases h1 : z = 0
    · subst h1
      have HO0' := mkHid (HO1.out h0 rfl)
      clear HO0 HO1 HO2
      go_wp2_with fail
      refine (GL.out _ R3.out).mono ?_
      rintro e w4 ⟨(⟨l, a, c, ho, rfl, src, r4⟩ | ⟨ho, rfl⟩), a4⟩
      · have HOL := mkHid ho
        have SRC := mkHid src
        have R4 := mkHid r4
        have A4 := mkHid a4
        clear ho src r4 a4
        obtain ⟨m, HM⟩ : ∃ m, Hid (l.length = m) := ⟨_, rfl⟩
        rw [HM.out]
        go_wp2
        go_ret2
        exact ⟨.inl ⟨l, a, c, HO0'.out.symm.trans HOL.out, by rw [HM.out]; rfl, SRC.out, R4.out⟩, A3.out.trans A4.out (fun _ _ h => h)⟩
      · have HOL := mkHid ho
        have A4 := mkHid a4
        clear ho a4
        go_wp2
        go_ret2
        exact ⟨.inr ⟨HO0'.out.symm.trans HOL.out, rfl⟩, A3.out.trans A4.out (fun _ _ h => h)⟩
    · have HO0' := mkHid (HO2.out h0 h1)
      have hz1 : (z : Int) = 1 := by omega
      clear HO0 HO1 HO2
      rw [hz1]
      go_wp2_with fail
      refine (GS.out _ R3.out).mono ?_
      rintro e w4 ⟨(⟨l, a, c, ho, rfl, src, r4⟩ | ⟨ho, rfl⟩), a4⟩
      · have HOL := mkHid ho
        have SRC := mkHid src
        have R4 := mkHid r4
        have A4 := mkHid a4
        clear ho src r4 a4
        obtain ⟨m, HM⟩ : ∃ m, Hid (l.length = m) := ⟨_, rfl⟩
        rw [HM.out]
        go_wp2
        go_ret2
        exact ⟨.inl ⟨l, a, c, HO0'.out.symm.trans HOL.out, by rw [HM.out]; rfl, SRC.out, R4.out⟩, A3.out.trans A4.out (fun _ _ h => h)⟩
      · have HOL := mkHid ho
        have A4 := mkHid a4
        clear ho a4
        go_wp2
        go_ret2
        exact ⟨.inr ⟨HO0'.out.symm.trans HOL.out, rfl⟩, A3.out.trans A4.out (fun _ _ h => h)⟩
theorem stD_end (s : ByteArray) (p : Nat) : stD s 0 p 0 = ⟨0, [], p⟩ := rfl
theorem stD_short {s : ByteArray} {p n : Nat} (hn : 0 < n) (h : 8 * s.size < p + 16) : stD s n p n = ⟨60, [], p⟩ := by
  obtain ⟨m, rfl⟩ : ∃ m, n = m + 1 := ⟨n - 1, by omega⟩
  rw [stD, if_neg (by omega), if_pos h]
theorem stD_bad {s : ByteArray} {p n : Nat} (hn : 0 < n) (h : p + 16 ≤ 8 * s.size) (hc : ckD s p n = none) : stD s n p n = ⟨100, [], p⟩ := by
  obtain ⟨m, rfl⟩ : ∃ m, n = m + 1 := ⟨n - 1, by omega⟩
  rw [stD, if_neg (by omega), if_neg (by omega), hc]
theorem stD_more {s : ByteArray} {p n : Nat} {l : List Int} (hn : 0 < n) (h : p + 16 ≤ 8 * s.size) (hc : ckD s p n = some l) :
    stD s n p n = ⟨(stD s (n - l.length) (p + 16) (n - l.length)).e, l ++ (stD s (n - l.length) (p + 16) (n - l.length)).l, (stD s (n - l.length) (p + 16) (n - l.length)).p⟩ := by
  have hl := (ckD_len hc hn).1
  obtain ⟨m, rfl⟩ : ∃ m, n = m + 1 := ⟨n - 1, by omega⟩
  rw [stD, if_neg (by omega), if_neg (by omega), hc]
  simp only [stD_same s m (m + 1 - l.length) (p + 16) (m + 1 - l.length) (by omega) (Nat.le_refl _)]
theorem own_ia {w : World} {B : Nat} {v : Value} {n : Nat} {l : List Int} (h : w.ownsRow B 3 1 v n (IC l)) : ∃ a c, v = .slice a l.length c ∧ IA w.heap.size w a c l := by
  have hl : l.length = n := by have := h.1; simpa using this
  rcases h.2 with ⟨rfl, rfl⟩ | ⟨g, cap, cur, rfl, _, hg, hn, hc, _, ht⟩
  · obtain rfl := List.eq_nil_of_length_eq_zero hl
    exact ⟨none, 0, rfl, IA.nil _ _ _ _ (Nat.zero_le _)⟩
  · refine ⟨some ⟨g, 0, none⟩, cap, by rw [hl], by omega, hc, .inr ⟨g, 0, rfl, lt_of_heap hg, fun i x hi => ?_⟩⟩
    have hin : i < n := by rw [← hl]; exact (List.getElem?_eq_some_iff.1 hi).1
    rw [Nat.zero_add, cell_of_row w g i cur 3 _ hg]
    have e : (cur.toList.take (n * 1))[i]? = (IC l)[i]? := by rw [ht]
    rw [List.getElem?_take, if_pos (by omega)] at e
    rw [← Array.getElem?_toList, e]
    simp [IC, hi]
def lenV : Value → Nat
  | .slice _ n _ => n
  | _ => 0
/-- What getStatus leaves behind. -/
def StPost (b : Nat) (s : ByteArray) (R : Rs) (w : World) (e : Ending) (w' : World) : Prop :=
  ((R.e = 0 ∧ ∃ (a : Option Addr) (c : Nat), e = .returned (.tuple #[.slice a R.l.length c, .int .i64 0]) ∧ Rd 143 w' b s (some R.p) ∧ w'.ownsRow w.heap.size 3 1 (.slice a R.l.length c) R.l.length (IC R.l)) ∨
   (¬ R.e = 0 ∧ e = .returned (.tuple #[.slice none 0 0, .int .i64 R.e]))) ∧ Apart (· = b) w w'
theorem frame29 (a : Act) (hs : a.tmps.size = 29) (hd : a.defers = []) : ∃ u : Nat → Value, (∀ i, a.tmps.getD i undef = u i) ∧ a = { tmps := #[u 0, u 1, u 2, u 3, u 4, u 5, u 6, u 7, u 8, u 9, u 10, u 11, u 12, u 13, u 14, u 15, u 16, u 17, u 18, u 19, u 20, u 21, u 22, u 23, u 24, u 25, u 26, u 27, u 28], defers := [] } := frame_of a 29 hs hd
theorem info3' : ∃ i, Tryz.prog.info? 3 = some i ∧ i.zero = some (.int .i64 0) ∧ i.size = 1 ∧ i.bytes = 8 := by
  obtain ⟨i, hi, hh⟩ := Option.map_eq_some_iff.1 info3
  simp only [Prod.mk.injEq] at hh
  exact ⟨i, hi, hh.1, hh.2.1, hh.2.2⟩
set_option maxRecDepth 100000 in
set_option maxHeartbeats 1000000 in
theorem getstatus_any (b : Nat) (s : ByteArray) (hs : s.size ≤ 1000000) (n : Nat) (hn4 : n ≤ 4096) (p0 : Nat) (w : World) (h : Rd 143 w b s (some p0)) :
    Calls Tryz.prog 63 #[.pointer (some ⟨b, 0, none⟩), .int .i64 (n : Int)] w (StPost b s (stD s n p0 n) w) := by
  have hbl := h.heap
  have H := mkHid h
  obtain ⟨R, HR⟩ : ∃ R, Hid (stD s n p0 n = R) := ⟨_, rfl⟩
  rw [HR.out]
  obtain ⟨B, HB⟩ : ∃ B, Hid (w.heap.size = B) := ⟨_, rfl⟩
  rw [HB.out] at hbl
  obtain ⟨i0, hi, hz0, hz1, hz2⟩ := info3'
  clear h
  go_enter Tryz.func63, Tryz.ntmps63
  go_wp2
  refine wp_scope_label 0 (fun a' w' => ∃ (p : Nat) (acc : List Int) (v : Value), (a'.tmps.size = 29 ∧ a'.defers = [] ∧ a'.tmps.getD 0 undef = .pointer (some ⟨b, 0, none⟩) ∧ a'.tmps.getD 1 undef = .int .i64 (n : Int) ∧ a'.tmps.getD 4 undef = .slice none 0 0 ∧ a'.tmps.getD 5 undef = .int .i64 0 ∧ a'.tmps.getD 6 undef = v) ∧ acc.length ≤ n ∧ R = ⟨(stD s (n - acc.length) p (n - acc.length)).e, acc ++ (stD s (n - acc.length) p (n - acc.length)).l, (stD s (n - acc.length) p (n - acc.length)).p⟩ ∧ Rd 143 w' b s (some p) ∧ w'.ownsRow B 3 1 v acc.length (IC acc) ∧ Apart (· = b) w w') (fun a' _ => n - lenV (a'.tmps.getD 6 undef)) rfl ?_ ?_
  · intro Q' hh
    have HH := mkHid hh
    clear hh
    go_wp2
    go_step3
    refine ‹∀ a w, Code.wp _ _ _ a w → _› _ _ (HH.out _ _ ?_)
    exact ⟨p0, [], .slice none 0 0, ⟨rfl, rfl, rfl, rfl, rfl, rfl, rfl⟩, Nat.zero_le _, HR.out.symm, H.out, World.ownsRow_nil _ _ _ _, Apart.refl _ _⟩
  · rintro a' w' ⟨p, acc, v, ⟨z, d, e0, e1, e4, e5, e6⟩, hal, hR, hr, how, hap⟩
    obtain ⟨u, hu, ha⟩ := frame29 a' z d
    rw [hu] at e0 e1 e4 e5 e6
    rw [e0, e1, e4, e5, e6] at ha
    clear z d hu e0 e1 e4 e5 e6
    subst ha
    have HRR := mkHid hR
    have HRD := mkHid hr
    have HOW := mkHid how
    have HAP := mkHid hap
    have HAL := mkHid hal
    obtain ⟨va, vc, HV⟩ := ownsRow_slice how
    subst HV
    have hBw : B ≤ w'.heap.size := by rw [← HB.out]; exact hap.size
    clear hR hr how hap H
    obtain ⟨m, HM⟩ : ∃ m, Hid (acc.length = m) := ⟨_, rfl⟩
    rw [HM.out] at hal HRR
    have HVN := mkHid (show (.slice va acc.length vc : Value) = .slice va m vc by rw [HM.out])
    rw [HVN.out] at HOW ⊢
    by_cases hmn : m = n
    · subst hmn
      have e0 : m - m = 0 := Nat.sub_self m
      rw [e0, stD_end, List.append_nil] at HRR
      clear e0
      go_wp2
      simp only [Exit.jump]
      go_ret2
      rw [HRR.out]
      exact ⟨.inl ⟨rfl, va, vc, by rw [HM.out]; rfl, HRD.out, by rw [HB.out, HM.out]; have := HOW.out; rw [HM.out] at this; exact this⟩, HAP.out⟩
    · have hmn' : ¬ (m : Int) = n := by omega
      obtain ⟨k, HK⟩ : ∃ k, Hid (n - m = k) := ⟨_, rfl⟩
      rw [HK.out] at HRR
      have hk : (n : Int) - m = k := by have := HK.out; omega
      have hk0 : 0 < k := by omega
      have hk4 : k ≤ 4096 := by omega
      by_cases hp : p + 16 ≤ 8 * s.size
      · have GC := mkHid (getchunk_any b s hs p k hk0 hk4 hp w' HRD.out)
        obtain ⟨o, HO⟩ : ∃ o, Hid (ckD s p k = o) := ⟨_, rfl⟩
        rw [HO.out] at GC
        go_wp2_with fail
        refine (GC.out).mono ?_
        rintro e w2 ⟨(⟨l, a, c, rfl, rfl, src, r2⟩ | ⟨rfl, rfl⟩), a2⟩
        · have SRC := mkHid src
          have R2 := mkHid r2
          have A2 := mkHid (HAP.out.trans a2 (fun _ _ h => h))
          have O2 := mkHid (ownsRow_apart HOW.out a2 (by intro k hk e; omega))
          have hB2 : B ≤ w2.heap.size := by have := a2.size; omega
          have HLL := mkHid (ckD_len HO.out hk0)
          have HMR := mkHid (stD_more hk0 hp HO.out)
          clear src r2 a2 GC HRD HAP HOW hBw
          obtain ⟨q, HQ⟩ : ∃ q, Hid (l.length = q) := ⟨_, rfl⟩
          rw [HQ.out] at HLL HMR
          have HSN := mkHid (show SrcN w2 1 (.slice a q c) q (IC l) by rw [← HQ.out]; exact SRC.out)
          rw [HQ.out]
          have HQK := mkHid (show 0 < q ∧ q ≤ k from ⟨HLL.out.1, HLL.out.2.1⟩)
          go_wp2_with (at_builtin; refine wpList_append_onto _ rfl (.tmp 26) (.tmp 27) 24 rfl B 3 i0 (.int .i64 0) 1 8 Tryz.underlying24 hi hz0 hz1 hz2 rfl (by decide) (.slice va m vc) acc.length (IC acc) rfl O2.out (.slice a q c) q (IC l) rfl HSN.out IC_one (by unfold maxLen; have := HAL.out; have := HQK.out; omega) (by have := HAL.out; have := HQK.out; omega) hB2 ?_; intro v3 w3 hown3 hgrow3; have OW3 := mkHid hown3; have GR3 := mkHid hgrow3; clear hown3 hgrow3)
          have A3 : Apart (fun j => (Value.slice va m vc).ownBlock = some j) w2 w3 := Apart.grown (Apart.refl _ w2) GR3.out (fun _ _ e => e)
          have LT : ∀ j, (Value.slice va m vc).ownBlock = some j → B ≤ j := fun j e => (O2.out.lt j e).1
          go_step3
          refine ⟨rfl, ⟨p + 16, acc ++ l, v3, ⟨rfl, rfl, rfl, rfl, rfl, rfl, rfl⟩, ?_, ?_, ?_, ?_, ?_⟩, ?_⟩
          · have := HQK.out; rw [List.length_append, HM.out, HQ.out]; have := HK.out; omega
          · rw [HRR.out, HMR.out, List.length_append, HM.out, HQ.out]
            have e : n - (m + q) = k - q := by have := HK.out; omega
            rw [e, List.append_assoc]
          · exact R2.out.kept A3 (fun e => by have := LT b e; omega)
          · rw [List.length_append, HQ.out, IC_app]; exact OW3.out
          · exact A2.out.trans A3 (fun i hi e => by have := LT i e; rw [HB.out] at hi; omega)
          · obtain ⟨a3, c3, hv3⟩ := ownsRow_slice OW3.out
            subst hv3
            have := HQK.out
            have := HM.out
            have := HK.out
            show n - (acc.length + q) < n - m
            omega
        · have HF := mkHid (stD_bad hk0 hp HO.out)
          have A2 := mkHid (HAP.out.trans a2 (fun _ _ h => h))
          rw [HF.out] at HRR
          clear a2 GC
          go_wp2
          simp only [Exit.jump]
          go_ret2
          rw [HRR.out]
          exact ⟨.inr ⟨by simp, rfl⟩, A2.out⟩
      · have GC := mkHid (getchunk_short b s hs p k (by omega) w' HRD.out)
        have HF := mkHid (stD_short (s := s) (p := p) hk0 (by omega))
        rw [HF.out] at HRR
        go_wp2_with fail
        refine (GC.out).mono ?_
        rintro e w2 ⟨rfl, a2⟩
        have A2 := mkHid (HAP.out.trans a2 (fun _ _ h => h))
        clear a2 GC
        go_wp2
        simp only [Exit.jump]
        go_ret2
        rw [HRR.out]
        exact ⟨.inr ⟨by simp, rfl⟩, A2.out⟩
end Go.Proofs.YtdhbakknplnnkaaGreat.Tw
namespace Go.Proofs.YtdhbakknplnnkaaGreat.Tw
open Go.RowKit

theorem sg24 (v : Nat) (h : v < 16777216) : IntKind.i32.wrap (IntKind.u32.wrap ((v : Int) * 256)) / 256 = sg v 24 := by
  unfold sg
  rw [IntKind.wrap_u32, IntKind.wrap_i32]
  simp only [Nat.reducePow, Nat.reduceSub]
  split <;> omega
theorem sg16 (v : Nat) (h : v < 65536) : IntKind.i32.wrap (IntKind.u32.wrap ((v : Int) * 65536)) / 65536 = sg v 16 := by
  unfold sg
  rw [IntKind.wrap_u32, IntKind.wrap_i32]
  simp only [Nat.reducePow, Nat.reduceSub]
  split <;> omega
theorem signed24_any (v : Nat) (h : v < 16777216) (w : World) : Calls Tryz.prog 80 #[.int .u32 (v : Int), .int .i64 24] w fun e w' => e = .returned (.int .i64 (sg v 24)) ∧ w' = w := by
  have e1 := sg24 v h
  have HB := mkHid (sg_bd v 24 (by omega) (by simpa using h))
  obtain ⟨E, HE⟩ : ∃ E, Hid (sg v 24 = E) := ⟨_, rfl⟩
  rw [HE.out] at e1 HB ⊢
  go_enter Tryz.func80, Tryz.ntmps80
  go_wp2
  go_ret
  refine ⟨ret_i ?_, rfl⟩
  have hb := HB.out
  simp only [IntKind.wrap_u32, IntKind.wrap_i32, Nat.reducePow, Nat.reduceSub] at e1 hb
  unfold wrap64 wrap32
  omega
theorem signed16_any (v : Nat) (h : v < 65536) (w : World) : Calls Tryz.prog 80 #[.int .u32 (v : Int), .int .i64 16] w fun e w' => e = .returned (.int .i64 (sg v 16)) ∧ w' = w := by
  have e1 := sg16 v h
  have HB := mkHid (sg_bd v 16 (by omega) (by simpa using h))
  obtain ⟨E, HE⟩ : ∃ E, Hid (sg v 16 = E) := ⟨_, rfl⟩
  rw [HE.out] at e1 HB ⊢
  go_enter Tryz.func80, Tryz.ntmps80
  go_wp2
  go_ret
  refine ⟨ret_i ?_, rfl⟩
  have hb := HB.out
  simp only [IntKind.wrap_u32, IntKind.wrap_i32, Nat.reducePow, Nat.reduceSub] at e1 hb
  unfold wrap64 wrap32
  omega
theorem lenerr_any (n : Nat) (hn : (n : Int) ≤ 9223372036854775807) (w : World) : Calls Tryz.prog 60 #[.int .i64 (n : Int)] w fun e w' => e = .returned (.int .i64 (lenE n)) ∧ w' = w := by
  by_cases h1 : (65536 : Int) < n
  · have HF := mkHid (show lenE n = 2 by unfold lenE; rw [if_pos (by omega)])
    rw [HF.out]
    go_enter Tryz.func60, Tryz.ntmps60
    go_wp2
    go_ret
    exact ⟨rfl, rfl⟩
  · by_cases h2 : (n : Int) % 4 = 0
    · by_cases h3 : (n : Int) < 16
      · have HF := mkHid (show lenE n = 60 by unfold lenE; rw [if_neg (by omega), if_neg (by omega), if_pos (by omega)])
        rw [HF.out]
        go_enter Tryz.func60, Tryz.ntmps60
        go_wp2
        go_ret
        exact ⟨rfl, rfl⟩
      · have HF := mkHid (show lenE n = 0 by unfold lenE; rw [if_neg (by omega), if_neg (by omega), if_neg (by omega)])
        rw [HF.out]
        go_enter Tryz.func60, Tryz.ntmps60
        go_wp2
        go_ret
        exact ⟨rfl, rfl⟩
    · have HF := mkHid (show lenE n = 90 by unfold lenE; rw [if_neg (by omega), if_pos (by omega)])
      rw [HF.out]
      go_enter Tryz.func60, Tryz.ntmps60
      go_wp2
      go_ret
      exact ⟨rfl, rfl⟩
theorem manyerr_any (n : Nat) (w : World) : Calls Tryz.prog 62 #[.int .i64 (n : Int)] w fun e w' => e = .returned (.int .i64 (manyE n)) ∧ w' = w := by
  by_cases h1 : (n : Int) = 0
  · have HF := mkHid (show manyE n = 90 by unfold manyE; rw [if_pos (by omega)])
    rw [HF.out]
    go_enter Tryz.func62, Tryz.ntmps62
    go_wp2
    go_ret
    exact ⟨rfl, rfl⟩
  · by_cases h3 : (4096 : Int) < n
    · have HF := mkHid (show manyE n = 3 by unfold manyE; rw [if_neg (by omega), if_pos (by omega)])
      rw [HF.out]
      go_enter Tryz.func62, Tryz.ntmps62
      go_wp2
      go_ret
      exact ⟨rfl, rfl⟩
    · have HF := mkHid (show manyE n = 0 by unfold manyE; rw [if_neg (by omega), if_neg (by omega)])
      rw [HF.out]
      go_enter Tryz.func62, Tryz.ntmps62
      go_wp2
      go_ret
      exact ⟨rfl, rfl⟩
theorem getdelta_any (b : Nat) (s : ByteArray) (hs : s.size ≤ 1000000) (p : Nat) (x : Int) (h1 : x = 1 ∨ x = 2) (hp : p + dW x ≤ 8 * s.size) (w : World) (h : Rd 143 w b s (some p)) :
    Calls Tryz.prog 83 #[.pointer (some ⟨b, 0, none⟩), .int .i64 x] w fun e w' => e = .returned (.int .i64 (dV s p x)) ∧ Rd 143 w' b s (some (p + dW x)) ∧ Apart (· = b) w w' := by
  have DB := mkHid (deltabits_any x)
  have H := mkHid h
  rcases h1 with rfl | rfl
  · have e8 : dW 1 = 8 := rfl
    have ev : dV s p 1 = (gv s p 8 : Int) := rfl
    rw [e8] at hp DB ⊢
    rw [ev]
    have G1 := mkHid (fun w h => get_fit b s hs p 8 8 rfl (by omega) hp w h)
    have hb : (gv s p 8 : Int) < 256 := by have := gv_lt s p 8; omega
    obtain ⟨y, HY⟩ : ∃ y, Hid (gv s p 8 = y) := ⟨_, rfl⟩
    rw [HY.out] at hb G1 ⊢
    clear h e8 ev
    go_enter Tryz.func83, Tryz.ntmps83
    go_wp2_with fail
    refine (DB.out _).mono ?_
    rintro e w1 ⟨rfl, rfl⟩
    go_wp2_with fail
    refine (G1.out _ H.out).mono ?_
    rintro e w2 ⟨rfl, r2, a2⟩
    have R2 := mkHid r2
    have A2 := mkHid a2
    clear r2 a2
    go_wp2
    go_ret
    exact ⟨rfl, R2.out, A2.out⟩
  · have e8 : dW 2 = 16 := rfl
    have ev : dV s p 2 = sg (gv s p 16) 16 := rfl
    rw [e8] at hp DB ⊢
    rw [ev]
    have G1 := mkHid (fun w h => get_fit b s hs p 16 16 rfl (by omega) hp w h)
    have hb := gv_lt s p 16
    obtain ⟨y, HY⟩ : ∃ y, Hid (gv s p 16 = y) := ⟨_, rfl⟩
    rw [HY.out] at hb G1 ⊢
    have SG := mkHid (signed16_any y (by simpa using hb))
    obtain ⟨q, HQ⟩ : ∃ q, Hid (sg y 16 = q) := ⟨_, rfl⟩
    rw [HQ.out] at SG ⊢
    clear h e8 ev hb
    go_enter Tryz.func83, Tryz.ntmps83
    go_wp2_with fail
    refine (DB.out _).mono ?_
    rintro e w1 ⟨rfl, rfl⟩
    go_wp2_with fail
    refine (G1.out _ H.out).mono ?_
    rintro e w2 ⟨rfl, r2, a2⟩
    have R2 := mkHid r2
    have A2 := mkHid a2
    clear r2 a2
    go_wp2_with fail
    refine (SG.out _).mono ?_
    rintro e w3 ⟨rfl, rfl⟩
    go_wp2
    go_ret
    exact ⟨rfl, R2.out, A2.out⟩
theorem dlD_zero {s : ByteArray} {p : Nat} {st : List Int} : dlD s p (0 :: st) = dlD s p st := by rw [dlD, if_pos rfl]
theorem dlD_short {s : ByteArray} {p : Nat} {x : Int} {st : List Int} (h0 : ¬ x = 0) (h : 8 * s.size < p + dW x) : dlD s p (x :: st) = ⟨60, [], p⟩ := by rw [dlD, if_neg h0, if_pos h]
theorem dlD_more {s : ByteArray} {p : Nat} {x : Int} {st : List Int} (h0 : ¬ x = 0) (h : p + dW x ≤ 8 * s.size) : dlD s p (x :: st) = ⟨(dlD s (p + dW x) st).e, dV s p x :: (dlD s (p + dW x) st).l, (dlD s (p + dW x) st).p⟩ := by rw [dlD, if_neg h0, if_neg (by omega)]
set_option maxRecDepth 100000 in
set_option maxHeartbeats 1000000 in
theorem getdeltas_any (b : Nat) (s : ByteArray) (hs : s.size ≤ 1000000) (a : Option Addr) (c : Nat) (st : List Int) (h2 : ∀ x ∈ st, 0 ≤ x ∧ x ≤ 2) (hl4 : st.length ≤ 4096) (p0 : Nat) (w : World) (h : Rd 143 w b s (some p0)) (hi : IA w.heap.size w a c st) (hab : ∀ k, (Value.slice a st.length c).ownBlock = some k → st = [] ∨ ¬ k = b) :
    Calls Tryz.prog 64 #[.pointer (some ⟨b, 0, none⟩), .slice a st.length c] w (StPost b s (dlD s p0 st) w) := by
  have hbl := h.heap
  have H := mkHid h
  have HI := mkHid hi
  have H2 := mkHid h2
  have HAB := mkHid hab
  obtain ⟨R, HR⟩ : ∃ R, Hid (dlD s p0 st = R) := ⟨_, rfl⟩
  rw [HR.out]
  obtain ⟨B, HB⟩ : ∃ B, Hid (w.heap.size = B) := ⟨_, rfl⟩
  rw [HB.out] at hbl
  obtain ⟨n, HN⟩ : ∃ n, Hid (st.length = n) := ⟨_, rfl⟩
  rw [HN.out] at hl4 ⊢
  have hn : (n : Int) ≤ 4096 := by omega
  obtain ⟨i0, hi0, hz0, hz1, hz2⟩ := info3'
  clear h h2 hi hab
  go_enter Tryz.func64, Tryz.ntmps64
  go_wp2
  go_loopw [6, 11] (fun x i wr => ∃ (k p : Nat) (acc : List Int) (v : Value), k ≤ n ∧ i = .int .i64 (k : Int) ∧ x = v ∧ acc.length ≤ k ∧ R = ⟨(dlD s p (st.drop k)).e, acc ++ (dlD s p (st.drop k)).l, (dlD s p (st.drop k)).p⟩ ∧ Rd 143 wr b s (some p) ∧ wr.ownsRow B 3 1 v acc.length (IC acc) ∧ Apart (· = b) w wr) (fun _ i _ => n - (intOf i).toNat)
  case atStart => exact ⟨0, p0, [], .slice none 0 0, Nat.zero_le _, rfl, rfl, Nat.zero_le _, by rw [List.drop_zero, HR.out]; rfl, H.out, World.ownsRow_nil _ _ _ _, Apart.refl _ _⟩
  case round =>
    obtain ⟨k, p, acc, v, hk, rfl, rfl, hal, hR, hr, how, hap⟩ := hrel
    have HRR := mkHid hR
    have HRD := mkHid hr
    have HOW := mkHid how
    have HAP := mkHid hap
    have HAL := mkHid hal
    obtain ⟨va, vc, HV⟩ := ownsRow_slice how
    subst HV
    have hBw : B ≤ wr.heap.size := by rw [← HB.out]; exact hap.size
    clear hR hr how hap H hal
    obtain ⟨m, HM⟩ : ∃ m, Hid (acc.length = m) := ⟨_, rfl⟩
    have HVN := mkHid (show (.slice va acc.length vc : Value) = .slice va m vc by rw [HM.out])
    rw [HVN.out] at HOW ⊢
    by_cases hlt : k < n
    · obtain ⟨bq, off, x, rfl, hbq, hx, c0⟩ := HI.out.at k (by rw [HN.out]; exact hlt)
      have HX := mkHid (drop_at hx)
      have hne : ¬ bq = b := by
        rcases HAB.out bq rfl with e | e
        · subst e; simp at hx
        · exact e
      have C0 := mkHid ((HAP.out.cell (p := ⟨bq, off + k, none⟩) hbq hne).trans c0)
      obtain ⟨x0, x2⟩ := H2.out x (List.mem_of_getElem? hx)
      have c1 := C0.out
      clear hx c0
      have k0 : (0 : Int) ≤ k := by omega
      have k1 : (k : Int) < n := by omega
      by_cases h0 : x = 0
      · subst h0
        have HRN := mkHid (show R = ⟨(dlD s p (st.drop (k + 1))).e, acc ++ (dlD s p (st.drop (k + 1))).l, (dlD s p (st.drop (k + 1))).p⟩ by have := HRR.out; rw [HX.out, dlD_zero] at this; exact this)
        go_wp2
        go_roundw
        case rel => exact ⟨k + 1, p, acc, _, by omega, by go_num, rfl, by have := HAL.out; omega, HRN.out, HRD.out, by rw [HM.out]; have := HOW.out; rw [HM.out] at this; exact this, HAP.out⟩
        case measure => simp [intOf]; omega
      · obtain ⟨L, HL⟩ : ∃ L : Int, Hid (8 * (s.size : Int) - p = L) := ⟨_, rfl⟩
        have LF := mkHid (left_at b s hs p wr HRD.out L HL.out)
        have DB := mkHid (deltabits_any x)
        obtain ⟨D, HD⟩ : ∃ D : Int, Hid (((dW x : Nat) : Int) = D) := ⟨_, rfl⟩
        rw [HD.out] at DB
        by_cases hs2 : L < D
        · have HF := mkHid (dlD_short (s := s) (p := p) (st := st.drop (k + 1)) h0 (by have := HL.out; have := HD.out; omega))
          have HRN := mkHid (show R = ⟨60, acc ++ [], p⟩ by have := HRR.out; rw [HX.out, HF.out] at this; exact this)
          go_wp2_with fail
          refine (LF.out).mono ?_
          rintro e w1 ⟨rfl, n1, rfl⟩
          go_wp2_with fail
          refine (DB.out _).mono ?_
          rintro e w2 ⟨rfl, rfl⟩
          go_wp2
          go_ret2
          rw [HRN.out]
          exact ⟨.inr ⟨by simp, rfl⟩, HAP.out.drewN n1⟩
        · have hpw : p + dW x ≤ 8 * s.size := by have := HL.out; have := HD.out; omega
          have HF := mkHid (dlD_more (s := s) (p := p) (st := st.drop (k + 1)) h0 hpw)
          have HRN := mkHid (show R = ⟨(dlD s (p + dW x) (st.drop (k + 1))).e, (acc ++ [dV s p x]) ++ (dlD s (p + dW x) (st.drop (k + 1))).l, (dlD s (p + dW x) (st.drop (k + 1))).p⟩ by have := HRR.out; rw [HX.out, HF.out] at this; rw [List.append_assoc]; exact this)
          have GD := mkHid (fun w h => getdelta_any b s hs p x (by omega) hpw w h)
          obtain ⟨y, HY⟩ : ∃ y, Hid (dV s p x = y) := ⟨_, rfl⟩
          rw [HY.out] at GD HRN
          go_wp2_with fail
          refine (LF.out).mono ?_
          rintro e w1 ⟨rfl, n1, rfl⟩
          have R1 := mkHid (drew_rd n1 HRD.out)
          have A1 := mkHid (HAP.out.drewN n1)
          have O1 := mkHid (show (wr.drewN n1).ownsRow B 3 1 (.slice va m vc) acc.length (IC acc) from HOW.out)
          have hB1 : B ≤ (wr.drewN n1).heap.size := hBw
          obtain ⟨w1, HW1⟩ : ∃ w1, Hid (wr.drewN n1 = w1) := ⟨_, rfl⟩
          rw [HW1.out] at R1 A1 O1 hB1 ⊢
          clear HRD HAP HOW hBw LF c1 C0
          go_wp2_with fail
          refine (DB.out _).mono ?_
          rintro e w2 ⟨rfl, rfl⟩
          go_wp2_with fail
          refine (GD.out _ R1.out).mono ?_
          rintro e w3 ⟨rfl, r3, a3⟩
          have R3 := mkHid r3
          have A3 := mkHid (A1.out.trans a3 (fun _ _ h => h))
          have O3 := mkHid (ownsRow_apart O1.out a3 (by intro k hk e; omega))
          have hB3 : B ≤ w3.heap.size := by have := a3.size; omega
          clear r3 a3 R1 A1 O1 hB1
          go_wp2_with (at_builtin; refine wpList_append_own2 _ rfl (.tmp 22) (.tmp 26) 24 rfl B 3 i0 (.int .i64 0) 1 8 Tryz.underlying24 hi0 hz0 hz1 hz2 rfl (by decide) (.slice va m vc) acc.length (IC acc) rfl (O3.out.alloc _) ⟨w3.heap.size, 0, none⟩ 1 1 [.int .i64 y] rfl rfl (cell_one_new _ _ _) (by intro u hu; simp at hu; subst hu; rfl) (by unfold maxLen; have := HAL.out; omega) (by have := HAL.out; omega) (by simp; omega) ?_; intro v4 w4 hown4 hgrow4 _; have OW4 := mkHid hown4; have GR4 := mkHid hgrow4; clear hown4 hgrow4)
          have A4 : Apart (fun j => (Value.slice va m vc).ownBlock = some j) w3 w4 := Apart.grown ((Apart.refl _ w3).alloc _) GR4.out (fun _ _ e => e)
          have LT : ∀ j, (Value.slice va m vc).ownBlock = some j → B ≤ j := fun j e => (O3.out.lt j e).1
          go_roundw
          case rel =>
            refine ⟨k + 1, p + dW x, acc ++ [y], v4, by omega, by go_num, rfl, by rw [List.length_append]; have := HAL.out; simp; omega, HRN.out, R3.out.kept A4 (fun e => by have := LT b e; omega), ?_, A3.out.trans A4 (fun i hi e => by have := LT i e; rw [HB.out] at hi; omega)⟩
            rw [List.length_append, IC_app]; exact OW4.out
          case measure => simp [intOf]; omega
    · obtain rfl : k = n := by omega
      have HRN := mkHid (show R = ⟨0, acc, p⟩ by have := HRR.out; rw [← HN.out, List.drop_length, dlD, List.append_nil] at this; exact this)
      go_wp2
      go_ret2
      rw [HRN.out]
      exact ⟨.inl ⟨rfl, va, vc, by rw [HM.out]; rfl, HRD.out, by rw [HB.out, HM.out]; have := HOW.out; rw [HM.out] at this; exact this⟩, HAP.out⟩
set_option maxRecDepth 100000 in
set_option maxHeartbeats 400000 in
theorem paderr_any (b : Nat) (s : ByteArray) (hs : s.size ≤ 1000000) (p : Nat) (w : World) (h : Rd 143 w b s (some p)) :
    Calls Tryz.prog 65 #[.pointer (some ⟨b, 0, none⟩)] w fun e w' => e = .returned (.int .i64 (padE s p)) ∧ Apart (· = b) w w' := by
  have hp := h.2
  have H := mkHid h
  obtain ⟨L, HL⟩ : ∃ L : Int, Hid (8 * (s.size : Int) - p = L) := ⟨_, rfl⟩
  have LF := mkHid (fun w h => left_at b s hs p w h L HL.out)
  by_cases h1 : 32 ≤ L
  · have HF := mkHid (show padE s p = 91 by unfold padE; rw [if_pos (.inl (by have := HL.out; omega))])
    rw [HF.out]
    clear h hp
    go_enter Tryz.func65, Tryz.ntmps65
    go_wp2_with fail
    refine (LF.out _ H.out).mono ?_
    rintro e w1 ⟨rfl, n1, rfl⟩
    go_wp2
    go_ret
    exact ⟨rfl, (Apart.refl _ _).drewN n1⟩
  · have hl0 : 0 ≤ L := by have := HL.out; omega
    obtain ⟨m, HM⟩ : ∃ m : Nat, Hid (8 * s.size - p = m) := ⟨_, rfl⟩
    have HML := mkHid (show L = m by have := HL.out; have := HM.out; omega)
    have G1 := mkHid (fun w h => get_fit b s hs p L m HML.out (by have := HML.out; omega) (by have := HM.out; omega) w h)
    obtain ⟨y, HY⟩ : ∃ y, Hid (gv s p m = y) := ⟨_, rfl⟩
    rw [HY.out] at G1
    have h1' : L < 32 := by omega
    by_cases h2 : y = 0
    · have HF := mkHid (show padE s p = 0 by unfold padE; rw [HM.out, HY.out, if_neg (by have := HML.out; omega)])
      rw [HF.out]
      subst h2
      clear h hp h1
      go_enter Tryz.func65, Tryz.ntmps65
      go_wp2_with fail
      refine (LF.out _ H.out).mono ?_
      rintro e w1 ⟨rfl, n1, rfl⟩
      have R1 := mkHid (drew_rd n1 H.out)
      have A1 := mkHid ((Apart.refl (· = b) w).drewN n1)
      obtain ⟨w1, HW1⟩ : ∃ w1, Hid (w.drewN n1 = w1) := ⟨_, rfl⟩
      rw [HW1.out] at R1 A1 ⊢
      go_wp2_with fail
      refine (LF.out _ R1.out).mono ?_
      rintro e w2 ⟨rfl, n2, rfl⟩
      have R2 := mkHid (drew_rd n2 R1.out)
      have A2 := mkHid (A1.out.drewN n2)
      obtain ⟨w2, HW2⟩ : ∃ w2, Hid (w1.drewN n2 = w2) := ⟨_, rfl⟩
      rw [HW2.out] at R2 A2 ⊢
      go_wp2_with fail
      refine (G1.out _ R2.out).mono ?_
      rintro e w3 ⟨rfl, r3, a3⟩
      have A3 := mkHid (A2.out.trans a3 (fun _ _ h => h))
      clear r3 a3
      go_wp2
      go_ret
      exact ⟨rfl, A3.out⟩
    · have HF := mkHid (show padE s p = 91 by unfold padE; rw [HM.out, HY.out, if_pos (.inr h2)])
      rw [HF.out]
      have h6 : ((y : Int) != 0) = true := by simp; omega
      clear h hp h1
      go_enter Tryz.func65, Tryz.ntmps65
      go_wp2_with fail
      refine (LF.out _ H.out).mono ?_
      rintro e w1 ⟨rfl, n1, rfl⟩
      have R1 := mkHid (drew_rd n1 H.out)
      have A1 := mkHid ((Apart.refl (· = b) w).drewN n1)
      obtain ⟨w1, HW1⟩ : ∃ w1, Hid (w.drewN n1 = w1) := ⟨_, rfl⟩
      rw [HW1.out] at R1 A1 ⊢
      go_wp2_with fail
      refine (LF.out _ R1.out).mono ?_
      rintro e w2 ⟨rfl, n2, rfl⟩
      have R2 := mkHid (drew_rd n2 R1.out)
      have A2 := mkHid (A1.out.drewN n2)
      obtain ⟨w2, HW2⟩ : ∃ w2, Hid (w1.drewN n2 = w2) := ⟨_, rfl⟩
      rw [HW2.out] at R2 A2 ⊢
      go_wp2_with fail
      refine (G1.out _ R2.out).mono ?_
      rintro e w3 ⟨rfl, r3, a3⟩
      have A3 := mkHid (A2.out.trans a3 (fun _ _ h => h))
      clear r3 a3
      go_wp2
      go_ret
      exact ⟨rfl, A3.out⟩
end Go.Proofs.YtdhbakknplnnkaaGreat.Tw
namespace Go.Proofs.YtdhbakknplnnkaaGreat.Tw
open Go.RowKit

/-- A report in block bx. -/
def Td (w : World) (bx : Nat) (v0 v1 v2 v3 v4 v5 v6 : Value) : Prop := w.heap[bx]? = some (.cells #[v0, v1, v2, v3, v4, v5, v6] 63 (0, 0))
section
variable {w w' : World} {bx : Nat} {v0 v1 v2 v3 v4 v5 v6 : Value}
theorem Td.kept {X : Nat → Prop} (h : Td w bx v0 v1 v2 v3 v4 v5 v6) (ha : Apart X w w') (hx : ¬ X bx) : Td w' bx v0 v1 v2 v3 v4 v5 v6 := ha.heap h hx
theorem Td.c (h : Td w bx v0 v1 v2 v3 v4 v5 v6) : w.cell? ⟨bx, 0, none⟩ = some v0 ∧ w.cell? ⟨bx, 1, none⟩ = some v1 ∧ w.cell? ⟨bx, 2, none⟩ = some v2 ∧ w.cell? ⟨bx, 3, none⟩ = some v3 ∧ w.cell? ⟨bx, 4, none⟩ = some v4 ∧ w.cell? ⟨bx, 5, none⟩ = some v5 ∧ w.cell? ⟨bx, 6, none⟩ = some v6 := cells7 h
theorem Td.f (h : Td w bx v0 v1 v2 v3 v4 v5 v6) : w.frozen? ⟨bx, 0, none⟩ = false ∧ w.frozen? ⟨bx, 1, none⟩ = false ∧ w.frozen? ⟨bx, 2, none⟩ = false ∧ w.frozen? ⟨bx, 3, none⟩ = false ∧ w.frozen? ⟨bx, 4, none⟩ = false ∧ w.frozen? ⟨bx, 5, none⟩ = false ∧ w.frozen? ⟨bx, 6, none⟩ = false := frozen7 h
theorem Td.set0 (h : Td w bx v0 v1 v2 v3 v4 v5 v6) (x : Value) : Td (w.setCell ⟨bx, 0, none⟩ x) bx x v1 v2 v3 v4 v5 v6 := by unfold Td; rw [heap_setCell_same _ bx 0 _ 63 _ h]; rfl
theorem Td.set1 (h : Td w bx v0 v1 v2 v3 v4 v5 v6) (x : Value) : Td (w.setCell ⟨bx, 1, none⟩ x) bx v0 x v2 v3 v4 v5 v6 := by unfold Td; rw [heap_setCell_same _ bx 1 _ 63 _ h]; rfl
theorem Td.set2 (h : Td w bx v0 v1 v2 v3 v4 v5 v6) (x : Value) : Td (w.setCell ⟨bx, 2, none⟩ x) bx v0 v1 x v3 v4 v5 v6 := by unfold Td; rw [heap_setCell_same _ bx 2 _ 63 _ h]; rfl
theorem Td.set3 (h : Td w bx v0 v1 v2 v3 v4 v5 v6) (x : Value) : Td (w.setCell ⟨bx, 3, none⟩ x) bx v0 v1 v2 x v4 v5 v6 := by unfold Td; rw [heap_setCell_same _ bx 3 _ 63 _ h]; rfl
theorem Td.set4 (h : Td w bx v0 v1 v2 v3 v4 v5 v6) (x : Value) : Td (w.setCell ⟨bx, 4, none⟩ x) bx v0 v1 v2 v3 x v5 v6 := by unfold Td; rw [heap_setCell_same _ bx 4 _ 63 _ h]; rfl
theorem Td.set5 (h : Td w bx v0 v1 v2 v3 v4 v5 v6) (x : Value) : Td (w.setCell ⟨bx, 5, none⟩ x) bx v0 v1 v2 v3 v4 x v6 := by unfold Td; rw [heap_setCell_same _ bx 5 _ 63 _ h]; rfl
theorem Td.set6 (h : Td w bx v0 v1 v2 v3 v4 v5 v6) (x : Value) : Td (w.setCell ⟨bx, 6, none⟩ x) bx v0 v1 v2 v3 v4 v5 x := by unfold Td; rw [heap_setCell_same _ bx 6 _ 63 _ h]; rfl
end
def put7 (w : World) (bx : Nat) (v0 v1 v2 v3 v4 v5 v6 : Value) : World := ((((((w.setCell ⟨bx, 0, none⟩ v0).setCell ⟨bx, 1, none⟩ v1).setCell ⟨bx, 2, none⟩ v2).setCell ⟨bx, 3, none⟩ v3).setCell ⟨bx, 4, none⟩ v4).setCell ⟨bx, 5, none⟩ v5).setCell ⟨bx, 6, none⟩ v6
theorem put7_is {w : World} {bx : Nat} {u0 u1 u2 u3 u4 u5 u6 : Value} (h : Td w bx u0 u1 u2 u3 u4 u5 u6) (v0 v1 v2 v3 v4 v5 v6 : Value) : Td (put7 w bx v0 v1 v2 v3 v4 v5 v6) bx v0 v1 v2 v3 v4 v5 v6 :=
  ((((((h.set0 v0).set1 v1).set2 v2).set3 v3).set4 v4).set5 v5).set6 v6
theorem put7_ap (w : World) (bx : Nat) (v0 v1 v2 v3 v4 v5 v6 : Value) : Apart (· = bx) w (put7 w bx v0 v1 v2 v3 v4 v5 v6) :=
  ((((((ap_set w bx 0 v0).trans (ap_set _ bx 1 v1) (fun _ _ h => h)).trans (ap_set _ bx 2 v2) (fun _ _ h => h)).trans (ap_set _ bx 3 v3) (fun _ _ h => h)).trans (ap_set _ bx 4 v4) (fun _ _ h => h)).trans (ap_set _ bx 5 v5) (fun _ _ h => h)).trans (ap_set _ bx 6 v6) (fun _ _ h => h)
/-- A report as a value, of any lists. -/
def tv (sd md fi ba co : Int) (v5 v6 : Value) : Value := .agg #[.int .u32 sd, .int .u32 md, .int .i64 fi, .int .i64 ba, .int .i64 co, v5, v6]
theorem res35 {W : World} {bx : Nat} {sd md fi ba co : Int} {a a' : Option Addr} {n c n' c' : Nat} (tmps : Array Value) (h2 : tmps.getD 2 undef = .pointer (some ⟨bx, 0, none⟩)) (hd : Td W bx (.int .u32 sd) (.int .u32 md) (.int .i64 fi) (.int .i64 ba) (.int .i64 co) (.slice a n c) (.slice a' n' c')) :
    (results Tryz.f61 tmps).run Tryz.prog W = .ok (.tuple #[tv sd md fi ba co (.slice a n c) (.slice a' n' c'), tmps.getD 3 undef]) W := by
  obtain ⟨c0, c1, c2, c3, c4, c5, c6⟩ := hd.c
  clear hd
  have h2' : tmps[2]?.getD undef = .pointer (some ⟨bx, 0, none⟩) := by rw [← h2]; simp
  unfold tv
  simp [results, Tryz.results61, h2', c0, c1, c2, c3, c4, c5, c6, go_sem]
theorem res16 {W : World} {bx : Nat} {sd md fi ba co : Int} {a a' : Option Addr} {n c n' c' : Nat} (tmps : Array Value) (h2 : tmps.getD 2 undef = .pointer (some ⟨bx, 0, none⟩)) (hd : Td W bx (.int .u32 sd) (.int .u32 md) (.int .i64 fi) (.int .i64 ba) (.int .i64 co) (.slice a n c) (.slice a' n' c')) :
    (results Tryz.f40 tmps).run Tryz.prog W = .ok (.tuple #[tv sd md fi ba co (.slice a n c) (.slice a' n' c'), tmps.getD 3 undef]) W := by
  obtain ⟨c0, c1, c2, c3, c4, c5, c6⟩ := hd.c
  clear hd
  have h2' : tmps[2]?.getD undef = .pointer (some ⟨bx, 0, none⟩) := by rw [← h2]; simp
  unfold tv
  simp [results, Tryz.results40, h2', c0, c1, c2, c3, c4, c5, c6, go_sem]
/-- Where a function that makes a report in block q out of a reader in block b stands. -/
structure Hw (w wr : World) (b q : Nat) (s : ByteArray) (p : Nat) (v0 v1 v2 v3 v4 v5 v6 : Value) : Prop where
  rd : Rd 143 wr b s (some p)
  t : Td wr q v0 v1 v2 v3 v4 v5 v6
  a : Apart (· = b) w wr
  z : b < q ∧ w.heap.size ≤ q
section
variable {w wr w2 : World} {b q p p2 : Nat} {s : ByteArray} {v0 v1 v2 v3 v4 v5 v6 : Value}
theorem Hw.get (h : Hw w wr b q s p v0 v1 v2 v3 v4 v5 v6) (r : Rd 143 w2 b s (some p2)) (a : Apart (· = b) wr w2) : Hw w w2 b q s p2 v0 v1 v2 v3 v4 v5 v6 :=
  ⟨r, h.t.kept a (by have := h.z; omega), h.a.trans a (fun _ _ h => h), h.z⟩
theorem Hw.put (h : Hw w wr b q s p v0 v1 v2 v3 v4 v5 v6) {u0 u1 u2 u3 u4 u5 u6 : Value} (a : Apart (· = q) wr w2) (t : Td w2 q u0 u1 u2 u3 u4 u5 u6) : Hw w w2 b q s p u0 u1 u2 u3 u4 u5 u6 :=
  ⟨h.rd.kept a (by have := h.z; omega), t, h.a.trans a (fun i hi e => by have := h.z; omega), h.z⟩
end
set_option maxRecDepth 100000 in
set_option maxHeartbeats 1000000 in
theorem gethead_any (b : Nat) (s : ByteArray) (hs : s.size ≤ 1000000) (h16 : 16 ≤ s.size) (w : World) (h : Rd 143 w b s (some 0)) :
    Calls Tryz.prog 61 #[.pointer (some ⟨b, 0, none⟩)] w fun e w' => e = .returned (.tuple #[tv (gv s 0 32) (gv s 32 32) (gv s 64 16) (sg (gv s 96 24) 24) (gv s 120 8) (.slice none 0 0) (.slice none 0 0), .int .i64 (nS s : Int)]) ∧ Rd 143 w' b s (some 128) ∧ Apart (· = b) w w' := by
  have hbl := h.heap
  have E := (Apart.refl (fun _ => False) w).alloc (.cells #[.int .u32 0, .int .u32 0, .int .i64 0, .int .i64 0, .int .i64 0, .slice none 0 0, .slice none 0 0] 63)
  have H0 := mkHid (show Hw w (w.alloc (.cells #[.int .u32 0, .int .u32 0, .int .i64 0, .int .i64 0, .int .i64 0, .slice none 0 0, .slice none 0 0] 63)) b w.heap.size s 0 (.int .u32 0) (.int .u32 0) (.int .i64 0) (.int .i64 0) (.int .i64 0) (.slice none 0 0) (.slice none 0 0) from
    ⟨h.kept E (fun h => h), heap_alloc_new _ _, E.mono (fun _ _ h => h.elim), hbl, Nat.le_refl _⟩)
  have G0 := mkHid (fun w h => get_fit b s hs 0 32 32 rfl (by omega) (by omega) w h)
  have G1 := mkHid (fun w h => get_fit b s hs 32 32 32 rfl (by omega) (by omega) w h)
  have G2 := mkHid (fun w h => get_fit b s hs 64 16 16 rfl (by omega) (by omega) w h)
  have G3 := mkHid (fun w h => get_fit b s hs 80 16 16 rfl (by omega) (by omega) w h)
  have G4 := mkHid (fun w h => get_fit b s hs 96 24 24 rfl (by omega) (by omega) w h)
  have G5 := mkHid (fun w h => get_fit b s hs 120 8 8 rfl (by omega) (by omega) w h)
  have l2 := gv_lt s 64 16
  have l3 := gv_lt s 80 16
  have l4 := gv_lt s 96 24
  have l5 := gv_lt s 120 8
  unfold nS
  generalize gv s 0 32 = g0 at *
  generalize gv s 32 32 = g1 at *
  generalize gv s 64 16 = g2 at *
  generalize gv s 80 16 = g3 at *
  generalize gv s 96 24 = g4 at *
  generalize gv s 120 8 = g5 at *
  have SG := mkHid (signed24_any g4 (by simpa using l4))
  generalize sg g4 24 = g4s at *
  have m2 : (g2 : Int) < 65536 := by simp at l2; omega
  have m3 : (g3 : Int) < 65536 := by simp at l3; omega
  have m5 : (g5 : Int) < 256 := by simp at l5; omega
  obtain ⟨q, HQ⟩ : ∃ q, Hid (w.heap.size = q) := ⟨_, rfl⟩
  obtain ⟨W, HW⟩ : ∃ W, Hid (w.alloc (.cells #[.int .u32 0, .int .u32 0, .int .i64 0, .int .i64 0, .int .i64 0, .slice none 0 0, .slice none 0 0] 63) = W) := ⟨_, rfl⟩
  rw [HQ.out, HW.out] at H0
  clear h E l2 l3 l4 l5
  go_enter Tryz.func61, Tryz.ntmps61
  go_wp2_with fail
  rw [HW.out, HQ.out]
  refine (G0.out _ H0.out.rd).mono ?_
  rintro e w1 ⟨rfl, r1, a1⟩
  have D := mkHid (H0.out.get r1 a1)
  have D1 := mkHid (D.out.put (ap_set _ q 0 (.int .u32 (g0 : Int))) (D.out.t.set0 _))
  obtain ⟨c0, c1, c2, c3, c4, c5, c6⟩ := D.out.t.c
  obtain ⟨f0, f1, f2, f3, f4, f5, f6⟩ := D.out.t.f
  clear r1 a1 D H0 G0
  go_wp2_with fail
  refine (G1.out _ D1.out.rd).mono ?_
  rintro e w2 ⟨rfl, r2, a2⟩
  have D := mkHid (D1.out.get r2 a2)
  have D2 := mkHid (D.out.put (ap_set _ q 1 (.int .u32 (g1 : Int))) (D.out.t.set1 _))
  clear c0 c1 c2 c3 c4 c5 c6 f0 f1 f2 f3 f4 f5 f6
  obtain ⟨c0, c1, c2, c3, c4, c5, c6⟩ := D.out.t.c
  obtain ⟨f0, f1, f2, f3, f4, f5, f6⟩ := D.out.t.f
  clear r2 a2 D D1 G1
  go_wp2_with fail
  refine (G2.out _ D2.out.rd).mono ?_
  rintro e w3 ⟨rfl, r3, a3⟩
  have D := mkHid (D2.out.get r3 a3)
  have D3 := mkHid (D.out.put (ap_set _ q 2 (.int .i64 (g2 : Int))) (D.out.t.set2 _))
  clear c0 c1 c2 c3 c4 c5 c6 f0 f1 f2 f3 f4 f5 f6
  obtain ⟨c0, c1, c2, c3, c4, c5, c6⟩ := D.out.t.c
  obtain ⟨f0, f1, f2, f3, f4, f5, f6⟩ := D.out.t.f
  clear r3 a3 D D2 G2
  go_wp2_with fail
  refine (G3.out _ D3.out.rd).mono ?_
  rintro e w4 ⟨rfl, r4, a4⟩
  have D4 := mkHid (D3.out.get r4 a4)
  clear c0 c1 c2 c3 c4 c5 c6 f0 f1 f2 f3 f4 f5 f6
  obtain ⟨c0, c1, c2, c3, c4, c5, c6⟩ := D4.out.t.c
  obtain ⟨f0, f1, f2, f3, f4, f5, f6⟩ := D4.out.t.f
  clear r4 a4 D3 G3
  go_wp2_with fail
  refine (G4.out _ D4.out.rd).mono ?_
  rintro e w5 ⟨rfl, r5, a5⟩
  have D := mkHid (D4.out.get r5 a5)
  have D5 := mkHid (D.out.put (ap_set _ q 3 (.int .i64 g4s)) (D.out.t.set3 _))
  clear c0 c1 c2 c3 c4 c5 c6 f0 f1 f2 f3 f4 f5 f6
  obtain ⟨c0, c1, c2, c3, c4, c5, c6⟩ := D.out.t.c
  obtain ⟨f0, f1, f2, f3, f4, f5, f6⟩ := D.out.t.f
  clear r5 a5 D D4 G4
  go_wp2_with fail
  refine (SG.out _).mono ?_
  rintro e w6 ⟨rfl, rfl⟩
  go_wp2_with fail
  refine (G5.out _ D5.out.rd).mono ?_
  rintro e w7 ⟨rfl, r7, a7⟩
  have D := mkHid (D5.out.get r7 a7)
  have D7 := mkHid (D.out.put (ap_set _ q 4 (.int .i64 (g5 : Int))) (D.out.t.set4 _))
  clear c0 c1 c2 c3 c4 c5 c6 f0 f1 f2 f3 f4 f5 f6
  obtain ⟨c0, c1, c2, c3, c4, c5, c6⟩ := D.out.t.c
  obtain ⟨f0, f1, f2, f3, f4, f5, f6⟩ := D.out.t.f
  clear r7 a7 D D5 G5
  go_wp2
  have dd := put7_is D7.out.t (.int .u32 (g0 : Int)) (.int .u32 (g1 : Int)) (.int .i64 (g2 : Int)) (.int .i64 g4s) (.int .i64 (g5 : Int)) (.slice none 0 0) (.slice none 0 0)
  have ap := put7_ap (w7.setCell ⟨q, 4, none⟩ (.int .i64 (g5 : Int))) q (.int .u32 (g0 : Int)) (.int .u32 (g1 : Int)) (.int .i64 (g2 : Int)) (.int .i64 g4s) (.int .i64 (g5 : Int)) (.slice none 0 0) (.slice none 0 0)
  have D8 := D7.out.put ap dd
  exact bodyPost_ret (res35 _ rfl dd) rfl ⟨rfl, D8.rd, D8.a⟩
/-- What Decode leaves behind. -/
def DecPost (s : ByteArray) (w : World) (e : Ending) (w' : World) : Prop :=
  (∃ a c a' c', e = .returned (.tuple #[rv (decR s) a (decR s).st.length c a' (decR s).dl.length c', .int .i64 (decE s)]) ∧ IA w'.heap.size w' a c (decR s).st ∧ IA w'.heap.size w' a' c' (decR s).dl) ∧ Below w.heap.size w w'
theorem decR_none {s : ByteArray} (h : ¬ decE s = 0) : decR s = Rp.none := by unfold decR; rw [if_neg h]
theorem dec_none {s : ByteArray} {w W : World} {e : Ending} (h : ¬ decE s = 0) (he : e = .returned (.tuple #[tv 0 0 0 0 0 (.slice none 0 0) (.slice none 0 0), .int .i64 (decE s)])) (hb : Below w.heap.size w W) : DecPost s w e W := by
  have h1 := decR_none h
  refine ⟨⟨none, 0, none, 0, ?_, by rw [h1]; exact IA.nil _ _ _ _ (Nat.zero_le _), by rw [h1]; exact IA.nil _ _ _ _ (Nat.zero_le _)⟩, hb⟩
  rw [he, h1]; rfl
theorem decE_len {s : ByteArray} (h : ¬ lenE s.size = 0) : decE s = lenE s.size := by unfold decE; rw [if_pos h]
theorem decE_many {s : ByteArray} (h0 : lenE s.size = 0) (h : ¬ manyE (nS s) = 0) : decE s = manyE (nS s) := by unfold decE; rw [if_neg (fun f => f h0), if_pos h]
theorem decE_st {s : ByteArray} (h0 : lenE s.size = 0) (h1 : manyE (nS s) = 0) (h : ¬ (stR s).e = 0) : decE s = (stR s).e := by unfold decE; rw [if_neg (fun f => f h0), if_neg (fun f => f h1), if_pos h]
theorem decE_dl {s : ByteArray} (h0 : lenE s.size = 0) (h1 : manyE (nS s) = 0) (h2 : (stR s).e = 0) (h : ¬ (dlR s).e = 0) : decE s = (dlR s).e := by unfold decE; rw [if_neg (fun f => f h0), if_neg (fun f => f h1), if_neg (fun f => f h2), if_pos h]
theorem decE_pad {s : ByteArray} (h0 : lenE s.size = 0) (h1 : manyE (nS s) = 0) (h2 : (stR s).e = 0) (h3 : (dlR s).e = 0) : decE s = padE s (dlR s).p := by unfold decE; rw [if_neg (fun f => f h0), if_neg (fun f => f h1), if_neg (fun f => f h2), if_neg (fun f => f h3)]
theorem lenE_zero {n : Nat} (h : lenE n = 0) : n ≤ 65536 ∧ n % 4 = 0 ∧ 16 ≤ n := by
  unfold lenE at h
  split at h
  · cases h
  · split at h
    · cases h
    · split at h
      · cases h
      · omega
theorem manyE_zero {n : Nat} (h : manyE n = 0) : 0 < n ∧ n ≤ 4096 := by
  unfold manyE at h
  split at h
  · cases h
  · split at h
    · cases h
    · omega
/-- Where Decode stands: its result in q, the reader in b, the report in tb. -/
structure Sw (w wr : World) (q b tb : Nat) (s : ByteArray) (p : Nat) (v0 v1 v2 v3 v4 v5 v6 : Value) : Prop where
  rd : Rd 143 wr b s (some p)
  r : Td wr q (.int .u32 0) (.int .u32 0) (.int .i64 0) (.int .i64 0) (.int .i64 0) (.slice none 0 0) (.slice none 0 0)
  t : Td wr tb v0 v1 v2 v3 v4 v5 v6
  a : Apart (fun _ => False) w wr
  z : w.heap.size ≤ q ∧ q < b ∧ b < tb
section
variable {w wr w2 : World} {q b tb p p2 : Nat} {s : ByteArray} {v0 v1 v2 v3 v4 v5 v6 : Value}
theorem Sw.get (h : Sw w wr q b tb s p v0 v1 v2 v3 v4 v5 v6) (a : Apart (· = b) wr w2) (r : Rd 143 w2 b s (some p2)) : Sw w w2 q b tb s p2 v0 v1 v2 v3 v4 v5 v6 :=
  ⟨r, h.r.kept a (by have := h.z; omega), h.t.kept a (by have := h.z; omega), h.a.trans a (fun i hi e => by have := h.z; omega), h.z⟩
theorem Sw.put (h : Sw w wr q b tb s p v0 v1 v2 v3 v4 v5 v6) {u0 u1 u2 u3 u4 u5 u6 : Value} (a : Apart (· = tb) wr w2) (t : Td w2 tb u0 u1 u2 u3 u4 u5 u6) : Sw w w2 q b tb s p u0 u1 u2 u3 u4 u5 u6 :=
  ⟨h.rd.kept a (by have := h.z; omega), h.r.kept a (by have := h.z; omega), t, h.a.trans a (fun i hi e => by have := h.z; omega), h.z⟩
end
/-- What is left of Sw where the reader isn't wanted any more. -/
structure Bw (w wr : World) (q : Nat) : Prop where
  r : Td wr q (.int .u32 0) (.int .u32 0) (.int .i64 0) (.int .i64 0) (.int .i64 0) (.slice none 0 0) (.slice none 0 0)
  a : Apart (fun _ => False) w wr
  z : w.heap.size ≤ q
theorem Sw.bad {w wr w2 : World} {q b tb p : Nat} {s : ByteArray} {v0 v1 v2 v3 v4 v5 v6 : Value} (h : Sw w wr q b tb s p v0 v1 v2 v3 v4 v5 v6) (a : Apart (· = b) wr w2) (v : Value) (i : Nat) : Bw w (w2.setCell ⟨tb, i, none⟩ v) q :=
  ⟨(h.r.kept a (by have := h.z; omega)).kept (ap_set w2 tb i v) (by have := h.z; omega), (h.a.trans a (fun i hi e => by have := h.z; omega)).trans (ap_set w2 tb i v) (fun i hi e => by have := h.z; omega), h.z.1⟩
theorem Sw.badd {w wr w2 : World} {q b tb p : Nat} {s : ByteArray} {v0 v1 v2 v3 v4 v5 v6 : Value} (h : Sw w wr q b tb s p v0 v1 v2 v3 v4 v5 v6) (a : Apart (· = b) wr w2) : Bw w w2 q :=
  ⟨h.r.kept a (by have := h.z; omega), h.a.trans a (fun i hi e => by have := h.z; omega), h.z.1⟩
/-- The end where something is wrong. -/
theorem Bw.no {w wr : World} {q : Nat} {s : ByteArray} (h : Bw w wr q) {E : Int} (hE : decE s = E) (h0 : ¬ E = 0) (tmps : Array Value) (h2 : tmps.getD 2 undef = .pointer (some ⟨q, 0, none⟩)) (h3 : tmps.getD 3 undef = .int .i64 E) (d : List Deferred) (hd : d = []) :
    bodyPost Tryz.prog Tryz.f40 (DecPost s w) Exit.ret { tmps := tmps, defers := d } (put7 wr q (.int .u32 0) (.int .u32 0) (.int .i64 0) (.int .i64 0) (.int .i64 0) (.slice none 0 0) (.slice none 0 0)) := by
  subst hd
  refine bodyPost_ret (res16 _ h2 (put7_is h.r _ _ _ _ _ _ _)) rfl (dec_none (by rw [hE]; exact h0) (by rw [hE, h3]) ?_)
  exact (h.a.trans (put7_ap wr q _ _ _ _ _ _ _) (fun i hi e => by have := h.z; omega)).belowZ
end Go.Proofs.YtdhbakknplnnkaaGreat.Tw
namespace Go.Proofs.YtdhbakknplnnkaaGreat.Tw
open Go.RowKit

/-- A list of one's own beside a block that lies below it. -/
theorem own_set {w : World} {base : Nat} {v : Value} {n : Nat} {xs : List Value} (h : w.ownsRow base 3 1 v n xs) (tb i : Nat) (hb : tb < base) (u : Value) : (w.setCell ⟨tb, i, none⟩ u).ownsRow base 3 1 v n xs :=
  ownsRow_apart h (ap_set w tb i u) (by intro k hk e; omega)
set_option maxRecDepth 100000 in
set_option maxHeartbeats 2000000 in
theorem dec_any (s : ByteArray) (hs : s.size ≤ 1000000) (w : World) : Calls Tryz.prog 40 #[.string s] w (DecPost s w) := by
  have N0 := mkHid (show Td (w.alloc (.cells #[.int .u32 0, .int .u32 0, .int .i64 0, .int .i64 0, .int .i64 0, .slice none 0 0, .slice none 0 0] 63)) w.heap.size (.int .u32 0) (.int .u32 0) (.int .i64 0) (.int .i64 0) (.int .i64 0) (.slice none 0 0) (.slice none 0 0) from heap_alloc_new _ _)
  have A0 := mkHid ((Apart.refl (fun _ => False) w).alloc (.cells #[.int .u32 0, .int .u32 0, .int .i64 0, .int .i64 0, .int .i64 0, .slice none 0 0, .slice none 0 0] 63))
  have Z0 := mkHid (show (w.alloc (.cells #[.int .u32 0, .int .u32 0, .int .i64 0, .int .i64 0, .int .i64 0, .slice none 0 0, .slice none 0 0] 63)).heap.size = w.heap.size + 1 by simp)
  obtain ⟨q, HQ⟩ : ∃ q, Hid (w.heap.size = q) := ⟨_, rfl⟩
  obtain ⟨W, HW⟩ : ∃ W, Hid (w.alloc (.cells #[.int .u32 0, .int .u32 0, .int .i64 0, .int .i64 0, .int .i64 0, .slice none 0 0, .slice none 0 0] 63) = W) := ⟨_, rfl⟩
  rw [HQ.out, HW.out] at N0 Z0
  rw [HW.out] at A0
  have HS := mkHid hs
  have hs' : (s.size : Int) ≤ 9223372036854775807 := by omega
  have LE := mkHid (lenerr_any s.size hs')
  obtain ⟨E, HE⟩ : ∃ E, Hid (lenE s.size = E) := ⟨_, rfl⟩
  rw [HE.out] at LE
  have BW0 := mkHid (show Bw w W q from ⟨N0.out, A0.out, by rw [HQ.out]; exact Nat.le_refl _⟩)
  clear hs
  by_cases hE : E = 0
  · subst hE
    have HEL := mkHid (lenE_zero HE.out)
    go_enter Tryz.func40, Tryz.ntmps40
    go_wp2_with fail
    rw [HW.out, HQ.out]
    refine (LE.out _).mono ?_
    rintro e w1 ⟨rfl, rfl⟩
    go_wp2_with fail
    refine (read_any s _).mono ?_
    rw [Z0.out]
    rintro e w2 ⟨rfl, r2, a2, z2⟩
    have R2 := mkHid r2
    have N2 := mkHid (N0.out.kept a2 (fun h => h))
    have A2 := mkHid (A0.out.zz a2)
    clear r2 a2 z2 N0 A0 BW0
    obtain ⟨b, HBB⟩ : ∃ b, Hid (q + 1 = b) := ⟨_, rfl⟩
    rw [HBB.out] at R2 ⊢
    have GH := mkHid (gethead_any b s HS.out HEL.out.2.2 w2 R2.out)
    obtain ⟨sd, HSD⟩ : ∃ x : Int, Hid ((gv s 0 32 : Int) = x) := ⟨_, rfl⟩
    obtain ⟨md, HMD⟩ : ∃ x : Int, Hid ((gv s 32 32 : Int) = x) := ⟨_, rfl⟩
    obtain ⟨fi, HFI⟩ : ∃ x : Int, Hid ((gv s 64 16 : Int) = x) := ⟨_, rfl⟩
    obtain ⟨ba, HBA⟩ : ∃ x : Int, Hid (sg (gv s 96 24) 24 = x) := ⟨_, rfl⟩
    obtain ⟨co, HCO⟩ : ∃ x : Int, Hid ((gv s 120 8 : Int) = x) := ⟨_, rfl⟩
    rw [HSD.out, HMD.out, HFI.out, HBA.out, HCO.out] at GH
    obtain ⟨n, HNN⟩ : ∃ n, Hid (nS s = n) := ⟨_, rfl⟩
    rw [HNN.out] at GH
    unfold tv at GH
    go_wp2_with fail
    refine (GH.out).mono ?_
    rintro e w3 ⟨rfl, r3, a3⟩
    have hbl3 := r3.heap
    have AL := mkHid ((Apart.refl (fun _ => False) w3).alloc (.cells #[.int .u32 sd, .int .u32 md, .int .i64 fi, .int .i64 ba, .int .i64 co, .slice none 0 0, .slice none 0 0] 63))
    have S3 := mkHid (show Sw w (w3.alloc (.cells #[.int .u32 sd, .int .u32 md, .int .i64 fi, .int .i64 ba, .int .i64 co, .slice none 0 0, .slice none 0 0] 63)) q b w3.heap.size s 128 (.int .u32 sd) (.int .u32 md) (.int .i64 fi) (.int .i64 ba) (.int .i64 co) (.slice none 0 0) (.slice none 0 0) from
      ⟨r3.kept AL.out (fun h => h), (N2.out.kept a3 (by have := HBB.out; omega)).kept AL.out (fun h => h), heap_alloc_new _ _, (A2.out.trans a3 (fun i hi e => by have := HBB.out; rw [HQ.out] at hi; omega)).zz AL.out, by rw [HQ.out]; exact Nat.le_refl _, by have := HBB.out; omega, hbl3⟩)
    have Z3 := mkHid (show (w3.alloc (.cells #[.int .u32 sd, .int .u32 md, .int .i64 fi, .int .i64 ba, .int .i64 co, .slice none 0 0, .slice none 0 0] 63)).heap.size = w3.heap.size + 1 by simp)
    obtain ⟨tb, HTB⟩ : ∃ tb, Hid (w3.heap.size = tb) := ⟨_, rfl⟩
    obtain ⟨W3, HW3⟩ : ∃ W3, Hid (w3.alloc (.cells #[.int .u32 sd, .int .u32 md, .int .i64 fi, .int .i64 ba, .int .i64 co, .slice none 0 0, .slice none 0 0] 63) = W3) := ⟨_, rfl⟩
    rw [HTB.out, HW3.out] at S3 Z3
    clear r3 a3 hbl3 AL GH R2 N2 A2
    have ME := mkHid (manyerr_any n)
    obtain ⟨M, HM⟩ : ∃ M, Hid (manyE n = M) := ⟨_, rfl⟩
    rw [HM.out] at ME
    go_wp2_with fail
    rw [HW3.out, HTB.out]
    refine (ME.out _).mono ?_
    rintro e w4 ⟨rfl, rfl⟩
    by_cases hM : M = 0
    · subst hM
      have HME := mkHid (manyE_zero HM.out)
      have HM0 := mkHid (show manyE (nS s) = 0 by rw [HNN.out]; exact HM.out)
      have GS := mkHid (getstatus_any b s HS.out n HME.out.2 128 _ S3.out.rd)
      have HSR := mkHid (show stD s n 128 n = stR s by unfold stR; rw [HNN.out])
      rw [HSR.out] at GS
      unfold StPost at GS
      go_wp2_with fail
      refine (GS.out).mono ?_
      rintro e w5 ⟨(⟨he, a, c, rfl, r5, o5⟩ | ⟨he, rfl⟩), a5⟩
      · have HE5 := mkHid he
        have D5 := mkHid (S3.out.get a5 r5)
        have HL5 := mkHid (show (stR s).l.length = n ∧ ∀ x ∈ (stR s).l, 0 ≤ x ∧ x ≤ 2 by rw [← HSR.out] at he ⊢; exact stD_good s n 128 n (Nat.le_refl _) he)
        obtain ⟨c0, c1, c2, c3, c4, c5, c6⟩ := D5.out.t.c
        obtain ⟨f0, f1, f2, f3, f4, f5, f6⟩ := D5.out.t.f
        have D6 := mkHid (D5.out.put (ap_set w5 tb 5 (.slice a (stR s).l.length c)) (D5.out.t.set5 (.slice a (stR s).l.length c)))
        have O6 := mkHid (own_set o5 tb 5 (by rw [Z3.out]; omega) (.slice a (stR s).l.length c))
        rw [HL5.out.1, Z3.out] at O6
        rw [HL5.out.1] at D6 ⊢
        have HLT : tb + 1 ≤ (w5.setCell ⟨tb, 5, none⟩ (.slice a n c)).heap.size := by have := a5.size; simp; have := Z3.out; omega
        obtain ⟨aa, cc, hv, hia⟩ := own_ia O6.out
        rw [HL5.out.1] at hv
        simp only [Value.slice.injEq] at hv
        obtain ⟨rfl, _, rfl⟩ := hv
        have HIA := mkHid hia
        have GD := mkHid (getdeltas_any b s HS.out a c (stR s).l HL5.out.2 (by rw [HL5.out.1]; exact HME.out.2) (stR s).p _ D6.out.rd HIA.out (fun k hk => by
          right
          rw [HL5.out.1] at hk
          have := (O6.out.lt k hk).1
          have := D6.out.z
          omega))
        have HDR := mkHid (show dlD s (stR s).p (stR s).l = dlR s from rfl)
        rw [HDR.out, HL5.out.1] at GD
        clear he r5 o5 a5 GS S3 hia
        unfold StPost at GD
        go_wp2_with fail
        refine (GD.out).mono ?_
        rintro e w7 ⟨(⟨he, a', c', rfl, r7, o7⟩ | ⟨he, rfl⟩), a7⟩
        · have HE7 := mkHid he
          have D7 := mkHid (D6.out.get a7 r7)
          have hz7 := a7.size
          have O7 := mkHid (ownsRow_apart O6.out a7 (by intro k hk e; have := D6.out.z; omega))
          clear c0 c1 c2 c3 c4 c5 c6 f0 f1 f2 f3 f4 f5 f6
          obtain ⟨c0, c1, c2, c3, c4, c5, c6⟩ := D7.out.t.c
          obtain ⟨f0, f1, f2, f3, f4, f5, f6⟩ := D7.out.t.f
          obtain ⟨dl, HDL⟩ : ∃ dl, Hid ((dlR s).l = dl) := ⟨_, rfl⟩
          rw [HDL.out] at o7
          obtain ⟨m, HMM⟩ : ∃ m, Hid (dl.length = m) := ⟨_, rfl⟩
          have D8 := mkHid (D7.out.put (ap_set w7 tb 6 (.slice a' m c')) (D7.out.t.set6 (.slice a' m c')))
          have O8 := mkHid (own_set O7.out tb 6 (by omega) (.slice a' m c'))
          have P8 := mkHid (own_set o7 tb 6 (by omega) (.slice a' m c'))
          rw [HMM.out] at P8
          rw [HDL.out, HMM.out]
          have PE := mkHid (paderr_any b s HS.out (dlR s).p _ D8.out.rd)
          obtain ⟨F, HF⟩ : ∃ F, Hid (padE s (dlR s).p = F) := ⟨_, rfl⟩
          rw [HF.out] at PE
          have HDE := mkHid (show decE s = F by rw [decE_pad HE.out HM0.out HE5.out HE7.out, HF.out])
          clear he r7 o7 a7 GD D6 hz7 O6 HIA O7
          go_wp2_with fail
          refine (PE.out).mono ?_
          rintro e w9 ⟨rfl, a9⟩
          have z9 := a9.size
          by_cases hF : F = 0
          · subst hF
            have DR := mkHid (show decR s = ⟨sd, md, fi, ba, co, (stR s).l, dl⟩ by
              unfold decR; rw [if_pos HDE.out]; unfold decG
              rw [HSD.out, HMD.out, HFI.out, HBA.out, HCO.out, HDL.out])
            have hz := D8.out.z
            have N9 := mkHid (D8.out.r.kept a9 (by omega))
            have T9 := mkHid (D8.out.t.kept a9 (by omega))
            have A9 := mkHid (D8.out.a.trans a9 (fun i hi e => by omega))
            have O9 := mkHid (ownsRow_apart O8.out a9 (by intro k hk e; omega))
            have P9 := mkHid (ownsRow_apart P8.out a9 (by intro k hk e; have := D8.out.z; omega))
            have hzq : q < tb := by omega
            clear a9 PE c0 c1 c2 c3 c4 c5 c6 f0 f1 f2 f3 f4 f5 f6
            obtain ⟨c0, c1, c2, c3, c4, c5, c6⟩ := T9.out.c
            obtain ⟨f0, f1, f2, f3, f4, f5, f6⟩ := N9.out.f
            obtain ⟨b0, b1, b2, b3, b4, b5, b6⟩ := N9.out.c
            clear hz
            go_wp2
            have dd := put7_is N9.out (.int .u32 sd) (.int .u32 md) (.int .i64 fi) (.int .i64 ba) (.int .i64 co) (.slice a n c) (.slice a' m c')
            have ap := put7_ap w9 q (.int .u32 sd) (.int .u32 md) (.int .i64 fi) (.int .i64 ba) (.int .i64 co) (.slice a n c) (.slice a' m c')
            have o10 := ownsRow_apart O9.out ap (by intro k hk e; omega)
            have p10 := ownsRow_apart P9.out ap (by intro k hk e; have := D8.out.z; omega)
            obtain ⟨_, _, hv1, ia1⟩ := own_ia o10
            obtain ⟨_, _, hv2, ia2⟩ := own_ia p10
            simp only [Value.slice.injEq] at hv1 hv2
            obtain ⟨rfl, _, rfl⟩ := hv1
            obtain ⟨rfl, _, rfl⟩ := hv2
            refine bodyPost_ret (res16 _ rfl dd) rfl ⟨⟨a, c, a', c', ?_, by rw [DR.out]; exact ia1, by rw [DR.out]; exact ia2⟩, ?_⟩
            · rw [DR.out, HDE.out]
              simp only
              rw [HL5.out.1, HMM.out]
              rfl
            · exact (A9.out.trans ap (fun i hi e => by rw [HQ.out] at hi; omega)).belowZ
          · have BW := mkHid (D8.out.badd a9)
            clear a9 z9
            clear c0 c1 c2 c3 c4 c5 c6 f0 f1 f2 f3 f4 f5 f6
            obtain ⟨f0, f1, f2, f3, f4, f5, f6⟩ := BW.out.r.f
            obtain ⟨b0, b1, b2, b3, b4, b5, b6⟩ := BW.out.r.c
            go_wp2
            exact BW.out.no HDE.out hF _ rfl rfl _ rfl
        · have HDE := mkHid (show decE s = (dlR s).e by rw [decE_dl HE.out HM0.out HE5.out he])
          have D7 := mkHid (D6.out.bad a7 (.slice none 0 0) 6)
          have T7 := mkHid (D6.out.t.kept a7 (by have := D6.out.z; omega))
          obtain ⟨F, HF⟩ : ∃ F, Hid ((dlR s).e = F) := ⟨_, rfl⟩
          rw [HF.out] at HDE he ⊢
          clear a7 GD
          clear c0 c1 c2 c3 c4 c5 c6 f0 f1 f2 f3 f4 f5 f6
          obtain ⟨c0, c1, c2, c3, c4, c5, c6⟩ := T7.out.c
          obtain ⟨f0, f1, f2, f3, f4, f5, f6⟩ := T7.out.f
          obtain ⟨g0, g1, g2, g3, g4, g5, g6⟩ := D7.out.r.f
          obtain ⟨b0, b1, b2, b3, b4, b5, b6⟩ := D7.out.r.c
          go_wp2
          exact D7.out.no HDE.out he _ rfl rfl _ rfl
      · have HDE := mkHid (show decE s = (stR s).e by rw [decE_st HE.out HM0.out he])
        have D5 := mkHid (S3.out.bad a5 (.slice none 0 0) 5)
        have T5 := mkHid (S3.out.t.kept a5 (by have := S3.out.z; omega))
        obtain ⟨F, HF⟩ : ∃ F, Hid ((stR s).e = F) := ⟨_, rfl⟩
        rw [HF.out] at HDE he ⊢
        clear a5 GS
        obtain ⟨c0, c1, c2, c3, c4, c5, c6⟩ := T5.out.c
        obtain ⟨f0, f1, f2, f3, f4, f5, f6⟩ := T5.out.f
        obtain ⟨g0, g1, g2, g3, g4, g5, g6⟩ := D5.out.r.f
        obtain ⟨b0, b1, b2, b3, b4, b5, b6⟩ := D5.out.r.c
        go_wp2
        exact D5.out.no HDE.out he _ rfl rfl _ rfl
    · have HDE := mkHid (show decE s = M by rw [decE_many HE.out (by rw [HNN.out, HM.out]; exact hM), HNN.out, HM.out])
      have BW := mkHid (S3.out.badd (Apart.refl _ _))
      obtain ⟨f0, f1, f2, f3, f4, f5, f6⟩ := BW.out.r.f
      obtain ⟨b0, b1, b2, b3, b4, b5, b6⟩ := BW.out.r.c
      go_wp2
      exact BW.out.no HDE.out hM _ rfl rfl _ rfl
  · have HDE := mkHid (show decE s = E by rw [decE_len (by rw [HE.out]; exact hE), HE.out])
    obtain ⟨f0, f1, f2, f3, f4, f5, f6⟩ := BW0.out.r.f
    obtain ⟨b0, b1, b2, b3, b4, b5, b6⟩ := BW0.out.r.c
    go_enter Tryz.func40, Tryz.ntmps40
    go_wp2_with fail
    rw [HW.out, HQ.out]
    refine (LE.out _).mono ?_
    rintro e w1 ⟨rfl, rfl⟩
    go_wp2
    exact BW0.out.no HDE.out hE _ rfl rfl _ rfl
end Go.Proofs.YtdhbakknplnnkaaGreat.Tw
