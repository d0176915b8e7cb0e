/-
  A report copied into new memory.
-/
import Derived.Test.YtohembamfjbclaaCcG
namespace Go.Proofs.Ytohembamfjbclaa
open Go.RowKit

theorem res10 {W : World} {bx : Nat} {sd st : Int} {a : Option Addr} {n c : Nat} (tmps : Array Value) (h2 : tmps.getD 2 undef = .pointer (some ⟨bx, 0, none⟩)) (hd : W.heap[bx]? = some (.cells #[.int .u32 sd, .slice a n c, .int .u32 st] 25 (0, 0))) :
    (results Try.f10 tmps).run Try.prog W = .ok (rv sd a n c st) W := by
  obtain ⟨⟨c0, c1, c2⟩, _⟩ := cells3' hd
  clear hd
  have h2' : tmps[2]?.getD undef = .pointer (some ⟨bx, 0, none⟩) := by rw [← h2]; simp
  unfold rv
  simp [results, Try.results10, h2', c0, c1, c2, go_sem]
theorem map_take {l : List Bk} {acc : List Kx} {k : Nat} {x : Bk} (h : acc.map (·.k) = l.take k) (hx : l[k]? = some x) (a : Option Addr) (c : Nat) : (acc ++ [(⟨x, a, c⟩ : Kx)]).map (·.k) = l.take (k + 1) := by
  rw [List.take_add_one, hx, List.map_append, h]; rfl
/-- The box with the report, the box of the result. -/
def cw0 (w : World) (sd : Int) (v : Value) (st : Int) : World := (w.alloc (.cells #[.int .u32 sd, v, .int .u32 st] 25)).alloc (.cells #[.int .u32 0, .slice none 0 0, .int .u32 0] 25)
theorem cw0_is (w : World) (sd : Int) (v : Value) (st : Int) : Rv (cw0 w sd v st) w.heap.size sd v st ∧ Rv (cw0 w sd v st) (w.heap.size + 1) 0 (.slice none 0 0) 0 ∧ (cw0 w sd v st).heap.size = w.heap.size + 1 + 1 ∧ Apart (fun _ => False) w (cw0 w sd v st) := by
  refine ⟨Rv.kept (X := fun _ => False) (Rv.new w sd v st) ((Apart.refl _ _).alloc _) (fun h => h), ?_, by simp [cw0], ((Apart.refl _ _).alloc _).alloc _⟩
  have := Rv.new (w.alloc (.cells #[.int .u32 sd, v, .int .u32 st] 25)) 0 (.slice none 0 0) 0
  rw [World.size_alloc] at this
  exact this
theorem le_sz {w w1 : World} {p : Addr} {v : Value} {B G : Nat} (h : Apart (fun _ => False) w (w1.setCell p v)) (hG : w.heap.size = G) (hB : B ≤ G) : B ≤ w1.heap.size := by
  have := h.size
  rw [World.size_setCell] at this
  omega
/-- What Copy leaves behind. -/
def CopyPost (sd : Int) (l : List Bk) (st : Int) (w : World) (e : Ending) (w' : World) : Prop := ∃ a' c', e = .returned (rv sd a' l.length c' st) ∧ BA w'.heap.size w' a' l ∧ Below w.heap.size w w'
set_option maxRecDepth 100000 in
set_option maxHeartbeats 1000000 in
theorem copy_any (sd st : Int) (a : Option Addr) (cap : Nat) (l : List Bk) (w : World) (h : BA w.heap.size w a l) (hl : l.length ≤ 40) (hm : ∀ b ∈ l, b.m.length ≤ 5000) :
    Calls Try.prog 10 #[rv sd a l.length cap st] w (CopyPost sd l st w) := by
  have H := mkHid h
  have HML := mkHid hm
  obtain ⟨n, HN⟩ : ∃ n, Hid (l.length = n) := ⟨_, rfl⟩
  obtain ⟨q0, q1, q2, q3⟩ := cw0_is w sd (.slice a n cap) st
  have N0 := mkHid q0
  have N1 := mkHid q1
  have Z0 := mkHid q2
  have A0 := mkHid q3
  unfold cw0 at N0 N1 Z0 A0
  clear q0 q1 q2 q3
  rw [HN.out] at hl ⊢
  unfold rv
  have m1 : (n : Int) ≤ 40 := by omega
  obtain ⟨bx, HBX⟩ : ∃ bx, Hid (w.heap.size = bx) := ⟨_, rfl⟩
  obtain ⟨W, HW⟩ : ∃ W, Hid ((w.alloc (.cells #[.int .u32 sd, .slice a n cap, .int .u32 st] 25)).alloc (.cells #[.int .u32 0, .slice none 0 0, .int .u32 0] 25) = W) := ⟨_, rfl⟩
  rw [HBX.out, HW.out] at N0 N1 Z0
  rw [HW.out] at A0
  obtain ⟨i0, hi, hz0, hz1, hz2⟩ := info_parts info44
  obtain ⟨i1, hj, hy0, hy1, hy2⟩ := info_parts info47
  clear h hl hm
  go_enter Try.func10, Try.ntmps10
  go_wp2
  rw [HW.out, HBX.out]
  go_loopw [3, 4] (fun v i wr => ∃ (k : Nat) (acc : List Kx) (va : Option Addr) (vc : Nat), k ≤ n ∧ i = .int .i64 (k : Int) ∧ v = .slice va k vc ∧ acc.length = k ∧ acc.map (·.k) = l.take k ∧ Apart (fun _ => False) W wr ∧ wr.ownsRow (bx + 1 + 1) 44 3 (.slice va k vc) acc.length (kC acc) ∧ KX (fun j => j < bx + 1 + 1 ∨ (Value.slice va k vc).ownBlock = some j) wr acc) (fun _ i _ => n - (intOf i).toNat)
  case atStart => exact ⟨0, [], none, 0, Nat.zero_le _, rfl, rfl, rfl, rfl, Apart.refl _ _, World.ownsRow_nil _ _ _ _, KX.nil _ _⟩
  case round =>
    obtain ⟨k, acc, va, vc, hk, rfl, rfl, hacc, hmap, ha, how, hkx⟩ := hrel
    obtain ⟨c0, c1, c2, _⟩ := cells3 (N0.out.kept ha (fun h => h))
    have HA := mkHid ha
    have HACC := mkHid hacc
    have HMAP := mkHid hmap
    have HOW := mkHid how
    have HKX := mkHid hkx
    have hB : bx + 1 + 1 ≤ wr.heap.size := by have := ha.size; rw [Z0.out] at this; exact this
    clear ha hacc hmap how hkx
    by_cases hlt : k < n
    · obtain ⟨b, off, x, rfl, hb, hx, d0, d1, ⟨ma, mc, d2, hma⟩, s0, s1⟩ := (H.out.kept (A0.out.zz HA.out).belowZ).at k (by rw [HN.out]; exact hlt)
      have HX := mkHid hx
      have HSB := mkHid (And.intro s0 s1)
      have HM5 := mkHid (HML.out x (List.mem_of_getElem? hx))
      have HMP := mkHid (map_take HMAP.out hx)
      have HMA := mkHid (hma.up (show w.heap.size ≤ wr.heap.size by rw [HBX.out]; omega))
      obtain ⟨ss, f, ml⟩ := x
      simp only at d0 d1 d2 HM5 HMA HSB
      obtain ⟨M, HM⟩ : ∃ M, Hid (ml.length = M) := ⟨_, rfl⟩
      rw [HM.out] at d2 HM5
      have hk0 : (0 : Int) ≤ k := by omega
      have hk1 : (k : Int) < n := by omega
      obtain ⟨G, HG⟩ : ∃ G, Hid (wr.heap.size = G) := ⟨_, rfl⟩
      rw [HG.out] at hB
      have E0 : Apart (fun _ => False) wr ((wr.alloc (.cells #[.int .u32 ss, .int .i64 f, .slice ma M mc] 44)).alloc (.cells #[] 47)) := ((Apart.refl _ _).alloc _).alloc _
      have NB := mkHid (show ((wr.alloc (.cells #[.int .u32 ss, .int .i64 f, .slice ma M mc] 44)).alloc (.cells #[] 47)).heap[G]? = some (.cells #[.int .u32 ss, .int .i64 f, .slice ma M mc] 44 (0, 0)) by
        rw [← HG.out]; exact ((Apart.refl (fun _ => False) _).alloc _).heap (heap_alloc_new wr _) (fun h => h))
      have om := own_empty (wr.alloc (.cells #[.int .u32 ss, .int .i64 f, .slice ma M mc] 44)) (G + 1) 47 3 (by rw [World.size_alloc, HG.out]; exact Nat.le_refl _)
      rw [World.size_alloc, HG.out] at om
      have OM := mkHid om
      have SM := mkHid (ma_src (cap := mc) (HMA.out.kept E0.belowZ))
      have HE0 := mkHid E0
      have HLT := mkHid (show ∀ j, (Value.slice va k vc).ownBlock = some j → bx + 1 + 1 ≤ j ∧ j < G from fun j e => by have := HOW.out.lt j e; rw [HG.out] at this; exact this)
      have ZE := mkHid (show ((wr.alloc (.cells #[.int .u32 ss, .int .i64 f, .slice ma M mc] 44)).alloc (.cells #[] 47)).heap.size = G + 1 + 1 by rw [World.size_alloc, World.size_alloc, HG.out])
      obtain ⟨U, HU⟩ : ∃ U, Hid ((wr.alloc (.cells #[.int .u32 ss, .int .i64 f, .slice ma M mc] 44)).alloc (.cells #[] 47) = U) := ⟨_, rfl⟩
      rw [HU.out] at NB OM SM HE0 ZE
      rw [HM.out] at SM
      have HNM := mkHid (show 0 + M ≤ maxLen by have := HM5.out; unfold maxLen; omega)
      have HNB := mkHid (show (0 + M) * 24 ≤ 140737488355328 by have := HM5.out; omega)
      have HNK := mkHid (show acc.length + 1 ≤ 41 by have := HACC.out; omega)
      clear hx hb hma E0 om HMA
      go_wp2_with (first
        | (at_builtin; rw [HU.out, HG.out]; refine wpList_append_onto _ rfl (.tmp 18) (.tmp 20) 42 rfl (G + 1) 47 i1 (.agg #[.bool false, .int .i64 0, .int .i64 0]) 3 24 Try.underlying42 hj hy0 hy1 hy2 rfl (by decide) (.slice (some ⟨G + 1, 0, none⟩) 0 0) 0 [] rfl OM.out (.slice ma M mc) M (mC ml) rfl SM.out (mC_one ml) HNM.out HNB.out (by rw [ZE.out]; omega) ?_; intro v1 w1 hown1 hgrow1; rw [Nat.zero_add, List.nil_append] at hown1; have G1 := mkHid (Apart.grown (X := (· = G + 1)) (Apart.refl _ _) hgrow1 (fun k _ e => by simp [Value.ownBlock] at e; omega)); obtain ⟨ma1, mc1, hv1⟩ := ownsRow_slice hown1; subst hv1; have OW1 := mkHid hown1; have NB1 := mkHid (G1.out.heap NB.out (by omega)); obtain ⟨⟨e0, e1, e2⟩, g0, g1, g2⟩ := cells3' NB1.out; have hcn := cell_three_new (w1.setCell ⟨G, 2, none⟩ (.slice ma1 M mc1)) (.int .u32 ss) (.int .i64 f) (.slice ma1 M mc1) 44; simp only [World.size_setCell] at hcn; have HCN := mkHid hcn; have AW := mkHid ((HE0.out.trans (X := fun _ => False) G1.out (fun i hi e => by rw [HG.out] at hi; omega)).trans (ap_set w1 G 2 (.slice ma1 M mc1)) (fun i hi e => by rw [HG.out] at hi; omega)); have O1 := mkHid (ownsRow_apart HOW.out AW.out (fun _ _ h => h)); have hw1 : bx + 1 + 1 ≤ w1.heap.size := le_sz AW.out HG.out hB; clear hown1 hgrow1 hcn)
        | (at_builtin; refine wpList_append_own2 _ rfl (.tmp 23) (.tmp 25) 23 rfl (bx + 1 + 1) 44 i0 (.agg #[.int .u32 0, .int .i64 0, .slice none 0 0]) 3 40 Try.underlying23 hi hz0 hz1 hz2 rfl (by decide) (.slice va k vc) acc.length (kC acc) rfl (O1.out.alloc _) ⟨w1.heap.size, 0, none⟩ 1 1 [.int .u32 ss, .int .i64 f, .slice ma1 M mc1] rfl rfl HCN.out (by intro u hu; simp at hu; rcases hu with rfl | rfl | rfl <;> rfl) (by unfold maxLen; have := HNK.out; omega) (by have := HNK.out; omega) (by simp; omega) ?_; intro v3 w3 hown3 hgrow3 hnew3; obtain ⟨va3, vc3, hv3⟩ := ownsRow_slice hown3; subst hv3; have OW3 := mkHid hown3; have GR3 := mkHid hgrow3; have NW3 := mkHid hnew3; clear hown3 hgrow3 hnew3))
      have A3 := Apart.grown (X := fun j => (Value.slice va k vc).ownBlock = some j) ((Apart.refl _ (w1.setCell ⟨G, 2, none⟩ (.slice ma1 M mc1))).alloc (.cells #[.int .u32 ss, .int .i64 f, .slice ma1 M mc1] 44)) GR3.out (fun k _ e => e)
      have hown : ∀ j, j < (w1.setCell ⟨G, 2, none⟩ (.slice ma1 M mc1)).heap.size → (Value.slice va3 (acc.length + 1) vc3).ownBlock = some j → (Value.slice va k vc).ownBlock = some j := by
        intro j hj e
        rcases NW3.out j e with e | e
        · exact e
        · rw [World.size_alloc] at e; omega
      have K1 := HKX.out.kept (X' := (fun j => j < bx + 1 + 1 ∨ (Value.slice va k vc).ownBlock = some j)) AW.out (fun _ _ h => h.elim) (fun _ _ h => h)
      have K3 := K1.kept (X' := (fun j => j < bx + 1 + 1 ∨ (Value.slice va3 (acc.length + 1) vc3).ownBlock = some j)) A3 (fun _ _ e => .inr e) (fun j hj e => e.imp id (hown j hj))
      have o1 := OW1.out
      rw [← HM.out] at o1
      obtain ⟨a9, c9, hv9, mx0⟩ := own_mx (X := fun j => j < bx + 1 + 1 ∨ (Value.slice va k vc).ownBlock = some j ∨ j = G) o1 (by have := HNM.out; have := HM.out; omega) (by
        intro j hj e
        have := (o1.lt j hj).1
        rcases e with e | e | e
        · omega
        · have := (HLT.out j e).2; omega
        · omega)
      simp only [Value.slice.injEq] at hv9
      obtain ⟨rfl, _, rfl⟩ := hv9
      have mx1 := mx0.kept (X' := (fun j => j < bx + 1 + 1 ∨ (Value.slice va k vc).ownBlock = some j)) (ap_set w1 G 2 (.slice ma1 M mc1)) (fun _ _ e => .inr (.inr e)) (fun _ _ e => e.imp id .inl)
      have mx3 := mx1.kept (X' := (fun j => j < bx + 1 + 1 ∨ (Value.slice va3 (acc.length + 1) vc3).ownBlock = some j)) A3 (fun _ _ e => .inr e) (fun j hj e => e.imp id (hown j hj))
      have K4 := mkHid (K3.snoc ⟨⟨ss, f, ml⟩, ma1, mc1⟩ mx3 HSB.out.1 HSB.out.2)
      have A4 := mkHid ((HA.out.zz AW.out).trans (X := fun _ => False) A3 (fun j hj e => by have := (HLT.out j e).1; rw [Z0.out] at hj; omega))
      have O3 := OW3.out
      have HPQ : kC acc ++ [.int .u32 ss, .int .i64 f, .slice ma1 M mc1] = kC (acc ++ [(⟨⟨ss, f, ml⟩, ma1, mc1⟩ : Kx)]) := by rw [kC_app, ← HM.out]; rfl
      rw [HPQ] at O3
      have HO3 := mkHid O3
      have HMP2 := mkHid (HMP.out ma1 mc1)
      clear O3 HPQ K1 K3 mx0 mx1 mx3 o1 A3 hown
      go_roundw
      case rel =>
        have hk' := HACC.out
        refine ⟨k + 1, acc ++ [⟨⟨ss, f, ml⟩, ma1, mc1⟩], va3, vc3, by omega, by go_num, by rw [hk'], by rw [List.length_append, hk']; rfl, HMP2.out, A4.out, ?_, ?_⟩
        · have := HO3.out
          rw [List.length_append]
          rw [hk'] at this ⊢
          exact this
        · have := K4.out
          rw [hk'] at this
          exact this
      case measure => simp [intOf]; omega
    · obtain rfl : k = n := by omega
      have NR := mkHid (N1.out.kept HA.out (fun h => h))
      have NB := mkHid (N0.out.kept HA.out (fun h => h))
      clear c0 c1 c2
      obtain ⟨⟨c0, c1, c2⟩, f0, f1, f2⟩ := cells3' NB.out
      obtain ⟨⟨e0, e1, e2⟩, g0, g1, g2⟩ := cells3' NR.out
      go_wp2
      have ys := NR.out.kept (ap_set wr bx 1 (.slice va k vc)) (by omega)
      have dd := put3_is ys (.int .u32 sd) (.slice va k vc) (.int .u32 st)
      have ap := ((ap_set wr bx 1 (.slice va k vc)).mono (Y := fun j => j = bx ∨ j = bx + 1) (fun _ _ h => .inl h)).trans (put3_ap (wr.setCell ⟨bx, 1, none⟩ (.slice va k vc)) (bx + 1) 0 (.int .u32 sd) (.slice va k vc) (.int .u32 st)) (fun _ _ h => .inr h)
      have o6 := ownsRow_apart HOW.out ap (by intro j hj e; omega)
      have k6 := HKX.out.kept (X' := (fun j => j < bx + 1 + 1 ∨ (Value.slice va k vc).ownBlock = some j)) ap (fun j _ e => .inl (by omega)) (fun _ _ h => h)
      obtain ⟨a', c', hv, hba⟩ := own_ba o6 (by have := HACC.out; unfold maxLen; omega) k6
      simp only [Value.slice.injEq] at hv
      obtain ⟨rfl, _, rfl⟩ := hv
      have hm2 := HMAP.out
      rw [← HN.out, List.take_length] at hm2
      rw [hm2] at hba
      refine bodyPost_ret (res10 _ rfl dd) rfl ⟨va, vc, by rw [HN.out], hba, ?_⟩
      exact ((A0.out.zz HA.out).trans (X := fun _ => False) ap (fun i hi e => by rw [HBX.out] at hi; omega)).belowZ
end Go.Proofs.Ytohembamfjbclaa
