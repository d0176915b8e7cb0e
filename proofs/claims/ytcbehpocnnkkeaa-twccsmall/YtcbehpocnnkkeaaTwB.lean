/-
  What the reference's small functions hand back: Large, Copy, Ints, Same, Good.
-/
import Derived.Test.YtcbehpocnnkkeaaTwH
import Derived.BigQuiet
namespace Go.Proofs.Ytcbehpocnnkkeaa
open Go.RowKit

def lgR (r : Rp) : Bool := decide ((5000 : Int) < r.st.length) || decide ((5000 : Int) < r.dl.length)
theorem lgR_no {r : Rp} (h : lgR r = false) : r.st.length ≤ 5000 ∧ r.dl.length ≤ 5000 := by
  unfold lgR at h
  simp at h
  omega
/-- The box of a report that came in. -/
theorem Td.box (w : World) (v0 v1 v2 v3 v4 v5 v6 : Value) : Td (w.alloc (.cells #[v0, v1, v2, v3, v4, v5, v6] 25)) w.heap.size v0 v1 v2 v3 v4 v5 v6 := heap_alloc_new _ _
set_option maxRecDepth 100000 in
set_option maxHeartbeats 400000 in
theorem large_any (r : Rp) (a : Option Addr) (c : Nat) (a' : Option Addr) (c' : Nat) (w : World) (h : IA w.heap.size w a c r.st) (h' : IA w.heap.size w a' c' r.dl) :
    Calls Try.prog 8 #[rv r a r.st.length c a' r.dl.length c'] w fun e w' => e = .returned (.bool (lgR r)) ∧ Apart (fun _ => False) w w' := by
  have m1 := h.len
  have m2 := h'.len
  obtain ⟨sd, md, fi, ba, co, st, dl⟩ := r
  unfold rv lgR
  simp only at *
  obtain ⟨n, HN⟩ : ∃ n, Hid (st.length = n) := ⟨_, rfl⟩
  obtain ⟨m, HM⟩ : ∃ m, Hid (dl.length = m) := ⟨_, rfl⟩
  rw [HN.out] at m1 ⊢
  rw [HM.out] at m2 ⊢
  have A0 := mkHid ((Apart.refl (fun _ => False) w).alloc (.cells #[.int .u32 sd, .int .u32 md, .int .i64 fi, .int .i64 ba, .int .i64 co, .slice a n c, .slice a' m c'] 25))
  have T0 := mkHid (Td.box w (.int .u32 sd) (.int .u32 md) (.int .i64 fi) (.int .i64 ba) (.int .i64 co) (.slice a n c) (.slice a' m c'))
  obtain ⟨bx, HBX⟩ : ∃ bx, Hid (w.heap.size = bx) := ⟨_, rfl⟩
  obtain ⟨W, HW⟩ : ∃ W, Hid (w.alloc (.cells #[.int .u32 sd, .int .u32 md, .int .i64 fi, .int .i64 ba, .int .i64 co, .slice a n c, .slice a' m c'] 25) = W) := ⟨_, rfl⟩
  rw [HBX.out, HW.out] at T0
  rw [HW.out] at A0
  obtain ⟨c0, c1, c2, c3, c4, c5, c6⟩ := T0.out.c
  clear h h'
  by_cases h1 : (5000 : Int) < n
  · go_enter Try.func8, Try.ntmps8
    go_wp2_with fail
    rw [HW.out, HBX.out]
    go_wp2
    go_ret
    exact ⟨ret_b (by simp [h1]), A0.out⟩
  · go_enter Try.func8, Try.ntmps8
    go_wp2_with fail
    rw [HW.out, HBX.out]
    go_wp2
    go_ret
    exact ⟨ret_b (by simp; omega), A0.out⟩
theorem ia_src {B : Nat} {w : World} {a : Option Addr} {c : Nat} {l : List Int} (h : IA B w a c l) : SrcN w 1 (.slice a l.length c) l.length (IC l) := by
  rcases h.2.2 with h0 | ⟨b, off, rfl, hb, hc⟩
  · subst h0
    cases a with
    | none => exact .inl ⟨c, rfl, rfl, rfl⟩
    | some ad => exact .inr ⟨ad, c, rfl, rfl, fun j u hj => by simp [IC] at hj⟩
  · refine .inr ⟨⟨b, off, none⟩, c, rfl, by simp, fun j u hj => ?_⟩
    have hj' : ∃ x, l[j]? = some x ∧ u = .int .i64 x := by
      unfold IC at hj
      rw [List.getElem?_map] at hj
      cases hx : l[j]? with
      | none => rw [hx] at hj; cases hj
      | some x => rw [hx] at hj; exact ⟨x, rfl, (Option.some.inj hj).symm⟩
    obtain ⟨x, hx, rfl⟩ := hj'
    have := hc j x hx
    have e : (⟨b, off, none⟩ : Addr).add j = ⟨b, off + j, none⟩ := by
      unfold Addr.add
      split
      · rename_i h; subst h; simp
      · rfl
    rw [e]; exact this
theorem res10 {W : World} {bx : Nat} {sd md fi ba co : Int} {a a' : Option Addr} {n c n' c' : Nat} (tmps : Array Value) (h2 : tmps.getD 2 undef = .pointer (some ⟨bx, 0, none⟩)) (hd : Td W bx (.int .u32 sd) (.int .u32 md) (.int .i64 fi) (.int .i64 ba) (.int .i64 co) (.slice a n c) (.slice a' n' c')) :
    (results Try.f10 tmps).run Try.prog W = .ok (tv sd md fi ba co (.slice a n c) (.slice a' n' c')) W := by
  obtain ⟨c0, c1, c2, c3, c4, c5, c6⟩ := hd.c
  clear hd
  have h2' : tmps[2]?.getD undef = .pointer (some ⟨bx, 0, none⟩) := by rw [← h2]; simp
  unfold tv
  simp [results, Try.results10, h2', c0, c1, c2, c3, c4, c5, c6, go_sem]
/-- The world ahead of the first append. -/
def cw0 (w : World) (v0 v1 v2 v3 v4 v5 v6 : Value) : World := (w.alloc (.cells #[v0, v1, v2, v3, v4, v5, v6] 25)).alloc (.cells #[.int .u32 0, .int .u32 0, .int .i64 0, .int .i64 0, .int .i64 0, .slice none 0 0, .slice none 0 0] 25)
theorem cw0_is (w : World) (v0 v1 v2 v3 v4 v5 v6 : Value) : (cw0 w v0 v1 v2 v3 v4 v5 v6).heap.size = w.heap.size + 1 + 1 ∧ Td (cw0 w v0 v1 v2 v3 v4 v5 v6) w.heap.size v0 v1 v2 v3 v4 v5 v6 ∧ Td (cw0 w v0 v1 v2 v3 v4 v5 v6) (w.heap.size + 1) (.int .u32 0) (.int .u32 0) (.int .i64 0) (.int .i64 0) (.int .i64 0) (.slice none 0 0) (.slice none 0 0) ∧ Apart (fun _ => False) w (cw0 w v0 v1 v2 v3 v4 v5 v6) := by
  refine ⟨by simp [cw0], ?_, ?_, ((Apart.refl _ _).alloc _).alloc _⟩
  · exact Td.kept (w := w.alloc _) (X := fun _ => False) (heap_alloc_new _ _) ((Apart.refl _ _).alloc _) (fun h => h)
  · have := heap_alloc_new (w.alloc (.cells #[v0, v1, v2, v3, v4, v5, v6] 25)) (.cells #[.int .u32 0, .int .u32 0, .int .i64 0, .int .i64 0, .int .i64 0, .slice none 0 0, .slice none 0 0] 25)
    simp only [World.size_alloc] at this
    exact this
/-- Behind the first append and its store, and the making of an empty list: what holds. -/
structure Cw (w0 w1 w2 : World) (bx : Nat) (v0 v1 v2 v3 v4 v5 v6 : Value) (l : List Int) : Prop where
  ap : Apart (fun _ => False) w0 w2
  d : Td w2 bx v0 v1 v2 v3 v4 v5 v6
  y : Td w2 (bx + 1) (.int .u32 0) (.int .u32 0) (.int .i64 0) (.int .i64 0) (.int .i64 0) (.slice none 0 0) (.slice none 0 0)
  o : w2.ownsRow (bx + 1 + 1) 3 1 v5 l.length (IC l)
  n : w2.ownsRow w1.heap.size 3 1 (.slice (some ⟨w1.heap.size, 0, none⟩) 0 0) 0 []
  z : w2.heap.size = w1.heap.size + 1
  l : bx + 1 + 1 < w1.heap.size
  k : ∀ k, v5.ownBlock = some k → k < w1.heap.size
theorem cw_is {w0 W w1 : World} {bx : Nat} {v0 v1 v2 v3 v4 u5 v6 v5 : Value} {l : List Int} (h0 : w0.heap.size = bx) (hl : bx + 1 + 1 < W.heap.size) (ap : Apart (fun _ => False) w0 W) (d : Td W bx v0 v1 v2 v3 v4 u5 v6)
    (y : Td W (bx + 1) (.int .u32 0) (.int .u32 0) (.int .i64 0) (.int .i64 0) (.int .i64 0) (.slice none 0 0) (.slice none 0 0)) (g : Apart (· = bx + 1 + 1) W w1) (o : w1.ownsRow (bx + 1 + 1) 3 1 v5 l.length (IC l)) :
    Cw w0 w1 ((w1.setCell ⟨bx, 5, none⟩ v5).alloc (.cells #[] 3)) bx v0 v1 v2 v3 v4 v5 v6 l := by
  have g2 : Apart (fun _ => False) (w1.setCell ⟨bx, 5, none⟩ v5) ((w1.setCell ⟨bx, 5, none⟩ v5).alloc (.cells #[] 3)) := (Apart.refl _ _).alloc _
  have e : (w1.setCell ⟨bx, 5, none⟩ v5).heap.size = w1.heap.size := by simp
  have hz := g.size
  refine ⟨?_, ?_, ?_, ?_, ?_, ?_, by omega, fun k hk => (o.lt k hk).2⟩
  · exact ((ap.trans g (fun i hi e => by omega)).trans (ap_set w1 bx 5 v5) (fun i hi e => by omega)).trans g2 (fun _ _ h => h)
  · exact ((d.kept g (by omega)).set5 v5).kept g2 (fun h => h)
  · exact ((y.kept g (by omega)).kept (ap_set w1 bx 5 v5) (by omega)).kept g2 (fun h => h)
  · exact ownsRow_apart (ownsRow_apart o (ap_set w1 bx 5 v5) (fun k hk e => by omega)) g2 (fun _ _ h => h)
  · have := own_empty (w1.setCell ⟨bx, 5, none⟩ v5) w1.heap.size 3 1 (by rw [e]; exact Nat.le_refl _)
    rw [e] at this
    exact this
  · simp
set_option maxRecDepth 100000 in
set_option maxHeartbeats 1000000 in
theorem copy_any (r : Rp) (a : Option Addr) (c : Nat) (a' : Option Addr) (c' : Nat) (w : World) (h : IA w.heap.size w a c r.st) (h' : IA w.heap.size w a' c' r.dl) (h1 : r.st.length ≤ 10000) (h2 : r.dl.length ≤ 10000) :
    Calls Try.prog 10 #[rv r a r.st.length c a' r.dl.length c'] w fun e w' => ∃ b d b' d', e = .returned (rv r b r.st.length d b' r.dl.length d') ∧ IA w'.heap.size w' b d r.st ∧ IA w'.heap.size w' b' d' r.dl ∧ Apart (fun _ => False) w w' := by
  obtain ⟨sd, md, fi, ba, co, st, dl⟩ := r
  unfold rv
  simp only at *
  obtain ⟨n, HN⟩ : ∃ n, Hid (st.length = n) := ⟨_, rfl⟩
  obtain ⟨m, HM⟩ : ∃ m, Hid (dl.length = m) := ⟨_, rfl⟩
  rw [HN.out, HM.out]
  obtain ⟨z0, d0, y0, p0⟩ := cw0_is w (.int .u32 sd) (.int .u32 md) (.int .i64 fi) (.int .i64 ba) (.int .i64 co) (.slice a n c) (.slice a' m c')
  have a1 : Apart (fun _ => False) (cw0 w (.int .u32 sd) (.int .u32 md) (.int .i64 fi) (.int .i64 ba) (.int .i64 co) (.slice a n c) (.slice a' m c')) ((cw0 w (.int .u32 sd) (.int .u32 md) (.int .i64 fi) (.int .i64 ba) (.int .i64 co) (.slice a n c) (.slice a' m c')).alloc (.cells #[] 3)) := (Apart.refl _ _).alloc _
  have A1 := mkHid (p0.trans a1 (fun _ _ h => h))
  have D1 := mkHid (d0.kept a1 (fun h => h))
  have Y1 := mkHid (y0.kept a1 (fun h => h))
  have S1 := mkHid (ia_src (h.kept (A1.out.belowF _ (Nat.le_refl _))))
  have HXA := mkHid h'
  have O1 := own_empty (cw0 w (.int .u32 sd) (.int .u32 md) (.int .i64 fi) (.int .i64 ba) (.int .i64 co) (.slice a n c) (.slice a' m c')) (w.heap.size + 1 + 1) 3 1 (by rw [z0]; exact Nat.le_refl _)
  rw [z0] at O1
  have O1 := mkHid O1
  have HZ1 := mkHid (show ((cw0 w (.int .u32 sd) (.int .u32 md) (.int .i64 fi) (.int .i64 ba) (.int .i64 co) (.slice a n c) (.slice a' m c')).alloc (.cells #[] 3)).heap.size = w.heap.size + 1 + 1 + 1 by rw [World.size_alloc, z0])
  unfold cw0 at A1 D1 Y1 S1 O1 HZ1
  rw [HN.out] at S1
  have N1 := mkHid (show 0 + n ≤ maxLen by rw [← HN.out]; unfold maxLen; omega)
  have N2 := mkHid (show (0 + n) * 8 ≤ 140737488355328 by rw [← HN.out]; omega)
  have N3 := mkHid (show 0 + m ≤ maxLen by rw [← HM.out]; unfold maxLen; omega)
  have N4 := mkHid (show (0 + m) * 8 ≤ 140737488355328 by rw [← HM.out]; omega)
  clear h h' z0 d0 y0 p0 a1 h1 h2
  obtain ⟨i0, hi, hz0, hz1, hz2⟩ := info3'
  obtain ⟨bx, HBX⟩ : ∃ bx, Hid (w.heap.size = bx) := ⟨_, rfl⟩
  rw [HBX.out] at O1 HZ1 D1 Y1
  go_enter Try.func10, Try.ntmps10
  go_wp2_with (first
    | (at_builtin; rw [HBX.out]; refine wpList_append_onto _ rfl (.tmp 3) (.tmp 5) 23 rfl (bx + 1 + 1) 3 i0 (.int .i64 0) 1 8 Try.underlying23 hi hz0 hz1 hz2 rfl (by decide) (.slice (some ⟨bx + 1 + 1, 0, none⟩) 0 0) 0 [] rfl O1.out (.slice a n c) n (IC st) rfl S1.out IC_one N1.out N2.out (by rw [HZ1.out]; omega) ?_; intro v1 w1 hown1 hgrow1; rw [Nat.zero_add, List.nil_append] at hown1; have G1 := mkHid (Apart.grown (X := (· = bx + 1 + 1)) (Apart.refl _ _) hgrow1 (fun k _ e => by simp [Value.ownBlock] at e; omega)); obtain ⟨sa1, sc1, hv1⟩ := ownsRow_slice hown1; subst hv1; have C1 := mkHid (cw_is (l := st) HBX.out (by rw [HZ1.out]; omega) A1.out D1.out Y1.out G1.out (by rw [HN.out]; exact hown1)); have D2 := mkHid (D1.out.kept G1.out (by omega)); obtain ⟨_, _, _, _, _, hc5, _⟩ := D2.out.c; obtain ⟨_, _, _, _, _, _, hc6⟩ := C1.out.d.c; obtain ⟨_, _, _, _, _, hf5, _⟩ := D2.out.f; clear hown1 hgrow1)
    | (at_builtin; refine wpList_append_onto _ rfl (.tmp 8) (.tmp 10) 23 rfl w1.heap.size 3 i0 (.int .i64 0) 1 8 Try.underlying23 hi hz0 hz1 hz2 rfl (by decide) (.slice (some ⟨w1.heap.size, 0, none⟩) 0 0) 0 [] rfl C1.out.n (.slice a' m c') m (IC dl) rfl (by have := ia_src (HXA.out.kept (C1.out.ap.belowF _ (Nat.le_refl _))); rw [HM.out] at this; exact this) IC_one N3.out N4.out (by rw [C1.out.z]; omega) ?_; intro v2 w2 hown2 hgrow2; rw [Nat.zero_add, List.nil_append] at hown2; have G2 := mkHid (Apart.grown (X := (· = w1.heap.size)) (Apart.refl _ _) hgrow2 (fun k _ e => by simp [Value.ownBlock] at e; omega)); obtain ⟨ea1, ec1, hv2⟩ := ownsRow_slice hown2; subst hv2; have O3 := mkHid hown2; have D3 := mkHid (C1.out.d.kept G2.out (by have := C1.out.l; omega)); have Y3 := mkHid (C1.out.y.kept G2.out (by have := C1.out.l; omega)); clear hown2 hgrow2 hc5 hc6 hf5; obtain ⟨c0, c1, c2, c3, c4, c5, c6⟩ := D3.out.c; obtain ⟨f0, f1, f2, f3, f4, f5, f6⟩ := D3.out.f; obtain ⟨e0, e1, e2, e3, e4, e5, e6⟩ := Y3.out.c; obtain ⟨k0, k1, k2, k3, k4, k5, k6⟩ := Y3.out.f))
  have ys := Y3.out.kept (ap_set w2 bx 6 (.slice ea1 m ec1)) (by omega)
  have d4 := put7_is ys (.int .u32 sd) (.int .u32 md) (.int .i64 fi) (.int .i64 ba) (.int .i64 co) (.slice sa1 n sc1) (.slice ea1 m ec1)
  have a4 := put7_ap (w2.setCell ⟨bx, 6, none⟩ (.slice ea1 m ec1)) (bx + 1) (.int .u32 sd) (.int .u32 md) (.int .i64 fi) (.int .i64 ba) (.int .i64 co) (.slice sa1 n sc1) (.slice ea1 m ec1)
  have a5 := Apart.trans (X := fun j => j = bx ∨ j = bx + 1) ((ap_set w2 bx 6 (.slice ea1 m ec1)).mono (fun _ _ h => .inl h)) a4 (fun _ _ h => .inr h)
  have hl := C1.out.l
  have o5 := ownsRow_apart (ownsRow_apart2 C1.out.o G2.out (fun k hk e => by have := C1.out.k k hk; omega)) a5 (fun k hk e => by omega)
  have o6 := ownsRow_apart O3.out a5 (fun k hk e => by omega)
  obtain ⟨_, _, q1, s5⟩ := own_ia o5
  obtain ⟨_, _, q2, s6⟩ := own_ia o6
  simp only [Value.slice.injEq] at q1 q2
  obtain ⟨rfl, -, rfl⟩ := q1
  obtain ⟨rfl, -, rfl⟩ := q2
  refine bodyPost_ret (res10 _ rfl d4) rfl ⟨_, _, _, _, rfl, s5, s6, ?_⟩
  exact (C1.out.ap.trans (X := fun _ => False) G2.out (fun i hi e => by rw [HBX.out] at hi; omega)).trans a5 (fun i hi e => by rw [HBX.out] at hi; omega)
set_option maxRecDepth 100000 in
set_option maxHeartbeats 400000 in
theorem ints_self (B : Nat) (a : Option Addr) (c : Nat) (a' : Option Addr) (c' : Nat) (l : List Int) (w : World) (hB : B ≤ w.heap.size) (h : IA B w a c l) (h' : IA B w a' c' l) :
    Calls Try.prog 32 #[.slice a l.length c, .slice a' l.length c'] w fun e w' => e = .returned (.bool true) ∧ Apart (fun _ => False) w w' := by
  have H := mkHid h
  have H' := mkHid h'
  have m1 := h.len
  obtain ⟨n, HN⟩ : ∃ n, Hid (l.length = n) := ⟨_, rfl⟩
  rw [HN.out] at m1 ⊢
  clear h h'
  go_enter Try.func32, Try.ntmps32
  go_wp2
  go_loopw [5] (fun i wr => ∃ k : Nat, k ≤ n ∧ i = .int .i64 (k : Int) ∧ Apart (fun _ => False) w wr) (fun i _ => n - (intOf i).toNat)
  case atStart => exact ⟨0, Nat.zero_le _, rfl, Apart.refl _ _⟩
  case round =>
    obtain ⟨k, hk, rfl, hap⟩ := hrel
    have HAP := mkHid hap
    clear hap
    by_cases hlt : k < n
    · obtain ⟨b, off, x, rfl, _, hx, c0⟩ := (H.out.kept (HAP.out.belowF B hB)).at k (by rw [HN.out]; exact hlt)
      obtain ⟨b', off', x', rfl, _, hx', c1⟩ := (H'.out.kept (HAP.out.belowF B hB)).at k (by rw [HN.out]; exact hlt)
      obtain rfl : x = x' := by rw [hx] at hx'; exact Option.some.inj hx'
      have k0 : (0 : Int) ≤ k := by omega
      have k1 : (k : Int) < n := by omega
      clear hx hx'
      go_wp2_with fail
      go_quiet (fail)
      go_wp2
      go_roundw
      case rel => exact ⟨k + 1, by omega, by go_num, HAP.out.drewN _⟩
      case measure => simp [intOf]; omega
    · obtain rfl : k = n := by omega
      go_wp2
      go_ret
      exact ⟨rfl, HAP.out⟩
set_option maxRecDepth 100000 in
set_option maxHeartbeats 1000000 in
theorem same_self (r : Rp) (a : Option Addr) (c : Nat) (a' : Option Addr) (c' : Nat) (b : Option Addr) (d : Nat) (b' : Option Addr) (d' : Nat) (w : World) (h : IA w.heap.size w a c r.st) (h' : IA w.heap.size w a' c' r.dl) (k : IA w.heap.size w b d r.st) (k' : IA w.heap.size w b' d' r.dl) :
    Calls Try.prog 15 #[rv r a r.st.length c a' r.dl.length c', rv r b r.st.length d b' r.dl.length d'] w fun e w' => e = .returned (.bool true) ∧ Apart (fun _ => False) w w' := by
  obtain ⟨sd, md, fi, ba, co, st, dl⟩ := r
  unfold rv
  simp only at *
  have A0 := mkHid (((Apart.refl (fun _ => False) w).alloc (.cells #[.int .u32 sd, .int .u32 md, .int .i64 fi, .int .i64 ba, .int .i64 co, .slice a st.length c, .slice a' dl.length c'] 25)).alloc (.cells #[.int .u32 sd, .int .u32 md, .int .i64 fi, .int .i64 ba, .int .i64 co, .slice b st.length d, .slice b' dl.length d'] 25))
  have T0 := mkHid ((Td.box w (.int .u32 sd) (.int .u32 md) (.int .i64 fi) (.int .i64 ba) (.int .i64 co) (.slice a st.length c) (.slice a' dl.length c')).kept ((Apart.refl (fun _ => False) _).alloc (.cells #[.int .u32 sd, .int .u32 md, .int .i64 fi, .int .i64 ba, .int .i64 co, .slice b st.length d, .slice b' dl.length d'] 25)) (fun h => h))
  have t1 := Td.box (w.alloc (.cells #[.int .u32 sd, .int .u32 md, .int .i64 fi, .int .i64 ba, .int .i64 co, .slice a st.length c, .slice a' dl.length c'] 25)) (.int .u32 sd) (.int .u32 md) (.int .i64 fi) (.int .i64 ba) (.int .i64 co) (.slice b st.length d) (.slice b' dl.length d')
  rw [World.size_alloc] at t1
  have T1 := mkHid t1
  have IS := mkHid (fun w1 (hw : Apart (fun _ => False) w w1) => ints_self w.heap.size a c b d st w1 hw.size (h.kept hw.belowZ) (k.kept hw.belowZ))
  have JS := mkHid (fun w1 (hw : Apart (fun _ => False) w w1) => ints_self w.heap.size a' c' b' d' dl w1 hw.size (h'.kept hw.belowZ) (k'.kept hw.belowZ))
  obtain ⟨n, HN⟩ : ∃ n, Hid (st.length = n) := ⟨_, rfl⟩
  obtain ⟨m, HM⟩ : ∃ m, Hid (dl.length = m) := ⟨_, rfl⟩
  rw [HN.out] at IS
  rw [HM.out] at JS
  rw [HN.out, HM.out] at A0 T0 T1 ⊢
  obtain ⟨bx, HBX⟩ : ∃ bx, Hid (w.heap.size = bx) := ⟨_, rfl⟩
  obtain ⟨W, HW⟩ : ∃ W, Hid ((w.alloc (.cells #[.int .u32 sd, .int .u32 md, .int .i64 fi, .int .i64 ba, .int .i64 co, .slice a n c, .slice a' m c'] 25)).alloc (.cells #[.int .u32 sd, .int .u32 md, .int .i64 fi, .int .i64 ba, .int .i64 co, .slice b n d, .slice b' m d'] 25) = W) := ⟨_, rfl⟩
  rw [HBX.out, HW.out] at T0 T1
  rw [HW.out] at A0
  obtain ⟨c0, c1, c2, c3, c4, c5, c6⟩ := T0.out.c
  obtain ⟨e0, e1, e2, e3, e4, e5, e6⟩ := T1.out.c
  clear h h' k k' t1
  go_enter Try.func15, Try.ntmps15
  go_wp2_with fail
  rw [HW.out, HBX.out]
  go_wp2_with fail
  refine (IS.out _ A0.out).mono ?_
  rintro e w1 ⟨rfl, a1⟩
  have A1 := mkHid (A0.out.zz a1)
  have T2 := mkHid (T0.out.kept a1 (fun h => h))
  have T3 := mkHid (T1.out.kept a1 (fun h => h))
  clear a1 c0 c1 c2 c3 c4 c5 c6 e0 e1 e2 e3 e4 e5 e6
  obtain ⟨c0, c1, c2, c3, c4, c5, c6⟩ := T2.out.c
  obtain ⟨e0, e1, e2, e3, e4, e5, e6⟩ := T3.out.c
  go_wp2_with fail
  refine (JS.out _ A1.out).mono ?_
  rintro e w2 ⟨rfl, a2⟩
  have A2 := mkHid (A1.out.zz a2)
  clear a2
  go_wp2
  go_ret
  exact ⟨rfl, A2.out⟩
theorem mat_bad {s : Int} (h : s < 0 ∨ 2 < s) (st dl : List Int) : mat (s :: st) dl = false := by
  cases dl with
  | nil => rw [mat, if_neg (by omega)]
  | cons x dl =>
    have : dOk s x = false := by unfold dOk; rw [if_neg (by omega), if_neg (by omega)]
    rw [mat, if_neg (by omega)]
    simp [this]
set_option maxRecDepth 100000 in
set_option maxHeartbeats 2000000 in
theorem rgood_any (r : Rp) (a : Option Addr) (c : Nat) (a' : Option Addr) (c' : Nat) (w : World) (h : IA w.heap.size w a c r.st) (h' : IA w.heap.size w a' c' r.dl) :
    Calls Try.prog 14 #[rv r a r.st.length c a' r.dl.length c'] w fun e w' => e = .returned (.bool (goodR r)) ∧ Apart (fun _ => False) w w' := by
  have m1 := h.len
  have m2 := h'.len
  have HG := mkHid (@goodR_iff r)
  obtain ⟨g, HGG⟩ : ∃ g, Hid (goodR r = g) := ⟨_, rfl⟩
  rw [HGG.out] at HG ⊢
  obtain ⟨sd, md, fi, ba, co, st, dl⟩ := r
  unfold rv
  simp only at *
  obtain ⟨n, HN⟩ : ∃ n, Hid (st.length = n) := ⟨_, rfl⟩
  obtain ⟨m, HM⟩ : ∃ m, Hid (dl.length = m) := ⟨_, rfl⟩
  rw [HN.out] at m1 HG ⊢
  rw [HM.out] at m2 ⊢
  have A0 := mkHid ((Apart.refl (fun _ => False) w).alloc (.cells #[.int .u32 sd, .int .u32 md, .int .i64 fi, .int .i64 ba, .int .i64 co, .slice a n c, .slice a' m c'] 25))
  have T0 := mkHid (Td.box w (.int .u32 sd) (.int .u32 md) (.int .i64 fi) (.int .i64 ba) (.int .i64 co) (.slice a n c) (.slice a' m c'))
  have I0 := mkHid (h.kept A0.out.belowZ)
  have J0 := mkHid (h'.kept A0.out.belowZ)
  obtain ⟨bx, HBX⟩ : ∃ bx, Hid (w.heap.size = bx) := ⟨_, rfl⟩
  obtain ⟨W, HW⟩ : ∃ W, Hid (w.alloc (.cells #[.int .u32 sd, .int .u32 md, .int .i64 fi, .int .i64 ba, .int .i64 co, .slice a n c, .slice a' m c'] 25) = W) := ⟨_, rfl⟩
  rw [HBX.out, HW.out] at T0
  rw [HW.out] at A0 I0 J0
  obtain ⟨c0, c1, c2, c3, c4, c5, c6⟩ := T0.out.c
  have HNO := mkHid (show ¬ ((0 ≤ fi ∧ fi ≤ 65535) ∧ (-8388608 ≤ ba ∧ ba ≤ 8388607) ∧ (0 ≤ co ∧ co ≤ 255) ∧ (1 ≤ n ∧ n ≤ 4096) ∧ mat st dl = true) → false = g by
    intro hn
    cases g with
    | false => rfl
    | true => exact (hn (HG.out.1 rfl)).elim)
  clear h h'
  by_cases h1 : fi < 0
  · have HF := mkHid (HNO.out (by omega))
    go_enter Try.func14, Try.ntmps14
    go_wp2_with fail
    rw [HW.out, HBX.out]
    go_wp2
    go_ret
    exact ⟨ret_b HF.out, A0.out⟩
  by_cases h2 : 65535 < fi
  · have HF := mkHid (HNO.out (by omega))
    go_enter Try.func14, Try.ntmps14
    go_wp2_with fail
    rw [HW.out, HBX.out]
    go_wp2
    go_ret
    exact ⟨ret_b HF.out, A0.out⟩
  by_cases h3 : ba < -8388608
  · have HF := mkHid (HNO.out (by omega))
    go_enter Try.func14, Try.ntmps14
    go_wp2_with fail
    rw [HW.out, HBX.out]
    go_wp2
    go_ret
    exact ⟨ret_b HF.out, A0.out⟩
  by_cases h4 : 8388608 ≤ ba
  · have HF := mkHid (HNO.out (by omega))
    go_enter Try.func14, Try.ntmps14
    go_wp2_with fail
    rw [HW.out, HBX.out]
    go_wp2
    go_ret
    exact ⟨ret_b HF.out, A0.out⟩
  by_cases h5 : co < 0
  · have HF := mkHid (HNO.out (by omega))
    go_enter Try.func14, Try.ntmps14
    go_wp2_with fail
    rw [HW.out, HBX.out]
    go_wp2
    go_ret
    exact ⟨ret_b HF.out, A0.out⟩
  by_cases h6 : 255 < co
  · have HF := mkHid (HNO.out (by omega))
    go_enter Try.func14, Try.ntmps14
    go_wp2_with fail
    rw [HW.out, HBX.out]
    go_wp2
    go_ret
    exact ⟨ret_b HF.out, A0.out⟩
  by_cases h7 : (n : Int) < 1
  · have HF := mkHid (HNO.out (by omega))
    go_enter Try.func14, Try.ntmps14
    go_wp2_with fail
    rw [HW.out, HBX.out]
    go_wp2
    go_ret
    exact ⟨ret_b HF.out, A0.out⟩
  by_cases h8 : (4096 : Int) < n
  · have HF := mkHid (HNO.out (by omega))
    go_enter Try.func14, Try.ntmps14
    go_wp2_with fail
    rw [HW.out, HBX.out]
    go_wp2
    go_ret
    exact ⟨ret_b HF.out, A0.out⟩
  have HGM := mkHid (show mat st dl = g by
    cases hm : mat st dl with
    | false => exact HNO.out (by rw [hm]; simp)
    | true => exact (HG.out.2 ⟨by omega, by omega, by omega, by omega, hm⟩).symm)
  clear HG HNO
  go_enter Try.func14, Try.ntmps14
  go_wp2_with fail
  rw [HW.out, HBX.out]
  go_wp2
  clear h1 h2 h3 h4 h5 h6 h7
  go_loopw [3, 4] (fun x i wr => wr = W ∧ ∃ k j : Nat, k ≤ n ∧ j ≤ m ∧ j ≤ k ∧ i = .int .i64 (k : Int) ∧ x = .int .i64 (j : Int) ∧ mat (st.drop k) (dl.drop j) = g) (fun _ i _ => n - (intOf i).toNat)
  case atStart => exact ⟨rfl, 0, 0, Nat.zero_le _, Nat.zero_le _, Nat.zero_le _, rfl, rfl, HGM.out⟩
  case round =>
    obtain ⟨rfl, k, j, hk, hj, hjk, rfl, rfl, hg⟩ := hrel
    have HGK := mkHid hg
    clear hg
    have hn4 : (n : Int) ≤ 4096 := by omega
    by_cases hlt : k < n
    · obtain ⟨b, off, x, rfl, _, hx, d0⟩ := I0.out.at k (by rw [HN.out]; exact hlt)
      have HX := mkHid (drop_at hx)
      have k0 : (0 : Int) ≤ k := by omega
      have k1 : (k : Int) < n := by omega
      clear hx
      by_cases x0 : x < 0
      · have HF := mkHid (show false = g by have := HGK.out; rw [HX.out, mat_bad (.inl x0)] at this; exact this)
        go_wp2
        go_ret
        exact ⟨ret_b HF.out, A0.out⟩
      · by_cases x2 : 2 < x
        · have HF := mkHid (show false = g by have := HGK.out; rw [HX.out, mat_bad (.inr x2)] at this; exact this)
          go_wp2
          go_ret
          exact ⟨ret_b HF.out, A0.out⟩
        · by_cases xz : x = 0
          · subst xz
            have HGN := mkHid (show mat (st.drop (k + 1)) (dl.drop j) = g by have := HGK.out; rw [HX.out] at this; exact this)
            go_wp2
            go_roundw
            case rel => exact ⟨by trivial, k + 1, j, by omega, hj, by omega, by go_num, rfl, HGN.out⟩
            case measure => simp [intOf]; omega
          · by_cases hjm : j < m
            · obtain ⟨b', off', y, rfl, _, hy, d1⟩ := J0.out.at j (by rw [HM.out]; exact hjm)
              have HY := mkHid (drop_at hy)
              have HGN := mkHid (show (dOk x y && mat (st.drop (k + 1)) (dl.drop (j + 1))) = g by have := HGK.out; rw [HX.out, HY.out, mat, if_neg xz] at this; exact this)
              have j0 : (0 : Int) ≤ j := by omega
              have j1 : (j : Int) < m := by omega
              clear hy
              by_cases x1 : x = 1
              · subst x1
                have e1 : dOk 1 y = (decide (0 ≤ y) && decide (y ≤ 255)) := rfl
                rw [e1] at HGN
                clear e1
                by_cases y0 : y < 0
                · have HF := mkHid (show false = g by have := HGN.out; rw [decide_eq_false (by omega)] at this; exact this)
                  go_wp2
                  go_ret
                  exact ⟨ret_b HF.out, A0.out⟩
                · by_cases y1 : 255 < y
                  · have HF := mkHid (show false = g by have := HGN.out; rw [decide_eq_false (by omega : ¬ y ≤ 255), Bool.and_false] at this; exact this)
                    go_wp2
                    go_ret
                    exact ⟨ret_b HF.out, A0.out⟩
                  · have HN2 := mkHid (show mat (st.drop (k + 1)) (dl.drop (j + 1)) = g by have := HGN.out; rw [decide_eq_true (by omega : 0 ≤ y), decide_eq_true (by omega : y ≤ 255)] at this; exact this)
                    go_wp2
                    go_roundw
                    case rel => exact ⟨by trivial, k + 1, j + 1, by omega, by omega, by omega, by go_num, by go_num, HN2.out⟩
                    case measure => simp [intOf]; omega
              · obtain rfl : x = 2 := by omega
                have e1 : dOk 2 y = (decide (-32768 ≤ y) && decide (y ≤ 32767)) := rfl
                rw [e1] at HGN
                clear e1
                by_cases y0 : y < -32768
                · have HF := mkHid (show false = g by have := HGN.out; rw [decide_eq_false (by omega)] at this; exact this)
                  go_wp2
                  go_ret
                  exact ⟨ret_b HF.out, A0.out⟩
                · by_cases y1 : 32767 < y
                  · have HF := mkHid (show false = g by have := HGN.out; rw [decide_eq_false (by omega : ¬ y ≤ 32767), Bool.and_false] at this; exact this)
                    go_wp2
                    go_ret
                    exact ⟨ret_b HF.out, A0.out⟩
                  · have HN2 := mkHid (show mat (st.drop (k + 1)) (dl.drop (j + 1)) = g by have := HGN.out; rw [decide_eq_true (by omega : -32768 ≤ y), decide_eq_true (by omega : y ≤ 32767)] at this; exact this)
                    go_wp2
                    go_roundw
                    case rel => exact ⟨by trivial, k + 1, j + 1, by omega, by omega, by omega, by go_num, by go_num, HN2.out⟩
                    case measure => simp [intOf]; omega
            · have hjm' : (m : Int) ≤ j := by omega
              have HF := mkHid (show false = g by
                have := HGK.out
                rw [HX.out, List.drop_of_length_le (by rw [HM.out]; omega : dl.length ≤ j), mat, if_neg xz] at this
                exact this)
              go_wp2
              go_ret
              exact ⟨ret_b HF.out, A0.out⟩
    · obtain rfl : k = n := by omega
      have HF := mkHid (show decide (j = m) = g by
        have := HGK.out
        rw [← HN.out, List.drop_length, mat] at this
        rw [← this, Bool.eq_iff_iff]
        simp [HM.out]
        omega)
      by_cases hjm : j = m
      · rw [decide_eq_true hjm] at HF
        subst hjm
        go_wp2
        go_ret
        exact ⟨ret_b HF.out, A0.out⟩
      · rw [decide_eq_false hjm] at HF
        have hj5 : ((j : Int) == m) = false := by simp; omega
        go_wp2
        go_ret
        exact ⟨ret_b HF.out, A0.out⟩
end Go.Proofs.Ytcbehpocnnkkeaa
