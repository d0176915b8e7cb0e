/-
  What the functions that write a report's body do.
-/
import Derived.Test.YtohembamfjbclaaCcM
namespace Go.Proofs.Ytohembamfjbclaa
open Go.RowKit

theorem mbytes_any (n : Nat) (hn : n ≤ 1000000) (w : World) : Calls Try.prog 36 #[.int .i64 (n : Int)] w fun e w' => e = .returned (.int .i64 (mb n : Int)) ∧ w' = w := by
  have hn' : (n : Int) ≤ 1000000 := by omega
  go_enter Try.func36, Try.ntmps36
  go_wp2
  go_ret
  exact ⟨ret_i (by unfold mb; omega), rfl⟩
theorem szB_le16 {l : List Bk} (h : l.all bkOk = true) : szB l ≤ 8200 * l.length := by
  induction l with
  | nil => simp [szB]
  | cons b l ih =>
    simp only [List.all_cons, Bool.and_eq_true] at h
    have h1 := (bkOk_iff.1 h.1).2.1
    have := ih h.2
    simp only [szB, mb, List.length_cons]
    omega
theorem goodL_at {l : List Bk} {k : Nat} {b : Bk} (h : goodL l = true) (hb : l[k]? = some b) : 0 ≤ b.f ∧ b.f ≤ 65535 ∧ b.m.length ≤ 4096 ∧ b.m.all mtOk = true := by
  obtain ⟨⟨h1, h2⟩, h3⟩ := bkOk_iff.1 (List.all_eq_true.1 (goodL_iff.1 h).2 b (List.mem_of_getElem? hb))
  exact ⟨h1, h2, h3⟩
theorem goodL_sz {l : List Bk} (h : goodL l = true) : szB l ≤ 131200 := by
  obtain ⟨h1, h2⟩ := goodL_iff.1 h
  have := szB_le16 h2
  omega
set_option maxRecDepth 100000 in
set_option maxHeartbeats 400000 in
theorem size_any (a : Option Addr) (cap : Nat) (l : List Bk) (B : Nat) (w : World) (hg : goodL l = true) (h : BA B w a l) :
    Calls Try.prog 18 #[.slice a l.length cap] w fun e w' => e = .returned (.int .i64 ((8 + szB l : Nat) : Int)) ∧ w' = w := by
  have H := mkHid h
  have HG := mkHid hg
  have g1 := (goodL_iff.1 hg).1
  obtain ⟨n, HN⟩ : ∃ n, Hid (l.length = n) := ⟨_, rfl⟩
  rw [HN.out] at g1 ⊢
  have m1 : (n : Int) ≤ 16 := by omega
  clear g1 h hg
  go_enter Try.func18, Try.ntmps18
  go_wp2
  refine wp_scope_label 0 (fun a' w' => ∃ (k : Nat) (y : Int), (a'.tmps.size = 22 ∧ a'.defers = [] ∧ a'.tmps.getD 0 undef = .slice a n cap ∧ a'.tmps.getD 3 undef = .int .i64 y ∧ a'.tmps.getD 4 undef = .int .i64 (k : Int)) ∧ k ≤ n ∧ w' = w ∧ y = ((8 + szB (l.take k) : Nat) : Int)) (fun a' _ => n - (intOf (a'.tmps.getD 4 undef)).toNat) rfl ?_ ?_
  · intro Q' hh
    have HH := mkHid hh
    clear hh
    go_wp2
    go_step3
    refine ‹∀ a w, Code.wp _ _ _ a w → _› _ _ (HH.out _ _ ?_)
    exact ⟨0, 8, ⟨rfl, rfl, rfl, rfl, rfl⟩, Nat.zero_le _, rfl, rfl⟩
  · rintro a' w' ⟨k, y, ⟨z, d, e0, e1, e2⟩, hk, rfl, hy⟩
    obtain ⟨u, hu, ha'⟩ := frame22 a' z d
    rw [hu] at e0 e1 e2
    rw [e0, e1, e2] at ha'
    clear z d hu e0 e1 e2
    subst ha'
    have HY := mkHid hy
    have hyb : 0 ≤ y ∧ y ≤ 200000 := by have := goodL_sz HG.out; have := szB_le l k; omega
    obtain ⟨y0, y1⟩ := hyb
    clear hy
    by_cases hlt : k < n
    · obtain ⟨b, off, x, rfl, hb, hx, d0, d1, ⟨ma, mc, d2, hma⟩, _⟩ := H.out.at k (by rw [HN.out]; exact hlt)
      have HX := mkHid hx
      have hml := (goodL_at HG.out hx).2.2.1
      obtain ⟨M, HM⟩ : ∃ M, Hid (x.m.length = M) := ⟨_, rfl⟩
      rw [HM.out] at d2 hml
      have hml' : (M : Int) ≤ 4096 := by omega
      have MB := mkHid (mbytes_any M (by omega))
      have hmb : (mb M : Int) ≤ 9000 := by unfold mb; omega
      have hmb0 : 0 ≤ (mb M : Int) := by omega
      obtain ⟨q, HQ⟩ : ∃ q : Int, Hid ((mb M : Int) = q) := ⟨_, rfl⟩
      rw [HQ.out] at MB hmb hmb0
      have hne : ¬ (k : Int) = n := by omega
      clear hx hb hma d0 d1 hml
      go_wp2_with fail
      refine (MB.out _).mono ?_
      rintro e w2 ⟨rfl, rfl⟩
      go_wp2
      go_step3
      refine ⟨rfl, ⟨k + 1, y + (8 + q), ⟨rfl, rfl, rfl, rfl, by go_num⟩, by omega, rfl, ?_⟩, ?_⟩
      · have := szB_take HX.out
        rw [HM.out] at this
        have := HY.out
        have := HQ.out
        omega
      · simp [intOf]; omega
    · obtain rfl : k = n := by omega
      go_wp2
      simp only [Exit.jump]
      go_ret
      refine ⟨ret_i ?_, rfl⟩
      rw [HY.out, ← HN.out, List.take_length]

theorem put_fit (b : Nat) (v : Value) (l : List Bool) (x n : Int) (X m : Nat) (eX : x = X) (e : n = m) (x1 : X < 4294967296) (hm : m ≤ 32) (hl : l.length + m ≤ 524288) (w : World) (h : Wr 71 w b v l) :
    Calls Try.prog 20 #[.pointer (some ⟨b, 0, none⟩), .int .u32 x, .int .i64 n] w fun e w' => e = .returned (.tuple #[]) ∧ ∃ v', Wr 71 w' b v' (l ++ bitsOf X m) ∧ Tch b v v' w w' := by
  subst e eX
  have := put_any b v l X m (by omega) (by omega) w h
  unfold putS at this
  rw [if_pos (by omega)] at this
  exact this
/-- A block that is none of a writer's. -/
structure Bx (o : Obj) (w : World) (bx b : Nat) (v : Value) : Prop where
  heap : w.heap[bx]? = some o
  ne : bx ≠ b
  own : v.ownBlock ≠ some bx
theorem Bx.next {o : Obj} {w w' : World} {bx b : Nat} {v v' : Value} (h : Bx o w bx b v) (t : Tch b v v' w w') : Bx o w' bx b v' := by
  refine ⟨t.ap.heap h.heap ?_, h.ne, fun e => ?_⟩
  · rintro (e | e)
    · exact h.ne e
    · exact h.own e
  · rcases t.own bx e with e | e
    · exact h.own e
    · have := lt_of_heap h.heap; omega
theorem Bx.new {w : World} {b : Nat} {v : Value} {T : TypeId} {l : List Bool} (h : Wr T w b v l) (o : Obj) : Bx o (w.alloc o) w.heap.size b v :=
  ⟨heap_alloc_new _ _, by have := h.lt; omega, fun e => by have := h.ownlt _ e; omega⟩
theorem wr_alloc {T : TypeId} {w : World} {b : Nat} {v : Value} {l : List Bool} (h : Wr T w b v l) (o : Obj) : Wr T (w.alloc o) b v l := h.kept ((Apart.refl (fun _ => False) w).alloc o) (fun h => h) (fun _ _ h => h)
theorem tch_alloc (b : Nat) (v : Value) (w : World) (o : Obj) : Tch b v v w (w.alloc o) := ⟨(Apart.refl _ w).alloc o, fun _ h => .inl h⟩
theorem align32 (L : List Bool) (P n : Nat) (h0 : P % 32 = 0) (h1 : L.length = P + 16 * n) (h2 : P + 16 * n + 16 * (n % 2) ≤ 524288) : alignS L 32 = L ++ bitsOf 0 (16 * (n % 2)) := by
  unfold alignS
  have e : (32 - (L.length : Int) % 32) % 32 = ((16 * (n % 2) : Nat) : Int) := by omega
  rw [e, if_pos (by omega), Int.toNat_natCast]

set_option maxRecDepth 100000 in
set_option maxHeartbeats 400000 in
theorem putmetric_any (b : Nat) (v : Value) (l : List Bool) (m : Mt) (hm : mtOk m = true) (hl : l.length + 16 ≤ 524288) (w : World) (h : Wr 71 w b v l) :
    Calls Try.prog 39 #[.pointer (some ⟨b, 0, none⟩), mv m] w fun e w' => e = .returned (.tuple #[]) ∧ ∃ v', Wr 71 w' b v' (l ++ mB m) ∧ Tch b v v' w w' := by
  obtain ⟨e0, e1, a0, a1⟩ := mtOk_bd hm
  have H1 := mkHid (wr_alloc h (.cells #[.bool m.g, .int .i64 m.e, .int .i64 m.a] 47))
  have X1 := mkHid (Bx.new h (.cells #[.bool m.g, .int .i64 m.e, .int .i64 m.a] 47))
  have T1 := mkHid (tch_alloc b v w (.cells #[.bool m.g, .int .i64 m.e, .int .i64 m.a] 47))
  have HL := mkHid hl
  unfold mv mB
  obtain ⟨g, ec, ag⟩ := m
  simp only at *
  have BB := mkHid (bit_b g)
  obtain ⟨X, HX⟩ : ∃ X, Hid (b01 g = X) := ⟨_, rfl⟩
  have hX : X < 2 := by rw [← HX.out]; unfold b01; split <;> omega
  rw [HX.out] at BB ⊢
  obtain ⟨bx, HBX⟩ : ∃ bx, Hid (w.heap.size = bx) := ⟨_, rfl⟩
  obtain ⟨W, HW⟩ : ∃ W, Hid (w.alloc (.cells #[.bool g, .int .i64 ec, .int .i64 ag] 47) = W) := ⟨_, rfl⟩
  rw [HBX.out, HW.out] at X1
  rw [HW.out] at H1 T1
  obtain ⟨c0, c1, c2, _⟩ := cells3 X1.out.heap
  clear h hm hl
  go_enter Try.func39, Try.ntmps39
  go_wp2_with fail
  refine (BB.out _).mono ?_
  rintro e w1 ⟨rfl, rfl⟩
  rw [HW.out, HBX.out]
  go_wp2_with fail
  refine (put_fit b v l _ _ X 1 rfl rfl (by omega) (by omega) (by have := HL.out; omega) _ H1.out).mono ?_
  rintro e w2 ⟨rfl, v2, h2, t2⟩
  have H2 := mkHid h2
  have X2 := mkHid (X1.out.next t2)
  have T2 := mkHid (T1.out.trans t2)
  clear h2 t2 c0 c1 c2 H1 X1 T1
  obtain ⟨c0, c1, c2, _⟩ := cells3 X2.out.heap
  go_wp2_with fail
  refine (put_fit b v2 _ _ _ ec.toNat 2 (by omega) rfl (by omega) (by omega) (by have := HL.out; simp; omega) _ H2.out).mono ?_
  rintro e w3 ⟨rfl, v3, h3, t3⟩
  have H3 := mkHid h3
  have X3 := mkHid (X2.out.next t3)
  have T3 := mkHid (T2.out.trans t3)
  clear h3 t3 c0 c1 c2 H2 X2 T2
  obtain ⟨c0, c1, c2, _⟩ := cells3 X3.out.heap
  go_wp2_with fail
  refine (put_fit b v3 _ _ _ ag.toNat 13 (by omega) rfl (by omega) (by omega) (by have := HL.out; simp; omega) _ H3.out).mono ?_
  rintro e w4 ⟨rfl, v4, h4, t4⟩
  have H4 := mkHid h4
  have T4 := mkHid (T3.out.trans t4)
  clear h4 t4
  go_wp2
  go_returns
  refine ⟨rfl, v4, ?_, T4.out⟩
  have := H4.out
  simp only [List.append_assoc] at this ⊢
  exact this
theorem frame46 (a : Act) (hs : a.tmps.size = 46) (hd : a.defers = []) : ∃ u : Nat → Value, (∀ i, a.tmps.getD i undef = u i) ∧ a = { tmps := #[u 0, u 1, u 2, u 3, u 4, u 5, u 6, u 7, u 8, u 9, u 10, u 11, u 12, u 13, u 14, u 15, u 16, u 17, u 18, u 19, u 20, u 21, u 22, u 23, u 24, u 25, u 26, u 27, u 28, u 29, u 30, u 31, u 32, u 33, u 34, u 35, u 36, u 37, u 38, u 39, u 40, u 41, u 42, u 43, u 44, u 45], defers := [] } := frame_of a 46 hs hd
set_option maxRecDepth 100000 in
set_option maxHeartbeats 1000000 in
theorem putblocks_any (b : Nat) (v : Value) (L : List Bool) (a : Option Addr) (cap : Nat) (l : List Bk) (hg : goodL l = true) (hL : L.length % 32 = 0) (hl : L.length + 8 * szB l ≤ 524288) (w : World) (h : Wr 71 w b v L) (hb : BA b w a l) :
    Calls Try.prog 21 #[.pointer (some ⟨b, 0, none⟩), .slice a l.length cap] w fun e w' => e = .returned (.tuple #[]) ∧ ∃ v', Wr 71 w' b v' (L ++ bsB l) ∧ Tch b v v' w w' := by
  have H := mkHid h
  have HB := mkHid hb
  have HG := mkHid hg
  have HL := mkHid hL
  have HZ := mkHid hl
  have g1 := (goodL_iff.1 hg).1
  obtain ⟨n, HN⟩ : ∃ n, Hid (l.length = n) := ⟨_, rfl⟩
  rw [HN.out] at g1 ⊢
  have m1 : (n : Int) ≤ 16 := by omega
  clear g1 h hb hg hL hl
  go_enter Try.func21, Try.ntmps21
  go_wp2
  refine wp_scope_label 0 (fun a' w' => ∃ (k : Nat) (vc : Value), (a'.tmps.size = 46 ∧ a'.defers = [] ∧ a'.tmps.getD 0 undef = .pointer (some ⟨b, 0, none⟩) ∧ a'.tmps.getD 1 undef = .slice a n cap ∧ a'.tmps.getD 4 undef = .int .i64 (k : Int)) ∧ k ≤ n ∧ Wr 71 w' b vc (L ++ bsB (l.take k)) ∧ Tch b v vc w w') (fun a' _ => n - (intOf (a'.tmps.getD 4 undef)).toNat) rfl ?_ ?_
  · intro Q' hh
    have HH := mkHid hh
    clear hh
    go_wp2
    go_step3
    refine ‹∀ a w, Code.wp _ _ _ a w → _› _ _ (HH.out _ _ ?_)
    exact ⟨0, v, ⟨rfl, rfl, rfl, rfl, rfl⟩, Nat.zero_le _, by simpa [bsB] using H.out, Tch.refl _ _ _⟩
  · rintro a' w' ⟨k, vc, ⟨z, d, e0, e1, e2⟩, hk, hw, ht⟩
    obtain ⟨u, hu, ha'⟩ := frame46 a' z d
    rw [hu] at e0 e1 e2
    rw [e0, e1, e2] at ha'
    clear z d hu e0 e1 e2
    subst ha'
    have HW := mkHid hw
    have HT := mkHid ht
    clear hw ht
    by_cases hlt : k < n
    · have BK := mkHid (HB.out.kept (HT.out.below H.out b (Nat.le_refl _)))
      obtain ⟨p, off, x, rfl, hb, hx, d0, d1, ⟨ma, mc, d2, hma⟩, s0, s1⟩ := BK.out.at k (by rw [HN.out]; exact hlt)
      have HX := mkHid hx
      obtain ⟨f0, f1, hml, hall⟩ := goodL_at HG.out hx
      have HSZ := mkHid (show L.length + 8 * szB (l.take k) + (64 + 8 * mb x.m.length) ≤ 524288 by have := szB_take hx; have := szB_le l (k + 1); have := HZ.out; omega)
      have HBB := mkHid (bsB_take hx)
      have HP := mkHid (show (L ++ bsB (l.take k)).length = L.length + 8 * szB (l.take k) by simp [bsB_len])
      have HP32 := mkHid (show (L ++ bsB (l.take k)).length % 32 = 0 by rw [HP.out]; have := szB_mod (l.take k); have := HL.out; omega)
      unfold bB hB at HBB
      obtain ⟨ss, f, ml⟩ := x
      simp only at d0 d1 d2 hma s0 s1 f0 f1 hml hall HSZ HBB
      have HALL := mkHid hall
      obtain ⟨M, HM⟩ : ∃ M, Hid (ml.length = M) := ⟨_, rfl⟩
      rw [HM.out] at d2 hml HSZ HBB
      obtain ⟨P, HPP⟩ : ∃ P, Hid (L ++ bsB (l.take k) = P) := ⟨_, rfl⟩
      rw [HPP.out] at HW HP HP32
      have hne : ¬ (k : Int) = n := by omega
      have hml' : (M : Int) ≤ 4096 := by omega
      have H1 := mkHid (wr_alloc HW.out (.cells #[.int .u32 ss, .int .i64 f, .slice ma M mc] 44))
      have X1 := mkHid (Bx.new HW.out (.cells #[.int .u32 ss, .int .i64 f, .slice ma M mc] 44))
      have T1 := mkHid (HT.out.trans (tch_alloc b vc w' (.cells #[.int .u32 ss, .int .i64 f, .slice ma M mc] 44)))
      have HMA := mkHid (hma.kept (((Apart.refl (fun _ => False) w').alloc (.cells #[.int .u32 ss, .int .i64 f, .slice ma M mc] 44)).belowF b (by have := HW.out.lt; omega)))
      obtain ⟨bx, HBX⟩ : ∃ bx, Hid (w'.heap.size = bx) := ⟨_, rfl⟩
      obtain ⟨W, HWW⟩ : ∃ W, Hid (w'.alloc (.cells #[.int .u32 ss, .int .i64 f, .slice ma M mc] 44) = W) := ⟨_, rfl⟩
      rw [HBX.out, HWW.out] at X1
      rw [HWW.out] at H1 T1 HMA
      obtain ⟨c0, c1, c2, _⟩ := cells3 X1.out.heap
      clear hx hb hma hall
      go_wp2_with fail
      rw [HWW.out, HBX.out]
      refine (put_fit b vc P _ _ ss.toNat 32 (by omega) rfl (by omega) (by omega) (by rw [HP.out]; have := HSZ.out; omega) _ H1.out).mono ?_
      rintro e w2 ⟨rfl, v2, h2, t2⟩
      have H2 := mkHid h2
      have X2 := mkHid (X1.out.next t2)
      have T2 := mkHid (T1.out.trans t2)
      have MA2 := mkHid (HMA.out.kept (t2.below H1.out b (Nat.le_refl _)))
      clear h2 t2 c0 c1 c2 H1 X1 T1 HMA d0 d1 d2
      obtain ⟨c0, c1, c2, _⟩ := cells3 X2.out.heap
      go_wp2_with fail
      refine (put_fit b v2 _ _ _ f.toNat 16 (by omega) rfl (by omega) (by omega) (by rw [List.length_append, HP.out]; have := HSZ.out; simp; omega) _ H2.out).mono ?_
      rintro e w3 ⟨rfl, v3, h3, t3⟩
      have H3 := mkHid h3
      have X3 := mkHid (X2.out.next t3)
      have T3 := mkHid (T2.out.trans t3)
      have MA3 := mkHid (MA2.out.kept (t3.below H2.out b (Nat.le_refl _)))
      clear h3 t3 c0 c1 c2 H2 X2 T2 MA2
      obtain ⟨c0, c1, c2, _⟩ := cells3 X3.out.heap
      go_wp2_with fail
      refine (put_fit b v3 _ _ _ M 16 (by omega) rfl (by omega) (by omega) (by rw [List.length_append, List.length_append, HP.out]; have := HSZ.out; simp; omega) _ H3.out).mono ?_
      rintro e w4 ⟨rfl, v4, h4, t4⟩
      have H4 := mkHid h4
      have X4 := mkHid (X3.out.next t4)
      have T4 := mkHid (T3.out.trans t4)
      have MA4 := mkHid (MA3.out.kept (t4.below H3.out b (Nat.le_refl _)))
      clear h4 t4 c0 c1 c2 H3 X3 T3 MA3
      obtain ⟨c0, c1, c2, _⟩ := cells3 X4.out.heap
      go_wp2
      clear c0 c1 c2
      go_loopw [34] (fun i wr => ∃ (j : Nat) (vj : Value), j ≤ M ∧ i = .int .i64 (j : Int) ∧ Wr 71 wr b vj (P ++ bitsOf ss.toNat 32 ++ bitsOf f.toNat 16 ++ bitsOf M 16 ++ msB (ml.take j)) ∧ Tch b v vj w wr ∧ MA b wr ma ml) (fun i _ => M - (intOf i).toNat)
      case atStart => exact ⟨0, v4, Nat.zero_le _, rfl, by simpa [msB] using H4.out, T4.out, MA4.out⟩
      case round =>
        obtain ⟨j, vj, hj, rfl, hw, ht, hmj⟩ := hrel
        have HWJ := mkHid hw
        have HTJ := mkHid ht
        have HMJ := mkHid hmj
        clear hw ht hmj H4 T4 MA4 X4
        have HLJ := mkHid (show (P ++ bitsOf ss.toNat 32 ++ bitsOf f.toNat 16 ++ bitsOf M 16 ++ msB (ml.take j)).length = P.length + 64 + 16 * j by simp [HM.out]; omega)
        by_cases hlj : j < M
        · obtain ⟨q, qo, m, rfl, _, hm, r0, r1, r2⟩ := HMJ.out.at j (by rw [HM.out]; exact hlj)
          have HMM := mkHid hm
          have HO := mkHid (List.all_eq_true.1 HALL.out m (List.mem_of_getElem? hm))
          have H5 := mkHid (wr_alloc HWJ.out (.cells #[.bool m.g, .int .i64 m.e, .int .i64 m.a] 47))
          have T5 := mkHid (HTJ.out.trans (tch_alloc b vj wr (.cells #[.bool m.g, .int .i64 m.e, .int .i64 m.a] 47)))
          have M5 := mkHid (HMJ.out.kept (((Apart.refl (fun _ => False) wr).alloc (.cells #[.bool m.g, .int .i64 m.e, .int .i64 m.a] 47)).belowF b (by have := HWJ.out.lt; omega)))
          have PM := mkHid (putmetric_any b vj _ m HO.out (by rw [HLJ.out, HP.out]; have := HSZ.out; unfold mb at this; omega) _ H5.out)
          have HJN := mkHid (msB_take hm)
          obtain ⟨g, ec, ag⟩ := m
          unfold mv at PM
          simp only at r0 r1 r2 PM H5 T5 M5
          clear hm
          go_wp2_with fail
          refine (PM.out).mono ?_
          rintro e w6 ⟨rfl, v6, h6, t6⟩
          have H6 := mkHid h6
          have T6 := mkHid (T5.out.trans t6)
          have M6 := mkHid (M5.out.kept (t6.below H5.out b (Nat.le_refl _)))
          clear h6 t6 PM r0 r1 r2
          go_wp2
          go_roundw
          case rel =>
            refine ⟨j + 1, v6, by omega, by go_num, ?_, T6.out, M6.out⟩
            have := H6.out
            rw [List.append_assoc _ (msB _), ← HJN.out] at this
            exact this
          case measure => simp [intOf]; omega
        · obtain rfl : j = M := by omega
          have AL := mkHid (align_any b vj _ 32 _ HWJ.out)
          rw [align32 _ (P.length + 64) j (by have := HP32.out; omega) HLJ.out (by rw [HP.out]; have := HSZ.out; unfold mb at this; omega)] at AL
          go_wp2_with fail
          refine (AL.out).mono ?_
          rintro e w6 ⟨rfl, v6, h6, t6⟩
          have H6 := mkHid h6
          have T6 := mkHid (HTJ.out.trans t6)
          clear h6 t6 AL
          go_wp2
          go_step3
          refine ⟨rfl, ⟨k + 1, v6, ⟨rfl, rfl, rfl, rfl, by go_num⟩, by omega, ?_, T6.out⟩, ?_⟩
          · have := H6.out
            rw [← HM.out, List.take_length, HM.out, ← HPP.out] at this
            rw [HBB.out]
            simp only [List.append_assoc] at this ⊢
            exact this
          · simp [intOf]; omega
    · obtain rfl : k = n := by omega
      go_wp2
      simp only [Exit.jump]
      go_returns
      refine ⟨rfl, vc, ?_, HT.out⟩
      have := HW.out
      rw [← HN.out, List.take_length] at this
      exact this
end Go.Proofs.Ytohembamfjbclaa
