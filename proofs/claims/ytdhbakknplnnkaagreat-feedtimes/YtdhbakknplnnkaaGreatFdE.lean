/-
  What wakes hands back.
-/
import Derived.Test.YtdhbakknplnnkaaGreatFdN
import Derived.Test.YtdhbakknplnnkaaGreatFdJ
import Derived.Test.YtdhbakknplnnkaaGreatFdO
import Derived.Test.YtdhbakknplnnkaaGreatTw5
import Derived.Test.YtdhbakknplnnkaaGreatTw3
namespace Go.Proofs.YtdhbakknplnnkaaGreat.Fd
open Go.RowKit Go.Proofs.YtdhbakknplnnkaaGreat.Nk

/-- The report that wakes makes. -/
def wkR : Tw.Rp := ⟨0, 0, 5, 2, 0, [1, 0, 1], [4, 8]⟩
theorem wk_good : Tw.goodR wkR = true := by decide
theorem wk_back : Tw.decE (Tw.encS wkR) = 0 ∧ Tw.decR (Tw.encS wkR) = wkR := by
  rw [(Tw.encE_yes wk_good).2]
  exact Tw.dec_enc wk_good (by decide) (by decide) (by decide) (by decide)
theorem wk_size : (Tw.encS wkR).size ≤ 20000 ∧ (Tw.encS wkR).size % 4 = 0 := by
  rw [(Tw.encE_yes wk_good).2]
  have := Tw.enc_size wk_good
  omega
theorem le_262140 {n : Nat} (h : n ≤ 20000) : n ≤ 262140 := by omega
theorem sz_one (p : Rc.Pt) (h : p.d.size ≤ 20000) : Rc.sz [p] ≤ 65536 := by unfold Rc.sz Rc.sz; omega
theorem ok_one {d : ByteArray} (h : d.size ≤ 20000) (h4 : d.size % 4 = 0) : (⟨15, 205, d⟩ : Rc.Pt).ok = true := Rc.Pt.ok_iff.2 ⟨by simp, by simp, by simp, by simp, le_262140 h, h4⟩
/-- The message of one part. -/
def wkP : Rc.Pt := ⟨15, 205, Tw.encS wkR⟩
theorem wk_join : Rc.jE [wkP] = 0 := by
  have h := wk_size
  refine Rc.jE_is (by simp) (Rc.allOk_iff.2 fun p hp => ?_) ?_
  · simp only [List.mem_singleton] at hp
    subst hp
    exact ok_one h.1 h.2
  · exact sz_one wkP h.1
theorem wk_near0 : nrH 128000 = 128000 := by kernel_rfl
theorem wk_near1 : wrap64 (64000 * Wr.nV (Wr.hf 24) (Wr.clV (Un.mdV 128000 1 64000 1)) 2) = 128000 := by kernel_rfl
theorem wk_sec : secL 5 128000 0 [1, 0, 1] [4, 8] = [⟨5, true, 129000, false, false⟩, ⟨6, false, 0, false, false⟩, ⟨7, true, 131000, false, false⟩] := by kernel_rfl
theorem wk_told : secondL 128000 wkR = [⟨5, true, 129000, false, false⟩, ⟨6, false, 0, false, false⟩, ⟨7, true, 131000, false, false⟩] := by
  unfold secondL
  show secL 5 (wrap64 (64000 * Wr.nV (Wr.hf 24) (Wr.clV (Un.mdV 128000 1 64000 1)) 2)) 0 [1, 0, 1] [4, 8] = _
  rw [wk_near1]
  exact wk_sec
theorem wk_reads : fdE (Rc.jS [wkP]) 128000 = 0 ∧ fdR (Rc.jS [wkP]) 128000 = [⟨5, true, 129000, false, false⟩, ⟨6, false, 0, false, false⟩, ⟨7, true, 131000, false, false⟩] := by
  obtain ⟨b0, b1⟩ := Rc.back wk_join
  obtain ⟨d0, d1⟩ := wk_back
  obtain ⟨h1, h2, h3, h4⟩ := p_15 (Tw.encS wkR) 128000
  have e1 : lsE (Rc.rL (Rc.jS [wkP])) = 0 := by rw [b1]; show lsE [wkP] = 0; rw [lsE_cons]; unfold wkP; rw [h1, d0]; rfl
  have e2 : lsK (Rc.rL (Rc.jS [wkP])) = true := by rw [b1, lsK_cons]; unfold wkP; rw [h4]; rfl
  have e3 : lsR (nrH 128000) (Rc.rL (Rc.jS [wkP])) = [⟨5, true, 129000, false, false⟩, ⟨6, false, 0, false, false⟩, ⟨7, true, 131000, false, false⟩] := by
    rw [b1, wk_near0, lsR_cons]; unfold wkP; rw [h2, d1, wk_told]; rfl
  have e4 : lsA (Rc.rL (Rc.jS [wkP])) = [] := by rw [b1, lsA_cons]; unfold wkP; rw [h3]; rfl
  have e : fdE (Rc.jS [wkP]) 128000 = 0 := by
    rw [fd_of b0, if_pos e1, if_pos e2, e3, e4, if_neg (by decide)]
  exact ⟨e, by rw [(fd_lists e).1, e3]⟩
theorem wk_msg : (Rc.jS [wkP]).size ≤ 1000000 := by
  have h := (Rc.rE_zero (Rc.back wk_join).1).1
  exact Nat.le_trans h (by decide)
def wkW (w : World) : World := (w.alloc (.cells #[.int .i64 1, .int .i64 0, .int .i64 1] 3)).alloc (.cells #[.int .i64 4, .int .i64 8] 3)
theorem wk_w (w : World) : Tw.IA (wkW w).heap.size (wkW w) (some ⟨w.heap.size, 0, none⟩) 3 wkR.st ∧ Tw.IA (wkW w).heap.size (wkW w) (some ⟨w.heap.size + 1, 0, none⟩) 2 wkR.dl ∧ Below w.heap.size w (wkW w) := by
  have h0 : (wkW w).heap[w.heap.size]? = some (.cells #[.int .i64 1, .int .i64 0, .int .i64 1] 3 (0, 0)) := ((Apart.refl (fun _ => False) _).alloc _).heap (heap_alloc_new w _) (fun h => h)
  have h1 : (wkW w).heap[w.heap.size + 1]? = some (.cells #[.int .i64 4, .int .i64 8] 3 (0, 0)) := by
    have := heap_alloc_new (w.alloc (.cells #[.int .i64 1, .int .i64 0, .int .i64 1] 3)) (.cells #[.int .i64 4, .int .i64 8] 3)
    rw [World.size_alloc] at this
    exact this
  refine ⟨⟨by simp [wkR], by unfold maxLen; omega, .inr ⟨_, 0, rfl, lt_of_heap h0, fun i v hi => ?_⟩⟩, ⟨by simp [wkR], by unfold maxLen; omega, .inr ⟨_, 0, rfl, lt_of_heap h1, fun i v hi => ?_⟩⟩, (((Apart.refl (fun _ => False) w).alloc _).alloc _).belowZ⟩
  · rw [Nat.zero_add, cell_of_row _ _ i _ 3 _ h0]
    match i, hi with
    | 0, hi => simp [wkR] at hi; subst hi; rfl
    | 1, hi => simp [wkR] at hi; subst hi; rfl
    | 2, hi => simp [wkR] at hi; subst hi; rfl
    | i + 3, hi => simp [wkR] at hi
  · rw [Nat.zero_add, cell_of_row _ _ i _ 3 _ h1]
    match i, hi with
    | 0, hi => simp [wkR] at hi; subst hi; rfl
    | 1, hi => simp [wkR] at hi; subst hi; rfl
    | i + 2, hi => simp [wkR] at hi
theorem pa_one (w : World) (S : ByteArray) (c t : Int) (h : S.size ≤ maxLen) : Rc.PA (w.alloc (.cells #[.int .i64 c, .int .i64 t, .string S] 56)).heap.size (w.alloc (.cells #[.int .i64 c, .int .i64 t, .string S] 56)) (some ⟨w.heap.size, 0, none⟩) [⟨c, t, S⟩] := by
  refine ⟨by unfold maxLen; simp, .inr ⟨_, 0, rfl, by simp, fun i p hi => ?_⟩⟩
  match i, hi with
  | 0, hi =>
    simp at hi; subst hi
    obtain ⟨c0, c1, c2, -⟩ := cells3 (heap_alloc_new w (.cells #[.int .i64 c, .int .i64 t, .string S] 56))
    exact ⟨c0, c1, c2, h⟩
  | i + 1, hi => simp at hi
set_option maxRecDepth 100000 in
set_option maxHeartbeats 2000000 in
theorem wakes_any (w : World) : Calls Tryz.prog 7 #[] w fun e w' => e = .returned (.bool true) ∧ Below w.heap.size w w' := by
  obtain ⟨k0, k1, k2⟩ := wk_w w
  have EC := mkHid (Tw.renc_any wkR (some ⟨w.heap.size, 0, none⟩) 3 (some ⟨w.heap.size + 1, 0, none⟩) 2 (wkW w) k0 k1 (by decide) (by decide) (by decide) (by decide))
  have B0 := mkHid k2
  have hz := Nat.le_trans wk_size.1 (show 20000 ≤ maxLen by unfold maxLen; omega)
  have JC := mkHid (fun (w : World) (S : ByteArray) (hS : S = Tw.encS wkR) => Rc.rjoin_any (some ⟨w.heap.size, 0, none⟩) 1 [⟨15, 205, S⟩] (by simp) (by subst hS; exact Nat.le_trans (sz_one wkP wk_size.1) (by decide)) _ (pa_one w S 15 205 (by subst hS; exact hz)))
  have RC := mkHid (read_any (Rc.jS [wkP]) wk_msg 128000)
  obtain ⟨S, HS⟩ : ∃ S, Hid (Tw.encS wkR = S) := ⟨_, rfl⟩
  rw [(Tw.encE_yes wk_good).1, HS.out] at EC
  have JC' := mkHid (fun (w : World) => JC.out w S HS.out.symm)
  have HP := mkHid (show (⟨15, 205, S⟩ : Rc.Pt) = wkP by rw [← HS.out]; rfl)
  rw [HP.out, wk_join] at JC'
  obtain ⟨T, HT⟩ : ∃ T, Hid (Rc.jS [wkP] = T) := ⟨_, rfl⟩
  rw [HT.out] at JC' RC
  obtain ⟨d0, d1⟩ := wk_reads
  rw [HT.out] at d0 d1
  have HD0 := mkHid d0
  have HD1 := mkHid d1
  unfold Tw.rv wkW at EC
  unfold wkW at B0
  simp only [wkR, List.length_cons, List.length_nil, Nat.zero_add, Nat.reduceAdd] at EC
  clear k0 k1 k2 hz d0 d1 JC
  go_enter Tryz.func7, Tryz.ntmps7
  go_wp2_with fail
  refine (EC.out).mono ?_
  rintro e w1 ⟨rfl, b1⟩
  have B1 := mkHid (B0.out.trans (b1.mono B0.out.size))
  clear b1
  go_wp2_with fail
  refine (JC'.out _).mono ?_
  rintro e w2 ⟨rfl, b2⟩
  have B2 := mkHid ((B1.out.alloc B1.out.size _).trans (b2.mono (by simp; have := B1.out.size; omega)))
  clear b2
  go_wp2_with fail
  refine (RC.out _).mono ?_
  rintro e w3 ⟨⟨a, c, a', c', rfl, ra, ia⟩, b3⟩
  rw [HD0.out, HD1.out]
  rw [HD1.out] at ra
  have B3 := mkHid (B2.out.trans (b3.mono B2.out.size))
  obtain ⟨b, off, r0, ha, _, hr0, c0⟩ := ra.at 0 (by simp)
  subst ha
  obtain ⟨b', off', r1, ha1, _, hr1, c1⟩ := ra.at 1 (by simp)
  obtain ⟨b'', off'', r2, ha2, _, hr2, c2⟩ := ra.at 2 (by simp)
  simp only [Option.some.injEq, Addr.mk.injEq, and_true] at ha1 ha2
  obtain ⟨rfl, rfl⟩ := ha1
  obtain ⟨rfl, rfl⟩ := ha2
  simp only [List.getElem?_cons_zero, List.getElem?_cons_succ, Option.some.injEq] at hr0 hr1 hr2
  subst hr0 hr1 hr2
  have AL := mkHid ((Below.refl w3.heap.size w3).alloc (Nat.le_refl _) (.cells #[.slice (some ⟨b, off, none⟩) 3 c, .slice a' (fdA T 128000).length c'] 26))
  obtain ⟨⟨f0, f1⟩, -⟩ := cells2 (heap_alloc_new w3 (.cells #[.slice (some ⟨b, off, none⟩) 3 c, .slice a' (fdA T 128000).length c'] 26))
  have hbl := (show b < w3.heap.size by assumption)
  have B4 := mkHid (B3.out.trans (AL.out.mono B3.out.size))
  obtain ⟨x0, x1, x2, x3, x4⟩ := rcell_kept c0 AL.out hbl
  obtain ⟨y0, y1, y2, y3, y4⟩ := rcell_kept c1 AL.out hbl
  obtain ⟨z0, z1, z2, z3, z4⟩ := rcell_kept c2 AL.out hbl
  simp only [Nat.zero_mul, Nat.one_mul, Nat.add_zero, Nat.reduceMul] at x0 x1 x2 x3 x4 y0 y1 y2 y3 y4 z0 z1 z2 z3 z4
  unfold fv
  simp only [List.length_cons, List.length_nil, Nat.zero_add, Nat.reduceAdd]
  clear ra ia b3 c0 c1 c2
  go_wp2
  go_ret
  exact ⟨rfl, B4.out⟩
end Go.Proofs.YtdhbakknplnnkaaGreat.Fd
