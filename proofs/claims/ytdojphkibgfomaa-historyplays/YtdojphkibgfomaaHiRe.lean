/-
  What the reference's Hear hands back.
-/
import Derived.Test.YtdojphkibgfomaaHiRd
namespace Go.Proofs.Ytdojphkibgfomaa
open Go.RowKit Go.Maps

theorem rnear_nr (nx q : Int) (h0 : 0 ≤ nx) (h1 : nx ≤ 1000000000000000) (w : World) :
    Calls Try.prog 33 #[.int .i64 (nx - 1), .int .i64 q, .int .i64 16] w fun e w' => e = .returned (.int .i64 (nr nx q)) ∧ Below w.heap.size w w' := by
  have h := rnear_any (nx - 1) q 16 (by omega) (by omega) w
  have e : clV (nx - 1) = nx - 1 := by unfold clV; repeat' split <;> omega
  rw [e, show hf 16 = 32768 from by decide] at h
  exact h
theorem res14 {W : World} {b : Nat} {v0 v1 : Value} (tmps : Array Value) (h2 : tmps.getD 4 undef = .pointer (some ⟨b, 0, none⟩)) (hd : W.heap[b]? = some (.cells #[v0, v1] 42 (0, 0))) :
    (results Try.f14 tmps).run Try.prog W = .ok (.agg #[v0, v1]) W := by
  obtain ⟨c0, c1, -⟩ := cells2 hd
  clear hd
  have h2' : tmps[4]?.getD undef = .pointer (some ⟨b, 0, none⟩) := by rw [← h2]; simp
  simp [results, Try.results14, h2', c0, c1, go_sem]
/-- A frame of which only what is said of its slots is known. -/
theorem act_any {K : Exit → Act → World → Prop} {A : Act} {W : World} (n : Nat) (hs : A.tmps.size = n) (hd : A.defers = []) (h : ∀ u : Nat → Value, (∀ i, A.tmps.getD i undef = u i) → K .normal { tmps := ((List.range n).map u).toArray, defers := [] } W) : K .normal A W := by
  obtain ⟨u, hu, e⟩ := frame_of A n hs hd
  rw [e]
  exact h u hu
theorem Hx.start {w W : World} {qb rb ob : Nat} {T nx la : Int} {L : List Sn} (h : Rf w rb T nx la L) (ok : Ok nx la L) (a : Apart (fun _ => False) w W) (h1 : W.heap[qb]? = some (.cells #[.slice none 0 0, .slice none 0 0] 42 (0, 0))) (h2 : W.heap[ob]? = some (.cells #[.slice none 0 0, .slice none 0 0] 42 (0, 0))) (hq : w.heap.size ≤ qb) (hqo : qb < ob) :
    ∃ ad cp, Hx w qb rb ob T nx la W (.slice none 0 0) (.slice none 0 0) ad cp [] [] L := by
  have hlt := h.lt
  obtain ⟨ad, cp, x1, x2⟩ := h
  exact ⟨ad, cp, h2, h1, a.heap x1 (fun h => h), ownsRow_apart2 x2 a (fun _ _ h => h), World.ownsRow_nil _ _ _ _, World.ownsRow_nil _ _ _ _, ok, by simp [Value.ownBlock], fun k hk => ⟨by have := (x2.lt k hk).2; omega, by simp [Value.ownBlock], by simp [Value.ownBlock]⟩, a.mono (fun _ _ h => h.elim), hlt, hq, hqo, fun k hk => by have := (x2.lt k hk).2; omega⟩
attribute [local go_sem ↓] app_shut
set_option maxRecDepth 100000 in
set_option maxHeartbeats 8000000 in
theorem rhear_any {w : World} {rb : Nat} {T nx la : Int} {L : List Sn} (h : Rf w rb T nx la L) (ok : Ok nx la L) (n1 : nx ≤ 1000000000000000) (a : Option Addr) (c : Nat) (l : List Rp) (hl : RA (fun b => b < w.heap.size ∧ b ≠ rb) w a l) (hn : l.length ≤ 1000000) :
    Calls Try.prog 14 #[.pointer (some ⟨rb, 0, none⟩), .slice a l.length c] w fun e w' => ∃ vg vl, e = .returned (.agg #[vg, vl]) ∧ Rf w' rb T nx la (hrR nx L l) ∧ w'.ownsRow w.heap.size 58 6 vg (hrG nx L l).length (aC (hrG nx L l)) ∧ w'.ownsRow w.heap.size 56 3 vl (hrL nx L l).length (sC (hrL nx L l)) ∧ Apart (· = rb) w w' := by
  have RL := mkHid hl
  have nx0 := ok.nx0
  obtain ⟨G, HG⟩ : ∃ G, Hid (hrG nx L l = G) := ⟨_, rfl⟩
  obtain ⟨K, HK⟩ : ∃ K, Hid (hrL nx L l = K) := ⟨_, rfl⟩
  obtain ⟨R, HR⟩ : ∃ R, Hid (hrR nx L l = R) := ⟨_, rfl⟩
  have HGL := mkHid (hrG_len nx l L)
  have HKL := mkHid (hrL_len nx l L)
  rw [HG.out] at HGL ⊢
  rw [HK.out] at HKL ⊢
  rw [HR.out]
  have HSTART := mkHid (show [] ++ hrG nx L (l.drop 0) = G ∧ [] ++ hrL nx L (l.drop 0) = K ∧ hrR nx L (l.drop 0) = R from ⟨HG.out, HK.out, HR.out⟩)
  obtain ⟨n, HN⟩ : ∃ n, Hid (l.length = n) := ⟨_, rfl⟩
  rw [HN.out] at hn HGL HKL ⊢
  have hn' : (n : Int) ≤ 1000000 := by omega
  have NR := mkHid (fun q W => rnear_nr nx q nx0 n1 W)
  have hw1 : IntKind.i64.wrap (nx - 1) = nx - 1 := by rw [IntKind.wrap_i64]; omega
  have hx := Hx.start (W := (w.alloc (.cells #[.slice none 0 0, .slice none 0 0] 42)).alloc (.cells #[.slice none 0 0, .slice none 0 0] 42)) (qb := w.heap.size) (ob := w.heap.size + 1) h ok (((Apart.refl _ _).alloc _).alloc _) (nx_alloc (heap_alloc_new _ _)) (by
    have := heap_alloc_new (w.alloc (.cells #[.slice none 0 0, .slice none 0 0] 42)) (.cells #[.slice none 0 0, .slice none 0 0] 42)
    rw [show (w.alloc (.cells #[.slice none 0 0, .slice none 0 0] 42)).heap.size = w.heap.size + 1 by simp] at this
    exact this) (Nat.le_refl _) (Nat.lt_succ_self _)
  obtain ⟨ad0, cp0, hx0⟩ := hx
  have H0 := mkHid hx0
  obtain ⟨qb, HQB⟩ : ∃ b, Hid (w.heap.size = b) := ⟨_, rfl⟩
  have hqo : qb < qb + 1 := Nat.lt_succ_self _
  clear h hl hx0 ok
  go_enter Try.func14, Try.ntmps14
  go_wp2
  rw [HQB.out] at H0 ⊢
  obtain ⟨ob, HOB⟩ : ∃ b, Hid (qb + 1 = b) := ⟨_, rfl⟩
  rw [HOB.out] at H0 ⊢
  go_loopw [6, 7, 8] (fun x _ _ wr => ∃ (i : Nat) (vg vl : Value) (ad : Option Addr) (cp : Nat) (ag : List Ak) (al Lr : List Sn), i ≤ n ∧ x = .int .i64 (i : Int) ∧ (ag ++ hrG nx Lr (l.drop i) = G ∧ al ++ hrL nx Lr (l.drop i) = K ∧ hrR nx Lr (l.drop i) = R) ∧ Hx w qb rb ob T nx la wr vg vl ad cp ag al Lr) (fun x _ _ _ => n - (intOf x).toNat)
  case atStart => exact ⟨0, _, _, _, _, [], [], L, Nat.zero_le _, rfl, HSTART.out, H0.out⟩
  case round =>
    obtain ⟨i, vg, vl, ad, cp, ag, al, Lr, hin, rfl, hr, hh⟩ := hrel
    have HRI := mkHid hr
    have HH := mkHid hh
    clear hr hh
    have i0 : (0 : Int) ≤ i := by omega
    obtain ⟨m, HM⟩ : ∃ m, Hid (Lr.length = m) := ⟨_, rfl⟩
    have BX := mkHid HH.out.hb
    rw [HM.out] at BX
    obtain ⟨c0, c1, c2, c3, -⟩ := cells4 BX.out
    have hm : m ≤ 1024 := by rw [← HM.out]; exact HH.out.ok.len
    have hm' : (m : Int) ≤ 1024 := by omega
    by_cases hlt : ¬ i < n
    · have HE := hr_end (nx := nx) (L := Lr) (l := l) (i := i) (by rw [HN.out]; omega)
      have HF := mkHid (show ag = G ∧ al = K ∧ Lr = R by have := HRI.out; rw [HE.1, HE.2.1, HE.2.2, List.append_nil, List.append_nil] at this; exact this)
      clear HE
      obtain ⟨na, HNA⟩ : ∃ n, Hid (ag.length = n) := ⟨_, rfl⟩
      obtain ⟨nb, HNB⟩ : ∃ n, Hid (al.length = n) := ⟨_, rfl⟩
      obtain ⟨ga, gc, hv1⟩ := ownsRow_slice HH.out.og
      obtain ⟨gb, gd, hv2⟩ := ownsRow_slice HH.out.ol
      rw [HNA.out] at hv1
      rw [HNB.out] at hv2
      subst hv1 hv2
      obtain ⟨o0, o1, -⟩ := cells2 HH.out.bx
      obtain ⟨l0, l1, f0, f1⟩ := cells2 HH.out.bq
      obtain rfl : n = i := by omega
      go_wp2
      have E1 := heap_setCell_same _ qb 1 _ 42 (.slice gb nb gd) (heap_setCell_same wr qb 0 _ 42 (.slice ga na gc) HH.out.bq)
      have AQ := (ap_set wr qb 0 (.slice ga na gc)).trans (ap_set _ qb 1 (.slice gb nb gd)) (fun _ _ e => e)
      obtain ⟨e1, e2, e3⟩ := HF.out
      refine bodyPost_ret (res14 _ rfl E1) rfl ⟨_, _, rfl, ?_⟩
      rw [← e1, ← e2, ← e3]
      exact HH.out.fin AQ
    · have hlt : i < n := Decidable.not_not.1 hlt
      have i1 : (i : Int) < n := by omega
      by_cases hnx : ¬ 0 < nx
      · have hL0 : Lr = [] := by
          cases hL : Lr with
          | nil => rfl
          | cons u r =>
            have := HH.out.ok.num u (by rw [hL]; simp)
            omega
        have HF := mkHid (show ag = G ∧ al = K ∧ Lr = R by
          have := HRI.out
          rw [hL0, (hr_nil nx _).1, (hr_nil nx _).2.1, (hr_nil nx _).2.2, List.append_nil, List.append_nil] at this
          rw [hL0]; exact this)
        clear hL0
        obtain ⟨na, HNA⟩ : ∃ n, Hid (ag.length = n) := ⟨_, rfl⟩
        obtain ⟨nb, HNB⟩ : ∃ n, Hid (al.length = n) := ⟨_, rfl⟩
        obtain ⟨ga, gc, hv1⟩ := ownsRow_slice HH.out.og
        obtain ⟨gb, gd, hv2⟩ := ownsRow_slice HH.out.ol
        rw [HNA.out] at hv1
        rw [HNB.out] at hv2
        subst hv1 hv2
        obtain ⟨o0, o1, -⟩ := cells2 HH.out.bx
        obtain ⟨l0, l1, f0, f1⟩ := cells2 HH.out.bq
        go_wp2
        have E1 := heap_setCell_same _ qb 1 _ 42 (.slice gb nb gd) (heap_setCell_same wr qb 0 _ 42 (.slice ga na gc) HH.out.bq)
        have AQ := (ap_set wr qb 0 (.slice ga na gc)).trans (ap_set _ qb 1 (.slice gb nb gd)) (fun _ _ e => e)
        obtain ⟨e1, e2, e3⟩ := HF.out
        refine bodyPost_ret (res14 _ rfl E1) rfl ⟨_, _, rfl, ?_⟩
        rw [← e1, ← e2, ← e3]
        exact HH.out.fin AQ
      · have hnx : 0 < nx := Decidable.not_not.1 hnx
        have hap := HH.out.ap.size
        obtain ⟨b, off, r, rfl, hN, hri, q0, q1, q2, q3, q4⟩ := (RL.out.kept HH.out.ap (fun b hb => ⟨hb.1, fun e => hb.2 e⟩)).at i (by rw [HN.out]; exact hlt)
        have HRI2 := mkHid hri
        obtain ⟨q, g, t, la', ec⟩ := r
        simp only at q0 q1 q2 q3 q4
        have hbl : b < wr.heap.size := by have := hN.1; omega
        obtain ⟨x, HX⟩ : ∃ x, Hid (nr nx q = x) := ⟨_, rfl⟩
        have NQ := mkHid (NR.out q)
        rw [HX.out] at NQ
        go_upto_region 5 with fail
        go_cut [7] (fun s7 wc => s7 = .int .i64 x ∧ Apart (fun _ => False) wr wc)
        case first =>
          go_region_held3 (fun w' => w'.cell? ⟨rb, 2, none⟩ = some (.int .i64 nx) ∧ w'.cell? ⟨b, off + i * 5, none⟩ = some (.int .i64 q)) (go_keep) (first | (go_at_call 33; refine (NQ.out _).mono ?_; rintro e w5 ⟨rfl, b5⟩; have A5 := mkHid ((Apart.refl (fun _ => False) wr).drew.zz (below_apart b5)); have k2 := (cells4 (T := 73) (A5.out.heap BX.out (fun h => h))).2.2.1; have k0 := (show w5.cell? ⟨b, off + i * 5, none⟩ = some (.int .i64 q) by rw [A5.out.cell hbl (fun h => h)]; exact q0)))
          go_wp2_with fail
          go_meet
          case rel => exact ⟨rfl, A5.out⟩
        case rest =>
          obtain ⟨rfl, hA5⟩ := hcut
          have A5 := mkHid hA5
          clear hA5
          have H5 := mkHid (HH.out.on A5.out)
          have RC5 := mkHid (RC.kept (r := ⟨q, g, t, la', ec⟩) ⟨q0, q1, q2, q3, q4⟩ A5.out hbl (fun h => h))
          clear c0 c1 c2 c3 q0 q1 q2 q3 q4
          obtain ⟨c0, c1, c2, c3, -⟩ := cells4 (A5.out.heap BX.out (fun h => h))
          obtain ⟨q0, q1, q2, q3, q4⟩ := RC5.out
          simp only at q0 q1 q2 q3 q4
          go_wp2
          go_loopw [8] (fun y wr2 => ∃ k : Nat, k ≤ m ∧ y = .int .i64 (k : Int) ∧ (∀ (j : Nat) (s : Sn), j < k → Lr[j]? = some s → ¬ s.1 = nr nx q) ∧ wr2 = wc) (fun y _ => m - (intOf y).toNat)
          case atStart => exact ⟨0, Nat.zero_le _, rfl, fun j s hj => absurd hj (Nat.not_lt_zero _), rfl⟩
          case round =>
            obtain ⟨k, hk, rfl, hpast, rfl⟩ := hrel
            have HP := mkHid hpast
            clear hpast
            have k0 : (0 : Int) ≤ k := by omega
            by_cases hkm : k < m
            · have k1 : (k : Int) < m := by omega
              obtain ⟨s, HS⟩ : ∃ s, Hid (Lr[k]? = some s) := ⟨_, List.getElem?_eq_getElem (by rw [HM.out]; exact hkm)⟩
              obtain ⟨gb, cap, hv, -, p0, p1, p2⟩ := own_at H5.out.ow rfl HS.out
              obtain ⟨rfl, rfl⟩ : ad = some ⟨gb, 0, none⟩ ∧ cp = cap := by simpa using hv
              obtain ⟨sn, sz, st⟩ := s
              simp only at p0 p1 p2
              by_cases heq : sn = x
              · subst heq
                have hf : fd nx Lr q = some (sn, sz, st) := fd_at H5.out.ok.rise HS.out HX.out.symm
                cases g with
                | true =>
                    have ST := step_got HRI2.out hf rfl
                    have HRN := mkHid (show (ag ++ [(⟨(sn, sz, st), t, la', ec⟩ : Ak)]) ++ hrG nx (Lr.filter fun u => u.1 != sn) (l.drop (i + 1)) = G ∧ al ++ hrL nx (Lr.filter fun u => u.1 != sn) (l.drop (i + 1)) = K ∧ hrR nx (Lr.filter fun u => u.1 != sn) (l.drop (i + 1)) = R by
                      rw [← ST.2.1, ← ST.2.2, List.append_assoc]
                      have := HRI.out
                      rw [ST.1] at this
                      exact this)
                    have HAL := mkHid (show ag.length ≤ 1000000 by have h1 := congrArg List.length HRI.out.1; rw [List.length_append] at h1; have := HGL.out; omega)
                    clear ST hf
                    have A6 := mkHid (((Apart.refl (fun _ => False) wr).alloc (.cells #[.int .i64 sn, .int .i64 sz, .int .i64 st, .int .i64 t, .bool la', .bool ec] 58)).drew)
                    obtain ⟨v2, w3, hrun, hb3, hh7⟩ := (H5.out.on A6.out).got_told (a := ⟨(sn, sz, st), t, la', ec⟩) (show (wr.alloc (.cells #[.int .i64 sn, .int .i64 sz, .int .i64 st, .int .i64 t, .bool la', .bool ec] 58)).drew.heap[wr.heap.size]? = some _ from heap_alloc_new wr _) HAL.out
                    obtain ⟨ad2, cp2, hv2⟩ := ownsRow_slice hh7.og
                    obtain ⟨n2, HN2⟩ : ∃ n2, Hid ((ag ++ [(⟨(sn, sz, st), t, la', ec⟩ : Ak)]).length = n2) := ⟨_, rfl⟩
                    rw [HN2.out] at hv2
                    subst hv2
                    have H7 := mkHid hh7
                    have HB3 := mkHid hb3
                    obtain ⟨o0, o1, -⟩ := cells2 H5.out.bx
                    obtain ⟨j0, j1, -⟩ := cells2 (H5.out.on A6.out).bx
                    obtain ⟨l0, l1, f0, f1⟩ := cells2 HB3.out
                    clear hh7 hb3
                    go_upto_region 11 with fail
                    go_cut [] (fun wc2 => wc2 = w3.setCell ⟨ob, 0, none⟩ (.slice ad2 n2 cp2))
                    case first =>
                      go_region
                      go_wp2_with fail
                      go_meet
                      case rel => rfl
                    case rest =>
                      subst hcut
                      clear o0 o1 j0 j1 l0 l1 f0 f1 hrun c0 c1 c2 c3 q0 q1 q2 q3 q4 p0 p1 p2
                      obtain ⟨W1, HW1⟩ : ∃ W, Hid (w3.setCell ⟨ob, 0, none⟩ (.slice ad2 n2 cp2) = W) := ⟨_, rfl⟩
                      rw [HW1.out] at H7 ⊢
                      have hmc : m ≤ cp := by
                        rcases H7.out.ow.2 with ⟨e, -⟩ | ⟨g2, cap, cur, e, -, -, h2, -⟩
                        · simp at e
                        · obtain ⟨-, -, rfl⟩ : gb = g2 ∧ Lr.length = Lr.length ∧ cp = cap := by simpa using e
                          rw [← HM.out]; exact h2
                      have hmc' : (m : Int) ≤ cp := by omega
                      have AE := mkHid (((Apart.refl (fun _ => False) W1).alloc (.cells #[] 56)).drew)
                      have hw2 : IntKind.i64.wrap ((k : Int) + 1) = (k : Int) + 1 := by rw [IntKind.wrap_i64]; omega
                      have h1m : (k : Int) + 1 ≤ m := by omega
                      by_cases hc : k + 1 = cp
                      · have hmk : m = k + 1 := by omega
                        obtain ⟨a7, c7, w7, v8, a8, c8, w8, r7, r8, A7, A8, hv8, hh8⟩ := H7.out.drop_told HS.out (.slice (some ⟨gb, 0, none⟩) 0 0) (fun w' h => rest_none HM.out hmk w' _ h)
                        obtain ⟨n8, HN8⟩ : ∃ n8, Hid ((Lr.filter fun u => u.1 != sn).length = n8) := ⟨_, rfl⟩
                        rw [HN8.out] at hv8
                        subst hv8
                        have H8 := mkHid hh8
                        have B7 := H7.out.hb
                        rw [HM.out] at B7
                        obtain ⟨-, x1, -⟩ := cells4 B7
                        obtain ⟨-, y1, -⟩ := cells4 (AE.out.heap B7 (fun h => h))
                        obtain ⟨-, z1, -⟩ := cells4 (A7.heap B7 (fun h => h))
                        obtain ⟨-, f1u, -, -, -, g1, -⟩ := cells4 (A8.heap B7 (fun h => h))
                        clear hh8 B7
                        subst hmk
                        subst hc
                        go_upto_region 13 with fail
                        go_region
                        as_aux_lemma =>
                          clear r7 r8 x1 y1 z1 f1u g1
                          go_wp2
                          go_roundw
                          case rel => exact ⟨i + 1, _, vl, _, _, _, al, _, by omega, by go_num, HRN.out, H8.out⟩
                          case measure => simp [intOf]; omega
                      · obtain ⟨a7, c7, w7, v8, a8, c8, w8, r7, r8, A7, A8, hv8, hh8⟩ := H7.out.drop_told HS.out (.slice (some ⟨gb, (k + 1) * 3, none⟩) (m - (k + 1)) (cp - (k + 1))) (rest_some HM.out)
                        obtain ⟨n8, HN8⟩ : ∃ n8, Hid ((Lr.filter fun u => u.1 != sn).length = n8) := ⟨_, rfl⟩
                        rw [HN8.out] at hv8
                        subst hv8
                        have H8 := mkHid hh8
                        have B7 := H7.out.hb
                        rw [HM.out] at B7
                        obtain ⟨-, x1, -⟩ := cells4 B7
                        obtain ⟨-, y1, -⟩ := cells4 (AE.out.heap B7 (fun h => h))
                        obtain ⟨-, z1, -⟩ := cells4 (A7.heap B7 (fun h => h))
                        obtain ⟨-, f1u, -, -, -, g1, -⟩ := cells4 (A8.heap B7 (fun h => h))
                        clear hh8 B7
                        go_upto_region 13 with fail
                        go_region
                        as_aux_lemma =>
                          clear r7 r8 x1 y1 z1 f1u g1
                          go_wp2
                          go_roundw
                          case rel => exact ⟨i + 1, _, vl, _, _, _, al, _, by omega, by go_num, HRN.out, H8.out⟩
                          case measure => simp [intOf]; omega
                | false =>
                    have ST := step_lost HRI2.out hf rfl
                    have HRN := mkHid (show ag ++ hrG nx (Lr.filter fun u => u.1 != sn) (l.drop (i + 1)) = G ∧ (al ++ [(sn, sz, st)]) ++ hrL nx (Lr.filter fun u => u.1 != sn) (l.drop (i + 1)) = K ∧ hrR nx (Lr.filter fun u => u.1 != sn) (l.drop (i + 1)) = R by
                      rw [← ST.1, ← ST.2.2, List.append_assoc]
                      have := HRI.out
                      rw [ST.2.1] at this
                      exact this)
                    have HAL := mkHid (show al.length ≤ 1000000 by have h1 := congrArg List.length HRI.out.2.1; rw [List.length_append] at h1; have := HKL.out; omega)
                    clear ST hf
                    have A6 := mkHid (((Apart.refl (fun _ => False) wr).alloc (.cells #[.int .i64 sn, .int .i64 sz, .int .i64 st] 56)).drew)
                    obtain ⟨v2, w3, hrun, hb3, hh7⟩ := (H5.out.on A6.out).lost_told (a := (sn, sz, st)) (show (wr.alloc (.cells #[.int .i64 sn, .int .i64 sz, .int .i64 st] 56)).drew.heap[wr.heap.size]? = some _ from heap_alloc_new wr _) HAL.out
                    obtain ⟨ad2, cp2, hv2⟩ := ownsRow_slice hh7.ol
                    obtain ⟨n2, HN2⟩ : ∃ n2, Hid ((al ++ [(sn, sz, st)]).length = n2) := ⟨_, rfl⟩
                    rw [HN2.out] at hv2
                    subst hv2
                    have H7 := mkHid hh7
                    have HB3 := mkHid hb3
                    obtain ⟨o0, o1, -⟩ := cells2 H5.out.bx
                    obtain ⟨j0, j1, -⟩ := cells2 (H5.out.on A6.out).bx
                    obtain ⟨l0, l1, f0, f1⟩ := cells2 HB3.out
                    have B6 := (H5.out.on A6.out).hb
                    rw [HM.out] at B6
                    obtain ⟨-, t1, -⟩ := cells4 B6
                    clear hh7 hb3 B6
                    go_upto_region 12 with fail
                    go_cut [] (fun wc2 => wc2 = w3.setCell ⟨ob, 1, none⟩ (.slice ad2 n2 cp2))
                    case first =>
                      go_region
                      go_wp2_with fail
                      go_meet
                      case rel => rfl
                    case rest =>
                      subst hcut
                      clear o0 o1 j0 j1 l0 l1 f0 f1 hrun c0 c1 c2 c3 q0 q1 q2 q3 q4 p0 p1 p2 t1
                      obtain ⟨W1, HW1⟩ : ∃ W, Hid (w3.setCell ⟨ob, 1, none⟩ (.slice ad2 n2 cp2) = W) := ⟨_, rfl⟩
                      rw [HW1.out] at H7 ⊢
                      have hmc : m ≤ cp := by
                        rcases H7.out.ow.2 with ⟨e, -⟩ | ⟨g2, cap, cur, e, -, -, h2, -⟩
                        · simp at e
                        · obtain ⟨-, -, rfl⟩ : gb = g2 ∧ Lr.length = Lr.length ∧ cp = cap := by simpa using e
                          rw [← HM.out]; exact h2
                      have hmc' : (m : Int) ≤ cp := by omega
                      have AE := mkHid (((Apart.refl (fun _ => False) W1).alloc (.cells #[] 56)).drew)
                      have hw2 : IntKind.i64.wrap ((k : Int) + 1) = (k : Int) + 1 := by rw [IntKind.wrap_i64]; omega
                      have h1m : (k : Int) + 1 ≤ m := by omega
                      by_cases hc : k + 1 = cp
                      · have hmk : m = k + 1 := by omega
                        obtain ⟨a7, c7, w7, v8, a8, c8, w8, r7, r8, A7, A8, hv8, hh8⟩ := H7.out.drop_told HS.out (.slice (some ⟨gb, 0, none⟩) 0 0) (fun w' h => rest_none HM.out hmk w' _ h)
                        obtain ⟨n8, HN8⟩ : ∃ n8, Hid ((Lr.filter fun u => u.1 != sn).length = n8) := ⟨_, rfl⟩
                        rw [HN8.out] at hv8
                        subst hv8
                        have H8 := mkHid hh8
                        have B7 := H7.out.hb
                        rw [HM.out] at B7
                        obtain ⟨-, x1, -⟩ := cells4 B7
                        obtain ⟨-, y1, -⟩ := cells4 (AE.out.heap B7 (fun h => h))
                        obtain ⟨-, z1, -⟩ := cells4 (A7.heap B7 (fun h => h))
                        obtain ⟨-, f1u, -, -, -, g1, -⟩ := cells4 (A8.heap B7 (fun h => h))
                        clear hh8 B7
                        subst hmk
                        subst hc
                        go_upto_region 13 with fail
                        go_region
                        as_aux_lemma =>
                          clear r7 r8 x1 y1 z1 f1u g1
                          go_wp2
                          go_roundw
                          case rel => exact ⟨i + 1, vg, _, _, _, ag, _, _, by omega, by go_num, HRN.out, H8.out⟩
                          case measure => simp [intOf]; omega
                      · obtain ⟨a7, c7, w7, v8, a8, c8, w8, r7, r8, A7, A8, hv8, hh8⟩ := H7.out.drop_told HS.out (.slice (some ⟨gb, (k + 1) * 3, none⟩) (m - (k + 1)) (cp - (k + 1))) (rest_some HM.out)
                        obtain ⟨n8, HN8⟩ : ∃ n8, Hid ((Lr.filter fun u => u.1 != sn).length = n8) := ⟨_, rfl⟩
                        rw [HN8.out] at hv8
                        subst hv8
                        have H8 := mkHid hh8
                        have B7 := H7.out.hb
                        rw [HM.out] at B7
                        obtain ⟨-, x1, -⟩ := cells4 B7
                        obtain ⟨-, y1, -⟩ := cells4 (AE.out.heap B7 (fun h => h))
                        obtain ⟨-, z1, -⟩ := cells4 (A7.heap B7 (fun h => h))
                        obtain ⟨-, f1u, -, -, -, g1, -⟩ := cells4 (A8.heap B7 (fun h => h))
                        clear hh8 B7
                        go_upto_region 13 with fail
                        go_region
                        as_aux_lemma =>
                          clear r7 r8 x1 y1 z1 f1u g1
                          go_wp2
                          go_roundw
                          case rel => exact ⟨i + 1, vg, _, _, _, ag, _, _, by omega, by go_num, HRN.out, H8.out⟩
                          case measure => simp [intOf]; omega
              · go_wp2
                go_roundw
                case rel =>
                  refine ⟨k + 1, by omega, by go_num, fun j u hj hu => ?_, trivial⟩
                  rcases Nat.lt_succ_iff_lt_or_eq.1 hj with hj | rfl
                  · exact HP.out j u hj hu
                  · have := HS.out.symm.trans hu
                    cases this
                    rw [HX.out]; exact heq
                case measure => simp [intOf]; omega
            · obtain rfl : m = k := by omega
              have hf : fd nx Lr q = none := fd_none (k := m) (by rw [HM.out]; exact Nat.le_refl _) HP.out
              have ST := step_none HRI2.out hf
              have HRN := mkHid (show ag ++ hrG nx Lr (l.drop (i + 1)) = G ∧ al ++ hrL nx Lr (l.drop (i + 1)) = K ∧ hrR nx Lr (l.drop (i + 1)) = R by rw [← ST.1, ← ST.2.1, ← ST.2.2]; exact HRI.out)
              clear ST hf
              go_wp2
              go_roundw
              case rel => exact ⟨i + 1, vg, vl, ad, cp, ag, al, Lr, by omega, by go_num, HRN.out, H5.out⟩
              case measure => simp [intOf]; omega
end Go.Proofs.Ytdojphkibgfomaa
