/-
  What the function that holds two reports against each other hands back.
-/
import Derived.Test.YtohembamfjbclaaCcM
import Derived.Deep.LoopGhost
namespace Go.Proofs.Ytohembamfjbclaa
open Go.RowKit

/-- Are two reports alike? -/
def eqM (x y : Mt) : Bool := (x.g == y.g) && decide (x.e = y.e) && decide (x.a = y.a)
def eqMs : List Mt → List Mt → Bool
  | [], [] => true
  | x :: l, y :: k => eqM x y && eqMs l k
  | _, _ => false
def eqK (x y : Bk) : Bool := decide (x.s = y.s) && decide (x.f = y.f) && eqMs x.m y.m
def eqKs : List Bk → List Bk → Bool
  | [], [] => true
  | x :: l, y :: k => eqK x y && eqKs l k
  | _, _ => false
theorem eqM_iff {x y : Mt} : eqM x y = true ↔ x = y := by
  constructor
  · intro h
    simp only [eqM, Bool.and_eq_true, beq_iff_eq, decide_eq_true_eq] at h
    exact Mt.eq h.1.1 h.1.2 h.2
  · rintro rfl; simp [eqM]
theorem eqMs_iff {l : List Mt} : ∀ {k : List Mt}, eqMs l k = true ↔ l = k := by
  induction l with
  | nil => intro k; cases k <;> simp [eqMs]
  | cons x l ih => intro k; cases k with
    | nil => simp [eqMs]
    | cons y k => simp [eqMs, eqM_iff, ih]
theorem eqK_iff {x y : Bk} : eqK x y = true ↔ x = y := by
  constructor
  · intro h
    simp only [eqK, Bool.and_eq_true, decide_eq_true_eq, eqMs_iff] at h
    exact Bk.eq h.1.1 h.1.2 h.2
  · rintro rfl; simp [eqK, eqMs_iff]
theorem eqKs_iff {l : List Bk} : ∀ {k : List Bk}, eqKs l k = true ↔ l = k := by
  induction l with
  | nil => intro k; cases k <;> simp [eqKs]
  | cons x l ih => intro k; cases k with
    | nil => simp [eqKs]
    | cons y k => simp [eqKs, eqK_iff, ih]
def sameB (sd : Int) (l : List Bk) (st : Int) (sd' : Int) (l' : List Bk) (st' : Int) : Bool := decide (sd = sd') && eqKs l l' && decide (st = st')
theorem same_iff {sd st sd' st' : Int} {l l' : List Bk} : sameB sd l st sd' l' st' = true ↔ (sd = sd' ∧ l = l' ∧ st = st') := by
  simp only [sameB, Bool.and_eq_true, decide_eq_true_eq, eqKs_iff, and_assoc]
theorem same_yes {sd st sd' st' : Int} {l l' : List Bk} (h : sd = sd' ∧ l = l' ∧ st = st') : sameB sd l st sd' l' st' = true := same_iff.2 h
theorem same_no {sd st sd' st' : Int} {l l' : List Bk} (h : ¬ (sd = sd' ∧ l = l' ∧ st = st')) : sameB sd l st sd' l' st' = false := by
  cases e : sameB sd l st sd' l' st' with
  | false => rfl
  | true => exact absurd (same_iff.1 e) h
theorem take_next {α : Type} {l l' : List α} {k : Nat} {x y : α} (h : l[k]? = some x) (h' : l'[k]? = some y) (ht : l.take k = l'.take k) (e : x = y) : l.take (k + 1) = l'.take (k + 1) := by
  rw [List.take_add_one, List.take_add_one, h, h', ht, e]
/-- Where two sources differ. -/
theorem same_at {sd st sd' st' : Int} {l l' : List Bk} {k : Nat} {x y : Bk} (h : l[k]? = some x) (h' : l'[k]? = some y) (hn : ¬ (x.s = y.s ∧ x.f = y.f ∧ x.m = y.m)) : sameB sd l st sd' l' st' = false := by
  refine same_no fun e => hn ?_
  rw [e.2.1, h'] at h
  obtain rfl := Option.some.inj h
  exact ⟨rfl, rfl, rfl⟩
theorem two_new (w : World) (o p : Obj) : ((w.alloc o).alloc p).drew.heap[w.heap.size]? = some o ∧ ((w.alloc o).alloc p).drew.heap[w.heap.size + 1]? = some p ∧ Apart (fun _ => False) w ((w.alloc o).alloc p).drew := by
  refine ⟨?_, ?_, (((Apart.refl _ w).alloc o).alloc p).drew⟩
  · exact ((Apart.refl (fun _ => False) (w.alloc o)).alloc p).heap (heap_alloc_new w o) (fun h => h)
  · have := heap_alloc_new (w.alloc o) p
    rw [World.size_alloc] at this
    exact this
set_option maxRecDepth 100000 in
set_option maxHeartbeats 4000000 in
theorem same_any (sd st sd' st' : Int) (a a' : Option Addr) (cap cap' : Nat) (l l' : List Bk) (w : World) (h : BA w.heap.size w a l) (h' : BA w.heap.size w a' l') :
    Calls Try.prog 15 #[rv sd a l.length cap st, rv sd' a' l'.length cap' st'] w fun e w' => e = .returned (.bool (sameB sd l st sd' l' st')) ∧ Apart (fun _ => False) w w' := by
  unfold rv
  have n1 := h.1
  have n1' := h'.1
  unfold maxLen at n1 n1'
  have H := mkHid h
  have H' := mkHid h'
  obtain ⟨n, HN⟩ : ∃ n, Hid (l.length = n) := ⟨_, rfl⟩
  obtain ⟨n', HN'⟩ : ∃ n', Hid (l'.length = n') := ⟨_, rfl⟩
  rw [HN.out] at n1 ⊢
  rw [HN'.out] at n1' ⊢
  have m1 : (n : Int) ≤ 9223372036854775807 := by omega
  have m1' : (n' : Int) ≤ 9223372036854775807 := by omega
  clear n1 h n1' h'
  have A0 := mkHid (((Apart.refl (fun _ => False) w).alloc (.cells #[.int .u32 sd, .slice a n cap, .int .u32 st] 25)).alloc (.cells #[.int .u32 sd', .slice a' n' cap', .int .u32 st'] 25))
  have N0 := mkHid (Rv.kept (Rv.new w sd (.slice a n cap) st) ((Apart.refl (fun _ => False) _).alloc (.cells #[.int .u32 sd', .slice a' n' cap', .int .u32 st'] 25)) (fun h => h))
  have n0' := Rv.new (w.alloc (.cells #[.int .u32 sd, .slice a n cap, .int .u32 st] 25)) sd' (.slice a' n' cap') st'
  rw [World.size_alloc] at n0'
  have N0' := mkHid n0'
  clear n0'
  obtain ⟨bx, HBX⟩ : ∃ bx, Hid (w.heap.size = bx) := ⟨_, rfl⟩
  obtain ⟨W, HW⟩ : ∃ W, Hid ((w.alloc (.cells #[.int .u32 sd, .slice a n cap, .int .u32 st] 25)).alloc (.cells #[.int .u32 sd', .slice a' n' cap', .int .u32 st'] 25) = W) := ⟨_, rfl⟩
  rw [HBX.out, HW.out] at N0 N0'
  rw [HW.out] at A0
  obtain ⟨c0, c1, c2, _⟩ := cells3 N0.out
  obtain ⟨k0, k1, k2, _⟩ := cells3 N0'.out
  by_cases y1 : sd = sd'
  · subst y1
    by_cases y2 : st = st'
    · subst y2
      by_cases y3 : (n : Int) = n'
      · obtain rfl : n = n' := by omega
        go_enter Try.func15, Try.ntmps15
        go_wp2
        rw [HW.out, HBX.out]
        clear c0 c1 c2 k0 k1 k2
        go_loopg [5] n (fun G i wr => ∃ k : Nat, G = n - k ∧ k ≤ n ∧ i = .int .i64 (k : Int) ∧ Apart (fun _ => False) W wr ∧ l.take k = l'.take k)
        case atStart => exact ⟨0, rfl, Nat.zero_le _, rfl, Apart.refl _ _, by simp⟩
        case round =>
          obtain ⟨k, rfl, hk, rfl, ha, htk⟩ := hrel
          obtain ⟨c0, c1, c2, _⟩ := cells3 (N0.out.kept ha (fun h => h))
          obtain ⟨k0, k1, k2, _⟩ := cells3 (N0'.out.kept ha (fun h => h))
          have HA := mkHid (A0.out.zz ha)
          have HA1 := mkHid ha
          have HTK := mkHid htk
          clear ha htk
          by_cases hlt : k < n
          · obtain ⟨b, off, x, rfl, hb, hx, d0, d1, ⟨ma, mc, d2, hma⟩, _⟩ := (H.out.kept HA.out.belowZ).at k (by rw [HN.out]; exact hlt)
            obtain ⟨b', off', x', rfl, hb', hx', d0', d1', ⟨ma', mc', d2', hma'⟩, _⟩ := (H'.out.kept HA.out.belowZ).at k (by rw [HN'.out]; exact hlt)
            have HX := mkHid hx
            have HX' := mkHid hx'
            have HMA := mkHid (hma.up HA.out.size)
            have HMA' := mkHid (hma'.up HA.out.size)
            have HML := mkHid hma.1
            have HML' := mkHid hma'.1
            have HAT := mkHid (same_at (sd := sd) (st := st) (sd' := sd) (st' := st) hx hx')
            obtain ⟨ss, f, ml⟩ := x
            obtain ⟨ss', f', ml'⟩ := x'
            simp only at d0 d1 d2 d0' d1' d2' HMA HMA' HML HML' HAT
            obtain ⟨M, HM⟩ : ∃ M, Hid (ml.length = M) := ⟨_, rfl⟩
            obtain ⟨M', HM'⟩ : ∃ M', Hid (ml'.length = M') := ⟨_, rfl⟩
            rw [HM.out] at d2 HML
            rw [HM'.out] at d2' HML'
            have hM : (M : Int) ≤ 9223372036854775807 := by have := HML.out; unfold maxLen at this; omega
            have hM' : (M' : Int) ≤ 9223372036854775807 := by have := HML'.out; unfold maxLen at this; omega
            have hk0 : (0 : Int) ≤ k := by omega
            have hk1 : (k : Int) < n := by omega
            have z0 : w.heap.size ≤ wr.heap.size := HA.out.size
            have z1 : bx < wr.heap.size := lt_of_heap (N0.out.kept HA1.out (fun h => h))
            have z2 : bx + 1 < wr.heap.size := lt_of_heap (N0'.out.kept HA1.out (fun h => h))
            have z3 : bx < wr.heap.size + 1 := by omega
            have z4 : bx + 1 < wr.heap.size + 1 := by omega
            have z5 : b < wr.heap.size := by omega
            have z6 : b' < wr.heap.size := by omega
            have z7 : b < wr.heap.size + 1 := by omega
            have z8 : b' < wr.heap.size + 1 := by omega
            clear hx hx' hb hb' hma hma' z0
            go_upto_region 6 with fail
            go_cut [6, 7] (fun s6 s7 wc => ∃ xb yb, s6 = .pointer (some ⟨xb, 0, none⟩) ∧ s7 = .pointer (some ⟨yb, 0, none⟩) ∧ wc.heap[xb]? = some (.cells #[.int .u32 ss, .int .i64 f, .slice ma M mc] 44 (0, 0)) ∧ wc.heap[yb]? = some (.cells #[.int .u32 ss', .int .i64 f', .slice ma' M' mc'] 44 (0, 0)) ∧ Apart (fun _ => False) wr wc)
            case first =>
              go_region
              all_goals (go_wp2; go_meet)
              all_goals first
                | exact ⟨_, _, rfl, rfl, (two_new _ _ _).1, (two_new _ _ _).2.1, (two_new _ _ _).2.2⟩
                | exact ⟨_, _, rfl, rfl, (two_new _ _ _).2.1, (two_new _ _ _).1, (two_new _ _ _).2.2⟩
            case rest =>
              obtain ⟨xb, yb, rfl, rfl, hxb, hyb, hac⟩ := hcut
              have NX := mkHid hxb
              have NY := mkHid hyb
              have AC := mkHid (HA1.out.zz hac)
              have MC1 := mkHid (HMA.out.kept hac.belowZ)
              have MC2 := mkHid (HMA'.out.kept hac.belowZ)
              have zc := hac.size
              obtain ⟨p0, p1, p2, _⟩ := cells3 hxb
              obtain ⟨q0, q1, q2, _⟩ := cells3 hyb
              clear hxb hyb hac c0 c1 c2 k0 k1 k2 d0 d1 d2 d0' d1' d2' z1 z2 z3 z4 z5 z6 z7 z8
              by_cases y4 : ss = ss'
              · subst y4
                by_cases y5 : f = f'
                · subst y5
                  by_cases y6 : (M : Int) = M'
                  · obtain rfl : M = M' := by omega
                    obtain ⟨B, HB⟩ : ∃ B, Hid (wr.heap.size = B) := ⟨_, rfl⟩
                    rw [HB.out] at MC1 MC2 zc
                    clear y6
                    go_wp2
                    obtain ⟨W1, HW1⟩ : ∃ W1, W1 = wc := ⟨_, rfl⟩
                    subst HW1
                    clear p0 p1 p2 q0 q1 q2
                    go_loopw [8] (fun i wr => ∃ j : Nat, j ≤ M ∧ i = .int .i64 (j : Int) ∧ Apart (fun _ => False) W1 wr ∧ ml.take j = ml'.take j) (fun i _ => M - (intOf i).toNat)
                    case atStart => exact ⟨0, Nat.zero_le _, rfl, Apart.refl _ _, by simp⟩
                    case round =>
                      obtain ⟨j, hj, rfl, ha, htj⟩ := hrel
                      obtain ⟨p0, p1, p2, _⟩ := cells3 (ha.heap NX.out (fun h => h))
                      obtain ⟨q0, q1, q2, _⟩ := cells3 (ha.heap NY.out (fun h => h))
                      have HAJ := mkHid (AC.out.zz ha)
                      have HAJ1 := mkHid ha
                      have HTJ := mkHid htj
                      have M1 := mkHid (MC1.out.kept (ha.belowF B zc))
                      have M2 := mkHid (MC2.out.kept (ha.belowF B zc))
                      clear ha htj
                      by_cases hlj : j < M
                      · obtain ⟨b1, o1, m, rfl, _, hm, r0, r1, r2⟩ := M1.out.at j (by rw [HM.out]; exact hlj)
                        obtain ⟨b2, o2, m', rfl, _, hm', s0, s1, s2⟩ := M2.out.at j (by rw [HM'.out]; exact hlj)
                        have HMM := mkHid hm
                        have HMM' := mkHid hm'
                        have HDF := mkHid (show ¬ m = m' → sameB sd l st sd l' st = false from fun hne => HAT.out (fun e => hne (by
                          have e2 := e.2.2
                          subst e2
                          rw [hm] at hm'
                          exact Option.some.inj hm')))
                        obtain ⟨g, ec, ag⟩ := m
                        obtain ⟨g', ec', ag'⟩ := m'
                        simp only at r0 r1 r2 s0 s1 s2
                        have hj0 : (0 : Int) ≤ j := by omega
                        have hj1 : (j : Int) < M := by omega
                        clear hm hm'
                        by_cases x1 : g = g'
                        · subst x1
                          by_cases x2 : ec = ec'
                          · subst x2
                            by_cases x3 : ag = ag'
                            · subst x3
                              have HT := mkHid (take_next HMM.out HMM'.out HTJ.out rfl)
                              go_wp2
                              go_quiet (fail)
                              go_wp2
                              go_roundw
                              case rel => exact ⟨j + 1, by omega, by go_num, HAJ1.out.drewN _, HT.out⟩
                              case measure => simp [intOf]; omega
                            · have HF := mkHid (HDF.out (by simp [x3]))
                              have x3' : (ag != ag') = true := by simpa using x3
                              go_wp2
                              go_quiet (fail)
                              go_wp2
                              go_ret
                              exact ⟨ret_b HF.out.symm, (A0.out.zz HAJ.out).drewN _⟩
                          · have HF := mkHid (HDF.out (by simp [x2]))
                            have x2' : (ec != ec') = true := by simpa using x2
                            go_wp2
                            go_quiet (fail)
                            go_wp2
                            go_ret
                            exact ⟨ret_b HF.out.symm, (A0.out.zz HAJ.out).drewN _⟩
                        · have HF := mkHid (HDF.out (by simp [x1]))
                          clear HDF HMM HMM'
                          cases g with
                          | true =>
                            obtain rfl : g' = false := by
                              cases g' with
                              | false => rfl
                              | true => exact absurd rfl x1
                            clear x1
                            go_wp2
                            go_quiet (fail)
                            go_wp2
                            go_ret
                            exact ⟨ret_b HF.out.symm, (A0.out.zz HAJ.out).drewN _⟩
                          | false =>
                            obtain rfl : g' = true := by
                              cases g' with
                              | true => rfl
                              | false => exact absurd rfl x1
                            clear x1
                            go_wp2
                            go_quiet (fail)
                            go_wp2
                            go_ret
                            exact ⟨ret_b HF.out.symm, (A0.out.zz HAJ.out).drewN _⟩
                      · obtain rfl : j = M := by omega
                        have HMQ := mkHid (show ml = ml' by have := HTJ.out; rwa [← HM.out, List.take_length, HM.out, ← HM'.out, List.take_length] at this)
                        have HT := mkHid (take_next HX.out HX'.out HTK.out (by rw [HMQ.out]))
                        go_wp2
                        go_roundg (n - (k + 1))
                        case measure => omega
                        case rel => exact ⟨k + 1, rfl, by omega, by go_num, HAJ.out, HT.out⟩
                  · have HF := mkHid (HAT.out (fun e => y6 (by rw [← HM.out, ← HM'.out, e.2.2])))
                    go_wp2
                    go_ret
                    exact ⟨ret_b HF.out.symm, A0.out.zz AC.out⟩
                · have HF := mkHid (HAT.out (fun e => y5 e.2.1))
                  go_wp2
                  go_ret
                  exact ⟨ret_b HF.out.symm, A0.out.zz AC.out⟩
              · have HF := mkHid (HAT.out (fun e => y4 e.1))
                go_wp2
                go_ret
                exact ⟨ret_b HF.out.symm, A0.out.zz AC.out⟩
          · obtain rfl : k = n := by omega
            have HF := mkHid (show sameB sd l st sd l' st = true from same_yes ⟨rfl, by have := HTK.out; rwa [← HN.out, List.take_length, HN.out, ← HN'.out, List.take_length] at this, rfl⟩)
            go_wp2
            go_ret
            exact ⟨ret_b HF.out.symm, HA.out⟩
      · have HF := mkHid (show sameB sd l st sd l' st = false from same_no fun e => y3 (by rw [← HN.out, ← HN'.out, e.2.1]))
        go_enter Try.func15, Try.ntmps15
        go_wp2
        rw [HW.out]
        go_ret
        exact ⟨ret_b HF.out.symm, A0.out⟩
    · have HF := mkHid (show sameB sd l st sd l' st' = false from same_no fun e => y2 e.2.2)
      go_enter Try.func15, Try.ntmps15
      go_wp2
      rw [HW.out]
      go_ret
      exact ⟨ret_b HF.out.symm, A0.out⟩
  · have HF := mkHid (show sameB sd l st sd' l' st' = false from same_no fun e => y1 e.1)
    go_enter Try.func15, Try.ntmps15
    go_wp2
    rw [HW.out]
    go_ret
    exact ⟨ret_b HF.out.symm, A0.out⟩
end Go.Proofs.Ytohembamfjbclaa
