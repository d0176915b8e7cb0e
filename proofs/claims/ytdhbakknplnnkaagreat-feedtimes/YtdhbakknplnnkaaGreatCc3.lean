/-
  What the reference's Good, size and Large hand back.
-/
import Derived.Test.YtdhbakknplnnkaaGreatCc1
import Derived.Deep.LoopGhost
import Derived.Test.YtdhbakknplnnkaaGreatCc2
namespace Go.Proofs.YtdhbakknplnnkaaGreat.Cc
open Go.RowKit

theorem mtOk_no {m : Mt} (h : m.e < 0 ∨ 3 < m.e ∨ m.a < 0 ∨ 8191 < m.a ∨ (m.g = false ∧ ¬ (m.e = 0 ∧ m.a = 0))) : mtOk m = false := by
  cases e : mtOk m with
  | false => rfl
  | true =>
    have hb := mtOk_bd e
    exfalso
    rcases h with h | h | h | h | ⟨h1, h2⟩
    · omega
    · omega
    · omega
    · omega
    · unfold mtOk at e; rw [h1] at e; simp at e; exact h2 e
theorem mtOk_yes {m : Mt} (h0 : 0 ≤ m.e) (h1 : m.e ≤ 3) (h2 : 0 ≤ m.a) (h3 : m.a ≤ 8191) (h4 : m.g = true ∨ (m.e = 0 ∧ m.a = 0)) : mtOk m = true := by
  unfold mtOk
  cases hg : m.g with
  | true => simp [inR, h0, h1, h2, h3]
  | false =>
    rw [hg] at h4
    rcases h4 with h | h
    · cases h
    · simp [h]
theorem good_no {l : List Bk} {k : Nat} {x : Bk} (hx : l[k]? = some x) (h : x.f < 0 ∨ 65535 < x.f ∨ 4096 < x.m.length ∨ x.m.all mtOk = false) : goodL l = false := by
  cases e : goodL l with
  | false => rfl
  | true =>
    obtain ⟨h0, h1, h2, h3⟩ := goodL_at e hx
    exfalso
    rcases h with h | h | h | h
    · omega
    · omega
    · omega
    · rw [h] at h3; cases h3
set_option maxRecDepth 100000 in
set_option maxHeartbeats 1000000 in
theorem rgood_any (sd st : Int) (a : Option Addr) (cap : Nat) (l : List Bk) (w : World) (h : BA w.heap.size w a l) :
    Calls Tryz.prog 28 #[rv sd a l.length cap st] w fun e w' => e = .returned (.bool (goodL l)) ∧ Apart (fun _ => False) w w' := by
  unfold rv
  have n1 := h.1
  unfold maxLen at n1
  have H := mkHid h
  obtain ⟨n, HN⟩ : ∃ n, Hid (l.length = n) := ⟨_, rfl⟩
  rw [HN.out] at n1 ⊢
  have m1 : (n : Int) ≤ 9223372036854775807 := by omega
  clear n1 h
  have A0 := mkHid ((Apart.refl (fun _ => False) w).alloc (.cells #[.int .u32 sd, .slice a n cap, .int .u32 st] 53))
  have N0 := mkHid (Rv.new w sd (.slice a n cap) st)
  obtain ⟨bx, HBX⟩ : ∃ bx, Hid (w.heap.size = bx) := ⟨_, rfl⟩
  obtain ⟨W, HW⟩ : ∃ W, Hid (w.alloc (.cells #[.int .u32 sd, .slice a n cap, .int .u32 st] 53) = W) := ⟨_, rfl⟩
  rw [HBX.out, HW.out] at N0
  rw [HW.out] at A0
  obtain ⟨c0, c1, c2, _⟩ := cells3 N0.out
  by_cases h1 : (16 : Int) < n
  · have HF := mkHid (show goodL l = false by unfold goodL; rw [HN.out]; simp; omega)
    go_enter Tryz.func28, Tryz.ntmps28
    go_wp2
    rw [HW.out]
    go_ret
    exact ⟨ret_b HF.out.symm, A0.out⟩
  · have HG := mkHid (show goodL l = l.all bkOk by unfold goodL; rw [HN.out]; simp; omega)
    have h1' : (n : Int) ≤ 16 := by omega
    clear h1 m1
    go_enter Tryz.func28, Tryz.ntmps28
    go_wp2
    rw [HW.out, HBX.out]
    clear c0 c1 c2
    go_loopw [3] (fun i wr => ∃ k : Nat, k ≤ n ∧ i = .int .i64 (k : Int) ∧ Apart (fun _ => False) W wr ∧ (l.take k).all bkOk = true) (fun i _ => n - (intOf i).toNat)
    case atStart => exact ⟨0, Nat.zero_le _, rfl, Apart.refl _ _, rfl⟩
    case round =>
      obtain ⟨k, hk, rfl, ha, hall⟩ := hrel
      obtain ⟨c0, c1, c2, _⟩ := cells3 (N0.out.kept ha (fun h => h))
      have HA := mkHid (A0.out.zz ha)
      have HA1 := mkHid ha
      have HALL := mkHid hall
      clear ha hall
      by_cases hlt : k < n
      · obtain ⟨b, off, x, rfl, hb, hx, d0, d1, ⟨ma, mc, d2, hma⟩, _⟩ := (H.out.kept HA.out.belowZ).at k (by rw [HN.out]; exact hlt)
        have HX := mkHid hx
        have HGN := mkHid (good_no hx)
        have HMA := mkHid (hma.up HA.out.size)
        have HML := mkHid hma.1
        obtain ⟨ss, f, ml⟩ := x
        simp only at d0 d1 d2 HMA HML HGN
        obtain ⟨M, HM⟩ : ∃ M, Hid (ml.length = M) := ⟨_, rfl⟩
        rw [HM.out] at d2 HML HGN
        have hM : (M : Int) ≤ 9223372036854775807 := by have := HML.out; unfold maxLen at this; omega
        have hk0 : (0 : Int) ≤ k := by omega
        have hk1 : (k : Int) < n := by omega
        clear hx hb hma HML
        by_cases y1 : f < 0
        · have HF := mkHid (HGN.out (.inl y1))
          go_wp2
          go_ret
          exact ⟨ret_b HF.out.symm, HA.out.alloc _⟩
        by_cases y2 : 65535 < f
        · have HF := mkHid (HGN.out (.inr (.inl y2)))
          go_wp2
          go_ret
          exact ⟨ret_b HF.out.symm, HA.out.alloc _⟩
        by_cases y3 : (4096 : Int) < M
        · have HF := mkHid (HGN.out (.inr (.inr (.inl (by omega)))))
          go_wp2
          go_ret
          exact ⟨ret_b HF.out.symm, HA.out.alloc _⟩
        have y3' : (M : Int) ≤ 4096 := by omega
        obtain ⟨wx, HWX⟩ : ∃ wx, wx = wr := ⟨_, rfl⟩
        subst HWX
        have N1 := mkHid (heap_alloc_new wx (.cells #[.int .u32 ss, .int .i64 f, .slice ma M mc] 49))
        have P1 := mkHid (HA1.out.alloc (.cells #[.int .u32 ss, .int .i64 f, .slice ma M mc] 49))
        obtain ⟨xb, HXB⟩ : ∃ xb, Hid (wx.heap.size = xb) := ⟨_, rfl⟩
        rw [HXB.out] at N1
        have M1 := mkHid (HMA.out.kept ((Apart.refl (fun _ => False) wx).alloc (.cells #[.int .u32 ss, .int .i64 f, .slice ma M mc] 49)).belowZ)
        rw [HXB.out] at M1
        have ZB := mkHid (show xb < (wx.alloc (.cells #[.int .u32 ss, .int .i64 f, .slice ma M mc] 49)).heap.size by rw [World.size_alloc, HXB.out]; omega)
        obtain ⟨W1, HW1⟩ : ∃ W1, Hid (wx.alloc (.cells #[.int .u32 ss, .int .i64 f, .slice ma M mc] 49) = W1) := ⟨_, rfl⟩
        go_wp2
        rw [HW1.out, HXB.out]
        rw [HW1.out] at N1 P1 M1 ZB
        clear c0 c1 c2 d0 d1 d2 hM
        go_loopw [5] (fun i wr => ∃ j : Nat, j ≤ M ∧ i = .int .i64 (j : Int) ∧ Apart (fun _ => False) W1 wr ∧ (ml.take j).all mtOk = true) (fun i _ => M - (intOf i).toNat)
        case atStart => exact ⟨0, Nat.zero_le _, rfl, Apart.refl _ _, rfl⟩
        case round =>
          obtain ⟨j, hj, rfl, ha, hall⟩ := hrel
          obtain ⟨d0, d1, d2, _⟩ := cells3 (ha.heap N1.out (fun h => h))
          have HAJ := mkHid (P1.out.zz ha)
          have HALJ := mkHid hall
          have M2 := mkHid (M1.out.kept (ha.belowF xb (by have := ZB.out; omega)))
          have HAJ1 := mkHid ha
          clear ha hall
          by_cases hlj : j < M
          · obtain ⟨p, po, m, rfl, hp, hm, r0, r1, r2⟩ := M2.out.at j (by rw [HM.out]; exact hlj)
            have HMM := mkHid hm
            have HNO := mkHid (fun (e : mtOk m = false) => HGN.out (.inr (.inr (.inr (all_not hm e)))))
            obtain ⟨g, ec, ag⟩ := m
            simp only at r0 r1 r2 HNO
            have hj0 : (0 : Int) ≤ j := by omega
            have hj1 : (j : Int) < M := by omega
            clear hm hp
            by_cases z1 : ec < 0
            · have HF := mkHid (HNO.out (mtOk_no (.inl z1)))
              go_wp2
              go_ret
              exact ⟨ret_b HF.out.symm, (A0.out.zz HAJ.out).alloc _⟩
            by_cases z2 : 3 < ec
            · have HF := mkHid (HNO.out (mtOk_no (.inr (.inl z2))))
              go_wp2
              go_ret
              exact ⟨ret_b HF.out.symm, (A0.out.zz HAJ.out).alloc _⟩
            by_cases z3 : ag < 0
            · have HF := mkHid (HNO.out (mtOk_no (.inr (.inr (.inl z3)))))
              go_wp2
              go_ret
              exact ⟨ret_b HF.out.symm, (A0.out.zz HAJ.out).alloc _⟩
            by_cases z4 : 8191 < ag
            · have HF := mkHid (HNO.out (mtOk_no (.inr (.inr (.inr (.inl z4))))))
              go_wp2
              go_ret
              exact ⟨ret_b HF.out.symm, (A0.out.zz HAJ.out).alloc _⟩
            cases g with
            | true =>
              have HT := mkHid (show (ml.take (j + 1)).all mtOk = true by rw [all_take HMM.out, HALJ.out, mtOk_yes (show 0 ≤ ec by omega) (show ec ≤ 3 by omega) (show 0 ≤ ag by omega) (show ag ≤ 8191 by omega) (.inl rfl)]; rfl)
              go_wp2
              go_roundw
              case rel => exact ⟨j + 1, by omega, by go_num, HAJ1.out.alloc _, HT.out⟩
              case measure => simp [intOf]; omega
            | false =>
              by_cases z5 : ec = 0
              · subst z5
                by_cases z6 : ag = 0
                · subst z6
                  have HT := mkHid (show (ml.take (j + 1)).all mtOk = true by rw [all_take HMM.out, HALJ.out, mtOk_yes (by simp) (by simp) (by simp) (by simp) (.inr ⟨rfl, rfl⟩)]; rfl)
                  go_wp2
                  go_roundw
                  case rel => exact ⟨j + 1, by omega, by go_num, HAJ1.out.alloc _, HT.out⟩
                  case measure => simp [intOf]; omega
                · have HF := mkHid (HNO.out (mtOk_no (.inr (.inr (.inr (.inr ⟨rfl, fun e => z6 e.2⟩))))))
                  go_wp2
                  go_ret
                  exact ⟨ret_b HF.out.symm, (A0.out.zz HAJ.out).alloc _⟩
              · have HF := mkHid (HNO.out (mtOk_no (.inr (.inr (.inr (.inr ⟨rfl, fun e => z5 e.1⟩))))))
                go_wp2
                go_ret
                exact ⟨ret_b HF.out.symm, (A0.out.zz HAJ.out).alloc _⟩
          · obtain rfl : j = M := by omega
            have HT := mkHid (show (l.take (k + 1)).all bkOk = true by
              have hm := HALJ.out
              rw [← HM.out, List.take_length] at hm
              rw [all_take HX.out, HALL.out]
              exact bkOk_iff.2 ⟨⟨by simp only; omega, by simp only; omega⟩, by simp only; rw [HM.out]; omega, hm⟩)
            go_wp2
            go_roundw
            case rel => exact ⟨k + 1, by omega, by go_num, HAJ.out, HT.out⟩
            case measure => simp [intOf]; omega
      · obtain rfl : k = n := by omega
        have HT := mkHid (show l.all bkOk = true by have := HALL.out; rw [← HN.out, List.take_length] at this; exact this)
        go_wp2
        go_ret
        exact ⟨ret_b (by rw [HG.out, HT.out]), HA.out⟩
set_option maxRecDepth 100000 in
set_option maxHeartbeats 400000 in
theorem rsize_any (sd st : Int) (a : Option Addr) (cap : Nat) (l : List Bk) (w : World) (hg : goodL l = true) (h : BA w.heap.size w a l) :
    Calls Tryz.prog 29 #[rv sd a l.length cap st] w fun e w' => e = .returned (.int .i64 ((8 + szB l : Nat) : Int)) ∧ Apart (fun _ => False) w w' := by
  unfold rv
  have H := mkHid h
  have HG := mkHid hg
  have g1 := (goodL_iff.1 hg).1
  obtain ⟨n, HN⟩ : ∃ n, Hid (l.length = n) := ⟨_, rfl⟩
  rw [HN.out] at g1 ⊢
  have m1 : (n : Int) ≤ 16 := by omega
  clear g1 h hg
  have A0 := mkHid ((Apart.refl (fun _ => False) w).alloc (.cells #[.int .u32 sd, .slice a n cap, .int .u32 st] 53))
  have N0 := mkHid (Rv.new w sd (.slice a n cap) st)
  obtain ⟨bx, HBX⟩ : ∃ bx, Hid (w.heap.size = bx) := ⟨_, rfl⟩
  obtain ⟨W, HW⟩ : ∃ W, Hid (w.alloc (.cells #[.int .u32 sd, .slice a n cap, .int .u32 st] 53) = W) := ⟨_, rfl⟩
  rw [HBX.out, HW.out] at N0
  rw [HW.out] at A0
  obtain ⟨c0, c1, c2, _⟩ := cells3 N0.out
  have H0 := mkHid (H.out.kept A0.out.belowZ)
  go_enter Tryz.func29, Tryz.ntmps29
  go_wp2
  rw [HW.out, HBX.out]
  go_loopw [3, 4] (fun x i wr => ∃ (k : Nat) (y : Int), k ≤ n ∧ i = .int .i64 (k : Int) ∧ x = .int .i64 y ∧ wr = W ∧ y = ((8 + szB (l.take k) : Nat) : Int)) (fun _ i _ => n - (intOf i).toNat)
  case atStart => exact ⟨0, 8, Nat.zero_le _, rfl, rfl, rfl, rfl⟩
  case round =>
    obtain ⟨k, y, hk, rfl, rfl, rfl, hy⟩ := hrel
    have HY := mkHid hy
    have hyb : 0 ≤ y ∧ y ≤ 200000 := by have := goodL_sz HG.out; have := szB_le l k; omega
    obtain ⟨y0, y1⟩ := hyb
    clear hy
    by_cases hlt : k < n
    · obtain ⟨b, off, x, rfl, hb, hx, d0, d1, ⟨ma, mc, d2, hma⟩, _⟩ := H0.out.at k (by rw [HN.out]; exact hlt)
      have HX := mkHid hx
      have hml := (goodL_at HG.out hx).2.2.1
      obtain ⟨M, HM⟩ : ∃ M, Hid (x.m.length = M) := ⟨_, rfl⟩
      rw [HM.out] at d2 hml
      have hml' : (M : Int) ≤ 4096 := by omega
      obtain ⟨q, HQ⟩ : ∃ q : Int, Hid ((M : Int) = q) := ⟨_, rfl⟩
      have hk0 : (0 : Int) ≤ k := by omega
      have hk1 : (k : Int) < n := by omega
      clear hx hb hma d0 d1 hml
      go_wp2
      go_roundw
      case rel =>
        refine ⟨k + 1, y + (8 + ((M : Int) + 1) / 2 * 4), by omega, by go_num, by go_num, trivial, ?_⟩
        have e := szB_take HX.out
        rw [HM.out] at e
        have := HY.out
        have : (mb M : Int) = ((M : Int) + 1) / 2 * 4 := by unfold mb; omega
        omega
      case measure => simp [intOf]; omega
    · obtain rfl : k = n := by omega
      go_wp2
      go_ret
      refine ⟨ret_i ?_, A0.out⟩
      rw [HY.out, ← HN.out, List.take_length]
/-- What Large leaves behind. -/
def LargePost (l : List Bk) (w : World) (e : Ending) (w' : World) : Prop := (∃ g : Bool, e = .returned (.bool g) ∧ (g = false → l.length ≤ 40 ∧ (∀ b ∈ l, b.m.length ≤ 5000) ∧ nM l ≤ 40000)) ∧ Apart (fun _ => False) w w'
end Go.Proofs.YtdhbakknplnnkaaGreat.Cc
namespace Go.Proofs.YtdhbakknplnnkaaGreat.Cc
open Go.RowKit

/-- Are two reports alike? -/
def eqM (x y : Mt) : Bool := (x.g == y.g) && decide (x.e = y.e) && decide (x.a = y.a)
def eqMs : List Mt → List Mt → Bool
  | [], [] => true
  | x :: l, y :: k => eqM x y && eqMs l k
  | _, _ => false
def eqK (x y : Bk) : Bool := decide (x.s = y.s) && decide (x.f = y.f) && eqMs x.m y.m
def eqKs : List Bk → List Bk → Bool
  | [], [] => true
  | x :: l, y :: k => eqK x y && eqKs l k
  | _, _ => false
theorem eqM_iff {x y : Mt} : eqM x y = true ↔ x = y := by
  constructor
  · intro h
    simp only [eqM, Bool.and_eq_true, beq_iff_eq, decide_eq_true_eq] at h
    exact Mt.eq h.1.1 h.1.2 h.2
  · rintro rfl; simp [eqM]
theorem eqMs_iff {l : List Mt} : ∀ {k : List Mt}, eqMs l k = true ↔ l = k := by
  induction l with
  | nil => intro k; cases k <;> simp [eqMs]
  | cons x l ih => intro k; cases k with
    | nil => simp [eqMs]
    | cons y k => simp [eqMs, eqM_iff, ih]
theorem eqK_iff {x y : Bk} : eqK x y = true ↔ x = y := by
  constructor
  · intro h
    simp only [eqK, Bool.and_eq_true, decide_eq_true_eq, eqMs_iff] at h
    exact Bk.eq h.1.1 h.1.2 h.2
  · rintro rfl; simp [eqK, eqMs_iff]
theorem eqKs_iff {l : List Bk} : ∀ {k : List Bk}, eqKs l k = true ↔ l = k := by
  induction l with
  | nil => intro k; cases k <;> simp [eqKs]
  | cons x l ih => intro k; cases k with
    | nil => simp [eqKs]
    | cons y k => simp [eqKs, eqK_iff, ih]
def sameB (sd : Int) (l : List Bk) (st : Int) (sd' : Int) (l' : List Bk) (st' : Int) : Bool := decide (sd = sd') && eqKs l l' && decide (st = st')
theorem same_iff {sd st sd' st' : Int} {l l' : List Bk} : sameB sd l st sd' l' st' = true ↔ (sd = sd' ∧ l = l' ∧ st = st') := by
  simp only [sameB, Bool.and_eq_true, decide_eq_true_eq, eqKs_iff, and_assoc]
theorem same_yes {sd st sd' st' : Int} {l l' : List Bk} (h : sd = sd' ∧ l = l' ∧ st = st') : sameB sd l st sd' l' st' = true := same_iff.2 h
theorem same_no {sd st sd' st' : Int} {l l' : List Bk} (h : ¬ (sd = sd' ∧ l = l' ∧ st = st')) : sameB sd l st sd' l' st' = false := by
  cases e : sameB sd l st sd' l' st' with
  | false => rfl
  | true => exact absurd (same_iff.1 e) h
theorem take_next {α : Type} {l l' : List α} {k : Nat} {x y : α} (h : l[k]? = some x) (h' : l'[k]? = some y) (ht : l.take k = l'.take k) (e : x = y) : l.take (k + 1) = l'.take (k + 1) := by
  rw [List.take_add_one, List.take_add_one, h, h', ht, e]
/-- Where two sources differ. -/
theorem same_at {sd st sd' st' : Int} {l l' : List Bk} {k : Nat} {x y : Bk} (h : l[k]? = some x) (h' : l'[k]? = some y) (hn : ¬ (x.s = y.s ∧ x.f = y.f ∧ x.m = y.m)) : sameB sd l st sd' l' st' = false := by
  refine same_no fun e => hn ?_
  rw [e.2.1, h'] at h
  obtain rfl := Option.some.inj h
  exact ⟨rfl, rfl, rfl⟩
theorem two_new (w : World) (o p : Obj) : ((w.alloc o).alloc p).drew.heap[w.heap.size]? = some o ∧ ((w.alloc o).alloc p).drew.heap[w.heap.size + 1]? = some p ∧ Apart (fun _ => False) w ((w.alloc o).alloc p).drew := by
  refine ⟨?_, ?_, (((Apart.refl _ w).alloc o).alloc p).drew⟩
  · exact ((Apart.refl (fun _ => False) (w.alloc o)).alloc p).heap (heap_alloc_new w o) (fun h => h)
  · have := heap_alloc_new (w.alloc o) p
    rw [World.size_alloc] at this
    exact this
end Go.Proofs.YtdhbakknplnnkaaGreat.Cc
namespace Go.Proofs.YtdhbakknplnnkaaGreat.Cc
open Go.RowKit

theorem map_take {l : List Bk} {acc : List Kx} {k : Nat} {x : Bk} (h : acc.map (·.k) = l.take k) (hx : l[k]? = some x) (a : Option Addr) (c : Nat) : (acc ++ [(⟨x, a, c⟩ : Kx)]).map (·.k) = l.take (k + 1) := by
  rw [List.take_add_one, hx, List.map_append, h]; rfl
/-- The box with the report, the box of the result. -/
def cw0 (w : World) (sd : Int) (v : Value) (st : Int) : World := (w.alloc (.cells #[.int .u32 sd, v, .int .u32 st] 53)).alloc (.cells #[.int .u32 0, .slice none 0 0, .int .u32 0] 53)
theorem cw0_is (w : World) (sd : Int) (v : Value) (st : Int) : Rv (cw0 w sd v st) w.heap.size sd v st ∧ Rv (cw0 w sd v st) (w.heap.size + 1) 0 (.slice none 0 0) 0 ∧ (cw0 w sd v st).heap.size = w.heap.size + 1 + 1 ∧ Apart (fun _ => False) w (cw0 w sd v st) := by
  refine ⟨Rv.kept (X := fun _ => False) (Rv.new w sd v st) ((Apart.refl _ _).alloc _) (fun h => h), ?_, by simp [cw0], ((Apart.refl _ _).alloc _).alloc _⟩
  have := Rv.new (w.alloc (.cells #[.int .u32 sd, v, .int .u32 st] 53)) 0 (.slice none 0 0) 0
  rw [World.size_alloc] at this
  exact this
theorem le_sz {w w1 : World} {p : Addr} {v : Value} {B G : Nat} (h : Apart (fun _ => False) w (w1.setCell p v)) (hG : w.heap.size = G) (hB : B ≤ G) : B ≤ w1.heap.size := by
  have := h.size
  rw [World.size_setCell] at this
  omega
/-- What Copy leaves behind. -/
def CopyPost (sd : Int) (l : List Bk) (st : Int) (w : World) (e : Ending) (w' : World) : Prop := ∃ a' c', e = .returned (rv sd a' l.length c' st) ∧ BA w'.heap.size w' a' l ∧ Below w.heap.size w w'
end Go.Proofs.YtdhbakknplnnkaaGreat.Cc
namespace Go.Proofs.YtdhbakknplnnkaaGreat.Cc
open Go.RowKit

/-- Where the loop over a source's packets stands. -/
structure Iw (w7 wr : World) (rb bb : Nat) (s : ByteArray) (p : Nat) (ss f : Int) (ma : Option Addr) (k mc : Nat) (ml : List Mt) : Prop where
  rd : Rd 136 wr rb s (some p)
  b : wr.heap[bb]? = some (.cells #[.int .u32 ss, .int .i64 f, .slice ma k mc] 49 (0, 0))
  ow : wr.ownsRow (bb + 1) 45 3 (.slice ma k mc) ml.length (mC ml)
  a : Apart (· = rb) w7 wr
  z : rb < w7.heap.size ∧ w7.heap.size ≤ bb
theorem Iw.move {w7 wr w2 : World} {rb bb : Nat} {s : ByteArray} {p p2 : Nat} {ss f : Int} {ma : Option Addr} {k mc : Nat} {ml : List Mt} (h : Iw w7 wr rb bb s p ss f ma k mc ml) (ha : Apart (· = rb) wr w2) (hr : Rd 136 w2 rb s (some p2)) : Iw w7 w2 rb bb s p2 ss f ma k mc ml := by
  obtain ⟨z0, z1⟩ := h.z
  exact ⟨hr, ha.heap h.b (by omega), ownsRow_apart h.ow ha (by intro j hj e; omega), h.a.trans ha (fun _ _ h => h), h.z⟩
theorem Iw.alloc {w7 wr : World} {rb bb : Nat} {s : ByteArray} {p : Nat} {ss f : Int} {ma : Option Addr} {k mc : Nat} {ml : List Mt} (h : Iw w7 wr rb bb s p ss f ma k mc ml) (o : Obj) : Iw w7 (wr.alloc o) rb bb s p ss f ma k mc ml :=
  h.move ((Apart.refl _ _).alloc o) (h.rd.kept ((Apart.refl (fun _ => False) wr).alloc o) (fun h => h))
theorem Iw.drewN {w7 wr : World} {rb bb : Nat} {s : ByteArray} {p : Nat} {ss f : Int} {ma : Option Addr} {k mc : Nat} {ml : List Mt} (h : Iw w7 wr rb bb s p ss f ma k mc ml) (n : Nat) : Iw w7 (wr.drewN n) rb bb s p ss f ma k mc ml :=
  h.move ((Apart.refl _ _).drewN n) (drew_rd n h.rd)
/-- A packet more. -/
theorem Iw.app {w7 wr w3 : World} {rb bb : Nat} {s : ByteArray} {p : Nat} {ss f : Int} {ma va3 : Option Addr} {k mc vc3 : Nat} {ml : List Mt} {m : Mt} (h : Iw w7 wr rb bb s p ss f ma k mc ml) (hk : ml.length = k)
    (ho : w3.ownsRow (bb + 1) 45 3 (.slice va3 (k + 1) vc3) (k + 1) (mC ml ++ [.bool m.g, .int .i64 m.e, .int .i64 m.a])) (hg : wr.grownBy w3 (Value.slice ma k mc).ownBlock) :
    Iw w7 (w3.setCell ⟨bb, 2, none⟩ (.slice va3 (k + 1) vc3)) rb bb s p ss f va3 (k + 1) vc3 (ml ++ [m]) := by
  obtain ⟨z0, z1⟩ := h.z
  have A : Apart (fun j => (Value.slice ma k mc).ownBlock = some j) wr w3 := Apart.grown (Apart.refl _ _) hg (fun _ _ e => e)
  have L : ∀ j, (Value.slice ma k mc).ownBlock = some j → bb + 1 ≤ j := fun j e => (h.ow.lt j e).1
  have S := ap_set w3 bb 2 (.slice va3 (k + 1) vc3)
  have e : mC ml ++ [.bool m.g, .int .i64 m.e, .int .i64 m.a] = mC (ml ++ [m]) := by rw [mC_app]; rfl
  rw [e] at ho
  refine ⟨(h.rd.kept A (fun e => by have := L rb e; omega)).kept S (by omega), set2 (A.heap h.b (fun e => by have := L bb e; omega)) _, ?_, ?_, h.z⟩
  · rw [List.length_append, hk]
    exact ownsRow_apart ho S (by intro j hj e; omega)
  · exact (h.a.trans A (fun i hi e => by have := L i e; omega)).trans S (fun i hi e => by omega)
theorem Iw.nb {w7 wr w3 : World} {rb bb : Nat} {s : ByteArray} {p : Nat} {ss f : Int} {ma : Option Addr} {k mc : Nat} {ml : List Mt} (h : Iw w7 wr rb bb s p ss f ma k mc ml) (hg : wr.grownBy w3 (Value.slice ma k mc).ownBlock) :
    w3.heap[bb]? = some (.cells #[.int .u32 ss, .int .i64 f, .slice ma k mc] 49 (0, 0)) := by
  have A : Apart (fun j => (Value.slice ma k mc).ownBlock = some j) wr w3 := Apart.grown (Apart.refl _ _) hg (fun _ _ e => e)
  exact A.heap h.b (fun e => by have := (h.ow.lt bb e).1; omega)
theorem Dw.nb {w wr w3 : World} {q rb ob B : Nat} {s : ByteArray} {p : Nat} {g0 : Int} {va : Option Addr} {n vc : Nat} {acc : List Kx} (h : Dw w wr q rb ob B s p g0 va n vc acc) (o : Obj) (hg : (wr.alloc o).grownBy w3 (Value.slice va n vc).ownBlock) :
    w3.heap[ob]? = some (.cells #[.int .u32 g0, .slice va n vc, .int .u32 0] 53 (0, 0)) := by
  have A : Apart (fun j => (Value.slice va n vc).ownBlock = some j) wr w3 := Apart.grown ((Apart.refl _ _).alloc o) hg (fun _ _ e => e)
  exact A.heap h.o (fun e => by have := (h.ow.lt ob e).1; have := h.z; omega)
/-- A source more. -/
theorem Dw.app {w w7 wr w3 : World} {q rb ob B bb : Nat} {s : ByteArray} {p0 p : Nat} {g0 : Int} {va va3 : Option Addr} {n vc vc3 : Nat} {acc : List Kx} {ss f : Int} {ma : Option Addr} {M mc : Nat} {ml : List Mt}
    (D : Dw w w7 q rb ob B s p0 g0 va n vc acc) (I : Iw w7 wr rb bb s p ss f ma M mc ml) (hB : B ≤ w7.heap.size) (hn : acc.length = n) (hM : ml.length = M) (hMl : M ≤ 4096) (h0 : 0 ≤ ss) (h1 : ss < 4294967296) (o : Obj)
    (ho : w3.ownsRow B 49 3 (.slice va3 (n + 1) vc3) (n + 1) (kC acc ++ [.int .u32 ss, .int .i64 f, .slice ma M mc])) (hg : (wr.alloc o).grownBy w3 (Value.slice va n vc).ownBlock)
    (hw : ∀ k, (Value.slice va3 (n + 1) vc3).ownBlock = some k → (Value.slice va n vc).ownBlock = some k ∨ (wr.alloc o).heap.size ≤ k) :
    Dw w (w3.setCell ⟨ob, 1, none⟩ (.slice va3 (n + 1) vc3)) q rb ob B s p g0 va3 (n + 1) vc3 (acc ++ [⟨⟨ss, f, ml⟩, ma, mc⟩]) := by
  have D' := D.move I.a I.rd
  obtain ⟨z0, z1, z2, z3⟩ := D.z
  obtain ⟨i0, i1⟩ := I.z
  have L7 : ∀ j, (Value.slice va n vc).ownBlock = some j → B ≤ j ∧ j < w7.heap.size := fun j e => D.ow.lt j e
  have L8 : ∀ j, (Value.slice ma M mc).ownBlock = some j → bb + 1 ≤ j := fun j e => (I.ow.lt j e).1
  subst hM
  obtain ⟨a9, c9, hv9, mx0⟩ := own_mx (X := fun j => j < B ∨ (Value.slice va n vc).ownBlock = some j) I.ow (by unfold maxLen; omega) (by
    intro j hj e
    have := L8 j hj
    rcases e with e | e
    · omega
    · have := (L7 j e).2; omega)
  simp only [Value.slice.injEq] at hv9
  obtain ⟨rfl, _, rfl⟩ := hv9
  have A3 : Apart (fun j => (Value.slice va n vc).ownBlock = some j) wr w3 := Apart.grown ((Apart.refl _ wr).alloc o) hg (fun _ _ e => e)
  have S := ap_set w3 ob 1 (.slice va3 (n + 1) vc3)
  have hown : ∀ j, j < wr.heap.size → (Value.slice va3 (n + 1) vc3).ownBlock = some j → (Value.slice va n vc).ownBlock = some j := by
    intro j hj e
    rcases hw j e with e | e
    · exact e
    · rw [World.size_alloc] at e; omega
  have K3 := D'.kx.kept (X' := (fun j => j < B ∨ (Value.slice va3 (n + 1) vc3).ownBlock = some j)) A3 (fun _ _ e => .inr e) (fun j hj e => e.imp id (hown j hj))
  have mx3 := mx0.kept (X' := (fun j => j < B ∨ (Value.slice va3 (n + 1) vc3).ownBlock = some j)) A3 (fun _ _ e => .inr e) (fun j hj e => e.imp id (hown j hj))
  have K4 := K3.snoc ⟨⟨ss, f, ml⟩, ma, mc⟩ mx3 h0 h1
  have HPQ : kC acc ++ [.int .u32 ss, .int .i64 f, .slice ma ml.length mc] = kC (acc ++ [(⟨⟨ss, f, ml⟩, ma, mc⟩ : Kx)]) := by rw [kC_app]; rfl
  rw [HPQ] at ho
  refine ⟨(D'.rd.kept A3 (fun e => by have := (L7 rb e).1; omega)).kept S (by omega), set1 (A3.heap D'.o (fun e => by have := (L7 ob e).1; omega)) _, S.heap (A3.heap D'.r (fun e => by have := (L7 q e).1; omega)) (by omega), ?_, ?_, ?_, D.z⟩
  · rw [List.length_append, hn]
    exact ownsRow_apart ho S (by intro j hj e; omega)
  · exact K4.kept S (fun j _ e => .inl (by omega)) (fun _ _ h => h)
  · exact (D'.a.trans A3 (fun i hi e => by have := (L7 i e).1; omega)).trans S (fun i hi e => by omega)
theorem decE_2 {s : ByteArray} (h : 65536 < s.size) : decE s = 2 := by
  have e : lenE s.size = 2 := by unfold lenE; rw [if_pos h]
  rw [decE_len (by rw [e]; decide), e]
theorem decE_90 {s : ByteArray} (h : ¬ 65536 < s.size) (h1 : ¬ s.size % 4 = 0) : decE s = 90 := by
  have e : lenE s.size = 90 := by unfold lenE; rw [if_neg h, if_pos h1]
  rw [decE_len (by rw [e]; decide), e]
theorem decE_60 {s : ByteArray} (h : ¬ 65536 < s.size) (h1 : s.size % 4 = 0) (h2 : s.size < 8) : decE s = 60 := by
  have e : lenE s.size = 60 := by unfold lenE; rw [if_neg h, if_neg (by omega), if_pos h2]
  rw [decE_len (by rw [e]; decide), e]
theorem decL_in {s : ByteArray} (h : decE s = 0) : decL s = dL s 16 32 ∧ decSd s = gv s 0 32 ∧ decSt s = gv s (8 * s.size - 32) 32 := by
  unfold decL decSd decSt; rw [if_pos h, if_pos h, if_pos h]; exact ⟨rfl, rfl, rfl⟩
/-- What holds where the loop over the sources begins a round. -/
def Rw (w wr : World) (q rb ob B : Nat) (s : ByteArray) (g0 : Int) (p n : Nat) (va : Option Addr) (vc : Nat) (acc : List Kx) : Prop :=
  acc.length = n ∧ n ≤ 16 ∧ p % 32 = 0 ∧ p + 32 ≤ 8 * s.size ∧ dE s 16 32 = dE s (16 - n) p ∧ dL s 16 32 = acc.map (·.k) ++ dL s (16 - n) p ∧ Dw w wr q rb ob B s p g0 va n vc acc ∧ B ≤ wr.heap.size
end Go.Proofs.YtdhbakknplnnkaaGreat.Cc
