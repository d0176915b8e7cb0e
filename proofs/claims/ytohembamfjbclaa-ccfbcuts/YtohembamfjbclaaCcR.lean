/-
  What the reference's Good, size and Large hand back.
-/
import Derived.Test.YtohembamfjbclaaCcE
namespace Go.Proofs.Ytohembamfjbclaa
open Go.RowKit

theorem mtOk_no {m : Mt} (h : m.e < 0 ∨ 3 < m.e ∨ m.a < 0 ∨ 8191 < m.a ∨ (m.g = false ∧ ¬ (m.e = 0 ∧ m.a = 0))) : mtOk m = false := by
  cases e : mtOk m with
  | false => rfl
  | true =>
    have hb := mtOk_bd e
    exfalso
    rcases h with h | h | h | h | ⟨h1, h2⟩
    · omega
    · omega
    · omega
    · omega
    · unfold mtOk at e; rw [h1] at e; simp at e; exact h2 e
theorem mtOk_yes {m : Mt} (h0 : 0 ≤ m.e) (h1 : m.e ≤ 3) (h2 : 0 ≤ m.a) (h3 : m.a ≤ 8191) (h4 : m.g = true ∨ (m.e = 0 ∧ m.a = 0)) : mtOk m = true := by
  unfold mtOk
  cases hg : m.g with
  | true => simp [inR, h0, h1, h2, h3]
  | false =>
    rw [hg] at h4
    rcases h4 with h | h
    · cases h
    · simp [h]
theorem good_no {l : List Bk} {k : Nat} {x : Bk} (hx : l[k]? = some x) (h : x.f < 0 ∨ 65535 < x.f ∨ 4096 < x.m.length ∨ x.m.all mtOk = false) : goodL l = false := by
  cases e : goodL l with
  | false => rfl
  | true =>
    obtain ⟨h0, h1, h2, h3⟩ := goodL_at e hx
    exfalso
    rcases h with h | h | h | h
    · omega
    · omega
    · omega
    · rw [h] at h3; cases h3
set_option maxRecDepth 100000 in
set_option maxHeartbeats 1000000 in
theorem rgood_any (sd st : Int) (a : Option Addr) (cap : Nat) (l : List Bk) (w : World) (h : BA w.heap.size w a l) :
    Calls Try.prog 14 #[rv sd a l.length cap st] w fun e w' => e = .returned (.bool (goodL l)) ∧ Apart (fun _ => False) w w' := by
  unfold rv
  have n1 := h.1
  unfold maxLen at n1
  have H := mkHid h
  obtain ⟨n, HN⟩ : ∃ n, Hid (l.length = n) := ⟨_, rfl⟩
  rw [HN.out] at n1 ⊢
  have m1 : (n : Int) ≤ 9223372036854775807 := by omega
  clear n1 h
  have A0 := mkHid ((Apart.refl (fun _ => False) w).alloc (.cells #[.int .u32 sd, .slice a n cap, .int .u32 st] 25))
  have N0 := mkHid (Rv.new w sd (.slice a n cap) st)
  obtain ⟨bx, HBX⟩ : ∃ bx, Hid (w.heap.size = bx) := ⟨_, rfl⟩
  obtain ⟨W, HW⟩ : ∃ W, Hid (w.alloc (.cells #[.int .u32 sd, .slice a n cap, .int .u32 st] 25) = W) := ⟨_, rfl⟩
  rw [HBX.out, HW.out] at N0
  rw [HW.out] at A0
  obtain ⟨c0, c1, c2, _⟩ := cells3 N0.out
  by_cases h1 : (16 : Int) < n
  · have HF := mkHid (show goodL l = false by unfold goodL; rw [HN.out]; simp; omega)
    go_enter Try.func14, Try.ntmps14
    go_wp2
    rw [HW.out]
    go_ret
    exact ⟨ret_b HF.out.symm, A0.out⟩
  · have HG := mkHid (show goodL l = l.all bkOk by unfold goodL; rw [HN.out]; simp; omega)
    have h1' : (n : Int) ≤ 16 := by omega
    clear h1 m1
    go_enter Try.func14, Try.ntmps14
    go_wp2
    rw [HW.out, HBX.out]
    clear c0 c1 c2
    go_loopw [3] (fun i wr => ∃ k : Nat, k ≤ n ∧ i = .int .i64 (k : Int) ∧ Apart (fun _ => False) W wr ∧ (l.take k).all bkOk = true) (fun i _ => n - (intOf i).toNat)
    case atStart => exact ⟨0, Nat.zero_le _, rfl, Apart.refl _ _, rfl⟩
    case round =>
      obtain ⟨k, hk, rfl, ha, hall⟩ := hrel
      obtain ⟨c0, c1, c2, _⟩ := cells3 (N0.out.kept ha (fun h => h))
      have HA := mkHid (A0.out.zz ha)
      have HA1 := mkHid ha
      have HALL := mkHid hall
      clear ha hall
      by_cases hlt : k < n
      · obtain ⟨b, off, x, rfl, hb, hx, d0, d1, ⟨ma, mc, d2, hma⟩, _⟩ := (H.out.kept HA.out.belowZ).at k (by rw [HN.out]; exact hlt)
        have HX := mkHid hx
        have HGN := mkHid (good_no hx)
        have HMA := mkHid (hma.up HA.out.size)
        have HML := mkHid hma.1
        obtain ⟨ss, f, ml⟩ := x
        simp only at d0 d1 d2 HMA HML HGN
        obtain ⟨M, HM⟩ : ∃ M, Hid (ml.length = M) := ⟨_, rfl⟩
        rw [HM.out] at d2 HML HGN
        have hM : (M : Int) ≤ 9223372036854775807 := by have := HML.out; unfold maxLen at this; omega
        have hk0 : (0 : Int) ≤ k := by omega
        have hk1 : (k : Int) < n := by omega
        clear hx hb hma HML
        by_cases y1 : f < 0
        · have HF := mkHid (HGN.out (.inl y1))
          go_wp2
          go_ret
          exact ⟨ret_b HF.out.symm, HA.out.alloc _⟩
        by_cases y2 : 65535 < f
        · have HF := mkHid (HGN.out (.inr (.inl y2)))
          go_wp2
          go_ret
          exact ⟨ret_b HF.out.symm, HA.out.alloc _⟩
        by_cases y3 : (4096 : Int) < M
        · have HF := mkHid (HGN.out (.inr (.inr (.inl (by omega)))))
          go_wp2
          go_ret
          exact ⟨ret_b HF.out.symm, HA.out.alloc _⟩
        have y3' : (M : Int) ≤ 4096 := by omega
        obtain ⟨wx, HWX⟩ : ∃ wx, wx = wr := ⟨_, rfl⟩
        subst HWX
        have N1 := mkHid (heap_alloc_new wx (.cells #[.int .u32 ss, .int .i64 f, .slice ma M mc] 44))
        have P1 := mkHid (HA1.out.alloc (.cells #[.int .u32 ss, .int .i64 f, .slice ma M mc] 44))
        obtain ⟨xb, HXB⟩ : ∃ xb, Hid (wx.heap.size = xb) := ⟨_, rfl⟩
        rw [HXB.out] at N1
        have M1 := mkHid (HMA.out.kept ((Apart.refl (fun _ => False) wx).alloc (.cells #[.int .u32 ss, .int .i64 f, .slice ma M mc] 44)).belowZ)
        rw [HXB.out] at M1
        have ZB := mkHid (show xb < (wx.alloc (.cells #[.int .u32 ss, .int .i64 f, .slice ma M mc] 44)).heap.size by rw [World.size_alloc, HXB.out]; omega)
        obtain ⟨W1, HW1⟩ : ∃ W1, Hid (wx.alloc (.cells #[.int .u32 ss, .int .i64 f, .slice ma M mc] 44) = W1) := ⟨_, rfl⟩
        go_wp2
        rw [HW1.out, HXB.out]
        rw [HW1.out] at N1 P1 M1 ZB
        clear c0 c1 c2 d0 d1 d2 hM
        go_loopw [5] (fun i wr => ∃ j : Nat, j ≤ M ∧ i = .int .i64 (j : Int) ∧ Apart (fun _ => False) W1 wr ∧ (ml.take j).all mtOk = true) (fun i _ => M - (intOf i).toNat)
        case atStart => exact ⟨0, Nat.zero_le _, rfl, Apart.refl _ _, rfl⟩
        case round =>
          obtain ⟨j, hj, rfl, ha, hall⟩ := hrel
          obtain ⟨d0, d1, d2, _⟩ := cells3 (ha.heap N1.out (fun h => h))
          have HAJ := mkHid (P1.out.zz ha)
          have HALJ := mkHid hall
          have M2 := mkHid (M1.out.kept (ha.belowF xb (by have := ZB.out; omega)))
          have HAJ1 := mkHid ha
          clear ha hall
          by_cases hlj : j < M
          · obtain ⟨p, po, m, rfl, hp, hm, r0, r1, r2⟩ := M2.out.at j (by rw [HM.out]; exact hlj)
            have HMM := mkHid hm
            have HNO := mkHid (fun (e : mtOk m = false) => HGN.out (.inr (.inr (.inr (all_not hm e)))))
            obtain ⟨g, ec, ag⟩ := m
            simp only at r0 r1 r2 HNO
            have hj0 : (0 : Int) ≤ j := by omega
            have hj1 : (j : Int) < M := by omega
            clear hm hp
            by_cases z1 : ec < 0
            · have HF := mkHid (HNO.out (mtOk_no (.inl z1)))
              go_wp2
              go_ret
              exact ⟨ret_b HF.out.symm, (A0.out.zz HAJ.out).alloc _⟩
            by_cases z2 : 3 < ec
            · have HF := mkHid (HNO.out (mtOk_no (.inr (.inl z2))))
              go_wp2
              go_ret
              exact ⟨ret_b HF.out.symm, (A0.out.zz HAJ.out).alloc _⟩
            by_cases z3 : ag < 0
            · have HF := mkHid (HNO.out (mtOk_no (.inr (.inr (.inl z3)))))
              go_wp2
              go_ret
              exact ⟨ret_b HF.out.symm, (A0.out.zz HAJ.out).alloc _⟩
            by_cases z4 : 8191 < ag
            · have HF := mkHid (HNO.out (mtOk_no (.inr (.inr (.inr (.inl z4))))))
              go_wp2
              go_ret
              exact ⟨ret_b HF.out.symm, (A0.out.zz HAJ.out).alloc _⟩
            cases g with
            | true =>
              have HT := mkHid (show (ml.take (j + 1)).all mtOk = true by rw [all_take HMM.out, HALJ.out, mtOk_yes (show 0 ≤ ec by omega) (show ec ≤ 3 by omega) (show 0 ≤ ag by omega) (show ag ≤ 8191 by omega) (.inl rfl)]; rfl)
              go_wp2
              go_roundw
              case rel => exact ⟨j + 1, by omega, by go_num, HAJ1.out.alloc _, HT.out⟩
              case measure => simp [intOf]; omega
            | false =>
              by_cases z5 : ec = 0
              · subst z5
                by_cases z6 : ag = 0
                · subst z6
                  have HT := mkHid (show (ml.take (j + 1)).all mtOk = true by rw [all_take HMM.out, HALJ.out, mtOk_yes (by simp) (by simp) (by simp) (by simp) (.inr ⟨rfl, rfl⟩)]; rfl)
                  go_wp2
                  go_roundw
                  case rel => exact ⟨j + 1, by omega, by go_num, HAJ1.out.alloc _, HT.out⟩
                  case measure => simp [intOf]; omega
                · have HF := mkHid (HNO.out (mtOk_no (.inr (.inr (.inr (.inr ⟨rfl, fun e => z6 e.2⟩))))))
                  go_wp2
                  go_ret
                  exact ⟨ret_b HF.out.symm, (A0.out.zz HAJ.out).alloc _⟩
              · have HF := mkHid (HNO.out (mtOk_no (.inr (.inr (.inr (.inr ⟨rfl, fun e => z5 e.1⟩))))))
                go_wp2
                go_ret
                exact ⟨ret_b HF.out.symm, (A0.out.zz HAJ.out).alloc _⟩
          · obtain rfl : j = M := by omega
            have HT := mkHid (show (l.take (k + 1)).all bkOk = true by
              have hm := HALJ.out
              rw [← HM.out, List.take_length] at hm
              rw [all_take HX.out, HALL.out]
              exact bkOk_iff.2 ⟨⟨by simp only; omega, by simp only; omega⟩, by simp only; rw [HM.out]; omega, hm⟩)
            go_wp2
            go_roundw
            case rel => exact ⟨k + 1, by omega, by go_num, HAJ.out, HT.out⟩
            case measure => simp [intOf]; omega
      · obtain rfl : k = n := by omega
        have HT := mkHid (show l.all bkOk = true by have := HALL.out; rw [← HN.out, List.take_length] at this; exact this)
        go_wp2
        go_ret
        exact ⟨ret_b (by rw [HG.out, HT.out]), HA.out⟩
set_option maxRecDepth 100000 in
set_option maxHeartbeats 400000 in
theorem rsize_any (sd st : Int) (a : Option Addr) (cap : Nat) (l : List Bk) (w : World) (hg : goodL l = true) (h : BA w.heap.size w a l) :
    Calls Try.prog 23 #[rv sd a l.length cap st] w fun e w' => e = .returned (.int .i64 ((8 + szB l : Nat) : Int)) ∧ Apart (fun _ => False) w w' := by
  unfold rv
  have H := mkHid h
  have HG := mkHid hg
  have g1 := (goodL_iff.1 hg).1
  obtain ⟨n, HN⟩ : ∃ n, Hid (l.length = n) := ⟨_, rfl⟩
  rw [HN.out] at g1 ⊢
  have m1 : (n : Int) ≤ 16 := by omega
  clear g1 h hg
  have A0 := mkHid ((Apart.refl (fun _ => False) w).alloc (.cells #[.int .u32 sd, .slice a n cap, .int .u32 st] 25))
  have N0 := mkHid (Rv.new w sd (.slice a n cap) st)
  obtain ⟨bx, HBX⟩ : ∃ bx, Hid (w.heap.size = bx) := ⟨_, rfl⟩
  obtain ⟨W, HW⟩ : ∃ W, Hid (w.alloc (.cells #[.int .u32 sd, .slice a n cap, .int .u32 st] 25) = W) := ⟨_, rfl⟩
  rw [HBX.out, HW.out] at N0
  rw [HW.out] at A0
  obtain ⟨c0, c1, c2, _⟩ := cells3 N0.out
  have H0 := mkHid (H.out.kept A0.out.belowZ)
  go_enter Try.func23, Try.ntmps23
  go_wp2
  rw [HW.out, HBX.out]
  go_loopw [3, 4] (fun x i wr => ∃ (k : Nat) (y : Int), k ≤ n ∧ i = .int .i64 (k : Int) ∧ x = .int .i64 y ∧ wr = W ∧ y = ((8 + szB (l.take k) : Nat) : Int)) (fun _ i _ => n - (intOf i).toNat)
  case atStart => exact ⟨0, 8, Nat.zero_le _, rfl, rfl, rfl, rfl⟩
  case round =>
    obtain ⟨k, y, hk, rfl, rfl, rfl, hy⟩ := hrel
    have HY := mkHid hy
    have hyb : 0 ≤ y ∧ y ≤ 200000 := by have := goodL_sz HG.out; have := szB_le l k; omega
    obtain ⟨y0, y1⟩ := hyb
    clear hy
    by_cases hlt : k < n
    · obtain ⟨b, off, x, rfl, hb, hx, d0, d1, ⟨ma, mc, d2, hma⟩, _⟩ := H0.out.at k (by rw [HN.out]; exact hlt)
      have HX := mkHid hx
      have hml := (goodL_at HG.out hx).2.2.1
      obtain ⟨M, HM⟩ : ∃ M, Hid (x.m.length = M) := ⟨_, rfl⟩
      rw [HM.out] at d2 hml
      have hml' : (M : Int) ≤ 4096 := by omega
      obtain ⟨q, HQ⟩ : ∃ q : Int, Hid ((M : Int) = q) := ⟨_, rfl⟩
      have hk0 : (0 : Int) ≤ k := by omega
      have hk1 : (k : Int) < n := by omega
      clear hx hb hma d0 d1 hml
      go_wp2
      go_roundw
      case rel =>
        refine ⟨k + 1, y + (8 + ((M : Int) + 1) / 2 * 4), by omega, by go_num, by go_num, trivial, ?_⟩
        have e := szB_take HX.out
        rw [HM.out] at e
        have := HY.out
        have : (mb M : Int) = ((M : Int) + 1) / 2 * 4 := by unfold mb; omega
        omega
      case measure => simp [intOf]; omega
    · obtain rfl : k = n := by omega
      go_wp2
      go_ret
      refine ⟨ret_i ?_, A0.out⟩
      rw [HY.out, ← HN.out, List.take_length]
/-- What Large leaves behind. -/
def LargePost (l : List Bk) (w : World) (e : Ending) (w' : World) : Prop := (∃ g : Bool, e = .returned (.bool g) ∧ (g = false → l.length ≤ 40 ∧ (∀ b ∈ l, b.m.length ≤ 5000) ∧ nM l ≤ 40000)) ∧ Apart (fun _ => False) w w'
set_option maxRecDepth 100000 in
set_option maxHeartbeats 400000 in
theorem large_any (sd st : Int) (a : Option Addr) (cap : Nat) (l : List Bk) (w : World) (h : BA w.heap.size w a l) :
    Calls Try.prog 8 #[rv sd a l.length cap st] w (LargePost l w) := by
  unfold rv
  have n1 := h.1
  unfold maxLen at n1
  have H := mkHid h
  obtain ⟨n, HN⟩ : ∃ n, Hid (l.length = n) := ⟨_, rfl⟩
  rw [HN.out] at n1 ⊢
  have m1 : (n : Int) ≤ 9223372036854775807 := by omega
  clear n1 h
  have A0 := mkHid ((Apart.refl (fun _ => False) w).alloc (.cells #[.int .u32 sd, .slice a n cap, .int .u32 st] 25))
  have N0 := mkHid (Rv.new w sd (.slice a n cap) st)
  obtain ⟨bx, HBX⟩ : ∃ bx, Hid (w.heap.size = bx) := ⟨_, rfl⟩
  obtain ⟨W, HW⟩ : ∃ W, Hid (w.alloc (.cells #[.int .u32 sd, .slice a n cap, .int .u32 st] 25) = W) := ⟨_, rfl⟩
  rw [HBX.out, HW.out] at N0
  rw [HW.out] at A0
  obtain ⟨c0, c1, c2, _⟩ := cells3 N0.out
  have H0 := mkHid (H.out.kept A0.out.belowZ)
  by_cases h1 : (40 : Int) < n
  · go_enter Try.func8, Try.ntmps8
    go_wp2
    rw [HW.out]
    go_ret
    exact ⟨⟨true, rfl, fun h => by cases h⟩, A0.out⟩
  · have h1' : (n : Int) ≤ 40 := by omega
    clear h1 m1
    go_enter Try.func8, Try.ntmps8
    go_wp2
    rw [HW.out, HBX.out]
    go_loopw [3, 4] (fun x i wr => ∃ (k : Nat) (y : Int), k ≤ n ∧ i = .int .i64 (k : Int) ∧ x = .int .i64 y ∧ wr = W ∧ y = (nM (l.take k) : Int) ∧ y ≤ 5000 * k ∧ ∀ b ∈ l.take k, b.m.length ≤ 5000) (fun _ i _ => n - (intOf i).toNat)
    case atStart => exact ⟨0, 0, Nat.zero_le _, rfl, rfl, rfl, rfl, by simp, fun b hb => by simp at hb⟩
    case round =>
      obtain ⟨k, y, hk, rfl, rfl, rfl, hy, hy5, hall⟩ := hrel
      have HY := mkHid hy
      have HY5 := mkHid hy5
      have HALL := mkHid hall
      have y0 : 0 ≤ y := by omega
      have y1 : y ≤ 200000 := by omega
      clear hy hall hy5
      by_cases hlt : k < n
      · obtain ⟨b, off, x, rfl, hb, hx, d0, d1, ⟨ma, mc, d2, hma⟩, _⟩ := H0.out.at k (by rw [HN.out]; exact hlt)
        have HX := mkHid hx
        have HML := mkHid hma.1
        obtain ⟨M, HM⟩ : ∃ M, Hid (x.m.length = M) := ⟨_, rfl⟩
        rw [HM.out] at d2 HML
        have hM : (M : Int) ≤ 9223372036854775807 := by have := HML.out; unfold maxLen at this; omega
        have hk0 : (0 : Int) ≤ k := by omega
        have hk1 : (k : Int) < n := by omega
        clear hx hb hma d0 d1
        by_cases h2 : (5000 : Int) < M
        · go_wp2
          go_ret
          exact ⟨⟨true, rfl, fun h => by cases h⟩, A0.out⟩
        · have h2' : (M : Int) ≤ 5000 := by omega
          clear hM
          go_wp2
          go_roundw
          case rel =>
            refine ⟨k + 1, y + M, by omega, by go_num, by go_num, trivial, ?_, ?_, ?_⟩
            · have e := nM_take HX.out
              rw [HM.out] at e
              have := HY.out
              omega
            · have := HY5.out; omega
            · intro z hz
              have : l.take (k + 1) = l.take k ++ [x] := by rw [List.take_add_one, HX.out]; rfl
              rw [this] at hz
              rcases List.mem_append.1 hz with hz | hz
              · exact HALL.out z hz
              · simp at hz; subst hz; rw [HM.out]; omega
          case measure => simp [intOf]; omega
      · obtain rfl : k = n := by omega
        have hf := HALL.out
        have hy := HY.out
        rw [← HN.out, List.take_length] at hf hy
        have HF := mkHid hf
        have HYF := mkHid hy
        clear hf hy
        by_cases h3 : 40000 < y
        · go_wp2
          go_ret
          exact ⟨⟨true, rfl, fun h => by cases h⟩, A0.out⟩
        · go_wp2
          go_ret
          exact ⟨⟨false, rfl, fun _ => ⟨by rw [HN.out]; omega, HF.out, by have := HYF.out; omega⟩⟩, A0.out⟩
end Go.Proofs.Ytohembamfjbclaa
