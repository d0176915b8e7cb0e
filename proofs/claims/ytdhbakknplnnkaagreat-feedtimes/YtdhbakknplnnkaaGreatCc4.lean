/-
  What the reference's Encode hands back.
-/
import Derived.Test.YtdhbakknplnnkaaGreatCc3
import Derived.Test.YtdhbakknplnnkaaGreatCc1
namespace Go.Proofs.YtdhbakknplnnkaaGreat.Cc
open Go.RowKit

theorem rput_fit (b : Nat) (v : Value) (l : List Bool) (x n : Int) (X m : Nat) (eX : x = X) (e : n = m) (x1 : X < 4294967296) (hm : m ≤ 32) (hl : l.length + m ≤ 524288) (w : World) (h : Wr 120 w b v l) :
    Calls Tryz.prog 31 #[.pointer (some ⟨b, 0, none⟩), .int .u32 x, .int .i64 n] w fun e w' => e = .returned (.tuple #[]) ∧ ∃ v', Wr 120 w' b v' (l ++ bitsOf X m) ∧ Tch b v v' w w' := by
  subst e eX
  exact rput_in b v l X m (by omega) (by omega) hm hl w h
/-- Where the reference's Encode stands: the box, the writer, what was there. -/
structure Rwq (w w' : World) (bx wb : Nat) (o : Obj) (v : Value) (l : List Bool) : Prop where
  x : Bx o w' bx wb v
  r : Wr 120 w' wb v l
  a : Apart (fun _ => False) w w'
  z : w.heap.size ≤ bx
  lt : bx < wb
theorem Rwq.next {w w' w'' : World} {bx wb : Nat} {o : Obj} {v v' : Value} {l l' : List Bool} (h : Rwq w w' bx wb o v l) (r : Wr 120 w'' wb v' l') (t : Tch wb v v' w' w'') : Rwq w w'' bx wb o v' l' :=
  ⟨h.x.next t, r, h.a.trans t.ap (fun i hi e => by
    have := h.z
    have := h.lt
    rcases e with e | e
    · omega
    · have := (h.r.ownlt _ e).1; omega), h.z, h.lt⟩
theorem Rwq.alloc {w w' : World} {bx wb : Nat} {o : Obj} {v : Value} {l : List Bool} (h : Rwq w w' bx wb o v l) (u : Obj) : Rwq w (w'.alloc u) bx wb o v l := h.next (wr_alloc h.r u) (tch_alloc wb v w' u)
theorem ralign32 (L : List Bool) (P n : Nat) (h0 : P % 32 = 0) (h1 : L.length = P + 16 * n) (h2 : P + 16 * n + 16 * (n % 2) ≤ 524288) (b : Nat) (v : Value) (w : World) (h : Wr 120 w b v L) :
    Calls Tryz.prog 32 #[.pointer (some ⟨b, 0, none⟩), .int .i64 32] w fun e w' => e = .returned (.tuple #[]) ∧ ∃ v', Wr 120 w' b v' (L ++ bitsOf 0 (16 * (n % 2))) ∧ Tch b v v' w w' := by
  have := ralign_any b v L 32 w h
  rw [align32 L P n h0 h1 h2] at this
  exact this
set_option maxRecDepth 100000 in
set_option maxHeartbeats 2000000 in
theorem renc_any (sd st : Int) (a : Option Addr) (cap : Nat) (l : List Bk) (w : World) (h : BA w.heap.size w a l) (s0 : 0 ≤ sd) (s1 : sd < 4294967296) (t0 : 0 ≤ st) (t1 : st < 4294967296) :
    Calls Tryz.prog 15 #[rv sd a l.length cap st] w fun e w' => e = .returned (.tuple #[.string (encS sd l st), .int .i64 (encE l)]) ∧ Below w.heap.size w w' := by
  have A0 := mkHid ((Apart.refl (fun _ => False) w).alloc (.cells #[.int .u32 sd, .slice a l.length cap, .int .u32 st] 53))
  have N0 := mkHid (Rv.new w sd (.slice a l.length cap) st)
  have H0 := mkHid (h.on A0.out.belowZ)
  have HBA := mkHid h
  have GD := mkHid (rgood_any sd st a cap l _ H0.out)
  have SZ0 := mkHid (fun w1 hg (h : BA w1.heap.size w1 a l) => rsize_any sd st a cap l w1 hg h)
  unfold rv at GD SZ0 ⊢
  have n1 := h.1
  unfold maxLen at n1
  obtain ⟨n, HN⟩ : ∃ n, Hid (l.length = n) := ⟨_, rfl⟩
  rw [HN.out] at n1 A0 N0 H0 GD SZ0 ⊢
  have m1 : (n : Int) ≤ 9223372036854775807 := by omega
  obtain ⟨bx, HBX⟩ : ∃ bx, Hid (w.heap.size = bx) := ⟨_, rfl⟩
  obtain ⟨W, HW⟩ : ∃ W, Hid (w.alloc (.cells #[.int .u32 sd, .slice a n cap, .int .u32 st] 53) = W) := ⟨_, rfl⟩
  rw [HBX.out, HW.out] at N0
  rw [HW.out] at A0 H0 GD
  obtain ⟨c0, c1, c2, _⟩ := cells3 N0.out
  clear n1 h
  cases hg : goodL l with
  | false =>
    rw [hg] at GD
    obtain ⟨q1, q2⟩ := encE_no (sd := sd) (st := st) hg
    rw [q1, q2]
    go_enter Tryz.func15, Tryz.ntmps15
    go_wp2_with fail
    rw [HW.out, HBX.out]
    go_wp2_with fail
    refine (GD.out).mono ?_
    rintro e w1 ⟨rfl, a1⟩
    have A1 := mkHid (A0.out.zz a1)
    clear a1
    go_wp2
    go_ret2
    exact ⟨rfl, A1.out.belowZ⟩
  | true =>
    rw [hg] at GD
    have HG := mkHid hg
    have hn16 : (n : Int) ≤ 16 := by have := (goodL_iff.1 hg).1; rw [HN.out] at this; omega
    go_enter Tryz.func15, Tryz.ntmps15
    go_wp2_with fail
    rw [HW.out, HBX.out]
    go_wp2_with fail
    refine (GD.out).mono ?_
    rintro e w1 ⟨rfl, a1⟩
    have A1 := mkHid (A0.out.zz a1)
    have N1 := mkHid (N0.out.kept a1 (fun h => h))
    have H1 := mkHid (H0.out.on a1.belowZ)
    have SZ := mkHid (SZ0.out w1 hg H1.out)
    clear a1 c0 c1 c2 N0 H0 GD hg A0 SZ0
    obtain ⟨c0, c1, c2, _⟩ := cells3 N1.out
    obtain ⟨Z, HZ⟩ : ∃ Z, Hid (8 + szB l = Z) := ⟨_, rfl⟩
    rw [HZ.out] at SZ
    go_wp2_with fail
    refine (SZ.out).mono ?_
    rintro e w2 ⟨rfl, a2⟩
    have A2 := mkHid (A1.out.zz a2)
    have N2 := mkHid (N1.out.kept a2 (fun h => h))
    clear a2 A1 N1 c0 c1 c2
    by_cases h2 : (65536 : Int) < Z
    · obtain ⟨q1, q2⟩ := encE_long (sd := sd) (st := st) HG.out (by rw [HZ.out]; omega)
      have Q1 := mkHid q1
      have Q2 := mkHid q2
      clear q1 q2
      go_wp2
      go_ret2
      exact ⟨by rw [Q1.out, Q2.out]; rfl, A2.out.belowZ⟩
    · have q1 := encE_is HG.out (by rw [HZ.out]; omega)
      have Q1 := mkHid q1
      have Q2 := mkHid (encS_is (sd := sd) (st := st) q1)
      have HZ2 := mkHid (show 8 + szB l ≤ 65536 by rw [HZ.out]; omega)
      have h2' : (Z : Int) ≤ 65536 := by omega
      clear q1 h2
      obtain ⟨wb, HWB⟩ : ∃ wb, Hid (w2.heap.size = wb) := ⟨_, rfl⟩
      have hbw : bx < wb := by rw [← HWB.out]; exact lt_of_heap N2.out
      go_wp2_with fail
      refine (rwrite_any _).mono ?_
      rw [HWB.out]
      rintro e w3 ⟨rfl, r3, a3, z3⟩
      have RW3 := mkHid (show Rwq w w3 bx wb _ (.slice none 0 0) [] from ⟨⟨N2.out.kept a3 (fun h => h), by omega, fun e => by cases e⟩, r3, A2.out.zz a3, by rw [HBX.out]; exact Nat.le_refl _, hbw⟩)
      clear r3 a3 z3 N2 A2 SZ
      obtain ⟨c0, c1, c2, _⟩ := cells3 RW3.out.x.heap
      go_wp2_with fail
      refine (rput_fit wb _ _ _ _ sd.toNat 32 (by omega) rfl (by omega) (by omega) (by simp) _ RW3.out.r).mono ?_
      rintro e w4 ⟨rfl, v4, r4, t4⟩
      have RW4 := mkHid (RW3.out.next r4 t4)
      clear r4 t4 c0 c1 c2 RW3
      obtain ⟨P0, HP0⟩ : ∃ P0 : List Bool, Hid (([] : List Bool) ++ bitsOf sd.toNat 32 = P0) := ⟨_, rfl⟩
      have HPL := mkHid (show P0.length = 32 by rw [← HP0.out]; simp)
      rw [HP0.out] at RW4
      go_wp2
      go_loopw [5] (fun i wr => ∃ (k : Nat) (vc : Value), k ≤ n ∧ i = .int .i64 (k : Int) ∧ Rwq w wr bx wb (.cells #[.int .u32 sd, .slice a n cap, .int .u32 st] 53 (0, 0)) vc (P0 ++ bsB (l.take k))) (fun i _ => n - (intOf i).toNat)
      case atStart => exact ⟨0, v4, Nat.zero_le _, rfl, by simp only [List.take_zero, bsB, List.append_nil]; exact RW4.out⟩
      case round =>
        obtain ⟨k, vc, hk, rfl, hrw⟩ := hrel
        obtain ⟨c0, c1, c2, _⟩ := cells3 hrw.x.heap
        have RW5 := mkHid hrw
        clear hrw RW4
        by_cases hlt : k < n
        · obtain ⟨p, off, x, rfl, hb, hx, d0, d1, ⟨ma, mc, d2, hma⟩, e0, e1⟩ := HBA.out.at k (by rw [HN.out]; exact hlt)
          have cc := fun o => RW5.out.a.belowZ.cell (p := ⟨p, o, none⟩) hb
          rw [← cc] at d0 d1 d2
          have HX := mkHid hx
          obtain ⟨f0, f1, hml, hall⟩ := goodL_at HG.out hx
          have HSZ := mkHid (show 32 + 8 * szB (l.take k) + (64 + 8 * mb x.m.length) ≤ 524256 by have := szB_take hx; have := szB_le l (k + 1); have := HZ2.out; omega)
          have HBB := mkHid (bsB_take hx)
          have HP := mkHid (show (P0 ++ bsB (l.take k)).length = 32 + 8 * szB (l.take k) by simp [bsB_len, HPL.out])
          have HP32 := mkHid (show (P0 ++ bsB (l.take k)).length % 32 = 0 by rw [HP.out]; have := szB_mod (l.take k); omega)
          unfold bB hB at HBB
          obtain ⟨ss, f, ml⟩ := x
          simp only at d0 d1 d2 hma e0 e1 f0 f1 hml hall HSZ HBB
          have HALL := mkHid hall
          obtain ⟨M, HM⟩ : ∃ M, Hid (ml.length = M) := ⟨_, rfl⟩
          rw [HM.out] at d2 hml HSZ HBB
          obtain ⟨P, HPP⟩ : ∃ P, Hid (P0 ++ bsB (l.take k) = P) := ⟨_, rfl⟩
          rw [HPP.out] at RW5 HP HP32
          have hml' : (M : Int) ≤ 4096 := by omega
          have hk0 : (0 : Int) ≤ k := by omega
          have hk1 : (k : Int) < n := by omega
          have HMA := mkHid hma
          obtain ⟨wx, HWX⟩ : ∃ wx, wx = wr := ⟨_, rfl⟩
          subst HWX
          have RW6 := mkHid (RW5.out.alloc (.cells #[.int .u32 ss, .int .i64 f, .slice ma M mc] 49))
          have X6 := mkHid (Bx.new RW5.out.r (.cells #[.int .u32 ss, .int .i64 f, .slice ma M mc] 49))
          obtain ⟨xb, HXB⟩ : ∃ xb, Hid (wx.heap.size = xb) := ⟨_, rfl⟩
          obtain ⟨W1, HW1⟩ : ∃ W1, Hid (wx.alloc (.cells #[.int .u32 ss, .int .i64 f, .slice ma M mc] 49) = W1) := ⟨_, rfl⟩
          rw [HXB.out, HW1.out] at X6
          rw [HW1.out] at RW6
          clear hx hb hma hall hml c0 c2 cc
          go_wp2_with fail
          rw [HW1.out, HXB.out]
          refine (rput_fit wb vc P _ _ ss.toNat 32 (by omega) rfl (by omega) (by omega) (by rw [HP.out]; have := HSZ.out; omega) _ RW6.out.r).mono ?_
          rintro e u2 ⟨rfl, v2, r2, t2⟩
          have RA := mkHid (RW6.out.next r2 t2)
          have XA := mkHid (X6.out.next t2)
          clear r2 t2 RW6 X6 d0 d1 d2 c1
          obtain ⟨d0, d1, d2, _⟩ := cells3 XA.out.heap
          go_wp2_with fail
          refine (rput_fit wb v2 _ _ _ f.toNat 16 (by omega) rfl (by omega) (by omega) (by rw [List.length_append, HP.out]; have := HSZ.out; simp; omega) _ RA.out.r).mono ?_
          rintro e u3 ⟨rfl, v3, r3, t3⟩
          have RB := mkHid (RA.out.next r3 t3)
          have XB := mkHid (XA.out.next t3)
          clear r3 t3 RA XA d0 d1 d2
          obtain ⟨d0, d1, d2, _⟩ := cells3 XB.out.heap
          go_wp2_with fail
          refine (rput_fit wb v3 _ _ _ M 16 (by omega) rfl (by omega) (by omega) (by rw [List.length_append, List.length_append, HP.out]; have := HSZ.out; simp; omega) _ RB.out.r).mono ?_
          rintro e u4 ⟨rfl, v5, r4, t4⟩
          have RC := mkHid (RB.out.next r4 t4)
          have XC := mkHid (XB.out.next t4)
          clear r4 t4 RB XB d0 d1 d2
          go_wp2
          go_loopw [7] (fun i wr => ∃ (j : Nat) (vj : Value), j ≤ M ∧ i = .int .i64 (j : Int) ∧ Rwq w wr bx wb (.cells #[.int .u32 sd, .slice (some ⟨p, off, none⟩) n cap, .int .u32 st] 53 (0, 0)) vj (P ++ bitsOf ss.toNat 32 ++ bitsOf f.toNat 16 ++ bitsOf M 16 ++ msB (ml.take j)) ∧ Bx (.cells #[.int .u32 ss, .int .i64 f, .slice ma M mc] 49 (0, 0)) wr xb wb vj) (fun i _ => M - (intOf i).toNat)
          case atStart => exact ⟨0, v5, Nat.zero_le _, rfl, by simp only [List.take_zero, msB, List.append_nil]; exact RC.out, XC.out⟩
          case round =>
            obtain ⟨j, vj, hj, rfl, hrw, hxx⟩ := hrel
            obtain ⟨d0, d1, d2, _⟩ := cells3 hxx.heap
            have RJ := mkHid hrw
            have XJ := mkHid hxx
            clear hrw hxx RC XC
            have HLJ := mkHid (show (P ++ bitsOf ss.toNat 32 ++ bitsOf f.toNat 16 ++ bitsOf M 16 ++ msB (ml.take j)).length = P.length + 64 + 16 * j by simp [HM.out]; omega)
            by_cases hlj : j < M
            · obtain ⟨q, qo, m, rfl, _, hm, r0, r1, r2⟩ := (HMA.out.kept RJ.out.a.belowZ).at j (by rw [HM.out]; exact hlj)
              have HMM := mkHid hm
              have HO := mkHid (List.all_eq_true.1 HALL.out m (List.mem_of_getElem? hm))
              obtain ⟨o0, o1, o2, o3⟩ := mtOk_bd HO.out
              have HJN := mkHid (msB_take hm)
              have RK := mkHid (RJ.out.alloc (.cells #[.bool m.g, .int .i64 m.e, .int .i64 m.a] 45))
              have XK := mkHid (XJ.out.next (tch_alloc wb vj wr (.cells #[.bool m.g, .int .i64 m.e, .int .i64 m.a] 45)))
              have YK := mkHid (Bx.new RJ.out.r (.cells #[.bool m.g, .int .i64 m.e, .int .i64 m.a] 45))
              unfold mB at HJN
              have HSJ := mkHid (show P.length + 64 + 16 * j + 16 ≤ 524288 by rw [HP.out]; have := HSZ.out; unfold mb at this; omega)
              obtain ⟨g, ec, ag⟩ := m
              simp only at r0 r1 r2 o0 o1 o2 o3 HJN RK XK YK
              obtain ⟨yb, HYB⟩ : ∃ yb, Hid (wr.heap.size = yb) := ⟨_, rfl⟩
              obtain ⟨W2, HW2⟩ : ∃ W2, Hid (wr.alloc (.cells #[.bool g, .int .i64 ec, .int .i64 ag] 45) = W2) := ⟨_, rfl⟩
              rw [HYB.out, HW2.out] at YK
              rw [HW2.out] at RK XK
              have hj0 : (0 : Int) ≤ j := by omega
              have hj1 : (j : Int) < M := by omega
              obtain ⟨X, HXX⟩ : ∃ X, Hid (b01 g = X) := ⟨_, rfl⟩
              have hX : X < 2 := by rw [← HXX.out]; unfold b01; split <;> omega
              rw [HXX.out] at HJN
              clear hm
              cases g <;>
              · go_wp2_with fail
                rw [HW2.out, HYB.out]
                refine (rput_fit wb vj _ _ _ X 1 (by rw [← HXX.out]; rfl) rfl (by omega) (by omega) (by rw [HLJ.out]; have := HSJ.out; omega) _ RK.out.r).mono ?_
                rintro e u6 ⟨rfl, v6, h6, t6⟩
                have RL := mkHid (RK.out.next h6 t6)
                have XL := mkHid (XK.out.next t6)
                have YL := mkHid (YK.out.next t6)
                clear h6 t6 RK XK YK r0 r1 r2 d0 d1 d2
                obtain ⟨r0, r1, r2, _⟩ := cells3 YL.out.heap
                go_wp2_with fail
                refine (rput_fit wb v6 _ _ _ ec.toNat 2 (by omega) rfl (by omega) (by omega) (by rw [List.length_append, HLJ.out]; have := HSJ.out; simp; omega) _ RL.out.r).mono ?_
                rintro e u7 ⟨rfl, v7, h7, t7⟩
                have RM := mkHid (RL.out.next h7 t7)
                have XM := mkHid (XL.out.next t7)
                have YM := mkHid (YL.out.next t7)
                clear h7 t7 RL XL YL r0 r1 r2
                obtain ⟨r0, r1, r2, _⟩ := cells3 YM.out.heap
                go_wp2_with fail
                refine (rput_fit wb v7 _ _ _ ag.toNat 13 (by omega) rfl (by omega) (by omega) (by rw [List.length_append, List.length_append, HLJ.out]; have := HSJ.out; simp; omega) _ RM.out.r).mono ?_
                rintro e u8 ⟨rfl, v8, h8, t8⟩
                have RN := mkHid (RM.out.next h8 t8)
                have XN := mkHid (XM.out.next t8)
                clear h8 t8 RM XM YM r0 r1 r2
                go_wp2
                go_roundw
                case rel =>
                  refine ⟨j + 1, v8, by omega, by go_num, ?_, XN.out⟩
                  have := RN.out
                  rw [HJN.out]
                  simp only [List.append_assoc] at this ⊢
                  exact this
                case measure => simp [intOf]; omega
            · obtain rfl : j = M := by omega
              go_wp2_with fail
              refine (ralign32 _ (P.length + 64) j (by have := HP32.out; omega) HLJ.out (by rw [HP.out]; have := HSZ.out; unfold mb at this; omega) wb vj _ RJ.out.r).mono ?_
              rintro e u6 ⟨rfl, v6, h6, t6⟩
              have RL := mkHid (RJ.out.next h6 t6)
              clear h6 t6
              go_wp2
              go_roundw
              case rel =>
                refine ⟨k + 1, v6, by omega, by go_num, ?_⟩
                have := RL.out
                rw [← HM.out, List.take_length, HM.out, ← HPP.out] at this
                rw [HBB.out]
                simp only [List.append_assoc] at this ⊢
                exact this
              case measure => simp [intOf]; omega
        · obtain rfl : k = n := by omega
          have R5 := RW5.out
          rw [← HN.out, List.take_length] at R5
          rw [HN.out] at R5
          have RW6 := mkHid R5
          clear R5
          go_wp2_with fail
          refine (rput_fit wb _ _ _ _ st.toNat 32 (by omega) rfl (by omega) (by omega) (by have := HZ2.out; have := HPL.out; simp [bsB_len]; omega) _ RW6.out.r).mono ?_
          rintro e w6 ⟨rfl, v6, r6, t6⟩
          have RW7 := mkHid (RW6.out.next r6 t6)
          clear r6 t6
          go_wp2_with fail
          refine (rtext_any wb v6 _ _ RW7.out.r).mono ?_
          rintro e w7 ⟨rfl, rfl⟩
          go_wp2
          go_ret2
          exact ⟨by rw [Q1.out, Q2.out, ← HP0.out]; simp [encL], RW7.out.a.belowZ⟩
end Go.Proofs.YtdhbakknplnnkaaGreat.Cc
