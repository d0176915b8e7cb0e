/-
  What Encode hands back.
-/
import Derived.Test.YtohembamfjbclaaCcW
namespace Go.Proofs.Ytohembamfjbclaa
open Go.RowKit

theorem encE_no {l : List Bk} {sd st : Int} (h : goodL l = false) : encE l = 1 ∧ encS sd l st = ⟨#[]⟩ := by
  have e : encE l = 1 := by unfold encE; rw [if_neg (by rw [h]; decide)]
  exact ⟨e, by unfold encS; rw [if_neg (by rw [e]; decide)]⟩
theorem encE_long {l : List Bk} {sd st : Int} (h : goodL l = true) (h2 : 65536 < 8 + szB l) : encE l = 2 ∧ encS sd l st = ⟨#[]⟩ := by
  have e : encE l = 2 := by unfold encE; rw [if_pos h, if_pos h2]
  exact ⟨e, by unfold encS; rw [if_neg (by rw [e]; decide)]⟩
set_option maxRecDepth 100000 in
set_option maxHeartbeats 400000 in
theorem enc_any (sd st : Int) (a : Option Addr) (cap : Nat) (l : List Bk) (w : World) (h : BA w.heap.size w a l) (s0 : 0 ≤ sd) (s1 : sd < 4294967296) (t0 : 0 ≤ st) (t1 : st < 4294967296) :
    Calls Try.prog 11 #[rv sd a l.length cap st] w fun e w' => e = .returned (.tuple #[.string (encS sd l st), .int .i64 (encE l)]) ∧ Below w.heap.size w w' := by
  have A0 := mkHid ((Apart.refl (fun _ => False) w).alloc (.cells #[.int .u32 sd, .slice a l.length cap, .int .u32 st] 25))
  have N0 := mkHid (Rv.new w sd (.slice a l.length cap) st)
  have H0 := mkHid (h.on A0.out.belowZ)
  have GD := mkHid (good_any sd st a cap l _ H0.out)
  unfold rv at GD ⊢
  have n1 := h.1
  unfold maxLen at n1
  obtain ⟨n, HN⟩ : ∃ n, Hid (l.length = n) := ⟨_, rfl⟩
  rw [HN.out] at n1 A0 N0 H0 GD ⊢
  have m1 : (n : Int) ≤ 9223372036854775807 := by omega
  obtain ⟨bx, HBX⟩ : ∃ bx, Hid (w.heap.size = bx) := ⟨_, rfl⟩
  obtain ⟨W, HW⟩ : ∃ W, Hid (w.alloc (.cells #[.int .u32 sd, .slice a n cap, .int .u32 st] 25) = W) := ⟨_, rfl⟩
  rw [HBX.out, HW.out] at N0
  rw [HW.out] at A0 H0 GD
  obtain ⟨c0, c1, c2, _⟩ := cells3 N0.out
  clear n1 h
  cases hg : goodL l with
  | false =>
    rw [hg] at GD
    obtain ⟨q1, q2⟩ := encE_no (sd := sd) (st := st) hg
    rw [q1, q2]
    go_enter Try.func11, Try.ntmps11
    go_wp2_with fail
    rw [HW.out, HBX.out]
    go_wp2_with fail
    refine (GD.out).mono ?_
    rintro e w1 ⟨rfl, a1⟩
    have A1 := mkHid (A0.out.zz a1)
    clear a1
    go_wp2
    go_ret2
    exact ⟨rfl, A1.out.belowZ⟩
  | true =>
    rw [hg] at GD
    have HG := mkHid hg
    go_enter Try.func11, Try.ntmps11
    go_wp2_with fail
    rw [HW.out, HBX.out]
    go_wp2_with fail
    refine (GD.out).mono ?_
    rintro e w1 ⟨rfl, a1⟩
    have A1 := mkHid (A0.out.zz a1)
    have N1 := mkHid (N0.out.kept a1 (fun h => h))
    have H1 := mkHid (H0.out.on a1.belowZ)
    have SZ := mkHid (size_any a cap l _ w1 hg H1.out)
    rw [HN.out] at SZ
    clear a1 c0 c1 c2 N0 H0 GD hg A0
    obtain ⟨c0, c1, c2, _⟩ := cells3 N1.out
    obtain ⟨Z, HZ⟩ : ∃ Z, Hid (8 + szB l = Z) := ⟨_, rfl⟩
    rw [HZ.out] at SZ
    go_wp2_with fail
    refine (SZ.out).mono ?_
    rintro e w2 ⟨rfl, rfl⟩
    by_cases h2 : (65536 : Int) < Z
    · obtain ⟨q1, q2⟩ := encE_long (sd := sd) (st := st) HG.out (by rw [HZ.out]; omega)
      have Q1 := mkHid q1
      have Q2 := mkHid q2
      clear q1 q2
      go_wp2
      go_ret2
      exact ⟨by rw [Q1.out, Q2.out]; rfl, A1.out.belowZ⟩
    · have q1 := encE_is HG.out (by rw [HZ.out]; omega)
      have Q1 := mkHid q1
      have Q2 := mkHid (encS_is (sd := sd) (st := st) q1)
      have HZ2 := mkHid (show 8 + szB l ≤ 65536 by rw [HZ.out]; omega)
      clear q1
      obtain ⟨wb, HWB⟩ : ∃ wb, Hid (w2.heap.size = wb) := ⟨_, rfl⟩
      have hbw : bx < wb := by rw [← HWB.out]; exact lt_of_heap N1.out
      go_wp2_with fail
      refine (write_any _).mono ?_
      rw [HWB.out]
      rintro e w3 ⟨rfl, r3, a3, z3⟩
      have R3 := mkHid r3
      have A3 := mkHid (A1.out.zz a3)
      have H3 := mkHid (H1.out.kept a3.belowZ)
      rw [HWB.out] at H3
      have X3 := mkHid (show Bx _ w3 bx wb (.slice none 0 0) from ⟨N1.out.kept a3 (fun h => h), by omega, fun e => by cases e⟩)
      clear r3 a3 z3 c0 c1 c2 N1 H1
      obtain ⟨c0, c1, c2, _⟩ := cells3 X3.out.heap
      go_wp2_with fail
      refine (put_fit wb _ _ _ _ sd.toNat 32 (by omega) rfl (by omega) (by omega) (by simp) _ R3.out).mono ?_
      rintro e w4 ⟨rfl, v4, r4, t4⟩
      have R4 := mkHid r4
      have X4 := mkHid (X3.out.next t4)
      have T4 := mkHid t4
      have H4 := mkHid (H3.out.kept (t4.below R3.out wb (Nat.le_refl _)))
      clear r4 t4 c0 c1 c2 X3 H3
      obtain ⟨c0, c1, c2, _⟩ := cells3 X4.out.heap
      have PB := mkHid (putblocks_any wb v4 _ a cap l HG.out (by simp) (by have := HZ2.out; simp; omega) _ R4.out H4.out)
      rw [HN.out] at PB
      go_wp2_with fail
      refine (PB.out).mono ?_
      rintro e w5 ⟨rfl, v5, r5, t5⟩
      have R5 := mkHid r5
      have X5 := mkHid (X4.out.next t5)
      have T5 := mkHid (T4.out.trans t5)
      clear r5 t5 c0 c1 c2 X4 H4 T4 PB
      obtain ⟨c0, c1, c2, _⟩ := cells3 X5.out.heap
      go_wp2_with fail
      refine (put_fit wb v5 _ _ _ st.toNat 32 (by omega) rfl (by omega) (by omega) (by have := HZ2.out; simp [bsB_len]; omega) _ R5.out).mono ?_
      rintro e w6 ⟨rfl, v6, r6, t6⟩
      have R6 := mkHid r6
      have T6 := mkHid (T5.out.trans t6)
      clear r6 t6 c0 c1 c2 X5 T5
      go_wp2_with fail
      refine (text_any wb v6 _ _ R6.out).mono ?_
      rintro e w7 ⟨rfl, rfl⟩
      go_wp2
      go_ret2
      refine ⟨by rw [Q1.out, Q2.out]; simp [encL], ?_⟩
      have hb := T6.out.below R3.out wb (Nat.le_refl _)
      have a3 := A3.out.belowZ
      exact a3.trans (hb.mono (by rw [HBX.out]; omega))
end Go.Proofs.Ytohembamfjbclaa
