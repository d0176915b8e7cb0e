/-
  What getLost hands back.
-/
import Derived.Test.YtmnpghelglohlaaNkA
import Derived.Test.YtmnpghelglohlaaNkE
namespace Go.Proofs.Ytmnpghelglohlaa
open Go.RowKit

theorem deL_len (s : ByteArray) (n : Nat) : ∀ p, n ≤ (deL s p n).length := by
  induction n with
  | zero => intro p; exact Nat.zero_le _
  | succ n ih => intro p; have := ih (p + 32); simp [deL]; omega
theorem gleft_at (s : ByteArray) (p : Nat) : gleft s (some p) = 8 * s.size - p := rfl
theorem left_at (b : Nat) (s : ByteArray) (hs : s.size ≤ 1000000) (p : Nat) (w : World) (h : Rd 78 w b s (some p)) (L : Int) (hL : 8 * (s.size : Int) - p = L) :
    Calls Try.prog 42 #[.pointer (some ⟨b, 0, none⟩)] w fun e w' => e = .returned (.int .i64 L) ∧ ∃ n, w' = w.drewN n := by
  have := left_any b s hs (some p) w h
  have e : gleft s (some p) = L := hL
  rw [e] at this
  exact this
theorem OI.drewN {B : Nat} {w : World} {v : Value} {l : List Int} (h : OI B w v l) (n : Nat) : OI B (w.drewN n) v l := h.below (below_drewN (Below.refl _ _) n)
set_option maxRecDepth 100000 in
set_option maxHeartbeats 1000000 in
theorem getlost_any (b : Nat) (s : ByteArray) (hs : s.size ≤ 65536) (N : Nat) (hN : 8 * s.size = 64 + 32 * N) (w : World) (h : Rd 78 w b s (some 64)) :
    Calls Try.prog 29 #[.pointer (some ⟨b, 0, none⟩)] w fun e w' => (∃ v q, e = .returned v ∧ OI w.heap.size w' v q ∧ (q = deL s 64 N ∨ 4096 < q.length ∧ 4096 < (deL s 64 N).length)) ∧ Apart (· = b) w w' := by
  have hbl := h.heap
  have H := mkHid h
  have HN := mkHid hN
  have HS := mkHid hs
  obtain ⟨R, HR⟩ : ∃ R, Hid (deL s 64 N = R) := ⟨_, rfl⟩
  obtain ⟨B, HB⟩ : ∃ B, Hid (w.heap.size = B) := ⟨_, rfl⟩
  obtain ⟨i0, hi, hz0, hz1, hz2⟩ := info3'
  rw [HR.out, HB.out]
  rw [HB.out] at hbl
  clear h hN hs
  go_enter Try.func29, Try.ntmps29
  go_wp2
  go_loopw [3, 4] (fun v x wr => ∃ (j : Nat) (q : List Int), j ≤ N ∧ q.length ≤ 4113 ∧ q ++ deL s (64 + 32 * j) (N - j) = R ∧ OI B wr v q ∧ Rd 78 wr b s (some (64 + 32 * j)) ∧ Apart (· = b) w wr ∧ slen v = q.length) (fun v _ _ => 5000 - slen v)
  case atStart => exact ⟨0, [], Nat.zero_le _, Nat.zero_le _, HR.out, OI.nil _ _, H.out, Apart.refl _ _, rfl⟩
  case round =>
    obtain ⟨j, q, hj, hq, hqr, ho, hrd, ha, hsl⟩ := hrel
    obtain ⟨ad, cp, rfl⟩ := ownsRow_slice ho
    have HQ := mkHid hq
    have HQR := mkHid hqr
    have HO := mkHid ho
    have HRD := mkHid hrd
    have HA := mkHid ha
    obtain ⟨n, HNN⟩ : ∃ n, Hid (q.length = n) := ⟨_, rfl⟩
    rw [HNN.out] at hq ⊢
    have HO' := mkHid (show wr.ownsRow B 3 1 (.slice ad n cp) n (IC q) by have := ho; unfold OI at this; rw [HNN.out] at this; exact this)
    have n1 : (n : Int) ≤ 9223372036854775807 := by omega
    have hbs : B ≤ wr.heap.size := by rw [← HB.out]; exact ha.size
    clear hqr ho hrd ha hsl H hq
    obtain ⟨L, HL⟩ : ∃ L : Int, Hid (8 * (s.size : Int) - (64 + 32 * j : Nat) = L) := ⟨_, rfl⟩
    have LF := mkHid (left_at b s (by have := HS.out; omega) (64 + 32 * j) wr HRD.out L HL.out)
    by_cases hjN : j = N
    · have hL0 : L = 0 := by have := HL.out; have := HN.out; omega
      rw [hL0] at LF
      clear hL0
      have HQE := mkHid (show q = R by have := HQR.out; rw [hjN, Nat.sub_self, deL, List.append_nil] at this; exact this)
      go_wp2_with fail
      refine (LF.out).mono ?_
      rintro e w1 ⟨rfl, nd, rfl⟩
      go_wp2
      go_ret
      exact ⟨⟨_, q, rfl, by rw [← HNN.out]; exact OI.drewN HO.out nd, .inl HQE.out⟩, HA.out.drewN nd⟩
    · have hL0 : (0 : Int) < L := by have := HL.out; have := HN.out; omega
      by_cases hn : (n : Int) ≤ 4096
      · have HNJ := mkHid (show N - j = (N - (j + 1)) + 1 by omega)
        have HP := mkHid (show 64 + 32 * j + 32 ≤ 8 * s.size by have := HN.out; omega)
        have HQ2 := mkHid (show n ≤ 4096 by omega)
        obtain ⟨p, HPP⟩ : ∃ p, Hid (64 + 32 * j = p) := ⟨_, rfl⟩
        rw [HPP.out] at HRD HP
        obtain ⟨x, HX⟩ : ∃ x, Hid (gv s p 16 = x) := ⟨_, rfl⟩
        obtain ⟨M, HM⟩ : ∃ M, Hid (gv s (p + 16) 16 = M) := ⟨_, rfl⟩
        have hx := gv_lt s p 16
        have hM := gv_lt s (p + 16) 16
        rw [HX.out] at hx
        rw [HM.out] at hM
        have HXL := mkHid (show x < 65536 from hx)
        have HML := mkHid (show M < 65536 from hM)
        have hxi : ((x : Nat) : Int) ≤ 65535 := by omega
        have hx0 : (0 : Int) ≤ x := by omega
        have HQN := mkHid (show (q ++ [(x : Int)] ++ tl (x : Int) M 0 16) ++ deL s (64 + 32 * (j + 1)) (N - (j + 1)) = R by
          have := HQR.out
          rw [HNJ.out, deL, HPP.out, HX.out, HM.out] at this
          rw [show 64 + 32 * (j + 1) = p + 32 by have := HPP.out; omega]
          simpa [List.append_assoc] using this)
        clear hx hM HQR
        go_wp2_with fail
        refine (LF.out).mono ?_
        rintro e w1 ⟨rfl, nd, rfl⟩
        have G1 := mkHid (get_fit b s (by have := HS.out; omega) p 16 16 rfl (by omega) (by have := HP.out; omega) (wr.drewN nd) (drew_rd nd HRD.out))
        rw [HX.out] at G1
        go_wp2_with fail
        refine (G1.out).mono ?_
        rintro e w2 ⟨rfl, r2, a2⟩
        have R2 := mkHid r2
        have A2 := mkHid ((HA.out.drewN nd).trans a2 (fun _ _ h => h))
        have hbs2 : B ≤ w2.heap.size := Nat.le_trans hbs a2.size
        have O2 := mkHid (show w2.ownsRow B 3 1 (.slice ad n cp) n (IC q) from ownsRow_apart (w := wr.drewN nd) (X := (· = b)) HO'.out a2 (fun k hk e => by omega))
        clear r2 a2 G1 LF HO' HO HRD HA
        go_upto_region 5 with (at_builtin; refine wpList_append_own2 _ rfl (.tmp 16) (.tmp 18) 23 rfl B 3 i0 (.int .i64 0) 1 8 Try.underlying23 hi hz0 hz1 hz2 rfl (by decide) (.slice ad n cp) n (IC q) rfl (O2.out.alloc _) ⟨w2.heap.size, 0, none⟩ 1 1 [.int .i64 (x : Int)] rfl rfl (cell_one_new _ _ _) (by intro u hu; simp at hu; subst hu; rfl) (by unfold maxLen; have := HQ2.out; omega) (by have := HQ2.out; omega) (by simp; omega) ?_; intro v4 w4 hown4 hgrow4 _; have OW4 := mkHid hown4; have GR4 := mkHid hgrow4; clear hown4 hgrow4)
        have B4 := mkHid (own_below (v := .slice ad n cp) (l := q) (by unfold OI; rw [HNN.out]; exact O2.out) hbs2 GR4.out)
        have O4 := mkHid (OI.grown OW4.out HNN.out.symm)
        have R4 := mkHid (R2.out.kept (X := (B ≤ ·)) ⟨B4.out.os, B4.out.tape, B4.out.output, B4.out.size, fun k _ hx => B4.out.block k (by omega)⟩ (by omega))
        have G5 := mkHid (get_fit b s (by have := HS.out; omega) (p + 16) 16 16 rfl (by omega) (by have := HP.out; omega) w4 R4.out)
        rw [HM.out] at G5
        have A4 := mkHid (A2.out.trans (Y := (B ≤ ·)) ⟨B4.out.os, B4.out.tape, B4.out.output, B4.out.size, fun k _ hx => B4.out.block k (by omega)⟩ (fun i hi e => by rw [HB.out] at hi; omega))
        have hbs4 : B ≤ w4.heap.size := Nat.le_trans hbs2 B4.out.size
        clear OW4 GR4 O2 R2 A2 B4
        go_wp2_with fail
        refine (G5.out).mono ?_
        rintro e w5 ⟨rfl, r5, a5⟩
        have R5 := mkHid r5
        have A5 := mkHid (A4.out.trans a5 (fun _ _ h => h))
        have hbs5 : B ≤ w5.heap.size := Nat.le_trans hbs4 a5.size
        have O5 := mkHid (show OI B w5 v4 (q ++ [(x : Int)]) from ownsRow_apart O4.out a5 (fun k hk e => by omega))
        have AM := mkHid (appmask_any B v4 (q ++ [(x : Int)]) x M hx0 (by have := HXL.out; omega) HML.out (by rw [List.length_append, HNN.out]; simp; have := HQ2.out; omega) w5 hbs5 O5.out)
        clear r5 a5 G5 R4 A4 O4
        go_wp2_with fail
        refine (AM.out).mono ?_
        obtain ⟨q6, HQ6⟩ : ∃ q6, Hid (q ++ [(x : Int)] ++ tl (x : Int) M 0 16 = q6) := ⟨_, rfl⟩
        have HT4 := mkHid (tl_len (x : Int) M 16 0)
        have HQ6L := mkHid (show q6.length = n + 1 + (tl (x : Int) M 0 16).length by rw [← HQ6.out, List.length_append, List.length_append, HNN.out]; simp)
        rw [HQ6.out]
        rw [HQ6.out] at HQN
        rintro e w6 ⟨⟨v6, rfl, o6⟩, b6⟩
        have O6 := mkHid o6
        have X6 := mkHid (show Apart (B ≤ ·) w5 w6 from ⟨b6.os, b6.tape, b6.output, b6.size, fun k _ hx => b6.block k (by omega)⟩)
        have R6 := mkHid (R5.out.kept X6.out (by omega))
        have A6 := mkHid (A5.out.trans X6.out (fun i hi e => by rw [HB.out] at hi; omega))
        obtain ⟨ad6, cp6, hv6⟩ := ownsRow_slice o6
        obtain ⟨m6, HM6⟩ : ∃ m6, Hid (q6.length = m6) := ⟨_, rfl⟩
        rw [HM6.out] at hv6
        subst hv6
        clear o6 b6 AM R5 A5 O5
        go_wp2
        go_roundw
        case rel =>
          refine ⟨j + 1, q6, by omega, ?_, HQN.out, O6.out, ?_, A6.out, HM6.out.symm⟩
          · have := HQ6L.out; have := HT4.out; have := HQ2.out; omega
          · rw [show 64 + 32 * (j + 1) = p + 16 + 16 by have := HPP.out; omega]; exact R6.out
        case measure =>
          show 5000 - m6 < 5000 - n
          have := HQ6L.out; have := HQ2.out; have := HM6.out; omega
      · have HQL := mkHid (show 4096 < q.length by rw [HNN.out]; omega)
        have HRL := mkHid (show 4096 < R.length by have h1 := congrArg List.length HQR.out; simp at h1; have := HQL.out; omega)
        have hn' : ¬ (n : Int) ≤ 4096 := hn
        go_wp2_with fail
        refine (LF.out).mono ?_
        rintro e w1 ⟨rfl, nd, rfl⟩
        go_wp2
        go_ret
        exact ⟨⟨_, q, rfl, by rw [← HNN.out]; exact OI.drewN HO.out nd, .inr ⟨HQL.out, HRL.out⟩⟩, HA.out.drewN nd⟩
end Go.Proofs.Ytmnpghelglohlaa
