/-
  What the functions that write a header's fields and extensions do.
-/
import Derived.Test.YtdajcgicpfpeoaaRtG
namespace Go.Proofs.Ytdajcgicpfpeoaa
open Go.RowKit

theorem b01_nat (b : Bool) : b01 b = ((b01 b).toNat : Int) ∧ (b01 b).toNat < 4294967296 := by cases b <;> exact ⟨rfl, by decide⟩
set_option maxRecDepth 100000 in
set_option maxHeartbeats 2000000 in
theorem fields_any (b : Nat) (v : Value) (mk : Bool) (ty sq tm ss : Int) (sa ea : Option Addr) (ns sc ne ec : Nat) (S : Nat → Int) (w : World) (h : Wr 71 w b v []) (hs : SA b w sa ns S)
    (y0 : 0 ≤ ty) (y1 : ty ≤ 127) (q0 : 0 ≤ sq) (q1 : sq ≤ 65535) (t0 : 0 ≤ tm) (t1 : tm < 4294967296) (s0 : 0 ≤ ss) (s1 : ss < 4294967296) (hns : ns ≤ 15) (hne : ne ≤ 14) :
    Calls Try.prog 19 #[.pointer (some ⟨b, 0, none⟩), .agg #[.bool mk, .int .i64 ty, .int .i64 sq, .int .u32 tm, .int .u32 ss, .slice sa ns sc, .slice ea ne ec]] w fun e w' =>
      e = .returned (.tuple #[]) ∧ ∃ v', Wr 71 w' b v' (fixB mk ty sq tm ss ns ne ++ srcB S ns) ∧ Tch b v v' w w' := by
  have HROW := mkHid hs.2
  have H0 := mkHid (wr_alloc h (.cells #[.bool mk, .int .i64 ty, .int .i64 sq, .int .u32 tm, .int .u32 ss, .slice sa ns sc, .slice ea ne ec] 26))
  have X0 := mkHid (Bx.new h (.cells #[.bool mk, .int .i64 ty, .int .i64 sq, .int .u32 tm, .int .u32 ss, .slice sa ns sc, .slice ea ne ec] 26))
  have T0 := mkHid (tch_alloc b v w (.cells #[.bool mk, .int .i64 ty, .int .i64 sq, .int .u32 tm, .int .u32 ss, .slice sa ns sc, .slice ea ne ec] 26))
  have HOLD := mkHid h
  obtain ⟨bx, HBX⟩ : ∃ bx, Hid (w.heap.size = bx) := ⟨_, rfl⟩
  rw [HBX.out] at X0
  have hn1 : (ns : Int) ≤ 15 := by omega
  have hn2 : (ne : Int) ≤ 14 := by omega
  clear h hs
  go_enter Try.func19, Try.ntmps19
  go_wp2_with fail
  refine (put_fit b v [] _ _ 4 3 rfl rfl (by omega) (by omega) (by simp) _ H0.out).mono ?_
  rintro e w1 ⟨rfl, v1, h1, t1'⟩
  have H1 := mkHid h1
  have T1 := mkHid (T0.out.trans t1')
  have X1 := mkHid (X0.out.next t1')
  obtain ⟨c0, c1, c2, c3, c4, c5, c6⟩ := cells7 X1.out.heap
  clear h1 t1' c0 c1 c2 c3 c4 c5
  rw [HBX.out]
  go_wp2_with fail
  refine (bit_b _ _).mono ?_
  rintro e w2 ⟨rfl, rfl⟩
  go_wp2_with fail
  refine (put_fit b v1 _ _ _ (b01 (decide (0 < ne))).toNat 1 (b01_nat _).1 rfl (b01_nat _).2 (by omega) (by simp) _ H1.out).mono ?_
  rintro e w2 ⟨rfl, v2, h2, t2'⟩
  have H2 := mkHid h2
  have T2 := mkHid (T1.out.trans t2')
  have X2 := mkHid (X1.out.next t2')
  clear c6
  obtain ⟨c0, c1, c2, c3, c4, c5, c6⟩ := cells7 X2.out.heap
  clear h2 t2' c0 c1 c2 c3 c4 c6 H1 T1 X1
  go_wp2_with fail
  refine (put_fit b v2 _ _ _ ns 4 (by omega) rfl (by omega) (by omega) (by simp) _ H2.out).mono ?_
  rintro e w3 ⟨rfl, v3, h3, t3'⟩
  have H3 := mkHid h3
  have T3 := mkHid (T2.out.trans t3')
  have X3 := mkHid (X2.out.next t3')
  clear c5
  obtain ⟨c0, c1, c2, c3, c4, c5, c6⟩ := cells7 X3.out.heap
  clear h3 t3' c1 c2 c3 c4 c5 c6 H2 T2 X2
  go_wp2_with fail
  refine (bit_b _ _).mono ?_
  rintro e w4 ⟨rfl, rfl⟩
  go_wp2_with fail
  refine (put_fit b v3 _ _ _ (b01 mk).toNat 1 (b01_nat _).1 rfl (b01_nat _).2 (by omega) (by simp) _ H3.out).mono ?_
  rintro e w4 ⟨rfl, v4, h4, t4'⟩
  have H4 := mkHid h4
  have T4 := mkHid (T3.out.trans t4')
  have X4 := mkHid (X3.out.next t4')
  clear c0
  obtain ⟨c0, c1, c2, c3, c4, c5, c6⟩ := cells7 X4.out.heap
  clear h4 t4' c0 c2 c3 c4 c5 c6 H3 T3 X3
  go_wp2_with fail
  refine (put_fit b v4 _ _ _ ty.toNat 7 (by omega) rfl (by omega) (by omega) (by simp) _ H4.out).mono ?_
  rintro e w5 ⟨rfl, v5, h5, t5'⟩
  have H5 := mkHid h5
  have T5 := mkHid (T4.out.trans t5')
  have X5 := mkHid (X4.out.next t5')
  clear c1
  obtain ⟨c0, c1, c2, c3, c4, c5, c6⟩ := cells7 X5.out.heap
  clear h5 t5' c0 c1 c3 c4 c5 c6 H4 T4 X4
  go_wp2_with fail
  refine (put_fit b v5 _ _ _ sq.toNat 16 (by omega) rfl (by omega) (by omega) (by simp) _ H5.out).mono ?_
  rintro e w6 ⟨rfl, v6, h6, t6'⟩
  have H6 := mkHid h6
  have T6 := mkHid (T5.out.trans t6')
  have X6 := mkHid (X5.out.next t6')
  clear c2
  obtain ⟨c0, c1, c2, c3, c4, c5, c6⟩ := cells7 X6.out.heap
  clear h6 t6' c0 c1 c2 c4 c5 c6 H5 T5 X5
  go_wp2_with fail
  refine (put_fit b v6 _ _ _ tm.toNat 32 (by omega) rfl (by omega) (by omega) (by simp) _ H6.out).mono ?_
  rintro e w7 ⟨rfl, v7, h7, t7'⟩
  have H7 := mkHid h7
  have T7 := mkHid (T6.out.trans t7')
  have X7 := mkHid (X6.out.next t7')
  clear c3
  obtain ⟨c0, c1, c2, c3, c4, c5, c6⟩ := cells7 X7.out.heap
  clear h7 t7' c0 c1 c2 c3 c5 c6 H6 T6 X6
  go_wp2_with fail
  refine (put_fit b v7 _ _ _ ss.toNat 32 (by omega) rfl (by omega) (by omega) (by simp) _ H7.out).mono ?_
  rintro e w8 ⟨rfl, v8, h8, t8'⟩
  have H8 := mkHid h8
  have T8 := mkHid (T7.out.trans t8')
  have X8 := mkHid (X7.out.next t8')
  clear c4
  obtain ⟨c0, c1, c2, c3, c4, c5, c6⟩ := cells7 X8.out.heap
  clear h8 t8' c0 c1 c2 c3 c4 c6 H7 T7 X7
  go_wp2_with fail
  go_loopw [47] (fun i wr => ∃ (k : Nat) (vc : Value), k ≤ ns ∧ i = .int .i64 (k : Int) ∧ Wr 71 wr b vc (fixB mk ty sq tm ss ns ne ++ srcB S k) ∧ Tch b v vc w wr) (fun i _ => ns - (intOf i).toNat)
  case atStart => exact ⟨0, _, Nat.zero_le _, rfl, by have := H8.out; simp only [srcB, List.append_nil]; exact this, T8.out⟩
  case round =>
    obtain ⟨k, vc, hk, rfl, hw, ht⟩ := hrel
    have HW := mkHid hw
    have HT := mkHid ht
    have hbl := ht.below HOLD.out b (Nat.le_refl _)
    clear hw ht H8 T8 X8 c5
    by_cases hlt : k < ns
    · rcases HROW.out with h0 | ⟨d, off, rfl, hd, hrows⟩
      · omega
      obtain ⟨e0, e1, e2⟩ := hrows k hlt
      have d0 := (hbl.cell (p := ⟨d, off + k, none⟩) hd).trans e0
      clear e0 hrows hbl
      generalize hsk : S k = sk at *
      have HSK := mkHid hsk
      clear hsk
      go_wp2_with fail
      refine (put_fit b vc _ _ _ sk.toNat 32 (by omega) rfl (by omega) (by omega) (by simp; omega) _ HW.out).mono ?_
      rintro e w9 ⟨rfl, v9, h9, t9'⟩
      have H9 := mkHid h9
      have T9 := mkHid (HT.out.trans t9')
      clear h9 t9'
      go_wp2
      go_roundw
      case rel =>
        refine ⟨k + 1, v9, by omega, by go_num, ?_, T9.out⟩
        have := H9.out
        rw [← HSK.out, List.append_assoc] at this
        exact this
      case measure => simp [intOf]; omega
    · obtain rfl : k = ns := by omega
      clear hbl
      go_wp2
      go_returns
      exact ⟨rfl, vc, HW.out, HT.out⟩
end Go.Proofs.Ytdajcgicpfpeoaa
