/-
  What the reference's Encode hands back.
-/
import Derived.Test.YtdajcgicpfpeoaaRtO
import Derived.Test.YtdajcgicpfpeoaaBiZ
namespace Go.Proofs.Ytdajcgicpfpeoaa
open Go.RowKit

theorem rput_fit (b : Nat) (v : Value) (l : List Bool) (x n : Int) (X m : Nat) (eX : x = X) (e : n = m) (x1 : X < 4294967296) (hm : m ≤ 32) (hl : l.length + m ≤ 524288) (w : World) (h : Wr 75 w b v l) :
    Calls Try.prog 23 #[.pointer (some ⟨b, 0, none⟩), .int .u32 x, .int .i64 n] w fun e w' => e = .returned (.tuple #[]) ∧ ∃ v', Wr 75 w' b v' (l ++ bitsOf X m) ∧ Tch b v v' w w' := by
  subst e eX
  exact rput_in b v l X m (by omega) (by omega) hm hl w h
theorem one_b (b : Bool) (w : World) : Calls Try.prog 24 #[.bool b] w fun e w' => e = .returned (.int .u32 (b01 b)) ∧ w' = w := by
  cases b <;>
  · go_enter Try.func24, Try.ntmps24
    go_wp2
    go_ret
    exact ⟨rfl, rfl⟩
theorem bits_4 : ([] ++ bitsOf 2 2 ++ bitsOf 0 1 : List Bool) = [] ++ bitsOf 4 3 := by decide
theorem bits_bede (l : List Bool) : l ++ bitsOf 48862 16 = l ++ bitsOf 190 8 ++ bitsOf 222 8 := by rw [List.append_assoc]; congr 1
set_option maxRecDepth 100000 in
set_option maxHeartbeats 400000 in
theorem renc_no (mk : Bool) (ty sq tm ss : Int) (sa ea : Option Addr) (ns sc ne ec : Nat) (S I : Nat → Int) (D : Nat → ByteArray) (w : World) (hs : SA w.heap.size w sa ns S) (hx : XA w.heap.size w ea ne I D) (hg : goodB ty sq ns ne I D = false) :
    Calls Try.prog 12 #[hdr mk ty sq tm ss (.slice sa ns sc) (.slice ea ne ec)] w fun e w' => e = .returned (.tuple #[.string ⟨#[]⟩, .int .i64 1]) ∧ Below w.heap.size w w' := by
  have A := mkHid (good_any mk ty sq tm ss sa ea ns sc ne ec S I D _ (hs.alloc (.cells #[.bool mk, .int .i64 ty, .int .i64 sq, .int .u32 tm, .int .u32 ss, .slice sa ns sc, .slice ea ne ec] 26)) (hx.alloc (.cells #[.bool mk, .int .i64 ty, .int .i64 sq, .int .u32 tm, .int .u32 ss, .slice sa ns sc, .slice ea ne ec] 26)))
  rw [hg] at A
  clear hs hx hg
  go_enter Try.func12, Try.ntmps12
  go_wp2_with fail
  refine (A.out).mono ?_
  rintro e w1 ⟨rfl, hb⟩
  have HB := mkHid hb
  clear hb
  go_wp2
  go_ret2
  exact ⟨rfl, ((Below.refl _ _).alloc (Nat.le_refl _) _).trans (HB.out.mono (by simp))⟩
/-- Where the reference's Encode stands: the box, the writer. -/
structure Rw (w w' : World) (bx wb : Nat) (o : Obj) (v : Value) (l : List Bool) : Prop where
  x : Bx o w' bx wb v
  r : Wr 75 w' wb v l
  a : Apart (fun _ => False) w w'
theorem Rw.next {w w' w'' : World} {bx wb : Nat} {o : Obj} {v v' : Value} {l l' : List Bool} (h : Rw w w' bx wb o v l) (hw : w.heap.size ≤ bx) (hb : bx < wb) (r : Wr 75 w'' wb v' l') (t : Tch wb v v' w' w'') : Rw w w'' bx wb o v' l' :=
  ⟨h.x.next t, r, h.a.trans t.ap (fun i hi e => by
    rcases e with e | e
    · omega
    · have := (h.r.ownlt _ e).1; omega)⟩
set_option maxRecDepth 100000 in
set_option maxHeartbeats 2000000 in
theorem renc_ok (mk : Bool) (ty sq tm ss : Int) (sa ea : Option Addr) (ns sc ne ec : Nat) (S I : Nat → Int) (D : Nat → ByteArray) (w : World) (hs : SA w.heap.size w sa ns S) (hx : XA w.heap.size w ea ne I D) (hg : goodB ty sq ns ne I D = true)
    (t0 : 0 ≤ tm) (t1 : tm < 4294967296) (s0 : 0 ≤ ss) (s1 : ss < 4294967296) :
    Calls Try.prog 12 #[hdr mk ty sq tm ss (.slice sa ns sc) (.slice ea ne ec)] w fun e w' => e = .returned (.tuple #[.string (packS (encL mk ty sq tm ss ns S ne I D)), .int .i64 0]) ∧ Below w.heap.size w w' := by
  obtain ⟨y0, y1, q0, q1, hns, hne, hok⟩ := good_parts hg
  have A := mkHid (good_any mk ty sq tm ss sa ea ns sc ne ec S I D _ (hs.alloc (.cells #[.bool mk, .int .i64 ty, .int .i64 sq, .int .u32 tm, .int .u32 ss, .slice sa ns sc, .slice ea ne ec] 26)) (hx.alloc (.cells #[.bool mk, .int .i64 ty, .int .i64 sq, .int .u32 tm, .int .u32 ss, .slice sa ns sc, .slice ea ne ec] 26)))
  rw [hg] at A
  have HS := mkHid hs
  have HX := mkHid hx
  have HOK := mkHid hok
  have HL := mkHid (fun k hk => xlen_le hok k hk)
  have hn1 : (ns : Int) ≤ 15 := by omega
  have hn2 : (ne : Int) ≤ 14 := by omega
  clear hs hx hg hok
  obtain ⟨bx, HBX⟩ : ∃ bx, Hid (w.heap.size = bx) := ⟨_, rfl⟩
  have hn : (w.alloc (.cells #[.bool mk, .int .i64 ty, .int .i64 sq, .int .u32 tm, .int .u32 ss, .slice sa ns sc, .slice ea ne ec] 26)).heap[bx]? = some (.cells #[.bool mk, .int .i64 ty, .int .i64 sq, .int .u32 tm, .int .u32 ss, .slice sa ns sc, .slice ea ne ec] 26 (0, 0)) := by rw [← HBX.out]; exact heap_alloc_new _ _
  have HN := mkHid hn
  clear hn
  go_enter Try.func12, Try.ntmps12
  go_wp2_with fail
  refine (A.out).mono ?_
  rintro e w1 ⟨rfl, hb⟩
  have B1 := mkHid (Apart.trans ((Apart.refl (fun _ => False) w).alloc _) (apart_below hb) (fun _ _ h => h))
  have N1 := mkHid (Bx.keptB HN.out hb)
  clear hb A HN
  rw [HBX.out]
  go_wp2_with fail
  refine (rwrite_any _).mono ?_
  rintro e w2 ⟨rfl, h2, p2, z2⟩
  obtain ⟨wb, HWB⟩ : ∃ wb, Hid (w1.heap.size = wb) := ⟨_, rfl⟩
  rw [HWB.out] at h2 z2 ⊢
  have hbw : bx < wb := by rw [← HWB.out]; exact lt_of_heap N1.out
  have hwx : w.heap.size ≤ bx := by rw [HBX.out]; omega
  obtain ⟨o, HO⟩ : ∃ o, Hid (Obj.cells #[.bool mk, .int .i64 ty, .int .i64 sq, .int .u32 tm, .int .u32 ss, .slice sa ns sc, .slice ea ne ec] 26 = o) := ⟨_, rfl⟩
  rw [HO.out] at N1
  have R0 := mkHid (Rw.mk (w := w) ⟨p2.heap N1.out (fun h => h), by omega, fun e => by simp [Value.ownBlock] at e⟩ h2 (B1.out.trans p2 (fun _ _ h => h)) : Rw w w2 bx wb o (.slice none 0 0) [])
  have HC : Hid (∀ {w' v l}, Rw w w' bx wb o v l → w'.cell? ⟨bx, 0, none⟩ = some (.bool mk) ∧ w'.cell? ⟨bx, 1, none⟩ = some (.int .i64 ty) ∧ w'.cell? ⟨bx, 2, none⟩ = some (.int .i64 sq) ∧ w'.cell? ⟨bx, 3, none⟩ = some (.int .u32 tm) ∧ w'.cell? ⟨bx, 4, none⟩ = some (.int .u32 ss) ∧ w'.cell? ⟨bx, 5, none⟩ = some (.slice sa ns sc) ∧ w'.cell? ⟨bx, 6, none⟩ = some (.slice ea ne ec)) :=
    fun {w' v l} h => cells7 (by rw [HO.out]; exact h.x.heap)
  clear h2 p2 B1 N1
  go_wp2_with fail
  refine (rput_fit wb _ _ _ _ 2 2 rfl rfl (by omega) (by omega) (by simp) _ R0.out.r).mono ?_
  rintro e u1 ⟨rfl, v1, h, t⟩
  have R1 := mkHid (R0.out.next hwx hbw h t)
  clear h t R0
  go_wp2_with fail
  refine (rput_fit wb _ _ _ _ 0 1 rfl rfl (by omega) (by omega) (by simp) _ R1.out.r).mono ?_
  rintro e u2 ⟨rfl, v2, h, t⟩
  have R2 := mkHid (R1.out.next hwx hbw h t)
  clear h t R1
  rw [bits_4] at R2
  obtain ⟨c0, c1, c2, c3, c4, c5, c6⟩ := HC.out R2.out
  clear c0 c1 c2 c3 c4 c5
  go_wp2_with fail
  refine (one_b _ _).mono ?_
  rintro e wz ⟨rfl, rfl⟩
  go_wp2_with fail
  refine (rput_fit wb _ _ _ _ (b01 (decide (0 < ne))).toNat 1 (b01_nat _).1 rfl (b01_nat _).2 (by omega) (by simp) _ R2.out.r).mono ?_
  rintro e u3 ⟨rfl, v3, h, t⟩
  have R3 := mkHid (R2.out.next hwx hbw h t)
  clear h t R2 c6
  obtain ⟨c0, c1, c2, c3, c4, c5, c6⟩ := HC.out R3.out
  clear c0 c1 c2 c3 c4 c6
  go_wp2_with fail
  refine (rput_fit wb _ _ _ _ ns 4 (by omega) rfl (by omega) (by omega) (by simp) _ R3.out.r).mono ?_
  rintro e u4 ⟨rfl, v4, h, t⟩
  have R4 := mkHid (R3.out.next hwx hbw h t)
  clear h t R3 c5
  obtain ⟨c0, c1, c2, c3, c4, c5, c6⟩ := HC.out R4.out
  clear c1 c2 c3 c4 c5 c6
  go_wp2_with fail
  refine (one_b _ _).mono ?_
  rintro e wz ⟨rfl, rfl⟩
  go_wp2_with fail
  refine (rput_fit wb _ _ _ _ (b01 mk).toNat 1 (b01_nat _).1 rfl (b01_nat _).2 (by omega) (by simp) _ R4.out.r).mono ?_
  rintro e u5 ⟨rfl, v5, h, t⟩
  have R5 := mkHid (R4.out.next hwx hbw h t)
  clear h t R4 c0
  obtain ⟨c0, c1, c2, c3, c4, c5, c6⟩ := HC.out R5.out
  clear c0 c2 c3 c4 c5 c6
  go_wp2_with fail
  refine (rput_fit wb _ _ _ _ ty.toNat 7 (by omega) rfl (by omega) (by omega) (by simp) _ R5.out.r).mono ?_
  rintro e u6 ⟨rfl, v6, h, t⟩
  have R6 := mkHid (R5.out.next hwx hbw h t)
  clear h t R5 c1
  obtain ⟨c0, c1, c2, c3, c4, c5, c6⟩ := HC.out R6.out
  clear c0 c1 c3 c4 c5 c6
  go_wp2_with fail
  refine (rput_fit wb _ _ _ _ sq.toNat 16 (by omega) rfl (by omega) (by omega) (by simp) _ R6.out.r).mono ?_
  rintro e u7 ⟨rfl, v7, h, t⟩
  have R7 := mkHid (R6.out.next hwx hbw h t)
  clear h t R6 c2
  obtain ⟨c0, c1, c2, c3, c4, c5, c6⟩ := HC.out R7.out
  clear c0 c1 c2 c4 c5 c6
  go_wp2_with fail
  refine (rput_fit wb _ _ _ _ tm.toNat 32 (by omega) rfl (by omega) (by omega) (by simp) _ R7.out.r).mono ?_
  rintro e u8 ⟨rfl, v8, h, t⟩
  have R8 := mkHid (R7.out.next hwx hbw h t)
  clear h t R7 c3
  obtain ⟨c0, c1, c2, c3, c4, c5, c6⟩ := HC.out R8.out
  clear c0 c1 c2 c3 c5 c6
  go_wp2_with fail
  refine (rput_fit wb _ _ _ _ ss.toNat 32 (by omega) rfl (by omega) (by omega) (by simp) _ R8.out.r).mono ?_
  rintro e u9 ⟨rfl, v9, h, t⟩
  have R9 := mkHid (R8.out.next hwx hbw h t)
  clear h t R8 c4
  have R10 := mkHid (show Rw w u9 bx wb o v9 (fixB mk ty sq tm ss ns ne) from R9.out)
  clear R9
  obtain ⟨c0, c1, c2, c3, c4, c5, c6⟩ := HC.out R10.out
  clear c0 c1 c2 c3 c4 c6
  go_wp2_with fail
  clear c5
  go_loopw [5] (fun i wr => ∃ (k : Nat) (vc : Value), k ≤ ns ∧ i = .int .i64 (k : Int) ∧ Rw w wr bx wb o vc (fixB mk ty sq tm ss ns ne ++ srcB S k)) (fun i _ => ns - (intOf i).toNat)
  case atStart => exact ⟨0, _, Nat.zero_le _, rfl, by simp only [srcB, List.append_nil]; exact R10.out⟩
  case round =>
    obtain ⟨k, vc, hk, rfl, hr⟩ := hrel
    have RK := mkHid hr
    clear hr R10
    obtain ⟨c0, c1, c2, c3, c4, c5, c6⟩ := HC.out RK.out
    clear c0 c1 c2 c3 c4
    by_cases hlt : k < ns
    · clear c6
      rcases (HS.out.kept RK.out.a.belowZ).2 with h0 | ⟨d, off, rfl, hd, hrows⟩
      · omega
      obtain ⟨e0, e1, e2⟩ := hrows k hlt
      have hk0 : (0 : Int) ≤ k := by omega
      have hk1 : (k : Int) < ns := by omega
      clear hrows hd
      generalize hsk : S k = sk at *
      have HSK := mkHid hsk
      clear hsk
      go_wp2_with fail
      refine (rput_fit wb _ _ _ _ sk.toNat 32 (by omega) rfl (by omega) (by omega) (by simp; omega) _ RK.out.r).mono ?_
      rintro e u ⟨rfl, v9, h, t⟩
      have RN := mkHid (RK.out.next hwx hbw h t)
      clear h t c5
      go_wp2
      go_roundw
      case rel =>
        refine ⟨k + 1, v9, by omega, by go_num, ?_⟩
        have := RN.out
        rw [← HSK.out, List.append_assoc] at this
        exact this
      case measure => simp [intOf]; omega
    · obtain rfl : k = ns := by omega
      obtain ⟨wx, HWX⟩ : ∃ wx, wx = wr := ⟨_, rfl⟩
      subst HWX
      by_cases h0 : ne = 0
      · subst h0
        have HE : Hid (encL mk ty sq tm ss k S 0 I D = fixB mk ty sq tm ss k 0 ++ srcB S k) := by unfold encL; exact if_pos rfl
        go_wp2_with fail
        refine (rtext_any wb _ _ _ RK.out.r).mono ?_
        rintro e w4 ⟨rfl, rfl⟩
        go_wp2
        go_ret2
        exact ⟨by rw [HE.out]; rfl, RK.out.a.belowZ⟩
      · have HE : Hid (encL mk ty sq tm ss k S ne I D = alignS (preB (fixB mk ty sq tm ss k ne ++ srcB S k) D ne ++ extB I D ne) 32) := by unfold encL; exact if_neg h0
        have h0' : ¬ (ne : Int) = 0 := by omega
        have HXW := mkHid (HX.out.kept RK.out.a.belowZ)
        go_wp2_with fail
        clear c5
        go_loopw [6, 7] (fun tt i wr => ∃ j : Nat, j ≤ ne ∧ i = .int .i64 (j : Int) ∧ tt = .int .i64 (xlen D j : Int) ∧ wr = wx) (fun _ i _ => ne - (intOf i).toNat)
        case atStart => exact ⟨0, Nat.zero_le _, rfl, rfl, rfl⟩
        case round =>
          obtain ⟨j, hj, rfl, rfl, hwr⟩ := hrel
          subst hwr
          have hl := HL.out j hj
          by_cases hlt : j < ne
          · rcases HXW.out.2 with h0 | ⟨b, off, rfl, hbl, hrows⟩
            · omega
            obtain ⟨d0, d1, _⟩ := hrows j hlt
            have hl2 := HL.out (j + 1) (by omega)
            have HXX : Hid (xlen D (j + 1) = xlen D j + (1 + (D j).size)) := rfl
            rw [HXX.out] at hl2
            have hj0 : (0 : Int) ≤ j := by omega
            have hj1 : (j : Int) < ne := by omega
            generalize hdd : D j = dd at d1 hl2 HXX
            generalize hxx : xlen D j = xx at *
            clear hrows hbl d0 hdd hxx
            go_wp2
            go_roundw
            case rel => exact ⟨j + 1, by omega, by go_num, by rw [HXX.out]; go_num, by first | rfl | trivial⟩
            case measure => simp [intOf]; omega
          · obtain rfl : j = ne := by omega
            obtain ⟨xx, HXX⟩ : ∃ xx, Hid (xlen D j = xx) := ⟨_, rfl⟩
            rw [HXX.out] at hl ⊢
            obtain ⟨wy, HWY⟩ : ∃ wy, wy = wr := ⟨_, rfl⟩
            subst HWY
            clear hlt
            go_wp2_with fail
            refine (rput_fit wb _ _ _ _ 48862 16 rfl rfl (by omega) (by omega) (by simp; omega) _ RK.out.r).mono ?_
            rintro e u ⟨rfl, va, h, t⟩
            have RA := mkHid (RK.out.next hwx hbw h t)
            clear h t RK c6
            rw [bits_bede] at RA
            go_wp2_with fail
            refine (rput_fit wb _ _ _ _ ((xx + 3) / 4) 16 (by omega) rfl (by omega) (by omega) (by simp; omega) _ RA.out.r).mono ?_
            rintro e u2 ⟨rfl, vb2, h, t⟩
            have RB := RA.out.next hwx hbw h t
            rw [← HXX.out] at RB
            have RB := mkHid (show Rw w u2 bx wb o vb2 (preB (fixB mk ty sq tm ss k j ++ srcB S k) D j) from RB)
            clear h t RA
            obtain ⟨pre, HPRE⟩ : ∃ pre, Hid (preB (fixB mk ty sq tm ss k j ++ srcB S k) D j = pre) := ⟨_, rfl⟩
            have HPL := mkHid (show pre.length ≤ 640 from by rw [← HPRE.out]; simp; omega)
            rw [HPRE.out] at RB HE
            go_wp2_with fail
            go_loopw [8] (fun i wr => ∃ (m : Nat) (vc : Value), m ≤ j ∧ i = .int .i64 (m : Int) ∧ Rw w wr bx wb o vc (pre ++ extB I D m)) (fun i _ => j - (intOf i).toNat)
            case atStart => exact ⟨0, _, Nat.zero_le _, rfl, by simp only [extB, List.append_nil]; exact RB.out⟩
            case round =>
              obtain ⟨m, vm, hm, rfl, hr⟩ := hrel
              have RM := mkHid hr
              clear hr RB
              obtain ⟨c0, c1, c2, c3, c4, c5, c6⟩ := HC.out RM.out
              clear c0 c1 c2 c3 c4 c5
              have hk1 := HL.out m hm
              by_cases hlt : m < j
              · have hk2 := HL.out (m + 1) (by omega)
                have HXL : Hid (xlen D (m + 1) = xlen D m + (1 + (D m).size)) := rfl
                rw [HXL.out] at hk2
                obtain ⟨⟨i0, i1⟩, ⟨s0, s1⟩, _⟩ := HOK.out m hlt
                rcases HX.out.2 with h0 | ⟨bb, off, rfl, hbl, hrows⟩
                · omega
                obtain ⟨d0, d1, _⟩ := hrows m hlt
                have HD : Hid (∀ {w' v l}, Rw w w' bx wb o v l → w'.cell? ⟨bb, off + m * 2, none⟩ = some (.int .i64 (I m)) ∧ w'.cell? ⟨bb, off + m * 2 + 1, none⟩ = some (.string (D m))) :=
                  fun {w' v l} h => ⟨(h.a.belowZ.cell (p := ⟨bb, off + m * 2, none⟩) hbl).trans d0, (h.a.belowZ.cell (p := ⟨bb, off + m * 2 + 1, none⟩) hbl).trans d1⟩
                have HEX : Hid (extB I D (m + 1) = extB I D m ++ bitsOf (I m).toNat 4 ++ bitsOf ((D m).size - 1) 4 ++ txtB (D m) (D m).size) := rfl
                have HLE := mkHid (show (pre ++ extB I D m).length ≤ 2544 from by have := HPL.out; simp; omega)
                clear hrows d0 d1 hbl hk1 hk2 HXL
                generalize I m = id at *
                generalize D m = dd at *
                have hs0 : 1 ≤ (dd.size : Int) := by omega
                have hs1 : (dd.size : Int) ≤ 16 := by omega
                have hm0 : (0 : Int) ≤ m := by omega
                have hm1 : (m : Int) < j := by omega
                generalize hpm : pre ++ extB I D m = pm at *
                have HPM := mkHid hpm
                clear hpm
                obtain ⟨d0, d1⟩ := HD.out RM.out
                clear d1
                go_wp2_with fail
                refine (rput_fit wb _ _ _ _ id.toNat 4 (by omega) rfl (by omega) (by omega) (by have := HLE.out; omega) _ RM.out.r).mono ?_
                rintro e u3 ⟨rfl, v3, h, t⟩
                have R3 := mkHid (RM.out.next hwx hbw h t)
                clear h t d0 RM c6
                obtain ⟨d0, d1⟩ := HD.out R3.out
                obtain ⟨c0, c1, c2, c3, c4, c5, c6⟩ := HC.out R3.out
                clear c0 c1 c2 c3 c4 c5 d0
                go_wp2_with fail
                refine (rput_fit wb _ _ _ _ (dd.size - 1) 4 (by omega) rfl (by omega) (by omega) (by have := HLE.out; simp; omega) _ R3.out.r).mono ?_
                rintro e u4 ⟨rfl, v4, h, t⟩
                have R4 := mkHid (R3.out.next hwx hbw h t)
                clear h t d1 c6 R3
                obtain ⟨wz, HWZ⟩ : ∃ wz, wz = wr := ⟨_, rfl⟩
                subst HWZ
                go_wp2_with fail
                go_loopw [9] (fun i wr => ∃ (q : Nat) (vq : Value), q ≤ dd.size ∧ i = .int .i64 (q : Int) ∧ Rw w wr bx wb o vq (pm ++ bitsOf id.toNat 4 ++ bitsOf (dd.size - 1) 4 ++ txtB dd q)) (fun i _ => dd.size - (intOf i).toNat)
                case atStart => exact ⟨0, _, Nat.zero_le _, rfl, by simp only [txtB, List.append_nil]; exact R4.out⟩
                case round =>
                  obtain ⟨q, vq, hq, rfl, hr⟩ := hrel
                  have RQ := mkHid hr
                  clear hr R4
                  obtain ⟨d0, d1⟩ := HD.out RQ.out
                  obtain ⟨c0, c1, c2, c3, c4, c5, c6⟩ := HC.out RQ.out
                  clear c0 c1 c2 c3 c4 c5 d0
                  by_cases hlq : q < dd.size
                  · have hb := byt_get dd q hlq
                    have hbl := byt_lt dd q
                    rw [← hb] at hbl
                    have HB := mkHid hb
                    have hq0 : (0 : Int) ≤ q := by omega
                    have hq1 : (q : Int) < dd.size := by omega
                    clear hb
                    go_wp2_with fail
                    refine (rput_fit wb _ _ _ _ dd[q].toNat 8 (by omega) rfl (by omega) (by omega) (by have := HLE.out; simp; omega) _ RQ.out.r).mono ?_
                    rintro e u5 ⟨rfl, v5, h, t⟩
                    have R5 := mkHid (RQ.out.next hwx hbw h t)
                    clear h t d1 c6 RQ
                    go_wp2
                    go_roundw
                    case rel =>
                      refine ⟨q + 1, v5, by omega, by go_num, ?_⟩
                      have := R5.out
                      rw [HB.out, List.append_assoc _ (txtB dd q)] at this
                      exact this
                    case measure => simp [intOf]; omega
                  · obtain rfl : q = dd.size := by omega
                    go_wp2
                    go_roundw
                    case rel =>
                      refine ⟨m + 1, vq, by omega, by go_num, ?_⟩
                      have := RQ.out
                      rw [← HPM.out] at this
                      rw [HEX.out]
                      simp only [List.append_assoc] at this ⊢
                      exact this
                    case measure => simp [intOf]; omega
              · obtain rfl : m = j := by omega
                go_wp2_with fail
                refine (ralign_any wb _ _ 32 _ RM.out.r).mono ?_
                rintro e u6 ⟨rfl, v6, h, t⟩
                have R6 := mkHid (RM.out.next hwx hbw h t)
                clear h t c6 RM
                go_wp2_with fail
                refine (rtext_any wb _ _ _ R6.out.r).mono ?_
                rintro e w7 ⟨rfl, rfl⟩
                go_wp2
                go_ret2
                exact ⟨by rw [HE.out]; rfl, R6.out.a.belowZ⟩
/-- What Encode answers: the text, the error. -/
def encS (mk : Bool) (ty sq tm ss : Int) (ns : Nat) (S : Nat → Int) (ne : Nat) (I : Nat → Int) (D : Nat → ByteArray) : ByteArray := if goodB ty sq ns ne I D = true then packS (encL mk ty sq tm ss ns S ne I D) else ⟨#[]⟩
def encE (ty sq : Int) (ns ne : Nat) (I : Nat → Int) (D : Nat → ByteArray) : Int := if goodB ty sq ns ne I D = true then 0 else 1
theorem renc_any (mk : Bool) (ty sq tm ss : Int) (sa ea : Option Addr) (ns sc ne ec : Nat) (S I : Nat → Int) (D : Nat → ByteArray) (w : World) (hs : SA w.heap.size w sa ns S) (hx : XA w.heap.size w ea ne I D)
    (t0 : 0 ≤ tm) (t1 : tm < 4294967296) (s0 : 0 ≤ ss) (s1 : ss < 4294967296) :
    Calls Try.prog 12 #[hdr mk ty sq tm ss (.slice sa ns sc) (.slice ea ne ec)] w fun e w' => e = .returned (.tuple #[.string (encS mk ty sq tm ss ns S ne I D), .int .i64 (encE ty sq ns ne I D)]) ∧ Below w.heap.size w w' := by
  unfold encS encE
  cases hg : goodB ty sq ns ne I D with
  | true => exact renc_ok mk ty sq tm ss sa ea ns sc ne ec S I D w hs hx hg t0 t1 s0 s1
  | false => exact renc_no mk ty sq tm ss sa ea ns sc ne ec S I D w hs hx hg
theorem enc_any (mk : Bool) (ty sq tm ss : Int) (sa ea : Option Addr) (ns sc ne ec : Nat) (S I : Nat → Int) (D : Nat → ByteArray) (w : World) (hs : SA w.heap.size w sa ns S) (hx : XA w.heap.size w ea ne I D)
    (t0 : 0 ≤ tm) (t1 : tm < 4294967296) (s0 : 0 ≤ ss) (s1 : ss < 4294967296) :
    Calls Try.prog 11 #[hdr mk ty sq tm ss (.slice sa ns sc) (.slice ea ne ec)] w fun e w' => e = .returned (.tuple #[.string (encS mk ty sq tm ss ns S ne I D), .int .i64 (encE ty sq ns ne I D)]) ∧ Below w.heap.size w w' := by
  unfold encS encE
  cases hg : goodB ty sq ns ne I D with
  | true => exact enc_ok mk ty sq tm ss sa ea ns sc ne ec S I D w hs hx hg t0 t1 s0 s1
  | false => exact enc_no mk ty sq tm ss sa ea ns sc ne ec S I D w hs hx hg
end Go.Proofs.Ytdajcgicpfpeoaa
