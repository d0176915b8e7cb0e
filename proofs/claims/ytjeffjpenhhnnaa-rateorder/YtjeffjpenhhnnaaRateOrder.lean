/-
  RateOrder: in whatever order the packets of one window come, bytes and rate in the end are the same.
-/
import Derived.Test.YtjeffjpenhhnnaaRows
import Derived.WalkKit
import Derived.ProofKit
import Derived.OpenShut
import Derived.ShutString
import Derived.ChangeOld
import Derived.Below
import Derived.Deep.Slices
import Derived.Test.YtjeffjpenhhnnaaRaAf
namespace Go.Proofs.Ytjeffjpenhhnnaa.rateOrder
open Go.ChangeShapes Go.WideShapes Go.ChangeAt Go.RowKit
open Go.ChangeMaps (open_string shut_string)
set_option linter.unusedVariables false

theorem own : ownKnob Try.prog.godebug = none := by kernel_rfl
theorem laidOut : laidOutB Try.prog = true := by kernel_rfl

theorem cells41 : Try.prog.cellsOf 41 = 1 := by kernel_rfl
theorem cellsI3 : Try.prog.cellsOf 3 = 1 := by kernel_rfl
theorem open0 {H : Type} {enc : TypeId × Value → H} {W : World} {a : Option Addr} {len cap : Nat} {d : DataW H} {p : List MemPlace}
    (h : DataW.Trod enc Try.prog W 0 (fun _ => true) true 44 (.slice a len cap) d p) : NumsAt .u16 W a len := open_nums Try.underlying44 Try.underlying41 cells41 h
theorem open1 {H : Type} {enc : TypeId × Value → H} {W : World} {a : Option Addr} {len cap : Nat} {d : DataW H} {p : List MemPlace}
    (h : DataW.Trod enc Try.prog W 0 (fun _ => true) true 45 (.slice a len cap) d p) : NumsAt .i64 W a len := open_nums Try.underlying45 Try.underlying3 cellsI3 h
def sa (U : Nat → Int) (j : Nat) : Sm := (U j, 100 + (j : Int))
set_option maxRecDepth 100000 in
set_option maxHeartbeats 8000000 in
theorem walk (a0 : Option Addr) (len0 cap0 : Nat) (a1 : Option Addr) (len1 cap1 : Nat) (w : World) (w0 : NumsAt .u16 w a0 len0) (w1 : NumsAt .i64 w a1 len1) : Calls Try.prog 7 #[.slice a0 len0 cap0, .slice a1 len1 cap1] w fun e w' => e = .returned (.bool true) ∧ Below w.heap.size w w' := by
  obtain ⟨hn0, U, hU, hrow0⟩ := w0
  obtain ⟨hn1, V, hV, hrow1⟩ := w1
  have ROW0 := mkHid hrow0
  have ROW1 := mkHid hrow1
  have HU := mkHid (fun i hi => show 0 ≤ U i ∧ U i ≤ 65535 from by have := hU i hi; simp [Lit.wf, IntKind.min, IntKind.max, IntKind.signed, IntKind.bits] at this; omega)
  have HV := mkHid (fun i hi => bounds_i64 (hV i hi))
  have hln0 : (len0 : Int) ≤ 9223372036854775807 := by unfold maxLen at hn0; omega
  have hln1 : (len1 : Int) ≤ 9223372036854775807 := by unfold maxLen at hn1; omega
  clear hrow0 hrow1 hU hV hn0 hn1
  obtain ⟨i3, hi3, hz30, hz31, hz32⟩ := info3
  have NA := mkHid (new_mt 1048576 (by omega) (by omega))
  go_enter Try.func7, Try.ntmps7
  go_wp2_with fail
  refine (NA.out _).mono ?_
  rintro e y1 ⟨⟨b1, rfl, hm1, hb1⟩, ha1⟩
  have M1 := mkHid hm1
  have A1 := mkHid ha1
  have HB1 := mkHid hb1
  clear hm1 ha1 hb1
  go_wp2_with fail
  refine (NA.out _).mono ?_
  rintro e y2 ⟨⟨b2, rfl, hm2, hb2⟩, ha2⟩
  have M2 := mkHid hm2
  have A2 := mkHid ha2
  have HB2 := mkHid hb2
  clear hm2 ha2 hb2
  by_cases hbig : 200 < len0
  · have hbig' : (200 : Int) < len0 := by omega
    go_wp2_with fail
    refine (wakes_any _).mono ?_
    rintro e y3 ⟨rfl, b3⟩
    go_wp2
    go_ret
    have A := A1.out.zz A2.out
    exact ⟨rfl, (A.belowZ).trans (b3.mono A.size)⟩
  · have hbig' : ¬ (200 : Int) < len0 := by omega
    have HBIG := mkHid hbig
    have hmk : ∀ W : World, (Instr.makeSlice 45 (.int .i64 (len0 : Int)) (.int .i64 (len0 : Int))).run Try.prog W = .ok (.slice (some ⟨W.heap.size, 0, none⟩) len0 len0) (W.alloc (.cells (oC (upTo len0 0)) 3)) := by
      intro W
      have := run_make (P := Try.prog) W 45 3 i3 (.int .i64 0) Try.underlying45 hi3 hz30 .i64 .i64 (len0 : Int) (len0 : Int) (by omega) (by omega) (by rw [hz32]; omega) (by omega)
      rw [hz31, Nat.mul_one, Int.toNat_natCast] at this
      rw [this]
      rw [show (Value.int .i64 0).cells = #[.int .i64 0] from rfl, oC_zero, upTo_zero]
    have HMK := mkHid hmk
    clear hmk
    have hmk := HMK.out y2
    have J0 := mkHid (show Oj w b1 b2 y2.heap.size [] [] (upTo len0 0) (fun k => k = b1) (fun k => k = b2) (y2.alloc (.cells (oC (upTo len0 0)) 3)) from by
      have A3 := (Apart.refl (fun _ => False) y2).alloc (.cells (oC (upTo len0 0)) 3)
      have l1 := M1.out.own.2 b1 rfl
      have l2 := M2.out.own.2 b2 rfl
      have e1 := HB1.out
      have e2 := HB2.out
      have s1 := A1.out.size
      have s2 := A2.out.size
      refine ⟨(om_new (M1.out.kept A2.out (fun _ _ h => h))).kept A3 (fun _ _ h => h), (om_new M2.out).kept A3 (fun _ _ h => h), heap_alloc_new y2 _, ?_, ?_, by omega, ((A1.out.zz A2.out).zz A3).mono (fun _ _ h => h.elim)⟩
      · intro q e
        rw [show q = b1 from e]
        exact ⟨by omega, by omega, fun h => by have : b1 = b2 := h; omega⟩
      · intro q e
        rw [show q = b2 from e]
        exact ⟨by omega, by omega⟩)
    obtain ⟨ob, HOB⟩ : ∃ ob, Hid (y2.heap.size = ob) := ⟨_, mkHid rfl⟩
    obtain ⟨y3, HY3⟩ : ∃ y3, Hid (y2.alloc (.cells (oC (upTo len0 0)) 3) = y3) := ⟨_, mkHid rfl⟩
    rw [HOB.out, HY3.out] at J0
    rw [HOB.out, HY3.out] at hmk
    have hlen : len0 ≤ 200 := by omega
    go_wp2_with fail
    clear hmk HMK
    go_loopg [10] len0 (fun kx s10 wr => ∃ (i : Nat) (N1 N2 : Nat → Prop), s10 = .int .i64 i ∧ i ≤ len0 ∧ kx = len0 - i ∧ Hid (Oj w b1 b2 ob [] [] (upTo len0 i) N1 N2 wr))
    case atStart => exact ⟨0, _, _, rfl, Nat.zero_le _, rfl, J0⟩
    case round =>
      obtain ⟨i, N1, N2, rfl, hi, hkx, HJ⟩ := hrel
      by_cases hlt : i < len0
      · have hlt1 : (i : Int) < len0 := by omega
        obtain ⟨v, hv⟩ : ∃ v, (upTo len0 i)[i]? = some v := ⟨_, List.getElem?_eq_getElem (by rw [upTo_len len0 i (by omega)]; exact hlt)⟩
        have c0 := cell_of_row _ _ i _ 3 _ HJ.out.o |>.trans (oC_get hv)
        have f0 := frozen_of_row wr ob i (oC (upTo len0 i)) 3 HJ.out.o
        have J1 := mkHid (HJ.out.turn (P' := upTo len0 (i + 1)) (ap_set wr ob i (.int .i64 (i : Int))) (by rw [← upTo_set len0 i hlt, ← oC_set]; exact heap_setCell_same wr ob i _ 3 _ HJ.out.o))
        go_wp2_with fail
        go_roundg (len0 - (i + 1))
        case measure => omega
        case rel => exact ⟨i + 1, N1, N2, by go_num, by omega, rfl, J1⟩
      · obtain rfl : i = len0 := by omega
        rw [upTo_end] at HJ
        go_wp2_with fail
        clear hi hkx
        go_loopg [11, 12, 13] len1 (fun kx s11 _ _ wr => ∃ (j : Nat) (P : List Nat) (N1 N2 : Nat → Prop), s11 = .int .i64 j ∧ j ≤ len1 ∧ j % 2 = 0 ∧ kx = len1 - j ∧ Hid (P.Perm (List.range i)) ∧ Hid (Oj w b1 b2 ob [] [] P N1 N2 wr))
        case atStart => exact ⟨0, _, _, _, rfl, Nat.zero_le _, rfl, rfl, mkHid (List.Perm.refl _), HJ⟩
        case round =>
          clear HJ
          obtain ⟨j, P, N3, N4, rfl, hj, hj2, hkx, HP, HJ⟩ := hrel
          have hjw : IntKind.i64.wrap ((j : Int) + 1) = (j : Int) + 1 := by rw [IntKind.wrap_i64]; omega
          by_cases hlt2 : j + 1 < len1 ∧ 0 < i
          · obtain ⟨hlt3, hlt4⟩ := hlt2
            have hq1 : (j : Int) + 1 < len1 := by omega
            have hq2 : (0 : Int) < i := by omega
            obtain ⟨tb, toff, rfl, htb, ht⟩ : ∃ tb toff, a1 = some ⟨tb, toff, none⟩ ∧ tb < w.heap.size ∧ ∀ q, q < len1 → w.cell? ⟨tb, toff + q, none⟩ = some (.int .i64 (V q)) := by
              rcases ROW1.out with h | ⟨tb, toff, h1, h2, h3⟩
              · omega
              · exact ⟨tb, toff, h1, h2, h3⟩
            have v1 := HV.out j (by omega)
            have v2 := HV.out (j + 1) (by omega)
            have t1 := (HJ.out.ap.cell (p := ⟨tb, toff + j, none⟩) htb (by simp only; omega)).trans (ht j (by omega))
            have t2 := (HJ.out.ap.cell (p := ⟨tb, toff + (j + 1), none⟩) htb (by simp only; omega)).trans (ht (j + 1) (by omega))
            obtain ⟨x1, HX1⟩ : ∃ x, Hid (V j = x) := ⟨_, mkHid rfl⟩
            obtain ⟨x2, HX2⟩ : ∃ x, Hid (V (j + 1) = x) := ⟨_, mkHid rfl⟩
            rw [HX1.out] at v1 t1
            rw [HX2.out] at v2 t2
            have d1 := fun p => wd_cell t1 p
            have d2 := fun p => wd_cell t2 p
            have MD := mkHid (fun v W => (mod_any v (i : Int) (by omega) (by omega) W).mono (fun e w' ⟨h1, h2⟩ => And.intro h1 (by subst h2; exact Apart.refl (fun _ => False) _)))
            clear ht t1 t2
            go_wp2_with fail
            refine wp_region_wd (by kernel_rfl) (by kernel_rfl) ?_
            repeat (go_big_quiet_step ((go_at_call 24; exact wd_call (MD.out _ _))))
            refine wpQuiet_nil ?_
            rintro _ ⟨p, rfl⟩
            have J1 := mkHid (HJ.out.keep (wd_apart wr p))
            obtain ⟨wa, HWA⟩ : ∃ wa, Hid (wd wr p = wa) := ⟨_, mkHid rfl⟩
            rw [HWA.out] at J1 ⊢
            clear d1 d2 MD HJ v1 v2
            have hm1 := modH_in x1 (i : Int) (by omega)
            have hm2 := modH_in x2 (i : Int) (by omega)
            obtain ⟨X, HX⟩ : ∃ X : Nat, Hid (modH x1 (i : Int) = (X : Int)) := ⟨(modH x1 (i : Int)).toNat, mkHid (by omega)⟩
            obtain ⟨Y, HY⟩ : ∃ Y : Nat, Hid (modH x2 (i : Int) = (Y : Int)) := ⟨(modH x2 (i : Int)).toNat, mkHid (by omega)⟩
            rw [HX.out] at hm1 ⊢
            rw [HY.out] at hm2 ⊢
            have hpl : P.length = i := by rw [HP.out.length_eq, List.length_range]
            have hx1 : (X : Int) < i := by omega
            have hy1 : (Y : Int) < i := by omega
            obtain ⟨u, hu⟩ : ∃ u, P[X]? = some u := ⟨_, List.getElem?_eq_getElem (show X < P.length by omega)⟩
            obtain ⟨v, hv⟩ : ∃ v, P[Y]? = some v := ⟨_, List.getElem?_eq_getElem (show Y < P.length by omega)⟩
            have HPP := mkHid ((swap_perm P X Y u v hu hv).trans HP.out)
            have e1 := (cell_of_row _ _ X _ 3 _ J1.out.o).trans (oC_get hu)
            have e2 := (cell_of_row _ _ Y _ 3 _ J1.out.o).trans (oC_get hv)
            have ef := fun q => frozen_of J1.out.o q
            have H1 := mkHid (heap_setCell_same wa ob X (oC P) 3 (.int .i64 (v : Int)) J1.out.o)
            rw [oC_set] at H1
            have H2 := mkHid (heap_setCell_same _ ob Y (oC (P.set X v)) 3 (.int .i64 (u : Int)) H1.out)
            rw [oC_set] at H2
            have J2 := mkHid (J1.out.turn (P' := (P.set X v).set Y u) ((ap_set wa ob X (.int .i64 (v : Int))).trans (ap_set _ ob Y (.int .i64 (u : Int))) (fun _ _ h => h)) H2.out)
            have e3 : (wa.setCell ⟨ob, X, none⟩ (.int .i64 (v : Int))).cell? ⟨ob, Y, none⟩ = some (.int .i64 (if Y = X then (v : Int) else (v : Int))) := by
              rw [cell_of_row _ _ Y _ 3 _ H1.out, oC_get (v := v) (by
                rw [List.getElem?_set]
                split
                · rename_i h; subst h; rw [if_pos (by omega)]
                · exact hv)]
              split <;> rfl
            rw [ite_self] at e3
            have ef2 := fun q => frozen_of H1.out q
            clear H1 H2 hu hv hpl HX HY hm1 hm2
            have hi200 : (i : Int) ≤ 200 := by omega
            go_upto_region 14 with fail
            go_region
            have J3 := mkHid (J2.out.keep ((Apart.refl (fun _ => False) _).drew))
            clear e1 e2 e3 ef ef2 J1 J2
            go_wp2_with fail
            go_roundg (len1 - (j + 2))
            case measure => omega
            case rel => exact ⟨j + 2, _, N3, N4, by go_num, by omega, by omega, rfl, HPP, J3⟩
          · by_cases h1 : j + 1 < len1
            · have hi0 : ¬ (0 : Int) < i := by omega
              have h1' : (j : Int) + 1 < len1 := by omega
              go_wp2_with fail
              go_loopg [14] i (fun kx s14 wr => ∃ (q : Nat) (N1 N2 : Nat → Prop), s14 = .int .i64 q ∧ q ≤ i ∧ kx = i - q ∧ Hid (Oj w b1 b2 ob ((List.range q).map (sa U)) [] P N1 N2 wr))
              case atStart => exact ⟨0, _, _, rfl, Nat.zero_le _, rfl, HJ⟩
              case round =>
                clear HJ
                obtain ⟨q, N5, N6, rfl, hq, hkx, HJ⟩ := hrel
                by_cases hlq : q < i
                · have hlq1 : (q : Int) < i := by omega
                  obtain ⟨lb, loff, rfl, hlb, ht⟩ : ∃ lb loff, a0 = some ⟨lb, loff, none⟩ ∧ lb < w.heap.size ∧ ∀ q, q < i → w.cell? ⟨lb, loff + q, none⟩ = some (.int .u16 (U q)) := by
                    rcases ROW0.out with h | ⟨lb, loff, h1, h2, h3⟩
                    · omega
                    · exact ⟨lb, loff, h1, h2, h3⟩
                  have t1 := (HJ.out.ap.cell (p := ⟨lb, loff + q, none⟩) hlb (by simp only; omega)).trans (ht q hlq)
                  have hu := HU.out q hlq
                  have G := mkHid (om_got HJ.out.m1 (x := U q) (z := 100 + (q : Int)) hu.1 hu.2 (by omega) (by omega) (by rw [List.length_map, List.length_range]; omega))
                  rw [show (List.range q).map (sa U) ++ [(U q, 100 + (q : Int))] = (List.range (q + 1)).map (sa U) by rw [List.range_succ, List.map_append]; rfl] at G
                  obtain ⟨uu, HUU⟩ : ∃ x, Hid (U q = x) := ⟨_, mkHid rfl⟩
                  rw [HUU.out] at t1 hu G
                  obtain ⟨u0, u1⟩ := hu
                  clear ht
                  go_wp2_with fail
                  refine G.out.mono ?_
                  rintro e w3 ⟨rfl, ⟨N7, hm, hn⟩, ha⟩
                  have J1 := mkHid (HJ.out.got1 ha hm hn)
                  clear hm hn ha G HJ t1
                  go_wp2_with fail
                  go_roundg (i - (q + 1))
                  case measure => omega
                  case rel => exact ⟨q + 1, N7, N6, by go_num, by omega, rfl, J1⟩
                · obtain rfl : q = i := by omega
                  go_wp2_with fail
                  go_loopg [15] q (fun kx s15 wr => ∃ (m : Nat) (N1 N2 : Nat → Prop), s15 = .int .i64 m ∧ m ≤ q ∧ kx = q - m ∧ Hid (Oj w b1 b2 ob ((List.range q).map (sa U)) ((P.take m).map (sa U)) P N1 N2 wr))
                  case atStart => exact ⟨0, _, _, rfl, Nat.zero_le _, rfl, HJ⟩
                  case round =>
                    clear HJ hq hkx hlq
                    obtain ⟨m, N5, N6, rfl, hm, hkx, HJ⟩ := hrel
                    have hpl : P.length = q := by rw [HP.out.length_eq, List.length_range]
                    by_cases hlm : m < q
                    · have hlm1 : (m : Int) < q := by omega
                      obtain ⟨lb, loff, rfl, hlb, ht⟩ : ∃ lb loff, a0 = some ⟨lb, loff, none⟩ ∧ lb < w.heap.size ∧ ∀ i, i < q → w.cell? ⟨lb, loff + i, none⟩ = some (.int .u16 (U i)) := by
                        rcases ROW0.out with h | ⟨lb, loff, h1, h2, h3⟩
                        · omega
                        · exact ⟨lb, loff, h1, h2, h3⟩
                      obtain ⟨o, ho⟩ : ∃ o, P[m]? = some o := ⟨_, List.getElem?_eq_getElem (by omega)⟩
                      have hoq : o < q := List.mem_range.1 (HP.out.mem_iff.1 (List.mem_of_getElem? ho))
                      have t1 := (HJ.out.ap.cell (p := ⟨lb, loff + o, none⟩) hlb (by simp only; omega)).trans (ht o hoq)
                      have t2 := (cell_of_row _ _ m _ 3 _ HJ.out.o).trans (oC_get ho)
                      have hu := HU.out o hoq
                      have JD := mkHid (HJ.out.keep ((Apart.refl (fun _ => False) wr).drew))
                      have G := mkHid (om_got JD.out.m2 (x := U o) (z := 100 + (o : Int)) hu.1 hu.2 (by omega) (by omega) (by rw [List.length_map, List.length_take]; omega))
                      rw [show (P.take m).map (sa U) ++ [(U o, 100 + (o : Int))] = (P.take (m + 1)).map (sa U) by rw [List.take_add_one, ho, List.map_append]; rfl] at G
                      obtain ⟨uu, HUU⟩ : ∃ x, Hid (U o = x) := ⟨_, mkHid rfl⟩
                      rw [HUU.out] at t1 hu G
                      obtain ⟨u0, u1⟩ := hu
                      have hoq1 : (o : Int) < q := by omega
                      clear ht ho hpl
                      have G2 := mkHid (fun (x z : Int) (hx : x = uu) (hz : z = 100 + (o : Int)) => (show Calls Try.prog 10 #[.pointer (some ⟨b2, 0, none⟩), .int .i64 x, .int .i64 z] wr.drew fun e w' => e = .returned (.tuple #[]) ∧ (∃ N', Om N' w' b2 ((P.take (m + 1)).map (sa U)) ∧ ∀ q, N' q → N6 q ∨ wr.drew.heap.size ≤ q) ∧ Apart N6 wr.drew w' from by subst hx hz; exact G.out))
                      go_upto_region 22 with fail
                      go_region_with (go_at_call 10; refine (G2.out _ _ (by rw [IntKind.wrap_i64]; omega) (by rw [IntKind.wrap_i64]; omega)).mono ?_; rintro e w3 ⟨rfl, ⟨N7, hm7, hn7⟩, ha7⟩; have J1 := mkHid (JD.out.got2 ha7 hm7 hn7); clear hm7 hn7 ha7)
                      all_goals go_wp2_with fail
                      all_goals go_roundg (q - (m + 1))
                      all_goals first | (show (_ : Nat) < _; omega) | exact ⟨m + 1, N5, N7, by go_num, by omega, rfl, J1⟩
                    · obtain rfl : m = q := by omega
                      rw [List.take_of_length_le (by omega)] at HJ
                      have HPM := mkHid (HP.out.map (sa U))
                      obtain ⟨S1, HS1⟩ : ∃ S, Hid ((List.range m).map (sa U) = S) := ⟨_, mkHid rfl⟩
                      obtain ⟨S2, HS2⟩ : ∃ S, Hid (P.map (sa U) = S) := ⟨_, mkHid rfl⟩
                      rw [HS1.out, HS2.out] at HJ HPM
                      have C1 := mkHid (om_bytes HJ.out.m1)
                      obtain ⟨u, HU1⟩ : ∃ u, Hid (sz S1 = u) := ⟨_, mkHid rfl⟩
                      rw [HU1.out] at C1
                      clear hpl
                      go_wp2_with fail
                      refine C1.out.mono ?_
                      rintro e z1 ⟨rfl, k1⟩
                      have K1 := mkHid (HJ.out.keep k1)
                      have C2 := mkHid (om_bytes K1.out.m2)
                      rw [sz_perm HPM.out, HU1.out] at C2
                      clear k1 C1
                      go_wp2_with fail
                      refine C2.out.mono ?_
                      rintro e z2 ⟨rfl, k2⟩
                      have K2 := mkHid (K1.out.keep k2)
                      have C3 := mkHid (om_rate K2.out.m1)
                      obtain ⟨r, HR1⟩ : ∃ u, Hid (rtV 1048576 (eaF S1) (enF S1) S1 = u) := ⟨_, mkHid rfl⟩
                      rw [HR1.out] at C3
                      clear k2 C2
                      go_wp2_with fail
                      refine C3.out.mono ?_
                      rintro e z3 ⟨rfl, k3⟩
                      have K3 := mkHid (K2.out.keep k3)
                      have C4 := mkHid (om_rate K3.out.m2)
                      rw [eaF_perm HPM.out, enF_perm HPM.out, rtV_perm HPM.out, HR1.out] at C4
                      clear k3 C3
                      go_wp2_with fail
                      refine C4.out.mono ?_
                      rintro e z4 ⟨rfl, k4⟩
                      have K4 := mkHid (K3.out.keep k4)
                      have C5 := mkHid (om_full K4.out.m1)
                      obtain ⟨f, HF1⟩ : ∃ u, Hid (decide (1048576 ≤ enF S1 - eaF S1) = u) := ⟨_, mkHid rfl⟩
                      rw [HF1.out] at C5
                      clear k4 C4
                      go_wp2_with fail
                      refine C5.out.mono ?_
                      rintro e z5 ⟨rfl, k5⟩
                      have K5 := mkHid (K4.out.keep k5)
                      have C6 := mkHid (om_full K5.out.m2)
                      rw [eaF_perm HPM.out, enF_perm HPM.out, HF1.out] at C6
                      clear k5 C5
                      go_wp2_with fail
                      refine C6.out.mono ?_
                      rintro e z6 ⟨rfl, k6⟩
                      have K6 := mkHid (K5.out.keep k6)
                      clear k6 C6
                      go_wp2_with fail
                      refine (wakes_any _).mono ?_
                      rintro e9 z7 ⟨rfl, b5⟩
                      go_wp2
                      go_ret
                      exact ⟨rfl, (K6.out.ap.below _ (Nat.le_refl _) (fun _ h => h)).trans (b5.mono K6.out.ap.size)⟩
            · have h1' : ¬ (j : Int) + 1 < len1 := by omega
              go_wp2_with fail
              go_loopg [14] i (fun kx s14 wr => ∃ (q : Nat) (N1 N2 : Nat → Prop), s14 = .int .i64 q ∧ q ≤ i ∧ kx = i - q ∧ Hid (Oj w b1 b2 ob ((List.range q).map (sa U)) [] P N1 N2 wr))
              case atStart => exact ⟨0, _, _, rfl, Nat.zero_le _, rfl, HJ⟩
              case round =>
                clear HJ
                obtain ⟨q, N5, N6, rfl, hq, hkx, HJ⟩ := hrel
                by_cases hlq : q < i
                · have hlq1 : (q : Int) < i := by omega
                  obtain ⟨lb, loff, rfl, hlb, ht⟩ : ∃ lb loff, a0 = some ⟨lb, loff, none⟩ ∧ lb < w.heap.size ∧ ∀ q, q < i → w.cell? ⟨lb, loff + q, none⟩ = some (.int .u16 (U q)) := by
                    rcases ROW0.out with h | ⟨lb, loff, h1, h2, h3⟩
                    · omega
                    · exact ⟨lb, loff, h1, h2, h3⟩
                  have t1 := (HJ.out.ap.cell (p := ⟨lb, loff + q, none⟩) hlb (by simp only; omega)).trans (ht q hlq)
                  have hu := HU.out q hlq
                  have G := mkHid (om_got HJ.out.m1 (x := U q) (z := 100 + (q : Int)) hu.1 hu.2 (by omega) (by omega) (by rw [List.length_map, List.length_range]; omega))
                  rw [show (List.range q).map (sa U) ++ [(U q, 100 + (q : Int))] = (List.range (q + 1)).map (sa U) by rw [List.range_succ, List.map_append]; rfl] at G
                  obtain ⟨uu, HUU⟩ : ∃ x, Hid (U q = x) := ⟨_, mkHid rfl⟩
                  rw [HUU.out] at t1 hu G
                  obtain ⟨u0, u1⟩ := hu
                  clear ht
                  go_wp2_with fail
                  refine G.out.mono ?_
                  rintro e w3 ⟨rfl, ⟨N7, hm, hn⟩, ha⟩
                  have J1 := mkHid (HJ.out.got1 ha hm hn)
                  clear hm hn ha G HJ t1
                  go_wp2_with fail
                  go_roundg (i - (q + 1))
                  case measure => omega
                  case rel => exact ⟨q + 1, N7, N6, by go_num, by omega, rfl, J1⟩
                · obtain rfl : q = i := by omega
                  go_wp2_with fail
                  go_loopg [15] q (fun kx s15 wr => ∃ (m : Nat) (N1 N2 : Nat → Prop), s15 = .int .i64 m ∧ m ≤ q ∧ kx = q - m ∧ Hid (Oj w b1 b2 ob ((List.range q).map (sa U)) ((P.take m).map (sa U)) P N1 N2 wr))
                  case atStart => exact ⟨0, _, _, rfl, Nat.zero_le _, rfl, HJ⟩
                  case round =>
                    clear HJ hq hkx hlq
                    obtain ⟨m, N5, N6, rfl, hm, hkx, HJ⟩ := hrel
                    have hpl : P.length = q := by rw [HP.out.length_eq, List.length_range]
                    by_cases hlm : m < q
                    · have hlm1 : (m : Int) < q := by omega
                      obtain ⟨lb, loff, rfl, hlb, ht⟩ : ∃ lb loff, a0 = some ⟨lb, loff, none⟩ ∧ lb < w.heap.size ∧ ∀ i, i < q → w.cell? ⟨lb, loff + i, none⟩ = some (.int .u16 (U i)) := by
                        rcases ROW0.out with h | ⟨lb, loff, h1, h2, h3⟩
                        · omega
                        · exact ⟨lb, loff, h1, h2, h3⟩
                      obtain ⟨o, ho⟩ : ∃ o, P[m]? = some o := ⟨_, List.getElem?_eq_getElem (by omega)⟩
                      have hoq : o < q := List.mem_range.1 (HP.out.mem_iff.1 (List.mem_of_getElem? ho))
                      have t1 := (HJ.out.ap.cell (p := ⟨lb, loff + o, none⟩) hlb (by simp only; omega)).trans (ht o hoq)
                      have t2 := (cell_of_row _ _ m _ 3 _ HJ.out.o).trans (oC_get ho)
                      have hu := HU.out o hoq
                      have JD := mkHid (HJ.out.keep ((Apart.refl (fun _ => False) wr).drew))
                      have G := mkHid (om_got JD.out.m2 (x := U o) (z := 100 + (o : Int)) hu.1 hu.2 (by omega) (by omega) (by rw [List.length_map, List.length_take]; omega))
                      rw [show (P.take m).map (sa U) ++ [(U o, 100 + (o : Int))] = (P.take (m + 1)).map (sa U) by rw [List.take_add_one, ho, List.map_append]; rfl] at G
                      obtain ⟨uu, HUU⟩ : ∃ x, Hid (U o = x) := ⟨_, mkHid rfl⟩
                      rw [HUU.out] at t1 hu G
                      obtain ⟨u0, u1⟩ := hu
                      have hoq1 : (o : Int) < q := by omega
                      clear ht ho hpl
                      have G2 := mkHid (fun (x z : Int) (hx : x = uu) (hz : z = 100 + (o : Int)) => (show Calls Try.prog 10 #[.pointer (some ⟨b2, 0, none⟩), .int .i64 x, .int .i64 z] wr.drew fun e w' => e = .returned (.tuple #[]) ∧ (∃ N', Om N' w' b2 ((P.take (m + 1)).map (sa U)) ∧ ∀ q, N' q → N6 q ∨ wr.drew.heap.size ≤ q) ∧ Apart N6 wr.drew w' from by subst hx hz; exact G.out))
                      go_upto_region 22 with fail
                      go_region_with (go_at_call 10; refine (G2.out _ _ (by rw [IntKind.wrap_i64]; omega) (by rw [IntKind.wrap_i64]; omega)).mono ?_; rintro e w3 ⟨rfl, ⟨N7, hm7, hn7⟩, ha7⟩; have J1 := mkHid (JD.out.got2 ha7 hm7 hn7); clear hm7 hn7 ha7)
                      all_goals go_wp2_with fail
                      all_goals go_roundg (q - (m + 1))
                      all_goals first | (show (_ : Nat) < _; omega) | exact ⟨m + 1, N5, N7, by go_num, by omega, rfl, J1⟩
                    · obtain rfl : m = q := by omega
                      rw [List.take_of_length_le (by omega)] at HJ
                      have HPM := mkHid (HP.out.map (sa U))
                      obtain ⟨S1, HS1⟩ : ∃ S, Hid ((List.range m).map (sa U) = S) := ⟨_, mkHid rfl⟩
                      obtain ⟨S2, HS2⟩ : ∃ S, Hid (P.map (sa U) = S) := ⟨_, mkHid rfl⟩
                      rw [HS1.out, HS2.out] at HJ HPM
                      have C1 := mkHid (om_bytes HJ.out.m1)
                      obtain ⟨u, HU1⟩ : ∃ u, Hid (sz S1 = u) := ⟨_, mkHid rfl⟩
                      rw [HU1.out] at C1
                      clear hpl
                      go_wp2_with fail
                      refine C1.out.mono ?_
                      rintro e z1 ⟨rfl, k1⟩
                      have K1 := mkHid (HJ.out.keep k1)
                      have C2 := mkHid (om_bytes K1.out.m2)
                      rw [sz_perm HPM.out, HU1.out] at C2
                      clear k1 C1
                      go_wp2_with fail
                      refine C2.out.mono ?_
                      rintro e z2 ⟨rfl, k2⟩
                      have K2 := mkHid (K1.out.keep k2)
                      have C3 := mkHid (om_rate K2.out.m1)
                      obtain ⟨r, HR1⟩ : ∃ u, Hid (rtV 1048576 (eaF S1) (enF S1) S1 = u) := ⟨_, mkHid rfl⟩
                      rw [HR1.out] at C3
                      clear k2 C2
                      go_wp2_with fail
                      refine C3.out.mono ?_
                      rintro e z3 ⟨rfl, k3⟩
                      have K3 := mkHid (K2.out.keep k3)
                      have C4 := mkHid (om_rate K3.out.m2)
                      rw [eaF_perm HPM.out, enF_perm HPM.out, rtV_perm HPM.out, HR1.out] at C4
                      clear k3 C3
                      go_wp2_with fail
                      refine C4.out.mono ?_
                      rintro e z4 ⟨rfl, k4⟩
                      have K4 := mkHid (K3.out.keep k4)
                      have C5 := mkHid (om_full K4.out.m1)
                      obtain ⟨f, HF1⟩ : ∃ u, Hid (decide (1048576 ≤ enF S1 - eaF S1) = u) := ⟨_, mkHid rfl⟩
                      rw [HF1.out] at C5
                      clear k4 C4
                      go_wp2_with fail
                      refine C5.out.mono ?_
                      rintro e z5 ⟨rfl, k5⟩
                      have K5 := mkHid (K4.out.keep k5)
                      have C6 := mkHid (om_full K5.out.m2)
                      rw [eaF_perm HPM.out, enF_perm HPM.out, HF1.out] at C6
                      clear k5 C5
                      go_wp2_with fail
                      refine C6.out.mono ?_
                      rintro e z6 ⟨rfl, k6⟩
                      have K6 := mkHid (K5.out.keep k6)
                      clear k6 C6
                      go_wp2_with fail
                      refine (wakes_any _).mono ?_
                      rintro e9 z7 ⟨rfl, b5⟩
                      go_wp2
                      go_ret
                      exact ⟨rfl, (K6.out.ap.below _ (Nat.le_refl _) (fun _ h => h)).trans (b5.mono K6.out.ap.size)⟩

set_option maxRecDepth 100000 in
theorem lifted (os : Os) (started : os.Started) (H : Type) (enc : TypeId × Value → H) :
    ReturnsInHanded {} Try.checked os 7 .any (Rows.rateOrderSpec.pre6 enc Try.prog Try.f7 Rows.rateOrderRow.domain false) (Rows.rateOrderSpec.post enc Try.prog Try.f7 false true false false) := by
  refine returnsInHanded_of_change (C := Try.checked) own started (by kernel_rfl) Try.func7
    (ChangeSpec.witness6 (enc := enc) (C := Try.checked) false ⟨#[], #[.slice none 0 0, .slice none 0 0], []⟩ 8 (by kernel_rfl) (by kernel_rfl) (by kernel_rfl) (by kernel_rfl)) ?_
  intro W base args ds gs before hval0 hW hcnd _
  have hval : ∀ (j : Nat) t v, Try.f7.params[j]? = some t → args[j]? = some v → Value.okWide Try.prog W .any base t v := hval0
  have hW' := hW
  obtain ⟨p, q, hA0, hV, rfl, hfz, hnd⟩ := hW
  have hA : DataW.TrodAll enc Try.prog W 0 (fun _ => true) true Try.f7.params.toList args.toList ds p := hA0
  rw [Try.params7] at hA hval
  obtain ⟨v0, vs0, d0, ds0, p0, q0, hargs, rfl, rfl, h0, r0⟩ := trodAll_cons hA
  obtain ⟨v1, vs1, d1, ds1, p1, q1, rfl, rfl, rfl, h1, r1⟩ := trodAll_cons r0
  obtain ⟨rfl, rfl, rfl⟩ := trodAll_nil r1
  obtain rfl : args = #[v0, v1] := by cases args; simp_all
  obtain ⟨rfl, rfl⟩ := trodVars_none hV
  obtain ⟨a0, len0, cap0, rfl⟩ := okWide_slice Try.underlying44 (hval 0 44 v0 rfl rfl)
  have k0 := h0
  have lt0 : ∀ x ∈ p0, x.block < W.heap.size := by obtain ⟨m, hm⟩ := k0; exact DataW.trod_lt m _ _ _ hm
  have w0 := open0 h0
  obtain ⟨a1, len1, cap1, rfl⟩ := okWide_slice Try.underlying45 (hval 1 45 v1 rfl rfl)
  have k1 := h1
  have lt1 : ∀ x ∈ p1, x.block < W.heap.size := by obtain ⟨m, hm⟩ := k1; exact DataW.trod_lt m _ _ _ hm
  have w1 := open1 h1
  clear hA0 hval0
  refine (walk a0 len0 cap0 a1 len1 cap1 W w0 w1).mono fun e W' ⟨he, bel⟩ => ?_
  subst he
  exact ⟨_, rfl, _, _, _, [], _, [], hW', trodAll_mk1 (shut_bool Try.underlying4 _), (trodAll_cons_mk (Below.trod laidOut (by kernel_rfl) (of_decide_eq_true (by kernel_rfl)) k0 bel lt0) (trodAll_cons_mk (Below.trod laidOut (by kernel_rfl) (of_decide_eq_true (by kernel_rfl)) k1 bel lt1) trodAll_mk0)), rfl, bel.frame _, fun h => by cases h⟩

theorem over : Rows.rateOrderRow.holds Try.pinned (OpenSpec.ofChange Rows.rateOrderSpec) :=
  OpenClaim.holds_of_wide 7 Try.f7 rfl rfl rfl rfl rfl rfl rfl ⟨rfl, rfl, rfl, rfl, rfl⟩ rfl rfl rfl rfl rfl (by kernel_rfl) Try.func7 (by kernel_rfl)
    (of_decide_eq_true (by kernel_rfl)) (by unfold Func.isWrapper; first | (rw [if_pos (by decide +kernel)]; kernel_rfl) | (rw [if_neg (by decide +kernel)]; exact ⟨rfl, rfl⟩))
    (fun os started H enc _ => lifted os started H enc)
end Go.Proofs.Ytjeffjpenhhnnaa.rateOrder
namespace Go.Proofs.Ytjeffjpenhhnnaa
/-- The statement. -/
theorem rateOrder_holds : Rows.RateOrderSaid := rateOrder.over
#print axioms rateOrder_holds
end Go.Proofs.Ytjeffjpenhhnnaa
