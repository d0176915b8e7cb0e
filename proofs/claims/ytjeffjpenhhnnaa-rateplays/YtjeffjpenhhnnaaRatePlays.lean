/-
  RatePlays: samples in any order, and losses: the bytes and the rate of the window, whether it is full, what was lost, are what the reference says.
-/
import Derived.Test.YtjeffjpenhhnnaaRows
import Derived.WalkKit
import Derived.ProofKit
import Derived.OpenShut
import Derived.ShutString
import Derived.ChangeOld
import Derived.Below
import Derived.Deep.Slices
import Derived.Test.YtjeffjpenhhnnaaRaK
namespace Go.Proofs.Ytjeffjpenhhnnaa.ratePlays
open Go.ChangeShapes Go.WideShapes Go.ChangeAt Go.RowKit
open Go.ChangeMaps (open_string shut_string)
set_option linter.unusedVariables false

theorem own : ownKnob Try.prog.godebug = none := by kernel_rfl
theorem laidOut : laidOutB Try.prog = true := by kernel_rfl

theorem open1 {H : Type} {enc : TypeId × Value → H} {W : World} {a : Option Addr} {len cap : Nat} {d : DataW H} {p : List MemPlace}
    (h : DataW.Trod enc Try.prog W 0 (fun _ => true) true 22 (.slice a len cap) d p) : StepsAt W a len := open_steps h
set_option maxRecDepth 100000 in
set_option maxHeartbeats 4000000 in
theorem walk (a0 : Int) (a1 : Option Addr) (len1 cap1 : Nat) (w : World) (w0 : (Lit.int .i64 a0).wf = true) (w1 : StepsAt w a1 len1) : Calls Try.prog 3 #[.int .i64 a0, .slice a1 len1 cap1] w fun e w' => e = .returned (.bool true) ∧ Below w.heap.size w w' := by
  obtain ⟨hlen, KK, VV, CC, hrow⟩ := w1
  have hlen' : (len1 : Int) ≤ 9223372036854775807 := by unfold maxLen at hlen; omega
  have ROW := mkHid hrow
  clear hrow hlen w0
  by_cases hwin : 1 ≤ a0 ∧ a0 ≤ 1125899906842624
  · obtain ⟨hw1, hw2⟩ := hwin
    have C1 := mkHid (new_mt a0 hw1 hw2 w)
    go_enter Try.func3, Try.ntmps3
    go_wp2_with fail
    refine C1.out.mono ?_
    rintro e y1 ⟨⟨b, rfl, hm1, hb1⟩, ha1⟩
    have M1 := mkHid hm1
    have A1 := mkHid ha1
    have HB := mkHid hb1
    have C2 := mkHid (rnew_any a0 hw1 hw2 y1)
    clear hm1 ha1 hb1 C1
    go_wp2_with fail
    refine C2.out.mono ?_
    rintro e y2 ⟨⟨c, rfl, hm2, hb2⟩, ha2⟩
    have J0 := mkHid (show Pj w b c a0 0 false 1125899906842624 (-1125899906842624) 0 0 [] [] [] (fun k => k = b) (fun k => k = c) y2 from by
      have h1 := M1.out.own.2 b rfl
      have h2 := HB.out
      have h3 := A1.out.size
      refine ⟨M1.out.kept ha2 (fun _ _ h => h), rr_new hm2, List.Perm.refl _, Nat.le_refl _, bd_new hw1 hw2, ?_, ?_, (A1.out.zz ha2).mono (fun _ _ h => h.elim), (fun h => by cases h), fun _ => ⟨rfl, rfl, rfl⟩⟩
      · intro q e
        rw [show q = b from e]
        exact ⟨by omega, fun e2 => by have : b = c := e2; omega⟩
      · intro q e
        rw [show q = c from e]
        omega)
    clear hm2 hb2 ha2 C2
    go_wp2_with fail
    go_loopg [9, 10] 200 (fun kx s9 _ wr => ∃ (i : Nat) (sm : Bool) (ear en enR earR : Int) (L LR : List Sm) (F : List Bool) (N M : Nat → Prop), s9 = .int .i64 i ∧ i ≤ 200 ∧ i ≤ len1 ∧ kx = 200 - i ∧ Hid (Pj w b c a0 i sm ear en enR earR L LR F N M wr))
    case atStart => exact ⟨0, false, _, _, _, _, _, _, _, _, _, rfl, Nat.zero_le _, Nat.zero_le _, rfl, J0⟩
    case round =>
      clear J0 M1 A1 HB
      obtain ⟨i, sm, ear, en, enR, earR, L, LR, F, N, M, rfl, hi, hil, hkx, HJ⟩ := hrel
      by_cases hlt : i < len1 ∧ i < 200
      · obtain ⟨hlt1, hlt2⟩ := hlt
        have hi1 : (i : Int) < len1 := by omega
        have hi2 : (i : Int) < 200 := by omega
        obtain ⟨rb, off, rfl, hrb, hc⟩ : ∃ rb off, a1 = some ⟨rb, off, none⟩ ∧ rb < w.heap.size ∧ (w.cell? ⟨rb, off + i * 3, none⟩ = some (.int .i64 (KK i)) ∧ w.cell? ⟨rb, off + i * 3 + 1, none⟩ = some (.int .i64 (VV i)) ∧ w.cell? ⟨rb, off + i * 3 + 2, none⟩ = some (.int .i64 (CC i)) ∧ In64 (VV i) ∧ In64 (CC i)) := by
          rcases ROW.out with h | ⟨rb, off, h1, h2, h3⟩
          · omega
          · exact ⟨rb, off, h1, h2, h3 i hlt1⟩
        obtain ⟨c0, c1, c2, i1, i2⟩ := hc
        rw [← HJ.out.ap.cell (p := ⟨rb, off + i * 3, none⟩) hrb (by simp only; omega)] at c0
        rw [← HJ.out.ap.cell (p := ⟨rb, off + i * 3 + 1, none⟩) hrb (by simp only; omega)] at c1
        rw [← HJ.out.ap.cell (p := ⟨rb, off + i * 3 + 2, none⟩) hrb (by simp only; omega)] at c2
        obtain ⟨kk, HKK⟩ : ∃ x, Hid (KK i = x) := ⟨_, mkHid rfl⟩
        obtain ⟨vv, HVV⟩ : ∃ x, Hid (VV i = x) := ⟨_, mkHid rfl⟩
        obtain ⟨cc, HCC⟩ : ∃ x, Hid (CC i = x) := ⟨_, mkHid rfl⟩
        rw [HKK.out] at c0
        rw [HVV.out] at c1 i1
        rw [HCC.out] at c2 i2
        unfold In64 at i1 i2
        have J1 := mkHid (HJ.out.kept ((Apart.refl (fun _ => False) wr).alloc (.cells #[.int .i64 kk, .int .i64 vv, .int .i64 cc] 31)))
        have X1 := mkHid (heap_alloc_new wr (.cells #[.int .i64 kk, .int .i64 vv, .int .i64 cc] 31))
        obtain ⟨W1, HW1⟩ : ∃ W1, Hid (wr.alloc (.cells #[.int .i64 kk, .int .i64 vv, .int .i64 cc] 31) = W1) := ⟨_, mkHid rfl⟩
        obtain ⟨xb, HXB⟩ : ∃ xb, Hid (wr.heap.size = xb) := ⟨_, mkHid rfl⟩
        rw [HW1.out] at J1
        rw [HW1.out, HXB.out] at X1
        have HXN := mkHid (show ¬ N xb from fun h => by have := HJ.out.mt.own.2 xb h; have := HXB.out; omega)
        have HXB1 := mkHid (show xb ≠ b from fun h => HXN.out (by rw [h]; exact HJ.out.mt.own.1))
        clear HJ
        go_upto_if 51 with fail
        rw [HW1.out, HXB.out]
        clear c0 c1 c2
        obtain ⟨g0, g1, g2, gf⟩ := cells3 X1.out
        go_cut [] (fun wc => ∃ (sm : Bool) (ear en enR earR : Int) (L LR : List Sm) (F : List Bool) (N M : Nat → Prop), Hid (Pj w b c a0 (i + 1) sm ear en enR earR L LR F N M wc))
        case first =>
          by_cases hk : kk = 0
          · subst hk
            by_cases hin : 0 ≤ vv ∧ vv ≤ 1500 ∧ -1125899906842624 ≤ cc ∧ cc ≤ 1125899906842624
            · obtain ⟨v0, v1, x1, x2⟩ := hin
              have G := mkHid (got_mt J1.out.mt J1.out.bd (by have := J1.out.len; omega) v0 v1 x1 x2)
              go_wp2_with fail
              refine G.out.mono ?_
              rintro e9 w3 ⟨rfl, L', N', hp, hm, hn, ha⟩
              have X3 := mkHid (ha.heap X1.out HXN.out)
              have RG := mkHid (rgot (J1.out.rr1 ha) hw1 hw2 en ear J1.out.yes cc vv (fun h => by have := J1.out.no h; omega) J1.out.bd.2.2.2.2.1 J1.out.bd.2.2.2.2.2 (by have := J1.out.len; have := J1.out.pm.length_eq; omega) v0 v1 x1 x2)
              have HP := mkHid (hp.trans (stF_perm J1.out.pm cc vv))
              have HM := mkHid hm
              have HN := mkHid hn
              have HA := mkHid ha
              clear hp hm hn ha g0 g1 g2 gf G
              obtain ⟨g0, g1, g2, gf⟩ := cells3 X3.out
              go_wp2_with fail
              refine RG.out.mono ?_
              rintro e9 w4 ⟨rfl, M', hr, hq, hb⟩
              have J4 := mkHid (J1.out.both HM.out HN.out HA.out hr hq hb HP.out (by rw [HP.out.length_eq]; exact Nat.le_trans (stF_len _ _ _ _ _) (by have := J1.out.len; have := J1.out.pm.length_eq; omega)) (J1.out.bd.got x1 x2) (fun _ => ⟨rfl, rfl⟩) (fun h => by cases h))
              clear hr hq hb RG
              go_wp2_with fail
              go_meet
              exact ⟨_, _, _, _, _, _, _, _, _, _, J4⟩
            · have hout : vv < 0 ∨ 1500 < vv ∨ cc < -1125899906842624 ∨ 1125899906842624 < cc := by omega
              have G := mkHid (got_no b cc vv hout W1)
              have RG := mkHid (rgot_no c cc vv hout W1)
              have J4 := mkHid J1.out.next
              clear hin hout J1
              go_wp2_with fail
              refine G.out.mono ?_
              rintro e9 w3 ⟨rfl, rfl⟩
              go_wp2_with fail
              refine RG.out.mono ?_
              rintro e9 w4 ⟨rfl, rfl⟩
              go_wp2_with fail
              go_meet
              exact ⟨_, _, _, _, _, _, _, _, _, _, J4⟩
          · have hk1 : (kk == 0) = false := by simp [hk]
            by_cases hin : 0 ≤ vv ∧ vv ≤ 4096
            · obtain ⟨n, rfl⟩ : ∃ n : Nat, vv = (n : Int) := ⟨vv.toNat, by omega⟩
              have hn : n ≤ 4096 := by omega
              have G := mkHid (lost_any J1.out.mt n hn)
              clear hin
              go_wp2_with fail
              refine G.out.mono ?_
              rintro e9 w3 ⟨rfl, hm, ha⟩
              have X3 := mkHid (ha.heap X1.out HXB1.out)
              have HM := mkHid hm
              have HA := mkHid (ha.mono (Y := N) (fun k _ e => by rw [show k = b from e]; exact J1.out.mt.own.1))
              have RG := mkHid (rlost (J1.out.rr1 HA.out) n hn)
              clear hm ha g0 g1 g2 gf G
              obtain ⟨g0, g1, g2, gf⟩ := cells3 X3.out
              go_wp2_with fail
              refine RG.out.mono ?_
              rintro e9 w4 ⟨rfl, M', hr, hq, hb⟩
              have J4 := mkHid (J1.out.both HM.out (fun q h => .inl h) HA.out hr hq hb J1.out.pm (Nat.le_succ_of_le J1.out.len) J1.out.bd J1.out.yes J1.out.no)
              clear hr hq hb RG
              go_wp2_with fail
              go_meet
              exact ⟨_, _, _, _, _, _, _, _, _, _, J4⟩
            · have hout : vv < 0 ∨ 4096 < vv := by omega
              have G := mkHid (lost_no b vv hout W1)
              have RG := mkHid (rlost_no c vv hout W1)
              have J4 := mkHid J1.out.next
              clear hin hout J1
              go_wp2_with fail
              refine G.out.mono ?_
              rintro e9 w3 ⟨rfl, rfl⟩
              go_wp2_with fail
              refine RG.out.mono ?_
              rintro e9 w4 ⟨rfl, rfl⟩
              go_wp2_with fail
              go_meet
              exact ⟨_, _, _, _, _, _, _, _, _, _, J4⟩
        case rest =>
          obtain ⟨sm', ear', en', enR', earR', L', LR', F', N', M', J5⟩ := hcut
          obtain ⟨W4, p0, J4, hw4⟩ : ∃ (W4 : World) (p0 : Wn), Hid (Pj w b c a0 (i + 1) sm' ear' en' enR' earR' L' LR' F' N' M' W4) ∧ wc = wd W4 p0 := ⟨wc, _, J5, wd_self wc⟩
          subst hw4
          obtain ⟨r1, q1, q2⟩ := J4.out.rate (by omega)
          obtain ⟨r2, q3, q4⟩ := J4.out.bytes (by omega)
          obtain ⟨r3, q5, q6⟩ := J4.out.full
          obtain ⟨r4, q7, q8⟩ := J4.out.loss
          have C1 := mkHid q1
          have C2 := mkHid q2
          have C3 := mkHid q3
          have C4 := mkHid q4
          have C5 := mkHid q5
          have C6 := mkHid q6
          have C7 := mkHid q7
          have C8 := mkHid q8
          have hi3 : IntKind.i64.wrap ((i : Int) + 1) = (i : Int) + 1 := by rw [IntKind.wrap_i64]; omega
          have J6 := mkHid (fun p => J4.out.kept (wd_apart W4 p))
          clear q1 q2 q3 q4 q5 q6 q7 q8 g0 g1 g2 gf J1 J5
          go_wp2_with (first | (go_at_call 14; refine (wd_call (C1.out _)).mono ?_; rintro e9 _ ⟨rfl, q, rfl⟩) | (go_at_call 15; refine (wd_call (C2.out _)).mono ?_; rintro e9 _ ⟨rfl, q, rfl⟩) | (go_at_call 16; refine (wd_call (C3.out _)).mono ?_; rintro e9 _ ⟨rfl, q, rfl⟩) | (go_at_call 17; refine (wd_call (C4.out _)).mono ?_; rintro e9 _ ⟨rfl, q, rfl⟩) | (go_at_call 18; refine (wd_call (C5.out _)).mono ?_; rintro e9 _ ⟨rfl, q, rfl⟩) | (go_at_call 19; refine (wd_call (C6.out _)).mono ?_; rintro e9 _ ⟨rfl, q, rfl⟩) | (go_at_call 20; refine (wd_call (C7.out _)).mono ?_; rintro e9 _ ⟨rfl, q, rfl⟩) | (go_at_call 21; refine (wd_call (C8.out _)).mono ?_; rintro e9 _ ⟨rfl, q, rfl⟩))
          go_roundg (200 - (i + 1))
          case measure => omega
          case rel => exact ⟨i + 1, sm', ear', en', enR', earR', L', LR', F', N', M', by go_num, by omega, by omega, rfl, mkHid (J6.out _)⟩
      · have HEND := mkHid hlt
        by_cases h1 : i < len1
        · obtain rfl : i = 200 := by omega
          have h1' : (200 : Int) < len1 := by omega
          go_wp2_with fail
          refine (wakes_any _).mono ?_
          rintro e9 w5 ⟨rfl, b5⟩
          go_wp2
          go_ret
          exact ⟨rfl, (HJ.out.ap.below _ (Nat.le_refl _) (fun _ h => h)).trans (b5.mono HJ.out.ap.size)⟩
        · obtain rfl : i = len1 := by omega
          go_wp2_with fail
          refine (wakes_any _).mono ?_
          rintro e9 w5 ⟨rfl, b5⟩
          go_wp2
          go_ret
          exact ⟨rfl, (HJ.out.ap.below _ (Nat.le_refl _) (fun _ h => h)).trans (b5.mono HJ.out.ap.size)⟩
  · have hout : a0 < 1 ∨ 1125899906842624 < a0 := by omega
    have C1 := mkHid (new_no a0 hout w)
    have C2 := mkHid (rnew_no a0 hout w)
    clear hwin hout
    go_enter Try.func3, Try.ntmps3
    go_wp2_with fail
    refine C1.out.mono ?_
    rintro e y1 ⟨rfl, rfl⟩
    go_wp2_with fail
    refine C2.out.mono ?_
    rintro e y2 ⟨rfl, rfl⟩
    clear C1 C2
    go_wp2_with fail
    go_loopg [9, 10] 0 (fun kx s9 _ wr => s9 = .int .i64 0 ∧ wr = y2)
    case atStart => exact ⟨rfl, rfl⟩
    case round =>
      obtain ⟨rfl, rfl⟩ := hrel
      by_cases h0 : len1 = 0
      · subst h0
        go_wp2_with fail
        refine (wakes_any _).mono ?_
        rintro e9 w5 ⟨rfl, b5⟩
        go_wp2
        go_ret
        exact ⟨rfl, b5⟩
      · have h1' : (0 : Int) < len1 := by omega
        go_wp2_with fail
        refine (wakes_any _).mono ?_
        rintro e9 w5 ⟨rfl, b5⟩
        go_wp2
        go_ret
        exact ⟨rfl, b5⟩

set_option maxRecDepth 100000 in
theorem lifted (os : Os) (started : os.Started) (H : Type) (enc : TypeId × Value → H) :
    ReturnsInHanded {} Try.checked os 3 .any (Rows.ratePlaysSpec.pre6 enc Try.prog Try.f3 Rows.ratePlaysRow.domain false) (Rows.ratePlaysSpec.post enc Try.prog Try.f3 false true false false) := by
  refine returnsInHanded_of_change (C := Try.checked) own started (by kernel_rfl) Try.func3
    (ChangeSpec.witness6 (enc := enc) (C := Try.checked) false ⟨#[], #[.int .i64 0, .slice none 0 0], []⟩ 8 (by kernel_rfl) (by kernel_rfl) (by kernel_rfl) (by kernel_rfl)) ?_
  intro W base args ds gs before hval0 hW hcnd _
  have hval : ∀ (j : Nat) t v, Try.f3.params[j]? = some t → args[j]? = some v → Value.okWide Try.prog W .any base t v := hval0
  have hW' := hW
  obtain ⟨p, q, hA0, hV, rfl, hfz, hnd⟩ := hW
  have hA : DataW.TrodAll enc Try.prog W 0 (fun _ => true) true Try.f3.params.toList args.toList ds p := hA0
  rw [Try.params3] at hA hval
  obtain ⟨v0, vs0, d0, ds0, p0, q0, hargs, rfl, rfl, h0, r0⟩ := trodAll_cons hA
  obtain ⟨v1, vs1, d1, ds1, p1, q1, rfl, rfl, rfl, h1, r1⟩ := trodAll_cons r0
  obtain ⟨rfl, rfl, rfl⟩ := trodAll_nil r1
  obtain rfl : args = #[v0, v1] := by cases args; simp_all
  obtain ⟨rfl, rfl⟩ := trodVars_none hV
  obtain ⟨a0, rfl, rfl, rfl, w0⟩ := open_int Try.underlying2 (hval 0 2 v0 rfl rfl) h0
  obtain ⟨a1, len1, cap1, rfl⟩ := okWide_slice Try.underlying22 (hval 1 22 v1 rfl rfl)
  have k1 := h1
  have lt1 : ∀ x ∈ p1, x.block < W.heap.size := by obtain ⟨m, hm⟩ := k1; exact DataW.trod_lt m _ _ _ hm
  have w1 := open1 h1
  clear hA0 hval0
  refine (walk a0 a1 len1 cap1 W w0 w1).mono fun e W' ⟨he, bel⟩ => ?_
  subst he
  exact ⟨_, rfl, _, _, _, [], _, [], hW', trodAll_mk1 (shut_bool Try.underlying4 _), (trodAll_cons_mk (shut_int Try.underlying2 w0) (trodAll_cons_mk (Below.trod laidOut (by kernel_rfl) (of_decide_eq_true (by kernel_rfl)) k1 bel lt1) trodAll_mk0)), rfl, bel.frame _, fun h => by cases h⟩

theorem over : Rows.ratePlaysRow.holds Try.pinned (OpenSpec.ofChange Rows.ratePlaysSpec) :=
  OpenClaim.holds_of_wide 3 Try.f3 rfl rfl rfl rfl rfl rfl rfl ⟨rfl, rfl, rfl, rfl, rfl⟩ rfl rfl rfl rfl rfl (by kernel_rfl) Try.func3 (by kernel_rfl)
    (of_decide_eq_true (by kernel_rfl)) (by unfold Func.isWrapper; first | (rw [if_pos (by decide +kernel)]; kernel_rfl) | (rw [if_neg (by decide +kernel)]; exact ⟨rfl, rfl⟩))
    (fun os started H enc _ => lifted os started H enc)
end Go.Proofs.Ytjeffjpenhhnnaa.ratePlays
namespace Go.Proofs.Ytjeffjpenhhnnaa
/-- The statement. -/
theorem ratePlays_holds : Rows.RatePlaysSaid := ratePlays.over
#print axioms ratePlays_holds
end Go.Proofs.Ytjeffjpenhhnnaa
