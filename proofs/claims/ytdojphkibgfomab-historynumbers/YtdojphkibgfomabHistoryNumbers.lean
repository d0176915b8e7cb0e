/-
  HistoryNumbers: packets are numbered one by one from 0 on; what is refused takes no number.
-/
import Derived.Test.YtdojphkibgfomabRows
import Derived.WalkKit
import Derived.ProofKit
import Derived.OpenShut
import Derived.ShutString
import Derived.ChangeOld
import Derived.Below
import Derived.Deep.Slices
import Derived.Test.YtdojphkibgfomabHiV
import Derived.Test.YtdojphkibgfomabHiO
namespace Go.Proofs.Ytdojphkibgfomab.historyNumbers
open Go.ChangeShapes Go.WideShapes Go.ChangeAt Go.RowKit
open Go.ChangeMaps (open_string shut_string)
set_option linter.unusedVariables false

theorem own : ownKnob Try.prog.godebug = none := by kernel_rfl
theorem laidOut : laidOutB Try.prog = true := by kernel_rfl

theorem open0 {H : Type} {enc : TypeId × Value → H} {W : World} {a : Option Addr} {len cap : Nat} {d : DataW H} {p : List MemPlace}
    (h : DataW.Trod enc Try.prog W 0 (fun _ => true) true 22 (.slice a len cap) d p) : ∃ l : List St, l.length = len ∧ SA W a l := open_steps h
set_option maxRecDepth 100000 in
set_option maxHeartbeats 4000000 in
theorem walk (a0 : Option Addr) (len0 cap0 : Nat) (w : World) (w0 : ∃ l : List St, l.length = len0 ∧ SA w a0 l) : Calls Try.prog 3 #[.slice a0 len0 cap0] w fun e w' => e = .returned (.bool true) ∧ Below w.heap.size w w' := by
  obtain ⟨l, hl, hsa⟩ := w0
  have HL := mkHid hl
  have SAH := mkHid hsa
  have hlen' : (len0 : Int) ≤ 9223372036854775807 := by have := hsa.1; unfold maxLen at this; omega
  clear hl hsa
  have WK := mkHid wakes_any
  have N := mkHid (new_any 1125899906842624 (by omega) (by omega))
  obtain ⟨B, HB⟩ : ∃ B, Hid (w.heap.size = B) := ⟨_, rfl⟩
  rw [HB.out]
  obtain ⟨m, HM⟩ : ∃ m : Nat, Hid (m ≤ 300 ∧ m ≤ len0 ∧ (m = 300 ∨ m = len0)) := by
    by_cases h : len0 ≤ 300
    · exact ⟨len0, h, Nat.le_refl _, .inr rfl⟩
    · exact ⟨300, Nat.le_refl _, by omega, .inl rfl⟩
  obtain ⟨hm1, hm2, hm3⟩ := HM.out
  go_enter Try.func3, Try.ntmps3
  go_wp2_with fail
  refine (N.out _).mono ?_
  rintro e v1 ⟨⟨hb, mb, rfl, h1, hb0, mb0⟩, a1'⟩
  rw [HB.out] at hb0 mb0
  have A1 := mkHid (a1'.mono (Y := fun k => k = hb ∨ k = mb) (fun _ _ h => h.elim))
  have H1 := mkHid h1
  clear a1' h1
  go_wp2
  go_loopw [5, 6, 7, 8, 9, 10, 11] (fun x5 x6 x7 x8 _ _ _ wr => ∃ (k n : Nat) (la : Int) (L : List Sn), k ≤ m ∧ n ≤ k ∧ x5 = .int .i64 (n : Int) ∧ x6 = .int .i64 la ∧ x7 = .int .i64 (fl L) ∧ x8 = .int .i64 (k : Int) ∧ L.length = n ∧ Hs wr hb mb 1125899906842624 (n : Int) la L ∧ Ok (n : Int) la L ∧ Apart (fun k => k = hb ∨ k = mb) w wr) (fun _ _ _ y _ _ _ _ => m - (intOf y).toNat)
  case atStart => exact ⟨0, 0, 0, [], by omega, by omega, rfl, rfl, rfl, rfl, rfl, H1.out, Ok.nil (by omega) (by omega) (by omega), A1.out⟩
  case round =>
    obtain ⟨k, n, la, L, hk, hnk, rfl, rfl, rfl, rfl, hLn, hs, ok, ha⟩ := hrel
    have HS := mkHid hs
    have OK := mkHid ok
    have HA := mkHid ha
    have HLN := mkHid hLn
    have hfl := ok.fl
    have la0 := ok.la0
    have la1 := ok.la1
    clear hs ok ha
    by_cases hlt : k < m
    · have k0 : (0 : Int) ≤ k := by omega
      have k1 : (k : Int) < len0 := by omega
      have k2 : (k : Int) < 300 := by omega
      obtain ⟨b, off, s, rfl, hbw, hsk, c0, c1, c2, -, z0, z1, t0, t1⟩ := SAH.out.at k (by rw [HL.out]; omega)
      rw [HB.out] at hbw
      have hx : ¬ (b = hb ∨ b = mb) := by omega
      have hbW : b < w.heap.size := by rw [HB.out]; exact hbw
      have d1 := (HA.out.cell (p := ⟨b, off + k * 4 + 1, none⟩) hbW hx).trans c1
      have d2 := (HA.out.cell (p := ⟨b, off + k * 4 + 2, none⟩) hbW hx).trans c2
      clear c0 c1 c2 hsk
      obtain ⟨sk, z, t, sl⟩ := s
      simp only at d1 d2 z0 z1 t0 t1
      have HWd := mkHid (HS.out.kept (Apart.refl (fun _ => False) wr).drew (fun h => h) (fun h => h))
      have CE := mkHid (fun (W : World) (a : Apart (fun k => k = hb ∨ k = mb) wr.drew W) => (show W.cell? ⟨b, off + k * 4 + 1, none⟩ = some (.int .i64 z) ∧ W.cell? ⟨b, off + k * 4 + 2, none⟩ = some (.int .i64 t) from
        ⟨(a.cell (p := ⟨b, off + k * 4 + 1, none⟩) (Nat.lt_of_lt_of_le hbW HA.out.size) hx).trans d1, (a.cell (p := ⟨b, off + k * 4 + 2, none⟩) (Nat.lt_of_lt_of_le hbW HA.out.size) hx).trans d2⟩))
      obtain ⟨f, HF⟩ : ∃ f, Hid (fl L = f) := ⟨_, rfl⟩
      rw [HF.out] at hfl ⊢
      by_cases hok : 0 ≤ z ∧ z ≤ 1500 ∧ la ≤ t ∧ t ≤ 1125899906842624
      · obtain ⟨y0, y1, y2, y3⟩ := hok
        have S := mkHid (send_fit HWd.out OK.out z t (n : Int) (by rw [HLN.out]; unfold sndE; repeat' split <;> omega) (by omega) (by omega))
        have O3 := mkHid (OK.out.send z t (by omega) (by omega) (by omega) (by omega) (by omega))
        go_upto_region 8 with fail
        go_region_held3 (fun w' => w'.cell? ⟨b, off + k * 4 + 1, none⟩ = some (.int .i64 z) ∧ w'.cell? ⟨b, off + k * 4 + 2, none⟩ = some (.int .i64 t)) (go_keep) (first | (go_at_call 5; refine S.out.mono ?_; rintro e w3 ⟨rfl, h3, a3⟩; have H3 := mkHid h3; have A3 := mkHid a3; obtain ⟨e1, e2⟩ := CE.out _ a3; clear h3 a3))
        clear d1 d2
        have NX := mkHid (fun q => next_any (H3.out.kept ((Apart.refl (fun _ => False) w3).drewN q) (fun h => h) (fun h => h)))
        have CN := mkHid (fun q => count_any (H3.out.kept ((Apart.refl (fun _ => False) w3).drewN q) (fun h => h) (fun h => h)))
        have FL := mkHid (fun q => flight_any (H3.out.kept ((Apart.refl (fun _ => False) w3).drewN q) (fun h => h) (fun h => h)))
        have HFE := mkHid (show fl (L ++ [((n : Int), z, t)]) = f + z by rw [fl_end, HF.out])
        have HCE := mkHid (show ((L ++ [((n : Int), z, t)]).length : Int) = (n : Int) + 1 by rw [List.length_append, HLN.out]; rfl)
        rw [HFE.out] at FL
        rw [HCE.out] at CN
        go_upto_region 13 with fail
        go_quiet (fail)
        go_wp2_with (first
          | (go_at_call 6; refine (NX.out _).mono ?_; rintro e w4 ⟨rfl, rfl⟩)
          | (go_at_call 7; refine (CN.out _).mono ?_; rintro e w5 ⟨rfl, rfl⟩)
          | (go_at_call 8; refine (FL.out _).mono ?_; rintro e w6 ⟨rfl, rfl⟩))
        go_roundw
        case rel => exact ⟨k + 1, n + 1, t, L ++ [((n : Int), z, t)], by omega, by omega, by go_num, rfl, by rw [HFE.out], by go_num, by rw [List.length_append, HLN.out]; rfl, by rw [Int.natCast_add, Int.natCast_one]; exact H3.out.kept ((Apart.refl (fun _ => False) w3).drewN _) (fun h => h) (fun h => h), by rw [Int.natCast_add, Int.natCast_one]; exact O3.out, (HA.out.drew.trans A3.out (fun _ _ h => h)).drewN _⟩
        case measure => simp [intOf]; omega
      · obtain ⟨x, HX⟩ : ∃ x, Hid (sndE la L.length z t = x) := ⟨_, rfl⟩
        have hx0 : ¬ x = 0 := by have := HX.out; rw [HLN.out] at this; unfold sndE at this; repeat' split at this <;> omega
        have S := mkHid (send_no HWd.out z t (by omega) x HX.out hx0)
        have NX := mkHid (next_any HWd.out)
        have CN := mkHid (count_any HWd.out)
        have FL := mkHid (flight_any HWd.out)
        rw [HF.out] at FL
        rw [HLN.out] at CN
        go_upto_region 8 with fail
        go_region_held3 (fun w' => w'.cell? ⟨b, off + k * 4 + 1, none⟩ = some (.int .i64 z) ∧ w'.cell? ⟨b, off + k * 4 + 2, none⟩ = some (.int .i64 t)) (go_keep) (first | (go_at_call 5; refine S.out.mono ?_; rintro e w3 ⟨rfl, rfl⟩))
        have hor : z < 0 ∨ (0 ≤ z ∧ 1500 < z) ∨ (0 ≤ z ∧ z ≤ 1500 ∧ t < la) ∨ (0 ≤ z ∧ z ≤ 1500 ∧ la ≤ t ∧ 1125899906842624 < t) := by omega
        clear hok
        have hxb : (x == 0) = false := by simp [hx0]
        rcases hor with h | ⟨h, h'⟩ | ⟨h, h', h''⟩ | ⟨h, h', h'', h3⟩
        rotate_left 3
        have hd : decide (t ≤ 1125899906842624) = false := decide_eq_false (by omega)
        all_goals
          go_wp2_with (first
            | (go_at_call 6; refine NX.out.mono ?_; rintro e w4 ⟨rfl, rfl⟩)
            | (go_at_call 7; refine CN.out.mono ?_; rintro e w5 ⟨rfl, rfl⟩)
            | (go_at_call 8; refine FL.out.mono ?_; rintro e w6 ⟨rfl, rfl⟩))
          go_roundw
          case rel => exact ⟨k + 1, n, la, L, by omega, by omega, rfl, rfl, by rw [HF.out], by go_num, HLN.out, HWd.out, OK.out, HA.out.drew⟩
          case measure => simp [intOf]; omega
    · obtain rfl : k = m := by omega
      have A2 := mkHid (below_of HA.out (Nat.le_of_eq HB.out.symm) hb0 mb0)
      go_wp2_with (go_at_call 9; refine (WK.out _).mono ?_; rintro e w8 ⟨rfl, b8⟩)
      all_goals
        go_ret
        exact ⟨rfl, A2.out.trans (b8.mono (by rw [← HB.out]; exact A2.out.size))⟩

set_option maxRecDepth 100000 in
theorem lifted (os : Os) (started : os.Started) (H : Type) (enc : TypeId × Value → H) :
    ReturnsInHanded {} Try.checked os 3 .any (Rows.historyNumbersSpec.pre6 enc Try.prog Try.f3 Rows.historyNumbersRow.domain false) (Rows.historyNumbersSpec.post enc Try.prog Try.f3 false true false false) := by
  refine returnsInHanded_of_change (C := Try.checked) own started (by kernel_rfl) Try.func3
    (ChangeSpec.witness6 (enc := enc) (C := Try.checked) false ⟨#[], #[.slice none 0 0], []⟩ 8 (by kernel_rfl) (by kernel_rfl) (by kernel_rfl) (by kernel_rfl)) ?_
  intro W base args ds gs before hval0 hW hcnd _
  have hval : ∀ (j : Nat) t v, Try.f3.params[j]? = some t → args[j]? = some v → Value.okWide Try.prog W .any base t v := hval0
  have hW' := hW
  obtain ⟨p, q, hA0, hV, rfl, hfz, hnd⟩ := hW
  have hA : DataW.TrodAll enc Try.prog W 0 (fun _ => true) true Try.f3.params.toList args.toList ds p := hA0
  rw [Try.params3] at hA hval
  obtain ⟨v0, vs0, d0, ds0, p0, q0, hargs, rfl, rfl, h0, r0⟩ := trodAll_cons hA
  obtain ⟨rfl, rfl, rfl⟩ := trodAll_nil r0
  obtain rfl : args = #[v0] := by cases args; simp_all
  obtain ⟨rfl, rfl⟩ := trodVars_none hV
  obtain ⟨a0, len0, cap0, rfl⟩ := okWide_slice Try.underlying22 (hval 0 22 v0 rfl rfl)
  have k0 := h0
  have lt0 : ∀ x ∈ p0, x.block < W.heap.size := by obtain ⟨m, hm⟩ := k0; exact DataW.trod_lt m _ _ _ hm
  have w0 := open0 h0
  clear hA0 hval0
  refine (walk a0 len0 cap0 W w0).mono fun e W' ⟨he, bel⟩ => ?_
  subst he
  exact ⟨_, rfl, _, _, _, [], _, [], hW', trodAll_mk1 (shut_bool Try.underlying4 _), (trodAll_cons_mk (Below.trod laidOut (by kernel_rfl) (of_decide_eq_true (by kernel_rfl)) k0 bel lt0) trodAll_mk0), rfl, bel.frame _, fun h => by cases h⟩

theorem over : Rows.historyNumbersRow.holds Try.pinned (OpenSpec.ofChange Rows.historyNumbersSpec) :=
  OpenClaim.holds_of_wide 3 Try.f3 rfl rfl rfl rfl rfl rfl rfl ⟨rfl, rfl, rfl, rfl, rfl⟩ rfl rfl rfl rfl rfl (by kernel_rfl) Try.func3 (by kernel_rfl)
    (of_decide_eq_true (by kernel_rfl)) (by unfold Func.isWrapper; first | (rw [if_pos (by decide +kernel)]; kernel_rfl) | (rw [if_neg (by decide +kernel)]; exact ⟨rfl, rfl⟩))
    (fun os started H enc _ => lifted os started H enc)
end Go.Proofs.Ytdojphkibgfomab.historyNumbers
namespace Go.Proofs.Ytdojphkibgfomab
/-- The statement. -/
theorem historyNumbers_holds : Rows.HistoryNumbersSaid := historyNumbers.over
#print axioms historyNumbers_holds
end Go.Proofs.Ytdojphkibgfomab
