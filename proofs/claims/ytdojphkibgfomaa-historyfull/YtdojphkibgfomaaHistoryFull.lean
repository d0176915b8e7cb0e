/-
  HistoryFull: just so many packets are remembered; the next one is refused till one is told of, or given up.
-/
import Derived.Test.YtdojphkibgfomaaRows
import Derived.WalkKit
import Derived.ProofKit
import Derived.OpenShut
import Derived.ShutString
import Derived.ChangeOld
import Derived.Below
import Derived.Deep.Slices
import Derived.Test.YtdojphkibgfomaaHiW
namespace Go.Proofs.Ytdojphkibgfomaa.historyFull
open Go.ChangeShapes Go.WideShapes Go.ChangeAt Go.RowKit
open Go.ChangeMaps (open_string shut_string)
set_option linter.unusedVariables false

theorem own : ownKnob Try.prog.godebug = none := by kernel_rfl
theorem laidOut : laidOutB Try.prog = true := by kernel_rfl

set_option maxRecDepth 100000 in
set_option maxHeartbeats 4000000 in
theorem walk (a0 : Int) (a1 : Bool) (w : World) (w0 : (Lit.int .i64 a0).wf = true) : Calls Try.prog 6 #[.int .i64 a0, .bool a1] w fun e w' => e = .returned (.bool true) ∧ Below w.heap.size w w' := by
  have N := mkHid (new_any 1000 (by omega) (by omega))
  have M := mkHid (mod_any a0 1501 (by omega) (by omega))
  have hz0 := Int.emod_nonneg a0 (show (1501 : Int) ≠ 0 by omega)
  have hz1 := Int.emod_lt_of_pos a0 (show (0 : Int) < 1501 by omega)
  obtain ⟨z, HZ⟩ : ∃ z, Hid (a0 % 1501 = z) := ⟨_, rfl⟩
  rw [HZ.out] at M hz0 hz1
  have WK := mkHid wakes_any
  obtain ⟨B, HB⟩ : ∃ B, Hid (w.heap.size = B) := ⟨_, rfl⟩
  rw [HB.out]
  go_enter Try.func6, Try.ntmps6
  go_wp2_with fail
  refine (N.out _).mono ?_
  rintro e w1 ⟨⟨hb, mb, rfl, h1, hb0, mb0⟩, a1⟩
  rw [HB.out] at hb0 mb0
  have A1 := mkHid (a1.mono (Y := fun k => k = hb ∨ k = mb) (fun _ _ h => h.elim))
  have H1 := mkHid h1
  clear a1 h1
  go_wp2_with fail
  refine (M.out _).mono ?_
  rintro e w2 ⟨rfl, rfl⟩
  have R0 := mkHid (show Hs w2 hb mb 1000 ((0 : Nat) : Int) 0 (LF z 5 0) ∧ Ok ((0 : Nat) : Int) 0 (LF z 5 0) from ⟨H1.out, Ok.nil (by omega) (by omega) (by omega)⟩)
  go_wp2
  go_loopw [8, 9, 10] (fun x _ _ wr => ∃ (k : Nat) (la : Int), k ≤ 1024 ∧ x = .int .i64 (k : Int) ∧ la ≤ 5 ∧ (k = 1024 → la = 5) ∧ Hs wr hb mb 1000 (k : Int) la (LF z 5 k) ∧ Ok (k : Int) la (LF z 5 k) ∧ Apart (fun k => k = hb ∨ k = mb) w wr) (fun x _ _ _ => 1024 - (intOf x).toNat)
  case atStart => exact ⟨0, 0, by omega, rfl, by omega, by omega, R0.out.1, R0.out.2, A1.out⟩
  case round =>
    obtain ⟨k, la, hk, rfl, hla, hl5, hs, ok, ha⟩ := hrel
    have HS := mkHid hs
    have OK := mkHid ok
    have HA := mkHid ha
    have la0 := ok.la0
    clear hs ok ha
    by_cases hlt : k < 1024
    · have k0 : (0 : Int) ≤ k := by omega
      have k1 : (k : Int) < 1024 := by omega
      have S := mkHid (send_fit HS.out OK.out z 5 (k : Int) (by rw [LF_len]; unfold sndE; repeat' split <;> omega) (by omega) (by omega))
      go_wp2_with fail
      refine S.out.mono ?_
      rintro e w3 ⟨rfl, h3, a3⟩
      have H3 := mkHid h3
      have A3 := mkHid (HA.out.trans a3 (fun _ _ h => h))
      have O3 := mkHid (OK.out.send z 5 (by omega) (by omega) (by omega) (by omega) (by rw [LF_len]; exact hlt))
      clear h3 a3
      go_wp2
      go_roundw
      case rel => exact ⟨k + 1, 5, by omega, by go_num, by omega, fun _ => rfl, by rw [Int.natCast_add, Int.natCast_one]; exact H3.out, by rw [Int.natCast_add, Int.natCast_one]; exact O3.out, A3.out⟩
      case measure => simp [intOf]; omega
    · obtain rfl : k = 1024 := by omega
      obtain rfl : la = 5 := hl5 rfl
      have S := mkHid (send_no HS.out z 6 (by rw [LF_len]; omega) 250 (by rw [LF_len]; unfold sndE; repeat' split <;> omega) (by omega))
      have CN := mkHid (count_any HS.out)
      have FL := mkHid (flight_any HS.out)
      rw [LF_len] at CN
      rw [LF_fl] at FL
      have hw : wrap64 (z * 1024) = 1024 * z := by unfold wrap64; omega
      have hw2 : IntKind.i64.wrap (z * 1024) = 1024 * z := by rw [IntKind.wrap_i64]; omega
      have hlt2 := HS.out.lt
      go_wp2_with fail
      refine S.out.mono ?_
      rintro e w3 ⟨rfl, rfl⟩
      cases a1 with
      | true =>
        have A4 := mkHid (HA.out.alloc (.cells #[.int .i64 3, .bool true, .int .i64 0, .bool false, .bool false] 62))
        have H4 := mkHid (HS.out.kept ((Apart.refl (fun _ => False) w3).alloc (.cells #[.int .i64 3, .bool true, .int .i64 0, .bool false, .bool false] 62)) (fun h => h) (fun h => h))
        have R4 := mkHid (ra_one w3 hb mb ⟨3, true, 0, false, false⟩ 62 hlt2.1 hlt2.2)
        have HE := mkHid (hear_any H4.out OK.out (by omega) _ 1 [⟨3, true, 0, false, false⟩] 6 R4.out (by simp))
        have hfd : fd ((1024 : Nat) : Int) (LF z 5 1024) 3 = some (3, z, 5) := by
          unfold fd
          rw [show nr ((1024 : Nat) : Int) 3 = 3 from by decide]
          exact find_key (s := (3, z, 5)) OK.out.rise ((LF_mem z 5 1024 _).2 ⟨3, by omega, rfl⟩)
        have hR : hrR ((1024 : Nat) : Int) (LF z 5 1024) [⟨3, true, 0, false, false⟩] = (LF z 5 1024).filter fun u => u.1 != 3 := by
          simp only [hrR, hfd]
        have hlen := len_drop OK.out.rise ((LF_mem z 5 1024 (3, z, 5)).2 ⟨3, by omega, rfl⟩)
        rw [LF_len] at hlen
        go_wp2_with (first
          | (go_at_call 22; refine CN.out.mono ?_; rintro e w4 ⟨rfl, rfl⟩)
          | (go_at_call 20; refine FL.out.mono ?_; rintro e w5 ⟨rfl, rfl⟩)
          | fail)
        refine HE.out.mono ?_
        rintro e w6 ⟨vg, vl, rfl, h6⟩
        rw [hR] at h6
        have S7 := mkHid (send_fit h6.hs h6.ok z 2000 1024 (by rw [show ((LF z 5 1024).filter fun u => u.1 != 3).length = 1023 by omega]; unfold sndE; repeat' split <;> omega) (by omega) (by decide))
        have A6 := mkHid (A4.out.trans h6.ap (fun _ _ h => h))
        clear h6 hR hfd hlen
        go_wp2_with fail
        refine S7.out.mono ?_
        rintro e w7 ⟨rfl, -, a7⟩
        have A7 := mkHid (below_of (A6.out.trans a7 (fun _ _ h => h)) (Nat.le_of_eq HB.out.symm) hb0 mb0)
        clear a7
        go_wp2_with (go_at_call 26; refine (WK.out _).mono ?_; rintro e w8 ⟨rfl, b8⟩)
        go_ret
        exact ⟨rfl, A7.out.trans (b8.mono (by rw [← HB.out]; exact A7.out.size))⟩
      | false =>
        have EX := mkHid (expire_any HS.out OK.out (by omega) 1006 (by omega) (by omega))
        have hall : ∀ s ∈ LF z 5 1024, exB 1000 1006 s = true := by
          intro s hs
          obtain ⟨i, _, rfl⟩ := (LF_mem z 5 1024 s).1 hs
          unfold exB
          show decide ((1000 : Int) < Sat.satH (1006 - 5)) = true
          decide
        have e1 : exO 1000 1006 (LF z 5 1024) = LF z 5 1024 := List.filter_eq_self.2 hall
        have e2 : exR 1000 1006 (LF z 5 1024) = [] := by
          unfold exR
          rw [List.filter_eq_nil_iff]
          intro s hs
          simp [hall s hs]
        rw [e1, e2, LF_len] at EX
        clear hall e1 e2
        go_wp2_with (first
          | (go_at_call 22; refine CN.out.mono ?_; rintro e w4 ⟨rfl, rfl⟩)
          | (go_at_call 20; refine FL.out.mono ?_; rintro e w5 ⟨rfl, rfl⟩)
          | fail)
        refine EX.out.mono ?_
        rintro e w6 ⟨v, rfl, ho, h6, a6⟩
        obtain ⟨ad, cp, hv⟩ := ownsRow_slice ho
        subst hv
        have S7 := mkHid (send_fit h6 (Ok.nil (nx := ((1024 : Nat) : Int)) (la := 5) (by omega) (by omega) (by omega)) z 2000 1024 (by unfold sndE; simp only [List.length_nil]; repeat' split <;> omega) (by omega) (by decide))
        have A6 := mkHid (HA.out.trans a6 (fun _ _ h => h))
        clear h6 ho a6
        go_wp2_with fail
        refine S7.out.mono ?_
        rintro e w7 ⟨rfl, -, a7⟩
        have A7 := mkHid (below_of (A6.out.trans a7 (fun _ _ h => h)) (Nat.le_of_eq HB.out.symm) hb0 mb0)
        clear a7
        go_wp2_with (go_at_call 26; refine (WK.out _).mono ?_; rintro e w8 ⟨rfl, b8⟩)
        go_ret
        exact ⟨rfl, A7.out.trans (b8.mono (by rw [← HB.out]; exact A7.out.size))⟩

set_option maxRecDepth 100000 in
theorem lifted (os : Os) (started : os.Started) (H : Type) (enc : TypeId × Value → H) :
    ReturnsInHanded {} Try.checked os 6 .any (Rows.historyFullSpec.pre6 enc Try.prog Try.f6 Rows.historyFullRow.domain false) (Rows.historyFullSpec.post enc Try.prog Try.f6 false true false false) := by
  refine returnsInHanded_of_change (C := Try.checked) own started (by kernel_rfl) Try.func6
    (ChangeSpec.witness6 (enc := enc) (C := Try.checked) false ⟨#[], #[.int .i64 0, .bool false], []⟩ 8 (by kernel_rfl) (by kernel_rfl) (by kernel_rfl) (by kernel_rfl)) ?_
  intro W base args ds gs before hval0 hW hcnd _
  have hval : ∀ (j : Nat) t v, Try.f6.params[j]? = some t → args[j]? = some v → Value.okWide Try.prog W .any base t v := hval0
  have hW' := hW
  obtain ⟨p, q, hA0, hV, rfl, hfz, hnd⟩ := hW
  have hA : DataW.TrodAll enc Try.prog W 0 (fun _ => true) true Try.f6.params.toList args.toList ds p := hA0
  rw [Try.params6] at hA hval
  obtain ⟨v0, vs0, d0, ds0, p0, q0, hargs, rfl, rfl, h0, r0⟩ := trodAll_cons hA
  obtain ⟨v1, vs1, d1, ds1, p1, q1, rfl, rfl, rfl, h1, r1⟩ := trodAll_cons r0
  obtain ⟨rfl, rfl, rfl⟩ := trodAll_nil r1
  obtain rfl : args = #[v0, v1] := by cases args; simp_all
  obtain ⟨rfl, rfl⟩ := trodVars_none hV
  obtain ⟨a0, rfl, rfl, rfl, w0⟩ := open_int Try.underlying3 (hval 0 3 v0 rfl rfl) h0
  obtain ⟨a1, rfl, rfl, rfl⟩ := open_bool Try.underlying4 (hval 1 4 v1 rfl rfl) h1
  clear hA0 hval0
  refine (walk a0 a1 W w0).mono fun e W' ⟨he, bel⟩ => ?_
  subst he
  exact ⟨_, rfl, _, _, _, [], _, [], hW', trodAll_mk1 (shut_bool Try.underlying4 _), (trodAll_cons_mk (shut_int Try.underlying3 w0) (trodAll_cons_mk (shut_bool Try.underlying4 _) trodAll_mk0)), rfl, bel.frame _, fun h => by cases h⟩

theorem over : Rows.historyFullRow.holds Try.pinned (OpenSpec.ofChange Rows.historyFullSpec) :=
  OpenClaim.holds_of_wide 6 Try.f6 rfl rfl rfl rfl rfl rfl rfl ⟨rfl, rfl, rfl, rfl, rfl⟩ rfl rfl rfl rfl rfl (by kernel_rfl) Try.func6 (by kernel_rfl)
    (of_decide_eq_true (by kernel_rfl)) (by unfold Func.isWrapper; first | (rw [if_pos (by decide +kernel)]; kernel_rfl) | (rw [if_neg (by decide +kernel)]; exact ⟨rfl, rfl⟩))
    (fun os started H enc _ => lifted os started H enc)
end Go.Proofs.Ytdojphkibgfomaa.historyFull
namespace Go.Proofs.Ytdojphkibgfomaa
/-- The statement. -/
theorem historyFull_holds : Rows.HistoryFullSaid := historyFull.over
#print axioms historyFull_holds
end Go.Proofs.Ytdojphkibgfomaa
