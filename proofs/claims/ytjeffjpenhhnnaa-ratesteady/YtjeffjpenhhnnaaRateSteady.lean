/-
  RateSteady: packets of one size at one distance give their rate once the window is full.
-/
import Derived.Test.YtjeffjpenhhnnaaRows
import Derived.WalkKit
import Derived.ProofKit
import Derived.OpenShut
import Derived.ShutString
import Derived.ChangeOld
import Derived.Below
import Derived.Deep.Slices
import Derived.Test.YtjeffjpenhhnnaaRaAb
namespace Go.Proofs.Ytjeffjpenhhnnaa.rateSteady
open Go.ChangeShapes Go.WideShapes Go.ChangeAt Go.RowKit
open Go.ChangeMaps (open_string shut_string)
set_option linter.unusedVariables false

theorem own : ownKnob Try.prog.godebug = none := by kernel_rfl
theorem laidOut : laidOutB Try.prog = true := by kernel_rfl

set_option maxRecDepth 100000 in
set_option maxHeartbeats 4000000 in
theorem walk (a0 : Int) (a1 : Int) (a2 : Int) (w : World) (w0 : (Lit.int .u16 a0).wf = true) (w1 : (Lit.int .u16 a1).wf = true) (w2 : (Lit.int .i64 a2).wf = true) : Calls Try.prog 5 #[.int .u16 a0, .int .u16 a1, .int .i64 a2] w fun e w' => e = .returned (.bool true) ∧ Below w.heap.size w w' := by
  obtain ⟨p0, p1⟩ : 0 ≤ a0 ∧ a0 ≤ 65535 := by simp [Lit.wf, IntKind.min, IntKind.max, IntKind.signed, IntKind.bits] at w0; omega
  obtain ⟨q0, q1⟩ : 0 ≤ a1 ∧ a1 ≤ 65535 := by simp [Lit.wf, IntKind.min, IntKind.max, IntKind.signed, IntKind.bits] at w1; omega
  have MD := mkHid (mod_any a2 50 (by omega) (by omega) w)
  have hm := modH_in a2 50 (by omega)
  obtain ⟨md, HMD⟩ : ∃ md, Hid (modH a2 50 = md) := ⟨_, mkHid rfl⟩
  rw [HMD.out] at MD hm
  clear w0 w1 w2
  go_enter Try.func5, Try.ntmps5
  go_wp2_with (go_at_call 24; refine MD.out.mono ?_; rintro e w9 ⟨rfl, rfl⟩)
  obtain ⟨g, HG⟩ : ∃ g, 100 + a1 % 20000 = g := ⟨_, rfl⟩
  obtain ⟨s, HS⟩ : ∃ s, 1 + a0 % 1500 = s := ⟨_, rfl⟩
  obtain ⟨K, HK⟩ : ∃ K : Nat, 1 + md = (K : Int) := ⟨(1 + md).toNat, by omega⟩
  rw [HG, HS, HK]
  have hg : 100 ≤ g ∧ g ≤ 20099 := by omega
  have hs : 1 ≤ s ∧ s ≤ 1500 := by omega
  have hK : 1 ≤ K ∧ K ≤ 50 := by omega
  have hgk : 100 ≤ g * (K : Int) ∧ g * (K : Int) ≤ 1004950 := by
    have a := Int.mul_le_mul hg.2 (show (K : Int) ≤ 50 by omega) (by omega) (by omega)
    have b := Int.mul_le_mul hg.1 (show (1 : Int) ≤ K by omega) (by omega) (by omega)
    omega
  rw [show wrap64 (g * (K : Int)) = g * (K : Int) by unfold wrap64; omega]
  obtain ⟨T, HT⟩ : ∃ T, Hid (g * (K : Int) = T) := ⟨_, mkHid rfl⟩
  rw [HT.out] at hgk ⊢
  clear HG HS HK p0 p1 q0 q1 hm HMD MD
  refine (new_mt T (by omega) (by omega) w9).mono ?_
  rintro e w1 ⟨⟨b, rfl, hm, hb⟩, ha⟩
  have HB := mkHid (show w9.heap.size ≤ b by omega)
  have M0 := mkHid hm
  have A0 := mkHid (ha.mono (Y := fun k => w9.heap.size ≤ k) (fun _ _ h => h.elim))
  clear hm hb ha
  have HGS := mkHid (And.intro hg (And.intro hs (And.intro hK hgk)))
  have hK2 : (K : Int) ≤ 50 := by omega
  have hK1 : (1 : Int) ≤ K := by omega
  clear hg hs hK
  go_wp2_with fail
  go_loopg [13] (2 * K + 1) (fun kx s13 wr => ∃ (i : Nat) (L : List Sm) (N : Nat → Prop) (F : List Bool), s13 = .int .i64 i ∧ i ≤ 2 * K + 1 ∧ kx = 2 * K + 1 - i ∧ Hid (L.Perm (stA g s K i)) ∧ Hid (Mt N wr b T (eaS i) (enS g i) L F) ∧ Hid (∀ q, N q → w9.heap.size ≤ q) ∧ Hid (Apart (fun q => w9.heap.size ≤ q) w9 wr))
  case atStart => exact ⟨0, [], _, [], rfl, by omega, rfl, mkHid (by rw [stA_zero]), M0, mkHid (fun q e => by rw [show q = b from e]; exact HB.out), A0⟩
  case round =>
    obtain ⟨i, L, N, F, rfl, hi, hkx, HP, HM, HN, HA⟩ := hrel
    by_cases hlt : i < 2 * K + 1
    · have hlt2 : (i : Int) < 2 * K + 1 := by omega
      have hig : 0 ≤ (i : Int) * g ∧ (i : Int) * g ≤ 2009900 := by
        have hh := HGS.out
        have a := Int.mul_le_mul (show (i : Int) ≤ 100 by omega) hh.1.2 (by omega) (by omega)
        have b := Int.mul_nonneg (show (0 : Int) ≤ i by omega) (show 0 ≤ g by omega)
        omega
      have hw : IntKind.i64.wrap ((i : Int) * g) = (i : Int) * g := by rw [IntKind.wrap_i64]; omega
      have D := mkHid (show Bd T (eaS i) (enS g i) from by
        have hh := HGS.out
        have e1 : -1125899906842624 ≤ enS g i ∧ enS g i ≤ 1125899906842624 := by
          unfold enS
          split
          · omega
          · rw [Int.sub_mul]; omega
        have e2 : 0 ≤ eaS i ∧ eaS i ≤ 1125899906842624 := by unfold eaS; split <;> omega
        unfold Bd; omega)
      have G := mkHid (got_mt HM.out D.out (by have := HP.out.length_eq; have := stA_len g s K i; omega) (x := (i : Int) * g) (z := s) (by have := HGS.out; omega) (by have := HGS.out; omega) (by omega) (by omega))
      obtain ⟨x, HX⟩ : ∃ x, Hid ((i : Int) * g = x) := ⟨_, mkHid rfl⟩
      rw [HX.out] at G hw hig
      have hx2 : IntKind.i64.wrap x = x := by rw [IntKind.wrap_i64]; omega
      have hxw : wrap64 ((i : Int) * g) = x := by rw [HX.out]; unfold wrap64; omega
      go_wp2_with fail
      refine G.out.mono ?_
      rintro e w2 ⟨rfl, L', N', hp, hm, hn, ha⟩
      have hh := HGS.out
      rw [← HX.out, eaS_step g i (by have := HX.out; omega) (by have := HX.out; omega), enS_step g i (by omega) (by have := HX.out; omega)] at hm
      have P1 := mkHid (show L'.Perm (stA g s K (i + 1)) from by
        have h := hp.trans (stF_perm HP.out x s)
        unfold stF at h
        rw [← HX.out, enS_step g i (by omega) (by have := HX.out; omega), show enS g (i + 1) = (i : Int) * g from by unfold enS; rw [if_neg (by omega), show ((i + 1 : Nat) : Int) - 1 = (i : Int) by omega], ← HT.out, show ((i : Int) * g, s) = smp g s i from rfl, stA_step g s (by omega) K i (by omega)] at h
        exact h)
      have N1 := mkHid (show ∀ q, N' q → w9.heap.size ≤ q from fun q hq => by
        rcases hn q hq with h | h
        · exact HN.out q h
        · have := HA.out.size; omega)
      have A1 := mkHid (HA.out.trans ha (fun q _ h => HN.out q h))
      have M1 := mkHid hm
      clear hp hm hn ha hh
      go_wp2_with fail
      go_roundg (2 * K + 1 - (i + 1))
      case measure => omega
      case rel => exact ⟨i + 1, L', N', _, by go_num, by omega, rfl, P1, M1, N1, A1⟩
    · obtain rfl : i = 2 * K + 1 := by omega
      have hh := HGS.out
      have e2 : enS g (2 * K + 1) = 2 * T := by unfold enS; rw [if_neg (by omega), show ((2 * K + 1 : Nat) : Int) - 1 = 2 * (K : Int) by omega, Int.mul_assoc, Int.mul_comm (K : Int) g, HT.out]
      have e3 : eaS (2 * K + 1) = 0 := by unfold eaS; rw [if_neg (by omega)]
      rw [e2, e3] at HM
      have D := mkHid (show Bd T 0 (2 * T) from by unfold Bd; omega)
      obtain ⟨y, HY⟩ : ∃ y, Hid ((K : Int) * s = y) := ⟨_, mkHid rfl⟩
      have hy : 1 ≤ y ∧ y ≤ 75000 := by
        have a := Int.mul_le_mul (show (K : Int) ≤ 50 by omega) hh.2.1.2 (by omega) (by omega)
        have b := Int.mul_le_mul (show (1 : Int) ≤ K by omega) hh.2.1.1 (by omega) (by omega)
        have := HY.out
        omega
      have hz : sz L = y := by rw [sz_perm HP.out, sz_stA, HY.out]
      have hr0 : 0 ≤ y * 8000000 / T := Int.ediv_nonneg (by omega) (by omega)
      have hr1 : y * 8000000 / T ≤ y * 8000000 := Int.ediv_le_self _ (by omega)
      have hr : rtV T 0 (2 * T) L = y * 8000000 / T := by
        unfold rtV
        rw [hz, show spn T 0 (2 * T) = T by unfold spn; omega, mdV_d _ _ _ (by omega), satH_in _ (by omega) (by omega)]
      have hL : L.length ≤ 4096 := by have := HP.out.length_eq; have := stA_len g s K (2 * K + 1); omega
      have FU := mkHid (fun p => full_mt (w := wd wr p) (HM.out.kept (wd_apart wr p) (fun _ _ h => h)) D.out)
      have BY := mkHid (fun p => bytes_mt (w := wd wr p) (HM.out.kept (wd_apart wr p) (fun _ _ h => h)))
      have RT := mkHid (fun p => rate_mt (w := wd wr p) (HM.out.kept (wd_apart wr p) (fun _ _ h => h)) D.out hL)
      have WK := mkHid (fun p => (wakes_any (wd wr p)).mono (fun e w' ⟨h1, h2⟩ => And.intro h1 (below_apart h2)))
      rw [show decide (T ≤ 2 * T - 0) = true from decide_eq_true (by omega)] at FU
      rw [hz] at BY
      rw [hr] at RT
      have k1 : IntKind.i64.wrap ((K : Int) * s) = y := by rw [HY.out, IntKind.wrap_i64]; omega
      have k2 : wrap64 ((K : Int) * s) = y := by rw [HY.out]; unfold wrap64; omega
      have k3 : IntKind.i64.wrap (y * 8000000 / T) = y * 8000000 / T := by rw [IntKind.wrap_i64]; omega
      clear e2 e3 hh hz hr hL HM
      go_wp2_with fail
      refine wp_region_wd (by kernel_rfl) (by kernel_rfl) ?_
      repeat (go_big_quiet_step (first | (go_at_call 18; exact wd_call (FU.out _)) | (go_at_call 16; exact wd_call (BY.out _)) | (go_at_call 14; exact wd_call (RT.out _)) | (go_at_call 22; exact wd_call (WK.out _))))
      refine wpQuiet_nil ?_
      rintro _ ⟨p, rfl⟩
      go_wp2
      go_ret
      exact ⟨rfl, (HA.out.trans (wd_apart _ _) (fun _ _ h => h.elim)).below _ (Nat.le_refl _) (fun _ h => h)⟩

set_option maxRecDepth 100000 in
theorem lifted (os : Os) (started : os.Started) (H : Type) (enc : TypeId × Value → H) :
    ReturnsInHanded {} Try.checked os 5 .any (Rows.rateSteadySpec.pre6 enc Try.prog Try.f5 Rows.rateSteadyRow.domain false) (Rows.rateSteadySpec.post enc Try.prog Try.f5 false true false false) := by
  refine returnsInHanded_of_change (C := Try.checked) own started (by kernel_rfl) Try.func5
    (ChangeSpec.witness6 (enc := enc) (C := Try.checked) false ⟨#[], #[.int .u16 0, .int .u16 0, .int .i64 0], []⟩ 8 (by kernel_rfl) (by kernel_rfl) (by kernel_rfl) (by kernel_rfl)) ?_
  intro W base args ds gs before hval0 hW hcnd _
  have hval : ∀ (j : Nat) t v, Try.f5.params[j]? = some t → args[j]? = some v → Value.okWide Try.prog W .any base t v := hval0
  have hW' := hW
  obtain ⟨p, q, hA0, hV, rfl, hfz, hnd⟩ := hW
  have hA : DataW.TrodAll enc Try.prog W 0 (fun _ => true) true Try.f5.params.toList args.toList ds p := hA0
  rw [Try.params5] at hA hval
  obtain ⟨v0, vs0, d0, ds0, p0, q0, hargs, rfl, rfl, h0, r0⟩ := trodAll_cons hA
  obtain ⟨v1, vs1, d1, ds1, p1, q1, rfl, rfl, rfl, h1, r1⟩ := trodAll_cons r0
  obtain ⟨v2, vs2, d2, ds2, p2, q2, rfl, rfl, rfl, h2, r2⟩ := trodAll_cons r1
  obtain ⟨rfl, rfl, rfl⟩ := trodAll_nil r2
  obtain rfl : args = #[v0, v1, v2] := by cases args; simp_all
  obtain ⟨rfl, rfl⟩ := trodVars_none hV
  obtain ⟨a0, rfl, rfl, rfl, w0⟩ := open_int Try.underlying41 (hval 0 41 v0 rfl rfl) h0
  obtain ⟨a1, rfl, rfl, rfl, w1⟩ := open_int Try.underlying41 (hval 1 41 v1 rfl rfl) h1
  obtain ⟨a2, rfl, rfl, rfl, w2⟩ := open_int Try.underlying3 (hval 2 3 v2 rfl rfl) h2
  clear hA0 hval0
  refine (walk a0 a1 a2 W w0 w1 w2).mono fun e W' ⟨he, bel⟩ => ?_
  subst he
  exact ⟨_, rfl, _, _, _, [], _, [], hW', trodAll_mk1 (shut_bool Try.underlying4 _), (trodAll_cons_mk (shut_int Try.underlying41 w0) (trodAll_cons_mk (shut_int Try.underlying41 w1) (trodAll_cons_mk (shut_int Try.underlying3 w2) trodAll_mk0))), rfl, bel.frame _, fun h => by cases h⟩

theorem over : Rows.rateSteadyRow.holds Try.pinned (OpenSpec.ofChange Rows.rateSteadySpec) :=
  OpenClaim.holds_of_wide 5 Try.f5 rfl rfl rfl rfl rfl rfl rfl ⟨rfl, rfl, rfl, rfl, rfl⟩ rfl rfl rfl rfl rfl (by kernel_rfl) Try.func5 (by kernel_rfl)
    (of_decide_eq_true (by kernel_rfl)) (by unfold Func.isWrapper; first | (rw [if_pos (by decide +kernel)]; kernel_rfl) | (rw [if_neg (by decide +kernel)]; exact ⟨rfl, rfl⟩))
    (fun os started H enc _ => lifted os started H enc)
end Go.Proofs.Ytjeffjpenhhnnaa.rateSteady
namespace Go.Proofs.Ytjeffjpenhhnnaa
/-- The statement. -/
theorem rateSteady_holds : Rows.RateSteadySaid := rateSteady.over
#print axioms rateSteady_holds
end Go.Proofs.Ytjeffjpenhhnnaa
