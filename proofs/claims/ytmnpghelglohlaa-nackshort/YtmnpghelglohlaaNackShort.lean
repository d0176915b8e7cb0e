/-
  NackShort: a list is told by no more entries than it has numbers, and by one for each seventeen that stand together.
-/
import Derived.Test.YtmnpghelglohlaaRows
import Derived.WalkKit
import Derived.ProofKit
import Derived.OpenShut
import Derived.ShutString
import Derived.ChangeOld
import Derived.Below
import Derived.Deep.Slices
import Derived.Test.YtmnpghelglohlaaNkV
import Derived.Test.YtmnpghelglohlaaNkA
namespace Go.Proofs.Ytmnpghelglohlaa.nackShort
open Go.ChangeShapes Go.WideShapes Go.ChangeAt Go.RowKit
open Go.ChangeMaps (open_string shut_string)
set_option linter.unusedVariables false

theorem own : ownKnob Try.prog.godebug = none := by kernel_rfl
theorem laidOut : laidOutB Try.prog = true := by kernel_rfl

set_option maxRecDepth 100000 in
set_option maxHeartbeats 2000000 in
theorem walk (a0 : Int) (a1 : Int) (w : World) (w0 : (Lit.int .u16 a0).wf = true) (w1 : (Lit.int .i64 a1).wf = true) : Calls Try.prog 7 #[.int .u16 a0, .int .i64 a1] w fun e w' => e = .returned (.bool true) ∧ Below w.heap.size w w' := by
  have b0 := bounds_u16 w0
  have b1 := bounds_i64 w1
  clear w0 w1
  obtain ⟨x0, x1⟩ := b0
  obtain ⟨i0, hi, hz0, hz1, hz2⟩ := info3'
  obtain ⟨B, HB⟩ : ∃ B, Hid (w.heap.size = B) := ⟨_, rfl⟩
  have hk : ∃ K : Nat, wrap64 (1 + wrap64 ((IntKind.u64.wrap a1).tmod 4096)) = (K : Int) ∧ 1 ≤ K ∧ K ≤ 4096 := by
    have e0 : 0 ≤ IntKind.u64.wrap a1 := by rw [IntKind.wrap_u64]; omega
    rw [Int.tmod_eq_emod_of_nonneg e0]
    obtain ⟨u, hu⟩ : ∃ u, IntKind.u64.wrap a1 % 4096 = u := ⟨_, rfl⟩
    rw [hu]
    refine ⟨(1 + u).toNat, ?_, by omega, by omega⟩
    unfold wrap64; omega
  obtain ⟨K, hK, K1, K2⟩ := hk
  have HK := mkHid hK
  have HKB := mkHid (show 1 ≤ K ∧ K ≤ 4096 from ⟨K1, K2⟩)
  have hk0 : (1 : Int) ≤ K := by omega
  have hk1 : (K : Int) ≤ 4096 := by omega
  obtain ⟨R, HR⟩ : ∃ R, Hid (cq K a0 = R) := ⟨_, rfl⟩
  have HRL := mkHid (show R.length = K by rw [← HR.out]; exact cq_len K a0)
  have HG := mkHid (show isL R = true by rw [← HR.out]; exact cq_isL K a0 K1 K2)
  obtain ⟨S, HS⟩ : ∃ S, Hid (packS (nkB ⟨0, 0, R⟩) = S) := ⟨_, rfl⟩
  have HEN := mkHid (show encS ⟨0, 0, R⟩ = S ∧ encE ⟨0, 0, R⟩ = 0 by
    obtain ⟨q1, q2⟩ := encE_yes (r := ⟨0, 0, R⟩) HG.out
    exact ⟨q2.trans HS.out, q1⟩)
  have HSZ := mkHid (show S.size = 8 + 4 * ((K + 16) / 17) by
    rw [← HS.out, enc_size]
    show 8 + 4 * (enL R).length = _
    rw [← HR.out, cq_enL K K a0 (Nat.le_refl _)])
  clear hK K1 K2 b1
  go_enter Try.func7, Try.ntmps7
  go_wp2
  rw [HK.out]
  go_loopw [6, 7] (fun v i wr => ∃ k : Nat, k ≤ K ∧ i = .int .i64 (k : Int) ∧ OI B wr v (cq k a0) ∧ Below B w wr) (fun _ i _ => K - (intOf i).toNat)
  case atStart => exact ⟨0, Nat.zero_le _, rfl, OI.nil _ _, by rw [← HB.out]; exact Below.refl _ _⟩
  case round =>
    obtain ⟨k, hk, rfl, ho, hb⟩ := hrel
    obtain ⟨ad, cp, hv⟩ := ownsRow_slice ho
    rw [cq_len] at hv
    subst hv
    have HO := mkHid ho
    have HBW := mkHid hb
    have hbs : B ≤ wr.heap.size := by rw [← HB.out]; exact hb.size
    clear ho hb
    by_cases hlt : k < K
    · have k0 : (0 : Int) ≤ k := by omega
      have k1 : (k : Int) < K := by omega
      have HOW := mkHid (show wr.ownsRow B 3 1 (.slice ad k cp) k (IC (cq k a0)) by have := HO.out; unfold OI at this; rw [cq_len] at this; exact this)
      obtain ⟨y, HY⟩ : ∃ y, Hid ((a0 + k) % 65536 = y) := ⟨_, rfl⟩
      have HKM := mkHid (show k ≤ 4096 by have := HKB.out; omega)
      have hy : wrap64 (IntKind.u16.wrap (a0 + k)) = y := by
        have := HY.out
        rw [IntKind.wrap_u16]; unfold wrap64; omega
      go_wp2_with (at_builtin; refine wpList_append_own2 _ rfl (.tmp 20) (.tmp 26) 23 rfl B 3 i0 (.int .i64 0) 1 8 Try.underlying23 hi hz0 hz1 hz2 rfl (by decide) (.slice ad k cp) k (IC (cq k a0)) rfl (HOW.out.alloc _) ⟨wr.heap.size, 0, none⟩ 1 1 [.int .i64 y] rfl rfl (cell_one_new _ _ _) (by intro u hu; simp at hu; subst hu; rfl) (by unfold maxLen; have := HKM.out; omega) (by have := HKM.out; omega) (by simp; omega) ?_; intro v5 w9 hown4 hgrow4 _; have O2 := mkHid (show OI B w9 v5 (cq (k + 1) a0) by rw [cq_app, HY.out]; exact OI.grown hown4 (cq_len k a0).symm); have B2 := mkHid (HBW.out.trans (own_below (v := .slice ad k cp) (l := cq k a0) (by unfold OI; rw [cq_len]; exact HOW.out) hbs hgrow4)); clear hown4 hgrow4 HOW)
      go_roundw
      case rel => exact ⟨k + 1, by omega, by go_num, O2.out, B2.out⟩
      case measure => simp [intOf]; omega
    · obtain rfl : K = k := by omega
      obtain ⟨_, _, hv, ia⟩ := own_ia HO.out
      rw [cq_len] at hv
      simp only [Value.slice.injEq] at hv
      obtain ⟨rfl, -, rfl⟩ := hv
      rw [HR.out] at ia
      have EA := mkHid (enc_at (r := ⟨0, 0, R⟩) (c := cp) ia (Int.le_refl 0) (show (0 : Int) < 4294967296 by decide) (Int.le_refl 0) (show (0 : Int) < 4294967296 by decide) HEN.out.1 HEN.out.2)
      unfold nv at EA
      simp only [HRL.out] at EA
      have hsz : (S.size : Int) = 8 + 4 * (((K : Int) + 16) / 17) := by have := HSZ.out; omega
      clear ia
      go_wp2_with fail
      refine (EA.out).mono ?_
      rintro e w3 ⟨rfl, b3⟩
      have B3 := mkHid (HBW.out.trans (b3.mono hbs))
      clear b3
      go_wp2_with fail
      refine (wakes_any _).mono ?_
      rintro e w9 ⟨rfl, p9⟩
      have B9 := mkHid (B3.out.trans (p9.mono (by rw [← HB.out]; exact B3.out.size)))
      clear p9
      go_wp2
      go_ret
      exact ⟨rfl, by rw [HB.out]; exact B9.out⟩

set_option maxRecDepth 100000 in
theorem lifted (os : Os) (started : os.Started) (H : Type) (enc : TypeId × Value → H) :
    ReturnsInHanded {} Try.checked os 7 .any (Rows.nackShortSpec.pre6 enc Try.prog Try.f7 Rows.nackShortRow.domain false) (Rows.nackShortSpec.post enc Try.prog Try.f7 false true false false) := by
  refine returnsInHanded_of_change (C := Try.checked) own started (by kernel_rfl) Try.func7
    (ChangeSpec.witness6 (enc := enc) (C := Try.checked) false ⟨#[], #[.int .u16 0, .int .i64 0], []⟩ 8 (by kernel_rfl) (by kernel_rfl) (by kernel_rfl) (by kernel_rfl)) ?_
  intro W base args ds gs before hval0 hW hcnd _
  have hval : ∀ (j : Nat) t v, Try.f7.params[j]? = some t → args[j]? = some v → Value.okWide Try.prog W .any base t v := hval0
  have hW' := hW
  obtain ⟨p, q, hA0, hV, rfl, hfz, hnd⟩ := hW
  have hA : DataW.TrodAll enc Try.prog W 0 (fun _ => true) true Try.f7.params.toList args.toList ds p := hA0
  rw [Try.params7] at hA hval
  obtain ⟨v0, vs0, d0, ds0, p0, q0, hargs, rfl, rfl, h0, r0⟩ := trodAll_cons hA
  obtain ⟨v1, vs1, d1, ds1, p1, q1, rfl, rfl, rfl, h1, r1⟩ := trodAll_cons r0
  obtain ⟨rfl, rfl, rfl⟩ := trodAll_nil r1
  obtain rfl : args = #[v0, v1] := by cases args; simp_all
  obtain ⟨rfl, rfl⟩ := trodVars_none hV
  obtain ⟨a0, rfl, rfl, rfl, w0⟩ := open_int Try.underlying41 (hval 0 41 v0 rfl rfl) h0
  obtain ⟨a1, rfl, rfl, rfl, w1⟩ := open_int Try.underlying3 (hval 1 3 v1 rfl rfl) h1
  clear hA0 hval0
  refine (walk a0 a1 W w0 w1).mono fun e W' ⟨he, bel⟩ => ?_
  subst he
  exact ⟨_, rfl, _, _, _, [], _, [], hW', trodAll_mk1 (shut_bool Try.underlying4 _), (trodAll_cons_mk (shut_int Try.underlying41 w0) (trodAll_cons_mk (shut_int Try.underlying3 w1) trodAll_mk0)), rfl, bel.frame _, fun h => by cases h⟩

theorem over : Rows.nackShortRow.holds Try.pinned (OpenSpec.ofChange Rows.nackShortSpec) :=
  OpenClaim.holds_of_wide 7 Try.f7 rfl rfl rfl rfl rfl rfl rfl ⟨rfl, rfl, rfl, rfl, rfl⟩ rfl rfl rfl rfl rfl (by kernel_rfl) Try.func7 (by kernel_rfl)
    (of_decide_eq_true (by kernel_rfl)) (by unfold Func.isWrapper; first | (rw [if_pos (by decide +kernel)]; kernel_rfl) | (rw [if_neg (by decide +kernel)]; exact ⟨rfl, rfl⟩))
    (fun os started H enc _ => lifted os started H enc)
end Go.Proofs.Ytmnpghelglohlaa.nackShort
namespace Go.Proofs.Ytmnpghelglohlaa
/-- The statement. -/
theorem nackShort_holds : Rows.NackShortSaid := nackShort.over
#print axioms nackShort_holds
end Go.Proofs.Ytmnpghelglohlaa
