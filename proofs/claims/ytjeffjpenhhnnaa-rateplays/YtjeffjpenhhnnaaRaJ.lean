/-
  The reference's rate.
-/
import Derived.Test.YtjeffjpenhhnnaaRaH
import Derived.Test.YtjeffjpenhhnnaaRaZ
import Derived.Test.YtjeffjpenhhnnaaUnR
namespace Go.Proofs.Ytjeffjpenhhnnaa
open Go.RowKit

theorem rrate_no {M : Nat → Prop} {w : World} {c : Nat} {win : Int} {en ear : Int} {L : List Sm} {F : List Bool} (h : Rr M w c win false en ear L F) :
    Calls Try.prog 15 #[.pointer (some ⟨c, 0, none⟩)] w fun e w' => e = .returned (.int .i64 0) ∧ Apart (fun _ => False) w w' := by
  obtain ⟨lv, tv, h1, -⟩ := h
  obtain ⟨c0, c1, c2, c3, c4, c5, cf⟩ := cells6 h1
  clear c0 c1 c3 c4 c5 cf h1
  go_enter Try.func15, Try.ntmps15
  go_wp2
  go_ret
  exact ⟨rfl, Apart.refl _ _⟩
set_option maxHeartbeats 1000000 in
theorem rrate {M : Nat → Prop} {w : World} {c : Nat} {win : Int} {en ear : Int} {L : List Sm} {F : List Bool} (h : Rr M w c win true en ear L F) (hb : Bd win ear en) (hf : Fit L) (hl : L.length ≤ 4096) :
    Calls Try.prog 15 #[.pointer (some ⟨c, 0, none⟩)] w fun e w' => e = .returned (.int .i64 (rtV win ear en L)) ∧ Apart (fun _ => False) w w' := by
  obtain ⟨b1, b2, b3, b4, b5, b6⟩ := hb
  have hz := sz_bd hf
  have FU := mkHid (rfull h b3 b4 b5 b6)
  obtain ⟨c0, c1, c2, c3, c4, c5, cf⟩ := cells6 (show Rb _ _ _ _ _ _ _ _ from h.choose_spec.choose_spec.1)
  have H := mkHid h
  have HF := mkHid (And.intro hf hl)
  rw [Bool.true_and] at FU
  clear c0 c1 c3 c4 c5 cf h hf
  by_cases hw : win ≤ en - ear
  · rw [decide_eq_true hw] at FU
    go_enter Try.func15, Try.ntmps15
    go_wp2_with fail
    refine FU.out.mono ?_
    rintro e w1 ⟨rfl, a1⟩
    have H1 := mkHid (H.out.kept a1 (fun _ _ h => h))
    have A1 := mkHid a1
    have r0 := fun p => (cells6 (wd_heap (show Rb w1 _ _ _ _ _ _ _ from H1.out.choose_spec.choose_spec.1) p)).1
    have BY := mkHid (fun p => (rbytes (w := wd w1 p) (H1.out.kept (wd_apart w1 p) (fun _ _ h => h)) HF.out.1 HF.out.2).mono (fun e w' ⟨h1, h2⟩ => And.intro h1 (by subst h2; exact Apart.refl (fun _ => False) _)))
    obtain ⟨s, HS⟩ : ∃ s, Hid (sz L = s) := ⟨_, mkHid rfl⟩
    rw [HS.out] at BY hz
    have RA := mkHid (fun W => (rrate_any s win (by omega) (by omega) (by omega) (by omega) W).mono (fun e w' ⟨h1, h2⟩ => And.intro h1 (below_apart h2)))
    have hv : rtV win ear en L = mdV s 8000000 win 1 := by unfold rtV; rw [HS.out, show spn win ear en = win by unfold spn; omega]
    have HV := mkHid hv
    clear a1 c2 hv FU
    go_upto_region 4 with fail
    refine wp_region_wd (by kernel_rfl) (by kernel_rfl) ?_
    repeat (go_big_quiet_step (first | (go_at_call 17; exact wd_call (BY.out _)) | (go_at_call 31; exact wd_call (RA.out _))))
    refine wpQuiet_nil ?_
    rintro _ ⟨p, rfl⟩
    go_wp2
    go_ret
    exact ⟨ret_i (by rw [HV.out]), A1.out.zz (wd_apart _ _)⟩
  · rw [decide_eq_false hw] at FU
    go_enter Try.func15, Try.ntmps15
    go_wp2_with fail
    refine FU.out.mono ?_
    rintro e w1 ⟨rfl, a1⟩
    have H1 := mkHid (H.out.kept a1 (fun _ _ h => h))
    have A1 := mkHid a1
    have r0 := fun p => (cells6 (wd_heap (show Rb w1 _ _ _ _ _ _ _ from H1.out.choose_spec.choose_spec.1) p)).1
    have r3 := fun p => (cells6 (wd_heap (show Rb w1 _ _ _ _ _ _ _ from H1.out.choose_spec.choose_spec.1) p)).2.2.2.1
    have r4 := fun p => (cells6 (wd_heap (show Rb w1 _ _ _ _ _ _ _ from H1.out.choose_spec.choose_spec.1) p)).2.2.2.2.1
    have BY := mkHid (fun p => (rbytes (w := wd w1 p) (H1.out.kept (wd_apart w1 p) (fun _ _ h => h)) HF.out.1 HF.out.2).mono (fun e w' ⟨h1, h2⟩ => And.intro h1 (by subst h2; exact Apart.refl (fun _ => False) _)))
    obtain ⟨s, HS⟩ : ∃ s, Hid (sz L = s) := ⟨_, mkHid rfl⟩
    rw [HS.out] at BY hz
    have RA := mkHid (fun y (y1 : -9223372036854775808 ≤ y) (y2 : y ≤ 9223372036854775807) W => (rrate_any s y (by omega) (by omega) y1 y2 W).mono (fun e w' ⟨h1, h2⟩ => And.intro h1 (below_apart h2)))
    have hwr : IntKind.i64.wrap (en - ear) = en - ear := by rw [IntKind.wrap_i64]; omega
    have hv : rtV win ear en L = mdV s 8000000 (min (max (en - ear) 1000) win) 1 := by unfold rtV; rw [HS.out]; rfl
    have HV := mkHid hv
    clear a1 c2 hv FU
    go_upto_region 5 with fail
    refine wp_region_wd (by kernel_rfl) (by kernel_rfl) ?_
    repeat (go_big_quiet_step (first | (go_at_call 17; exact wd_call (BY.out _)) | (go_at_call 31; exact wd_call (RA.out _ (by omega) (by omega) _))))
    all_goals refine wpQuiet_nil ?_
    all_goals rintro _ ⟨p, rfl⟩
    all_goals go_wp2
    all_goals go_ret
    all_goals exact ⟨ret_i ((congrArg (fun y => mdV s 8000000 y 1) (by omega)).trans HV.out.symm), A1.out.zz (wd_apart _ _)⟩
end Go.Proofs.Ytjeffjpenhhnnaa
