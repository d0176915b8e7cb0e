/-
  MuldivDoes: every product divided by every number.
-/
import Derived.Test.YtfjnnceheekojaaRows
import Derived.WalkKit
import Derived.ProofKit
import Derived.OpenShut
import Derived.ShutString
import Derived.Test.YtfjnnceheekojaaWakes
import Derived.Test.YtfjnnceheekojaaDid
import Derived.WalkSpells
import Derived.WalkLawsBesides
import Derived.Handy
import Derived.ChangeOld
import Derived.Below
import Derived.Lib.SmallJoins
import Derived.Deep.RegionHeld3
namespace Go.Proofs.Ytfjnnceheekojaa.muldivDoes
open Go.ChangeShapes Go.WideShapes Go.ChangeAt Go.RowKit Go.Joins
set_option linter.unusedVariables false

theorem own : ownKnob Try.prog.godebug = none := by kernel_rfl
theorem laidOut : laidOutB Try.prog = true := by kernel_rfl
theorem cells23 : Try.prog.cellsOf 23 = 4 := by kernel_rfl

theorem last8 {p1 p2 p3 p4 p5 p6 p7 p8 : Prop} (h : p1 ∧ p2 ∧ p3 ∧ p4 ∧ p5 ∧ p6 ∧ p7 ∧ p8) : p8 := h.2.2.2.2.2.2.2
theorem held_next {w wa wb : World} {b0 b1 : Nat} {a b c h v : Value} {f : Value} (hb : Below wa.heap.size wa wb) (h0 : b0 < b1)
    (hS : wa.cell? ⟨b0, 0, none⟩ = some a ∧ wa.cell? ⟨b0, 1, none⟩ = some b ∧ wa.cell? ⟨b0, 2, none⟩ = some c ∧ wa.cell? ⟨b0, 3, none⟩ = some h ∧ wa.cell? ⟨b1, 0, none⟩ = some v ∧ wa.cell? ⟨b1, 1, none⟩ = some f ∧ b1 < wa.heap.size ∧ Below w.heap.size w wa) :
    wb.cell? ⟨b0, 0, none⟩ = some a ∧ wb.cell? ⟨b0, 1, none⟩ = some b ∧ wb.cell? ⟨b0, 2, none⟩ = some c ∧ wb.cell? ⟨b0, 3, none⟩ = some h ∧ wb.cell? ⟨b1, 0, none⟩ = some v ∧ wb.cell? ⟨b1, 1, none⟩ = some f ∧ b1 < wb.heap.size ∧ Below w.heap.size w wb := by
  obtain ⟨c0, c1, c2, c3, c4, c5, s1, bel⟩ := hS
  have k : ∀ i, wb.cell? ⟨b0, i, none⟩ = wa.cell? ⟨b0, i, none⟩ := fun i => hb.cell (show b0 < _ by omega)
  have l : ∀ i, wb.cell? ⟨b1, i, none⟩ = wa.cell? ⟨b1, i, none⟩ := fun i => hb.cell (show b1 < _ by omega)
  exact ⟨(k 0).trans c0, (k 1).trans c1, (k 2).trans c2, (k 3).trans c3, (l 0).trans c4, (l 1).trans c5, Nat.lt_of_lt_of_le s1 hb.size, bel.trans (hb.mono bel.size)⟩

theorem held_first {w w1 : World} {b0 : Nat} {a b c h v f : Value} (hs : b0 < w1.heap.size) (c0 : w1.cell? ⟨b0, 0, none⟩ = some a) (c1 : w1.cell? ⟨b0, 1, none⟩ = some b) (c2 : w1.cell? ⟨b0, 2, none⟩ = some c) (c3 : w1.cell? ⟨b0, 3, none⟩ = some h) (hb : Below w.heap.size w w1) :
    (w1.alloc (.cells #[v, f] 25)).drew.cell? ⟨b0, 0, none⟩ = some a ∧ (w1.alloc (.cells #[v, f] 25)).drew.cell? ⟨b0, 1, none⟩ = some b ∧ (w1.alloc (.cells #[v, f] 25)).drew.cell? ⟨b0, 2, none⟩ = some c ∧ (w1.alloc (.cells #[v, f] 25)).drew.cell? ⟨b0, 3, none⟩ = some h ∧
    (w1.alloc (.cells #[v, f] 25)).drew.cell? ⟨w1.heap.size, 0, none⟩ = some v ∧ (w1.alloc (.cells #[v, f] 25)).drew.cell? ⟨w1.heap.size, 1, none⟩ = some f ∧ w1.heap.size < (w1.alloc (.cells #[v, f] 25)).drew.heap.size ∧ Below w.heap.size w (w1.alloc (.cells #[v, f] 25)).drew := by
  have hk : Below w1.heap.size w1 (w1.alloc (.cells #[v, f] 25)).drew := (up1 (Below.refl _ _) _).drew
  have k : ∀ i, (w1.alloc (.cells #[v, f] 25)).drew.cell? ⟨b0, i, none⟩ = w1.cell? ⟨b0, i, none⟩ := fun i => hk.cell (show b0 < _ by omega)
  exact ⟨(k 0).trans c0, (k 1).trans c1, (k 2).trans c2, (k 3).trans c3, by simp, by simp, by simp, hb.trans (hk.mono hb.size)⟩

set_option maxHeartbeats 1000000 in
theorem walk (a b c h : Int) (wa : (Lit.int .i64 a).wf = true) (wb : (Lit.int .i64 b).wf = true) (wc : (Lit.int .i64 c).wf = true) (wh : (Lit.int .i64 h).wf = true) (w : World) :
    Calls Try.prog 3 #[.agg #[.int .i64 a, .int .i64 b, .int .i64 c, .int .i64 h]] w fun e w' => e = .returned (.bool true) ∧ Below w.heap.size w w' := by
  obtain ⟨h1, h2⟩ := wf64 wa
  obtain ⟨h3, h4⟩ := wf64 wb
  obtain ⟨h5, h6⟩ := wf64 wc
  clear wa wb wc wh
  have DI := mkHid (did_any a b c h h1 h2 h3 h4 h5 h6)
  have DO := mkHid (do_any a b c h h1 h2 h3 h4 h5 h6)
  have FI := mkHid (fits_any a b c h h1 h2 h3 h4 h5 h6)
  generalize mdV a b c h = V at *
  generalize mdF a b c h = F at *
  go_enter Try.func3, Try.ntmps3
  go_wp2_with fail
  refine (DI.out _).mono ?_
  rintro e w1 ⟨rfl, hb1⟩
  have hs : w.heap.size < w1.heap.size := by have := hb1.size; simp at this; omega
  have c0 : w1.cell? { block := w.heap.size, off := 0 } = some (.int .i64 a) := (hb1.cell (p := { block := w.heap.size, off := 0 }) (by simp)).trans (by simp)
  have c1 : w1.cell? { block := w.heap.size, off := 1 } = some (.int .i64 b) := (hb1.cell (p := { block := w.heap.size, off := 1 }) (by simp)).trans (by simp)
  have c2 : w1.cell? { block := w.heap.size, off := 2 } = some (.int .i64 c) := (hb1.cell (p := { block := w.heap.size, off := 2 }) (by simp)).trans (by simp)
  have c3 : w1.cell? { block := w.heap.size, off := 3 } = some (.int .i64 h) := (hb1.cell (p := { block := w.heap.size, off := 3 }) (by simp)).trans (by simp)
  have hb2 : Below w.heap.size w w1 := (up1 (Below.refl _ _) _).trans (hb1.mono (by simp))
  have HS0 := mkHid (held_first (v := .int .i64 V) (f := .bool F) hs c0 c1 c2 c3 hb2)
  go_wp2_with fail
  go_region_held3 (fun w' => w'.cell? { block := w.heap.size, off := 0 } = some (.int .i64 a) ∧ w'.cell? { block := w.heap.size, off := 1 } = some (.int .i64 b) ∧ w'.cell? { block := w.heap.size, off := 2 } = some (.int .i64 c) ∧ w'.cell? { block := w.heap.size, off := 3 } = some (.int .i64 h) ∧ w'.cell? { block := w1.heap.size, off := 0 } = some (.int .i64 V) ∧ w'.cell? { block := w1.heap.size, off := 1 } = some (.bool F) ∧ w1.heap.size < w'.heap.size ∧ Below w.heap.size w w')
    (first | exact HS0.out | exact held_next (by assumption) hs (by assumption))
    (first | (go_at_call 10; refine (DO.out _).mono ?_; rintro e w' ⟨rfl, hbx⟩) | (go_at_call 11; refine (FI.out _).mono ?_; rintro e w' ⟨rfl, hbx⟩) | (go_at_call 12; refine (wakes_any _).mono ?_; rintro e w' ⟨rfl, hbx⟩))
  go_wp2
  go_ret
  exact ⟨rfl, last8 (by assumption)⟩

set_option maxRecDepth 100000 in
theorem lifted (os : Os) (started : os.Started) (H : Type) (enc : TypeId × Value → H) :
    ReturnsInHanded {} Try.checked os 3 .any (Rows.muldivDoesSpec.pre6 enc Try.prog Try.f3 Rows.muldivDoesRow.domain false) (Rows.muldivDoesSpec.post enc Try.prog Try.f3 false true false false) := by
  refine returnsInHanded_of_change (C := Try.checked) own started (by kernel_rfl) Try.func3
    (ChangeSpec.witness6 (enc := enc) (C := Try.checked) false ⟨#[], #[.agg #[.int .i64 0, .int .i64 0, .int .i64 0, .int .i64 0]], []⟩ 8 (by kernel_rfl) (by kernel_rfl) (by kernel_rfl) (by kernel_rfl)) ?_
  intro W base args ds gs before hval0 hW hcnd _
  have hval : ∀ (j : Nat) t v, Try.f3.params[j]? = some t → args[j]? = some v → Value.okWide Try.prog W .any base t v := hval0
  have hW' := hW
  obtain ⟨p, q, hA0, hV, rfl, hfz, hnd⟩ := hW
  have hA : DataW.TrodAll enc Try.prog W 0 (fun _ => true) true Try.f3.params.toList args.toList ds p := hA0
  rw [Try.params3] at hA hval
  obtain ⟨v0, vs0, d0, ds0, p0, q0, hargs, rfl, rfl, h0, r0⟩ := trodAll_cons hA
  obtain ⟨rfl, rfl, rfl⟩ := trodAll_nil r0
  obtain rfl : args = #[v0] := by cases args; simp_all
  obtain ⟨rfl, rfl⟩ := trodVars_none hV
  obtain ⟨c0, c1, c2, c3, y0, y1, y2, y3, m, rfl, rfl, rfl, hy0, hy1, hy2, hy3⟩ := open_agg4 Try.underlying23 (by kernel_rfl) cells23 (hval 0 23 v0 rfl rfl) h0
  obtain ⟨a, e0, rfl, wa⟩ := DataW.trod_int Try.underlying2 hy0
  obtain ⟨b, e1, rfl, wb⟩ := DataW.trod_int Try.underlying2 hy1
  obtain ⟨c, e2, rfl, wc⟩ := DataW.trod_int Try.underlying2 hy2
  obtain ⟨h, e3, rfl, wh⟩ := DataW.trod_int Try.underlying3 hy3
  simp at e0 e1 e2 e3
  subst e0 e1 e2 e3
  clear hA0 hval0
  have structReads : ∀ (W' : World) (sp : Nat → Bool), DataW.Trod enc Try.prog W' 0 sp true 23 (.agg #[.int .i64 a, .int .i64 b, .int .i64 c, .int .i64 h]) (.agg [.lit (.int .i64 a), .lit (.int .i64 b), .lit (.int .i64 c), .lit (.int .i64 h)]) [] := fun W' sp =>
    shut_agg4 (y0 := (.lit (.int .i64 a), [])) (y1 := (.lit (.int .i64 b), [])) (y2 := (.lit (.int .i64 c), [])) (y3 := (.lit (.int .i64 h), [])) Try.underlying23 (by kernel_rfl) cells23 ⟨1, by simp [DataW.trod, Try.underlying2, wa]⟩ ⟨1, by simp [DataW.trod, Try.underlying2, wb]⟩ ⟨1, by simp [DataW.trod, Try.underlying2, wc]⟩ ⟨1, by simp [DataW.trod, Try.underlying3, wh]⟩
  refine (walk a b c h wa wb wc wh W).mono fun e W' ⟨he, bel⟩ => ?_
  subst he
  exact ⟨_, rfl, _, _, _, [], _, [], hW', trodAll_mk1 (shut_bool Try.underlying4 _), (trodAll_cons_mk (structReads _ _) trodAll_mk0), rfl, bel.frame _, fun h => by cases h⟩

theorem over : Rows.muldivDoesRow.holds Try.pinned (OpenSpec.ofChange Rows.muldivDoesSpec) :=
  OpenClaim.holds_of_wide 3 Try.f3 rfl rfl rfl rfl rfl rfl rfl ⟨rfl, rfl, rfl, rfl, rfl⟩ rfl rfl rfl rfl rfl (by kernel_rfl) Try.func3 (by kernel_rfl)
    (of_decide_eq_true (by kernel_rfl)) (by unfold Func.isWrapper; first | (rw [if_pos (by decide +kernel)]; kernel_rfl) | (rw [if_neg (by decide +kernel)]; exact ⟨rfl, rfl⟩))
    (fun os started H enc _ => lifted os started H enc)
end Go.Proofs.Ytfjnnceheekojaa.muldivDoes
namespace Go.Proofs.Ytfjnnceheekojaa
/-- The statement. -/
theorem muldivDoes_holds : Rows.MuldivDoesSaid := muldivDoes.over
#print axioms muldivDoes_holds
end Go.Proofs.Ytfjnnceheekojaa
