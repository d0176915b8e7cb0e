/-
  FeedReads: what any bytes tell near any time, or the first thing that is wrong.
-/
import Derived.Test.YtdhbakknplnnkaaGreatRows
import Derived.WalkKit
import Derived.ProofKit
import Derived.OpenShut
import Derived.ShutString
import Derived.ChangeOld
import Derived.Below
import Derived.Deep.Slices
import Derived.Test.YtdhbakknplnnkaaGreatFdT
import Derived.Test.YtdhbakknplnnkaaGreatFdY
import Derived.Test.YtdhbakknplnnkaaGreatNk2
namespace Go.Proofs.YtdhbakknplnnkaaGreat.feedReads
open Go.ChangeShapes Go.WideShapes Go.ChangeAt Go.RowKit
open Go.ChangeMaps (open_string shut_string)
set_option linter.unusedVariables false

theorem own : ownKnob Tryz.prog.godebug = none := by kernel_rfl
theorem laidOut : laidOutB Tryz.prog = true := by kernel_rfl

open Go.Proofs.YtdhbakknplnnkaaGreat.Fd Go.Proofs.YtdhbakknplnnkaaGreat.Nk
set_option maxRecDepth 100000 in
set_option maxHeartbeats 4000000 in
theorem walk (a0 : ByteArray) (a1 : Int) (w : World) (w0 : a0.size ≤ maxLen) (w1 : (Lit.int .i64 a1).wf = true) : Calls Tryz.prog 3 #[.string a0, .int .i64 a1] w fun e w' => e = .returned (.bool true) ∧ Below w.heap.size w w' := by
  have hw0 : (a0.size : Int) ≤ 9223372036854775807 := by unfold maxLen at w0; omega
  clear w0 w1
  by_cases h7 : (70000 : Int) < a0.size
  · go_enter Tryz.func3, Tryz.ntmps3
    go_wp2_with fail
    refine (Fd.wakes_any _).mono ?_
    rintro e w9 ⟨rfl, p9⟩
    go_wp2
    go_ret
    exact ⟨rfl, p9⟩
  · have RP := mkHid (Fd.read_any a0 (by omega) a1)
    have RR := mkHid (rread_any a0 (by omega) a1)
    unfold RdPost fv at RP RR
    obtain ⟨R, HR⟩ : ∃ R, Hid (fdR a0 a1 = R) := ⟨_, rfl⟩
    obtain ⟨A, HA⟩ : ∃ R, Hid (fdA a0 a1 = R) := ⟨_, rfl⟩
    obtain ⟨E, HE⟩ : ∃ R, Hid (fdE a0 a1 = R) := ⟨_, rfl⟩
    rw [HR.out, HA.out, HE.out] at RP RR
    go_enter Tryz.func3, Tryz.ntmps3
    go_wp2_with fail
    refine (RP.out _).mono ?_
    rintro e w1 ⟨⟨a, c, a', c', rfl, ra, ia⟩, b1⟩
    have F1 := mkHid (Fb.new (c := c) 26 ra ia b1)
    obtain ⟨bx, HBX⟩ : ∃ bx, Hid (w1.heap.size = bx) := ⟨_, rfl⟩
    obtain ⟨W1, HW1⟩ : ∃ W, Hid (w1.alloc (.cells #[.slice a R.length c, .slice a' A.length c'] 26) = W) := ⟨_, rfl⟩
    rw [HW1.out, HBX.out] at F1
    clear ra ia b1 RP
    go_upto_region 4 with fail
    rw [HW1.out, HBX.out]
    go_wp2_with fail
    refine (RR.out _).mono ?_
    rintro e w2 ⟨⟨b, d, b', d', rfl, ra, ia⟩, b2⟩
    have F2 := mkHid (F1.out.next b2)
    have G2 := mkHid (Fb.new (c := d) 30 ra ia (Below.refl _ w2))
    have F3 := mkHid (F2.out.next (al_below w2 (.cells #[.slice b R.length d, .slice b' A.length d'] 30)))
    obtain ⟨by_, HBY⟩ : ∃ bx, Hid (w2.heap.size = bx) := ⟨_, rfl⟩
    obtain ⟨W3, HW3⟩ : ∃ W, Hid (w2.alloc (.cells #[.slice b R.length d, .slice b' A.length d'] 30) = W) := ⟨_, rfl⟩
    rw [HW3.out, HBY.out] at G2
    rw [HW3.out] at F3
    clear ra ia b2 RR F1 F2
    have RS := mkHid (reports_self W3.heap.size a c b d R W3 (Nat.le_refl _) F3.out.r G2.out.r)
    obtain ⟨⟨c0, c1⟩, -⟩ := Fd.cells2 F3.out.d
    obtain ⟨⟨d0, d1⟩, -⟩ := Fd.cells2 G2.out.d
    go_upto_region 5 with fail
    rw [HW3.out, HBY.out]
    go_wp2_with fail
    refine (RS.out).mono ?_
    rintro e w4 ⟨rfl, b4⟩
    have F4 := mkHid (F3.out.next b4)
    have G4 := mkHid (G2.out.next b4)
    clear b4 RS c0 c1 d0 d1 F3 G2
    have IS := mkHid (ints_self w4.heap.size a' c' b' d' A w4 (Nat.le_refl _) F4.out.i G4.out.i)
    obtain ⟨⟨c0, c1⟩, -⟩ := Fd.cells2 F4.out.d
    obtain ⟨⟨d0, d1⟩, -⟩ := Fd.cells2 G4.out.d
    go_wp2_with fail
    refine (IS.out).mono ?_
    rintro e w5 ⟨rfl, a5⟩
    have F5 := mkHid (F4.out.next a5.belowZ)
    clear a5 IS c0 c1 d0 d1 F4 G4
    go_wp2_with fail
    refine (Fd.wakes_any _).mono ?_
    rintro e w9 ⟨rfl, p9⟩
    have F9 := mkHid (F5.out.next p9)
    clear p9
    go_wp2
    go_ret
    exact ⟨rfl, F9.out.k⟩

set_option maxRecDepth 100000 in
theorem lifted (os : Os) (started : os.Started) (H : Type) (enc : TypeId × Value → H) :
    ReturnsInHanded {} Tryz.checked os 3 .any (Rows.feedReadsSpec.pre6 enc Tryz.prog Tryz.f3 Rows.feedReadsRow.domain false) (Rows.feedReadsSpec.post enc Tryz.prog Tryz.f3 false true false false) := by
  refine returnsInHanded_of_change (C := Tryz.checked) own started (by kernel_rfl) Tryz.func3
    (ChangeSpec.witness6 (enc := enc) (C := Tryz.checked) false ⟨#[], #[.string ByteArray.empty, .int .i64 0], []⟩ 8 (by kernel_rfl) (by kernel_rfl) (by kernel_rfl) (by kernel_rfl)) ?_
  intro W base args ds gs before hval0 hW hcnd _
  have hval : ∀ (j : Nat) t v, Tryz.f3.params[j]? = some t → args[j]? = some v → Value.okWide Tryz.prog W .any base t v := hval0
  have hW' := hW
  obtain ⟨p, q, hA0, hV, rfl, hfz, hnd⟩ := hW
  have hA : DataW.TrodAll enc Tryz.prog W 0 (fun _ => true) true Tryz.f3.params.toList args.toList ds p := hA0
  rw [Tryz.params3] at hA hval
  obtain ⟨v0, vs0, d0, ds0, p0, q0, hargs, rfl, rfl, h0, r0⟩ := trodAll_cons hA
  obtain ⟨v1, vs1, d1, ds1, p1, q1, rfl, rfl, rfl, h1, r1⟩ := trodAll_cons r0
  obtain ⟨rfl, rfl, rfl⟩ := trodAll_nil r1
  obtain rfl : args = #[v0, v1] := by cases args; simp_all
  obtain ⟨rfl, rfl⟩ := trodVars_none hV
  obtain ⟨a0, rfl, rfl, rfl, w0⟩ := open_string Tryz.underlying9 (hval 0 9 v0 rfl rfl) h0
  obtain ⟨a1, rfl, rfl, rfl, w1⟩ := open_int Tryz.underlying2 (hval 1 2 v1 rfl rfl) h1
  clear hA0 hval0
  refine (walk a0 a1 W w0 w1).mono fun e W' ⟨he, bel⟩ => ?_
  subst he
  exact ⟨_, rfl, _, _, _, [], _, [], hW', trodAll_mk1 (shut_bool Tryz.underlying4 _), (trodAll_cons_mk (shut_string Tryz.underlying9 w0) (trodAll_cons_mk (shut_int Tryz.underlying2 w1) trodAll_mk0)), rfl, bel.frame _, fun h => by cases h⟩

theorem over : Rows.feedReadsRow.holds Tryz.pinned (OpenSpec.ofChange Rows.feedReadsSpec) :=
  OpenClaim.holds_of_wide 3 Tryz.f3 rfl rfl rfl rfl rfl rfl rfl ⟨rfl, rfl, rfl, rfl, rfl⟩ rfl rfl rfl rfl rfl (by kernel_rfl) Tryz.func3 (by kernel_rfl)
    (of_decide_eq_true (by kernel_rfl)) (by unfold Func.isWrapper; first | (rw [if_pos (by decide +kernel)]; kernel_rfl) | (rw [if_neg (by decide +kernel)]; exact ⟨rfl, rfl⟩))
    (fun os started H enc _ => lifted os started H enc)
end Go.Proofs.YtdhbakknplnnkaaGreat.feedReads
namespace Go.Proofs.YtdhbakknplnnkaaGreat
/-- The statement. -/
theorem feedReads_holds : Rows.FeedReadsSaid := feedReads.over
#print axioms feedReads_holds
end Go.Proofs.YtdhbakknplnnkaaGreat
