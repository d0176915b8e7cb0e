/-
  BitsFull: a writer stops at the greatest text; what would go beyond is not begun.
-/
import Derived.Test.YtibpmdgihgjnpaaRows
import Derived.WalkKit
import Derived.ProofKit
import Derived.OpenShut
import Derived.ShutString
import Derived.Test.YtibpmdgihgjnpaaBiK
import Derived.ChangeOld
import Derived.Below
namespace Go.Proofs.Ytibpmdgihgjnpaa.bitsFull
open Go.ChangeShapes Go.WideShapes Go.ChangeAt Go.RowKit
open Go.ChangeMaps (open_string shut_string)
set_option linter.unusedVariables false

theorem own : ownKnob Try.prog.godebug = none := by kernel_rfl

theorem laidOut : laidOutB Try.prog = true := by kernel_rfl

theorem q_bd (a : Int) : 0 ≤ (IntKind.u64.wrap a).tmod 32 ∧ (IntKind.u64.wrap a).tmod 32 < 32 := by
  have h : 0 ≤ IntKind.u64.wrap a := by rw [IntKind.wrap_u64]; omega
  rw [Int.tmod_eq_emod_of_nonneg h]; omega
theorem full_put {l : List Bool} (h : l.length = 524288) (x : Nat) (n : Int) (hn : 1 ≤ n) : putS l x n = l := by
  unfold putS; rw [if_neg (by omega)]
theorem full_none {l : List Bool} (h : l.length = 524288) (x : Nat) : putS l x 0 = l := by
  unfold putS; rw [if_pos (by omega)]; simp [bitsOf]
theorem full_align {l : List Bool} (h : l.length = 524288) : alignS l 64 = l := by
  unfold alignS; rw [if_pos (by rw [h]; decide), h]; simp [bitsOf]
theorem one_more {l : List Bool} {k : Nat} (h : l.length = 32 * k) (hk : k < 16384) (x : Nat) : (putS l x 32).length = 32 * (k + 1) := by
  unfold putS; rw [if_pos (by omega)]; simp; omega
set_option maxRecDepth 100000 in
set_option maxHeartbeats 1000000 in
theorem walk (a0 : Int) (a1 : Int) (w0 : (Lit.int .i64 a0).wf = true) (w1 : (Lit.int .u32 a1).wf = true) (w : World) :
    Calls Try.prog 6 #[.int .i64 a0, .int .u32 a1] w fun e w' => e = .returned (.bool true) ∧ Below w.heap.size w w' := by
  clear w0
  obtain ⟨x0, x1⟩ : 0 ≤ a1 ∧ a1 < 4294967296 := by simp [Lit.wf, IntKind.min, IntKind.max, IntKind.signed, IntKind.bits] at w1; omega
  clear w1
  have q := q_bd a0
  go_enter Try.func6, Try.ntmps6
  go_wp2_with fail
  refine (write_any _).mono ?_
  rintro e w1 ⟨rfl, h1, p1, s1⟩
  have H1 := mkHid h1
  have B1 := mkHid (p1.belowF w.heap.size (Nat.le_refl _))
  clear h1 p1 s1
  go_wp2_with fail
  go_loopw [7] (fun i wr => ∃ k : Nat, k ≤ 16384 ∧ i = .int .i64 (k : Int) ∧ Below w.heap.size w wr ∧ ∃ v l, Wr 55 wr w.heap.size v l ∧ l.length = 32 * k) (fun i _ => 16384 - (intOf i).toNat)
  case atStart => exact ⟨0, by omega, rfl, B1.out, _, _, H1.out, rfl⟩
  case round =>
    obtain ⟨k, hk, rfl, hb, v, l, hw, hl⟩ := hrel
    have HB := mkHid hb
    have HW := mkHid hw
    have HL := mkHid hl
    clear hb hw hl H1 B1
    by_cases hlt : k < 16384
    · go_wp2_with fail
      refine (put_any _ _ _ _ _ (by decide) (by decide) _ HW.out).mono ?_
      rintro e w2 ⟨rfl, v2, h2, t2⟩
      have H2 := mkHid h2
      have B2 := mkHid (HB.out.trans (t2.below HW.out w.heap.size (Nat.le_refl _)))
      clear h2 t2
      go_wp2
      go_roundw
      case rel => exact ⟨k + 1, by omega, by go_num, B2.out, v2, _, H2.out, one_more HL.out hlt _⟩
      case measure => simp [intOf]; omega
    · have ek : k = 16384 := by omega
      have HL : Hid (l.length = 524288) := by have := HL.out; show l.length = 524288; omega
      clear ek
      generalize hqq : (IntKind.u64.wrap a0).tmod 32 = qq at *
      have hs : ((packS l).size : Int) = 65536 := by rw [packS_size, HL.out]; rfl
      go_wp2_with fail
      refine (text_any _ _ _ _ HW.out).mono ?_
      rintro e w2 ⟨rfl, rfl⟩
      go_wp2_with fail
      refine (put_any _ _ _ _ _ x0 x1 _ HW.out).mono ?_
      rw [full_put HL.out _ _ (by omega)]
      rintro e w3 ⟨rfl, v3, h3, t3⟩
      have H3 := mkHid h3
      have B3 := mkHid (HB.out.trans (t3.below HW.out w.heap.size (Nat.le_refl _)))
      clear h3 t3
      go_wp2_with fail
      refine (put_any _ _ _ _ _ x0 x1 _ H3.out).mono ?_
      rw [full_none HL.out]
      rintro e w4 ⟨rfl, v4, h4, t4⟩
      have H4 := mkHid h4
      have B4 := mkHid (B3.out.trans (t4.below H3.out w.heap.size (Nat.le_refl _)))
      clear h4 t4
      go_wp2_with fail
      refine (align_any _ _ _ _ _ H4.out).mono ?_
      rw [full_align HL.out]
      rintro e w5 ⟨rfl, v5, h5, t5⟩
      have H5 := mkHid h5
      have B5 := mkHid (B4.out.trans (t5.below H4.out w.heap.size (Nat.le_refl _)))
      clear h5 t5
      go_wp2_with fail
      refine (text_any _ _ _ _ H5.out).mono ?_
      rintro e w6 ⟨rfl, rfl⟩
      go_wp2_with fail
      refine (wakes_any _).mono ?_
      rintro e w7 ⟨rfl, hb7⟩
      go_wp2
      go_ret
      exact ⟨rfl, B5.out.trans (hb7.mono B5.out.size)⟩

set_option maxRecDepth 100000 in
theorem lifted (os : Os) (started : os.Started) (H : Type) (enc : TypeId × Value → H) :
    ReturnsInHanded {} Try.checked os 6 .any (Rows.bitsFullSpec.pre6 enc Try.prog Try.f6 Rows.bitsFullRow.domain false) (Rows.bitsFullSpec.post enc Try.prog Try.f6 false true false false) := by
  refine returnsInHanded_of_change (C := Try.checked) own started (by kernel_rfl) Try.func6
    (ChangeSpec.witness6 (enc := enc) (C := Try.checked) false ⟨#[], #[.int .i64 0, .int .u32 0], []⟩ 8 (by kernel_rfl) (by kernel_rfl) (by kernel_rfl) (by kernel_rfl)) ?_
  intro W base args ds gs before hval0 hW hcnd _
  have hval : ∀ (j : Nat) t v, Try.f6.params[j]? = some t → args[j]? = some v → Value.okWide Try.prog W .any base t v := hval0
  have hW' := hW
  obtain ⟨p, q, hA0, hV, rfl, hfz, hnd⟩ := hW
  have hA : DataW.TrodAll enc Try.prog W 0 (fun _ => true) true Try.f6.params.toList args.toList ds p := hA0
  rw [Try.params6] at hA hval
  obtain ⟨v0, vs0, d0, ds0, p0, q0, hargs, rfl, rfl, h0, r0⟩ := trodAll_cons hA
  obtain ⟨v1, vs1, d1, ds1, p1, q1, rfl, rfl, rfl, h1, r1⟩ := trodAll_cons r0
  obtain ⟨rfl, rfl, rfl⟩ := trodAll_nil r1
  obtain rfl : args = #[v0, v1] := by cases args; simp_all
  obtain ⟨rfl, rfl⟩ := trodVars_none hV
  obtain ⟨a0, rfl, rfl, rfl, w0⟩ := open_int Try.underlying3 (hval 0 3 v0 rfl rfl) h0
  obtain ⟨a1, rfl, rfl, rfl, w1⟩ := open_int Try.underlying28 (hval 1 28 v1 rfl rfl) h1
  clear hA0 hval0
  refine (walk a0 a1 w0 w1 W).mono fun e W' ⟨he, bel⟩ => ?_
  subst he
  exact ⟨_, rfl, _, _, _, [], _, [], hW', trodAll_mk1 (shut_bool Try.underlying4 _), (trodAll_cons_mk (shut_int Try.underlying3 w0) (trodAll_cons_mk (shut_int Try.underlying28 w1) trodAll_mk0)), rfl, bel.frame _, fun h => by cases h⟩

theorem over : Rows.bitsFullRow.holds Try.pinned (OpenSpec.ofChange Rows.bitsFullSpec) :=
  OpenClaim.holds_of_wide 6 Try.f6 rfl rfl rfl rfl rfl rfl rfl ⟨rfl, rfl, rfl, rfl, rfl⟩ rfl rfl rfl rfl rfl (by kernel_rfl) Try.func6 (by kernel_rfl)
    (of_decide_eq_true (by kernel_rfl)) (by unfold Func.isWrapper; first | (rw [if_pos (by decide +kernel)]; kernel_rfl) | (rw [if_neg (by decide +kernel)]; exact ⟨rfl, rfl⟩))
    (fun os started H enc _ => lifted os started H enc)
end Go.Proofs.Ytibpmdgihgjnpaa.bitsFull
namespace Go.Proofs.Ytibpmdgihgjnpaa
/-- The statement. -/
theorem bitsFull_holds : Rows.BitsFullSaid := bitsFull.over
#print axioms bitsFull_holds
end Go.Proofs.Ytibpmdgihgjnpaa
