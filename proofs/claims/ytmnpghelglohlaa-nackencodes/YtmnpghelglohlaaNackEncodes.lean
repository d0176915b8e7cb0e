/-
  NackEncodes: the body of every list, or that it is none.
-/
import Derived.Test.YtmnpghelglohlaaRows
import Derived.WalkKit
import Derived.ProofKit
import Derived.OpenShut
import Derived.ShutString
import Derived.ChangeOld
import Derived.Below
import Derived.Deep.Slices
import Derived.Test.YtmnpghelglohlaaNkV
import Derived.Test.YtmnpghelglohlaaNkN
namespace Go.Proofs.Ytmnpghelglohlaa.nackEncodes
open Go.ChangeShapes Go.WideShapes Go.ChangeAt Go.RowKit
open Go.ChangeMaps (open_string shut_string)
set_option linter.unusedVariables false

theorem own : ownKnob Try.prog.godebug = none := by kernel_rfl
theorem laidOut : laidOutB Try.prog = true := by kernel_rfl

theorem open0 {H : Type} {enc : TypeId × Value → H} {W : World} {r : Reach} {b0 : Nat} {v : Value} {d : DataW H} {p : List MemPlace} (hv : Value.okWide Try.prog W r b0 25 v)
    (h : DataW.Trod enc Try.prog W 0 (fun _ => true) true 25 v d p) : ∃ r a c, v = nv r a r.lo.length c ∧ CIn W r a c := open_nack hv h
theorem renc_at {r : Nk} {a : Option Addr} {c : Nat} {w : World} {S : ByteArray} {E : Int} (h : IA w.heap.size w a c r.lo) (s0 : 0 ≤ r.sd) (s1 : r.sd < 4294967296) (t0 : 0 ≤ r.md) (t1 : r.md < 4294967296) (h1 : encS r = S) (h2 : encE r = E) :
    Calls Try.prog 11 #[nv r a r.lo.length c] w fun e w' => e = .returned (.tuple #[.string S, .int .i64 E]) ∧ Below w.heap.size w w' := by
  subst h1 h2; exact renc_any r a c w h s0 s1 t0 t1
set_option maxRecDepth 100000 in
set_option maxHeartbeats 2000000 in
theorem walk (r : Nk) (a : Option Addr) (c : Nat) (w : World) (w0 : CIn w r a c) : Calls Try.prog 3 #[nv r a r.lo.length c] w fun e w' => e = .returned (.bool true) ∧ Below w.heap.size w w' := by
  have HC := mkHid w0
  have K0 := mkHid (ck_new (c := c) w0.i (Apart.refl (fun _ => False) w))
  obtain ⟨S, HSS⟩ : ∃ x, Hid (encS r = x) := ⟨_, rfl⟩
  obtain ⟨E, HEE⟩ : ∃ x, Hid (encE r = x) := ⟨_, rfl⟩
  obtain ⟨n, HN⟩ : ∃ n, Hid (r.lo.length = n) := ⟨_, rfl⟩
  have m1 := w0.i.len
  rw [HN.out] at m1
  obtain ⟨bx, W, HBX, HW⟩ := boxed w (bxO r a r.lo.length c)
  rw [HW.out, HBX.out] at K0
  clear w0
  obtain ⟨c0, c1, c2⟩ := K0.out.d.c
  rw [HN.out] at c2
  unfold nv
  rw [HN.out]
  have HWN := mkHid HW.out
  rw [HN.out] at HWN
  by_cases h7 : (5000 : Int) < n
  · go_enter Try.func3, Try.ntmps3
    go_wp2_with fail
    rw [HWN.out]
    refine (wakes_any _).mono ?_
    rintro e w9 ⟨rfl, p9⟩
    have K9 := mkHid (K0.out.next p9)
    clear p9
    go_wp2
    go_ret
    exact ⟨rfl, K9.out.k.belowZ⟩
  · have FA := mkHid (few_any r a c W K0.out.i (by rw [HN.out]; omega))
    unfold nv at FA
    rw [HN.out] at FA
    go_enter Try.func3, Try.ntmps3
    go_wp2_with fail
    rw [HWN.out, HBX.out]
    go_wp2_with fail
    refine (FA.out).mono ?_
    rintro e w1 ⟨⟨b, d, rfl, hi⟩, a1⟩
    have K1 := mkHid (K0.out.ap a1)
    have N1 := mkHid (ck_new hi K1.out.k)
    have K2 := mkHid (K1.out.ap ((Apart.refl _ _).alloc (bxO r b r.lo.length d)))
    obtain ⟨by_, W2, HBY, HW2⟩ := boxed w1 (bxO r b r.lo.length d)
    rw [HW2.out, HBY.out] at N1
    rw [HW2.out] at K2
    rw [HN.out] at HW2
    have EA := mkHid (enc_at (c := d) N1.out.i HC.out.s0 HC.out.s1 HC.out.t0 HC.out.t1 HSS.out HEE.out)
    unfold nv at EA
    rw [HN.out] at EA
    clear hi a1 FA K0 K1 c0 c1 c2
    obtain ⟨c0, c1, c2⟩ := K2.out.d.c
    obtain ⟨g0, g1, g2⟩ := N1.out.d.c
    rw [HN.out] at c2 g2
    go_upto_region 4 with fail
    rw [HW2.out, HBY.out]
    go_wp2_with fail
    refine (EA.out).mono ?_
    rintro e w3 ⟨rfl, b3⟩
    have K3 := mkHid (K2.out.next b3)
    have N3 := mkHid (N1.out.next b3)
    have RA := mkHid (renc_at (c := c) K3.out.i HC.out.s0 HC.out.s1 HC.out.t0 HC.out.t1 HSS.out HEE.out)
    unfold nv at RA
    rw [HN.out] at RA
    clear b3 EA K2 N1 c0 c1 c2 g0 g1 g2
    obtain ⟨c0, c1, c2⟩ := K3.out.d.c
    rw [HN.out] at c2
    go_wp2_with fail
    refine (RA.out).mono ?_
    rintro e w4 ⟨rfl, b4⟩
    have K4 := mkHid (K3.out.next b4)
    have N4 := mkHid (N3.out.next b4)
    have SA := mkHid (same_self r b d a c w4 N4.out.i K4.out.i)
    unfold nv at SA
    rw [HN.out] at SA
    clear b4 RA K3 N3 c0 c1 c2
    obtain ⟨c0, c1, c2⟩ := K4.out.d.c
    obtain ⟨g0, g1, g2⟩ := N4.out.d.c
    rw [HN.out] at c2 g2
    go_wp2_with fail
    refine (SA.out).mono ?_
    rintro e w5 ⟨rfl, a5⟩
    have K5 := mkHid (K4.out.ap a5)
    clear a5 SA K4 N4 c0 c1 c2 g0 g1 g2
    go_wp2_with fail
    refine (wakes_any _).mono ?_
    rintro e w9 ⟨rfl, p9⟩
    have K9 := mkHid (K5.out.next p9)
    clear p9
    go_wp2
    go_ret
    exact ⟨rfl, K9.out.k.belowZ⟩

set_option maxRecDepth 100000 in
theorem lifted (os : Os) (started : os.Started) (H : Type) (enc : TypeId × Value → H) :
    ReturnsInHanded {} Try.checked os 3 .any (Rows.nackEncodesSpec.pre6 enc Try.prog Try.f3 Rows.nackEncodesRow.domain false) (Rows.nackEncodesSpec.post enc Try.prog Try.f3 false true false false) := by
  refine returnsInHanded_of_change (C := Try.checked) own started (by kernel_rfl) Try.func3
    (ChangeSpec.witness6 (enc := enc) (C := Try.checked) false ⟨#[], #[.agg #[.int .u32 0, .int .u32 0, .slice none 0 0]], []⟩ 8 (by kernel_rfl) (by kernel_rfl) (by kernel_rfl) (by kernel_rfl)) ?_
  intro W base args ds gs before hval0 hW hcnd _
  have hval : ∀ (j : Nat) t v, Try.f3.params[j]? = some t → args[j]? = some v → Value.okWide Try.prog W .any base t v := hval0
  have hW' := hW
  obtain ⟨p, q, hA0, hV, rfl, hfz, hnd⟩ := hW
  have hA : DataW.TrodAll enc Try.prog W 0 (fun _ => true) true Try.f3.params.toList args.toList ds p := hA0
  rw [Try.params3] at hA hval
  obtain ⟨v0, vs0, d0, ds0, p0, q0, hargs, rfl, rfl, h0, r0⟩ := trodAll_cons hA
  obtain ⟨rfl, rfl, rfl⟩ := trodAll_nil r0
  obtain rfl : args = #[v0] := by cases args; simp_all
  obtain ⟨rfl, rfl⟩ := trodVars_none hV
  have k0 := h0
  have lt0 : ∀ x ∈ p0, x.block < W.heap.size := by obtain ⟨m, hm⟩ := k0; exact DataW.trod_lt m _ _ _ hm
  obtain ⟨r, a, c, rfl, w0⟩ := open0 (hval 0 25 v0 rfl rfl) h0
  clear hA0 hval0
  refine (walk r a c W w0).mono fun e W' ⟨he, bel⟩ => ?_
  subst he
  exact ⟨_, rfl, _, _, _, [], _, [], hW', trodAll_mk1 (shut_bool Try.underlying4 _), (trodAll_cons_mk (Below.trod laidOut (by kernel_rfl) (of_decide_eq_true (by kernel_rfl)) k0 bel lt0) trodAll_mk0), rfl, bel.frame _, fun h => by cases h⟩

theorem over : Rows.nackEncodesRow.holds Try.pinned (OpenSpec.ofChange Rows.nackEncodesSpec) :=
  OpenClaim.holds_of_wide 3 Try.f3 rfl rfl rfl rfl rfl rfl rfl ⟨rfl, rfl, rfl, rfl, rfl⟩ rfl rfl rfl rfl rfl (by kernel_rfl) Try.func3 (by kernel_rfl)
    (of_decide_eq_true (by kernel_rfl)) (by unfold Func.isWrapper; first | (rw [if_pos (by decide +kernel)]; kernel_rfl) | (rw [if_neg (by decide +kernel)]; exact ⟨rfl, rfl⟩))
    (fun os started H enc _ => lifted os started H enc)
end Go.Proofs.Ytmnpghelglohlaa.nackEncodes
namespace Go.Proofs.Ytmnpghelglohlaa
/-- The statement. -/
theorem nackEncodes_holds : Rows.NackEncodesSaid := nackEncodes.over
#print axioms nackEncodes_holds
end Go.Proofs.Ytmnpghelglohlaa
