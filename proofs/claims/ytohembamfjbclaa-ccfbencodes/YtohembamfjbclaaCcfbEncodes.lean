/-
  CcfbEncodes: the body of every report, or that it is none, or too long.
-/
import Derived.Test.YtohembamfjbclaaRows
import Derived.WalkKit
import Derived.ProofKit
import Derived.OpenShut
import Derived.ShutString
import Derived.ChangeOld
import Derived.Below
import Derived.Deep.Slices
import Derived.Test.YtohembamfjbclaaCcS
import Derived.Test.YtohembamfjbclaaCcR
import Derived.Test.YtohembamfjbclaaCcQ
import Derived.Deep.RegionHeld3
namespace Go.Proofs.Ytohembamfjbclaa.ccfbEncodes
open Go.ChangeShapes Go.WideShapes Go.ChangeAt Go.RowKit
open Go.ChangeMaps (open_string shut_string)
set_option linter.unusedVariables false

theorem own : ownKnob Try.prog.godebug = none := by kernel_rfl
theorem laidOut : laidOutB Try.prog = true := by kernel_rfl

theorem open0 {H : Type} {enc : TypeId × Value → H} {W : World} {r : Reach} {b0 : Nat} {v : Value} {d : DataW H} {p : List MemPlace} (hv : Value.okWide Try.prog W r b0 25 v)
    (h : DataW.Trod enc Try.prog W 0 (fun _ => true) true 25 v d p) : ∃ sd a cap l st, v = rv sd a l.length cap st ∧ CIn W sd a l st := open_ccfb hv h
/-- What is kept of both reports. -/
def Two (w w' : World) (bx by_ : Nat) (sd : Int) (a a' : Option Addr) (cap cap' : Nat) (l : List Bk) (st : Int) : Prop := Ck w w' bx sd a cap l st ∧ Ck w w' by_ sd a' cap' l st
abbrev Sx (w : World) (bx by_ : Nat) (sd : Int) (a a' : Option Addr) (cap c' : Nat) (l : List Bk) (st : Int) (n : Nat) (w' : World) : Prop := w'.cell? ⟨bx, 0, none⟩ = some (.int .u32 sd) ∧ w'.cell? ⟨bx, 1, none⟩ = some (.slice a n cap) ∧ w'.cell? ⟨bx, 2, none⟩ = some (.int .u32 st) ∧ w'.cell? ⟨by_, 0, none⟩ = some (.int .u32 sd) ∧ w'.cell? ⟨by_, 1, none⟩ = some (.slice a' n c') ∧ w'.cell? ⟨by_, 2, none⟩ = some (.int .u32 st) ∧ Two w w' bx by_ sd a a' cap c' l st
theorem renc_at {sd st : Int} {a : Option Addr} {cap : Nat} {l : List Bk} {w : World} {S : ByteArray} {E : Int} (h : BA w.heap.size w a l) (s0 : 0 ≤ sd) (s1 : sd < 4294967296) (t0 : 0 ≤ st) (t1 : st < 4294967296) (h1 : encS sd l st = S) (h2 : encE l = E) :
    Calls Try.prog 12 #[.agg #[.int .u32 sd, .slice a l.length cap, .int .u32 st]] w fun e w' => e = .returned (.tuple #[.string S, .int .i64 E]) ∧ Below w.heap.size w w' := by
  subst h1 h2; exact renc_any sd st a cap l w h s0 s1 t0 t1
theorem two_next {w w1 w2 : World} {bx by_ : Nat} {sd : Int} {a a' : Option Addr} {cap cap' : Nat} {l : List Bk} {st : Int} {n : Nat} (hn : l.length = n) (h : Two w w1 bx by_ sd a a' cap cap' l st) (hb : Below w1.heap.size w1 w2) :
    w2.cell? ⟨bx, 0, none⟩ = some (.int .u32 sd) ∧ w2.cell? ⟨bx, 1, none⟩ = some (.slice a n cap) ∧ w2.cell? ⟨bx, 2, none⟩ = some (.int .u32 st) ∧ w2.cell? ⟨by_, 0, none⟩ = some (.int .u32 sd) ∧ w2.cell? ⟨by_, 1, none⟩ = some (.slice a' n cap') ∧ w2.cell? ⟨by_, 2, none⟩ = some (.int .u32 st) ∧ Two w w2 bx by_ sd a a' cap cap' l st := by
  subst hn
  have k1 := h.1.next hb
  have k2 := h.2.next hb
  obtain ⟨⟨c0, c1, c2⟩, _⟩ := cells3' k1.d
  obtain ⟨⟨g0, g1, g2⟩, _⟩ := cells3' k2.d
  exact ⟨c0, c1, c2, g0, g1, g2, k1, k2⟩
set_option maxRecDepth 100000 in
set_option maxHeartbeats 4000000 in
theorem walk (sd : Int) (a : Option Addr) (cap : Nat) (l : List Bk) (st : Int) (w : World) (w0 : CIn w sd a l st) : Calls Try.prog 3 #[rv sd a l.length cap st] w fun e w' => e = .returned (.bool true) ∧ Below w.heap.size w w' := by
  have HC := mkHid w0
  have K0 := mkHid (ck_box (sd := sd) (cap := cap) (st := st) w0.b)
  obtain ⟨n, HN⟩ : ∃ n, Hid (l.length = n) := ⟨_, rfl⟩
  obtain ⟨S, HSS⟩ : ∃ x, Hid (encS sd l st = x) := ⟨_, rfl⟩
  obtain ⟨E, HEE⟩ : ∃ x, Hid (encE l = x) := ⟨_, rfl⟩
  rw [HN.out] at K0 ⊢
  obtain ⟨bx, W, HBX, HW⟩ := boxed w sd (.slice a n cap) st
  rw [HW.out, HBX.out] at K0
  have LA := mkHid (large_any sd st a cap l W K0.out.b)
  unfold LargePost rv at LA
  rw [HN.out] at LA
  unfold rv
  clear w0
  go_enter Try.func3, Try.ntmps3
  go_wp2_with fail
  rw [HW.out, HBX.out]
  refine (LA.out).mono ?_
  rintro e w1 ⟨⟨g, rfl, hg⟩, a1⟩
  have K1 := mkHid (K0.out.ap a1)
  have HG := mkHid hg
  clear a1 K0 LA hg
  have kd := K1.out.d
  rw [HN.out] at kd
  obtain ⟨⟨c0, c1, c2⟩, _⟩ := cells3' kd
  clear kd
  cases g with
  | true =>
    go_wp2_with fail
    refine (wakes_any _).mono ?_
    rintro e w2 ⟨rfl, p2⟩
    have K2 := mkHid (K1.out.next p2)
    clear p2
    go_wp2
    go_ret
    exact ⟨rfl, K2.out.k.belowZ⟩
  | false =>
    obtain ⟨l1, l2, l3⟩ := HG.out rfl
    have CA := mkHid (copy_any sd st a cap l w1 K1.out.b (by rw [HN.out]; exact l1) l2)
    have HL1 := mkHid l1
    have HL2 := mkHid l2
    have HSZ := mkHid (show szB l ≤ 80400 by have := sz_nM l; rw [HN.out] at this; omega)
    unfold CopyPost rv at CA
    rw [HN.out] at CA
    clear l1 l2 l3 HG
    go_wp2_with fail
    refine (CA.out).mono ?_
    rintro e w2 ⟨a', c', rfl, hba, b2⟩
    have N2 := mkHid (ck_new (sd := sd) (cap := c') (st := st) hba (K1.out.next b2).k)
    have K2 := mkHid ((K1.out.next b2).ap ((Apart.refl _ _).alloc (.cells #[.int .u32 sd, .slice a' n c', .int .u32 st] 25)))
    rw [HN.out] at N2
    obtain ⟨by_, W2, HBY, HW2⟩ := boxed w2 sd (.slice a' n c') st
    rw [HW2.out, HBY.out] at N2
    rw [HW2.out] at K2
    have EA := mkHid (enc_at (cap := c') N2.out.b HC.out.s0 HC.out.s1 HC.out.t0 HC.out.t1 HSS.out HEE.out)
    rw [HN.out] at EA
    clear hba b2 CA K1 c0 c1 c2
    have nd := N2.out.d
    rw [HN.out] at nd
    obtain ⟨⟨g0, g1, g2⟩, _⟩ := cells3' nd
    clear nd
    go_upto_region 4 with fail
    rw [HW2.out, HBY.out]
    go_wp2_with fail
    refine (EA.out).mono ?_
    rintro e w3 ⟨rfl, b3⟩
    have K3 := mkHid (K2.out.next b3)
    have N3 := mkHid (N2.out.next b3)
    clear b3 K2 N2 EA g0 g1 g2
    have RA := mkHid (renc_at (cap := cap) K3.out.b HC.out.s0 HC.out.s1 HC.out.t0 HC.out.t1 HSS.out HEE.out)
    rw [HN.out] at RA
    have kd := K3.out.d
    rw [HN.out] at kd
    obtain ⟨⟨c0, c1, c2⟩, _⟩ := cells3' kd
    clear kd
    go_wp2_with fail
    refine (RA.out).mono ?_
    rintro e w4 ⟨rfl, b4⟩
    have T4 := mkHid (show Two w w4 bx by_ sd a a' cap c' l st from ⟨K3.out.next b4, N3.out.next b4⟩)
    clear b4 K3 N3 RA c0 c1 c2
    have GA := mkHid (show ∀ w', Sx w bx by_ sd a a' cap c' l st n w' → Calls Try.prog 13 #[.agg #[.int .u32 sd, .slice a' n c', .int .u32 st]] w' fun e w'' => e = .returned (.bool (goodL l)) ∧ Below w'.heap.size w' w'' from fun w' h => by
      have := good_any sd st a' c' l w' h.2.2.2.2.2.2.2.b
      unfold rv at this
      rw [HN.out] at this
      exact this.mono (fun e w'' h => ⟨h.1, h.2.belowZ⟩))
    have GB := mkHid (show ∀ w', Sx w bx by_ sd a a' cap c' l st n w' → Calls Try.prog 14 #[.agg #[.int .u32 sd, .slice a n cap, .int .u32 st]] w' fun e w'' => e = .returned (.bool (goodL l)) ∧ Below w'.heap.size w' w'' from fun w' h => by
      have := rgood_any sd st a cap l w' h.2.2.2.2.2.2.1.b
      unfold rv at this
      rw [HN.out] at this
      exact this.mono (fun e w'' h => ⟨h.1, h.2.belowZ⟩))
    have GS := mkHid (show ∀ w', Sx w bx by_ sd a a' cap c' l st n w' → Calls Try.prog 15 #[.agg #[.int .u32 sd, .slice a' n c', .int .u32 st], .agg #[.int .u32 sd, .slice a n cap, .int .u32 st]] w' fun e w'' => e = .returned (.bool true) ∧ Below w'.heap.size w' w'' from fun w' h => by
      have := same_is (cap := c') (cap' := cap) h.2.2.2.2.2.2.2.b h.2.2.2.2.2.2.1.b (same_yes (sd := sd) (st := st) ⟨rfl, rfl, rfl⟩)
      rw [HN.out] at this
      exact this.mono (fun e w'' h => ⟨h.1, h.2.belowZ⟩))
    have HNX := mkHid (fun (w1 w2 : World) (h : Two w w1 bx by_ sd a a' cap c' l st) (hb : Below w1.heap.size w1 w2) => two_next HN.out h hb)
    have HNY := mkHid (fun (w1 w2 : World) (hb : Below w1.heap.size w1 w2) (h : Sx w bx by_ sd a a' cap c' l st n w1) => (show Sx w bx by_ sd a a' cap c' l st n w2 from two_next HN.out h.2.2.2.2.2.2 hb))
    have HS0 := mkHid (HNX.out w4 w4 T4.out (Below.refl _ _))
    have HS1 := mkHid (HNX.out w4 w4.drew T4.out (Below.refl _ _).drew)
    cases hG : goodL l with
    | true =>
      rw [hG] at GA GB
      clear hG
      have td := HS1.out
      go_wp2_with fail
      go_region_held3 (fun w' => w'.cell? ⟨bx, 0, none⟩ = some (.int .u32 sd) ∧ w'.cell? ⟨bx, 1, none⟩ = some (.slice a n cap) ∧ w'.cell? ⟨bx, 2, none⟩ = some (.int .u32 st) ∧ w'.cell? ⟨by_, 0, none⟩ = some (.int .u32 sd) ∧ w'.cell? ⟨by_, 1, none⟩ = some (.slice a' n c') ∧ w'.cell? ⟨by_, 2, none⟩ = some (.int .u32 st) ∧ Two w w' bx by_ sd a a' cap c' l st)
        (first | exact HS0.out | exact HS1.out | exact HNY.out _ _ (by assumption) (by assumption))
        (first | (go_at_call 13; refine (GA.out _ (by first | assumption | exact HNY.out _ _ (by assumption) (by assumption))).mono ?_; rintro e w' ⟨rfl, hbx⟩) | (go_at_call 14; refine (GB.out _ (by first | assumption | exact HNY.out _ _ (by assumption) (by assumption))).mono ?_; rintro e w' ⟨rfl, hbx⟩) | (go_at_call 15; refine (GS.out _ (by first | assumption | exact HNY.out _ _ (by assumption) (by assumption))).mono ?_; rintro e w' ⟨rfl, hbx⟩) | (go_at_call 9; refine (wakes_any _).mono ?_; rintro e w' ⟨rfl, hbx⟩))
      go_wp2
      go_ret
      exact ⟨rfl, (show Sx w bx by_ sd a a' cap c' l st n _ by assumption).2.2.2.2.2.2.1.k.belowZ⟩
    | false =>
      rw [hG] at GA GB
      clear hG
      have td := HS1.out
      go_wp2_with fail
      go_region_held3 (fun w' => w'.cell? ⟨bx, 0, none⟩ = some (.int .u32 sd) ∧ w'.cell? ⟨bx, 1, none⟩ = some (.slice a n cap) ∧ w'.cell? ⟨bx, 2, none⟩ = some (.int .u32 st) ∧ w'.cell? ⟨by_, 0, none⟩ = some (.int .u32 sd) ∧ w'.cell? ⟨by_, 1, none⟩ = some (.slice a' n c') ∧ w'.cell? ⟨by_, 2, none⟩ = some (.int .u32 st) ∧ Two w w' bx by_ sd a a' cap c' l st)
        (first | exact HS0.out | exact HS1.out | exact HNY.out _ _ (by assumption) (by assumption))
        (first | (go_at_call 13; refine (GA.out _ (by first | assumption | exact HNY.out _ _ (by assumption) (by assumption))).mono ?_; rintro e w' ⟨rfl, hbx⟩) | (go_at_call 14; refine (GB.out _ (by first | assumption | exact HNY.out _ _ (by assumption) (by assumption))).mono ?_; rintro e w' ⟨rfl, hbx⟩) | (go_at_call 15; refine (GS.out _ (by first | assumption | exact HNY.out _ _ (by assumption) (by assumption))).mono ?_; rintro e w' ⟨rfl, hbx⟩) | (go_at_call 9; refine (wakes_any _).mono ?_; rintro e w' ⟨rfl, hbx⟩))
      go_wp2
      go_ret
      exact ⟨rfl, (show Sx w bx by_ sd a a' cap c' l st n _ by assumption).2.2.2.2.2.2.1.k.belowZ⟩

set_option maxRecDepth 100000 in
theorem lifted (os : Os) (started : os.Started) (H : Type) (enc : TypeId × Value → H) :
    ReturnsInHanded {} Try.checked os 3 .any (Rows.ccfbEncodesSpec.pre6 enc Try.prog Try.f3 Rows.ccfbEncodesRow.domain false) (Rows.ccfbEncodesSpec.post enc Try.prog Try.f3 false true false false) := by
  refine returnsInHanded_of_change (C := Try.checked) own started (by kernel_rfl) Try.func3
    (ChangeSpec.witness6 (enc := enc) (C := Try.checked) false ⟨#[], #[.agg #[.int .u32 0, .slice none 0 0, .int .u32 0]], []⟩ 8 (by kernel_rfl) (by kernel_rfl) (by kernel_rfl) (by kernel_rfl)) ?_
  intro W base args ds gs before hval0 hW hcnd _
  have hval : ∀ (j : Nat) t v, Try.f3.params[j]? = some t → args[j]? = some v → Value.okWide Try.prog W .any base t v := hval0
  have hW' := hW
  obtain ⟨p, q, hA0, hV, rfl, hfz, hnd⟩ := hW
  have hA : DataW.TrodAll enc Try.prog W 0 (fun _ => true) true Try.f3.params.toList args.toList ds p := hA0
  rw [Try.params3] at hA hval
  obtain ⟨v0, vs0, d0, ds0, p0, q0, hargs, rfl, rfl, h0, r0⟩ := trodAll_cons hA
  obtain ⟨rfl, rfl, rfl⟩ := trodAll_nil r0
  obtain rfl : args = #[v0] := by cases args; simp_all
  obtain ⟨rfl, rfl⟩ := trodVars_none hV
  have k0 := h0
  have lt0 : ∀ x ∈ p0, x.block < W.heap.size := by obtain ⟨m, hm⟩ := k0; exact DataW.trod_lt m _ _ _ hm
  obtain ⟨sd, a, cap, l, st, rfl, w0⟩ := open0 (hval 0 25 v0 rfl rfl) h0
  clear hA0 hval0
  refine (walk sd a cap l st W w0).mono fun e W' ⟨he, bel⟩ => ?_
  subst he
  exact ⟨_, rfl, _, _, _, [], _, [], hW', trodAll_mk1 (shut_bool Try.underlying4 _), (trodAll_cons_mk (Below.trod laidOut (by kernel_rfl) (of_decide_eq_true (by kernel_rfl)) k0 bel lt0) trodAll_mk0), rfl, bel.frame _, fun h => by cases h⟩

theorem over : Rows.ccfbEncodesRow.holds Try.pinned (OpenSpec.ofChange Rows.ccfbEncodesSpec) :=
  OpenClaim.holds_of_wide 3 Try.f3 rfl rfl rfl rfl rfl rfl rfl ⟨rfl, rfl, rfl, rfl, rfl⟩ rfl rfl rfl rfl rfl (by kernel_rfl) Try.func3 (by kernel_rfl)
    (of_decide_eq_true (by kernel_rfl)) (by unfold Func.isWrapper; first | (rw [if_pos (by decide +kernel)]; kernel_rfl) | (rw [if_neg (by decide +kernel)]; exact ⟨rfl, rfl⟩))
    (fun os started H enc _ => lifted os started H enc)
end Go.Proofs.Ytohembamfjbclaa.ccfbEncodes
namespace Go.Proofs.Ytohembamfjbclaa
/-- The statement. -/
theorem ccfbEncodes_holds : Rows.CcfbEncodesSaid := ccfbEncodes.over
#print axioms ccfbEncodes_holds
end Go.Proofs.Ytohembamfjbclaa
