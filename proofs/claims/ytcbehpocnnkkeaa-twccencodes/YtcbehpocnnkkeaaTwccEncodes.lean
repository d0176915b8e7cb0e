/-
  TwccEncodes: the body of every report, or that it is none.
-/
import Derived.Test.YtcbehpocnnkkeaaRows
import Derived.WalkKit
import Derived.ProofKit
import Derived.OpenShut
import Derived.ShutString
import Derived.ChangeOld
import Derived.Below
import Derived.Deep.Slices
import Derived.Test.YtcbehpocnnkkeaaTwV
import Derived.Test.YtcbehpocnnkkeaaTwN
import Derived.Deep.RegionHeld3
namespace Go.Proofs.Ytcbehpocnnkkeaa.twccEncodes
open Go.ChangeShapes Go.WideShapes Go.ChangeAt Go.RowKit
open Go.ChangeMaps (open_string shut_string)
set_option linter.unusedVariables false

theorem own : ownKnob Try.prog.godebug = none := by kernel_rfl
theorem laidOut : laidOutB Try.prog = true := by kernel_rfl

theorem open0 {H : Type} {enc : TypeId × Value → H} {W : World} {r : Reach} {b0 : Nat} {v : Value} {d : DataW H} {p : List MemPlace} (hv : Value.okWide Try.prog W r b0 25 v)
    (h : DataW.Trod enc Try.prog W 0 (fun _ => true) true 25 v d p) : ∃ r a c a' c', v = rv r a r.st.length c a' r.dl.length c' ∧ CIn W r a c a' c' := open_twcc hv h
theorem renc_at {r : Rp} {a : Option Addr} {c : Nat} {a' : Option Addr} {c' : Nat} {w : World} {S : ByteArray} {E : Int} (h : IA w.heap.size w a c r.st) (h' : IA w.heap.size w a' c' r.dl) (s0 : 0 ≤ r.sd) (s1 : r.sd < 4294967296) (t0 : 0 ≤ r.md) (t1 : r.md < 4294967296) (h1 : encS r = S) (h2 : encE r = E) :
    Calls Try.prog 12 #[rv r a r.st.length c a' r.dl.length c'] w fun e w' => e = .returned (.tuple #[.string S, .int .i64 E]) ∧ Below w.heap.size w w' := by
  subst h1 h2; exact renc_any r a c a' c' w h h' s0 s1 t0 t1
/-- A box's cells. -/
abbrev C7 (w : World) (b : Nat) (r : Rp) (a : Option Addr) (n c : Nat) (a' : Option Addr) (n' c' : Nat) : Prop := w.cell? ⟨b, 0, none⟩ = some (.int .u32 r.sd) ∧ w.cell? ⟨b, 1, none⟩ = some (.int .u32 r.md) ∧ w.cell? ⟨b, 2, none⟩ = some (.int .i64 r.fi) ∧ w.cell? ⟨b, 3, none⟩ = some (.int .i64 r.ba) ∧ w.cell? ⟨b, 4, none⟩ = some (.int .i64 r.co) ∧ w.cell? ⟨b, 5, none⟩ = some (.slice a n c) ∧ w.cell? ⟨b, 6, none⟩ = some (.slice a' n' c')
/-- What is kept of both reports. -/
def Two (w w' : World) (bx by_ : Nat) (r : Rp) (a a' b b' : Option Addr) (c c' d d' : Nat) : Prop := Ck w w' bx r a c a' c' ∧ Ck w w' by_ r b d b' d'
abbrev Sx (w : World) (bx by_ : Nat) (r : Rp) (a a' b b' : Option Addr) (c c' d d' n m : Nat) (w' : World) : Prop := C7 w' bx r a n c a' m c' ∧ C7 w' by_ r b n d b' m d' ∧ Two w w' bx by_ r a a' b b' c c' d d'
theorem two_next {w w1 w2 : World} {bx by_ : Nat} {r : Rp} {a a' b b' : Option Addr} {c c' d d' n m : Nat} (hn : r.st.length = n) (hm : r.dl.length = m) (h : Two w w1 bx by_ r a a' b b' c c' d d') (hb : Below w1.heap.size w1 w2) : Sx w bx by_ r a a' b b' c c' d d' n m w2 := by
  subst hn hm
  have k1 := h.1.next hb
  have k2 := h.2.next hb
  exact ⟨k1.d.c, k2.d.c, k1, k2⟩
set_option maxRecDepth 100000 in
set_option maxHeartbeats 4000000 in
theorem walk (r : Rp) (a : Option Addr) (c : Nat) (a' : Option Addr) (c' : Nat) (w : World) (w0 : CIn w r a c a' c') : Calls Try.prog 3 #[rv r a r.st.length c a' r.dl.length c'] w fun e w' => e = .returned (.bool true) ∧ Below w.heap.size w w' := by
  have HC := mkHid w0
  have K0 := mkHid (ck_new (c := c) (c' := c') w0.i w0.j (Apart.refl (fun _ => False) w))
  obtain ⟨S, HSS⟩ : ∃ x, Hid (encS r = x) := ⟨_, rfl⟩
  obtain ⟨E, HEE⟩ : ∃ x, Hid (encE r = x) := ⟨_, rfl⟩
  obtain ⟨n, HN⟩ : ∃ x, Hid (r.st.length = x) := ⟨_, rfl⟩
  obtain ⟨m, HM⟩ : ∃ x, Hid (r.dl.length = x) := ⟨_, rfl⟩
  rw [HN.out, HM.out] at K0
  obtain ⟨bx, W, HBX, HW⟩ := boxed w (bxO r a n c a' m c')
  rw [HW.out, HBX.out] at K0
  have LA := mkHid (large_any r a c a' c' W K0.out.i K0.out.j)
  obtain ⟨g, HG⟩ : ∃ g, Hid (lgR r = g) := ⟨_, rfl⟩
  rw [HG.out] at LA
  clear w0
  obtain ⟨c0, c1, c2, c3, c4, c5, c6⟩ := K0.out.d.c
  unfold rv at LA ⊢
  rw [HN.out] at LA c5 ⊢
  rw [HM.out] at LA c6 ⊢
  go_enter Try.func3, Try.ntmps3
  go_wp2_with fail
  rw [HW.out, HBX.out]
  go_wp2_with fail
  refine (LA.out).mono ?_
  rintro e w1 ⟨rfl, ap1⟩
  have K1 := mkHid (K0.out.ap ap1)
  clear ap1 K0 LA c0 c1 c2 c3 c4 c5 c6
  obtain ⟨c0, c1, c2, c3, c4, c5, c6⟩ := K1.out.d.c
  rw [HN.out] at c5
  rw [HM.out] at c6
  cases g with
  | true =>
    go_wp2_with fail
    refine (wakes_any _).mono ?_
    rintro e w9 ⟨rfl, p9⟩
    have K9 := mkHid (K1.out.next p9)
    clear p9
    go_wp2
    go_ret
    exact ⟨rfl, K9.out.k.belowZ⟩
  | false =>
    have CA := mkHid (copy_any r a c a' c' w1 K1.out.i K1.out.j (by have := lgR_no HG.out; omega) (by have := lgR_no HG.out; omega))
    unfold rv at CA
    rw [HN.out, HM.out] at CA
    go_wp2_with fail
    refine (CA.out).mono ?_
    rintro e w2 ⟨b, d, b', d', rfl, hi, hj, b2⟩
    have N2 := mkHid (ck_new (c := d) (c' := d') hi hj (K1.out.ap b2).k)
    have K2 := mkHid ((K1.out.ap b2).ap ((Apart.refl _ _).alloc (bxO r b r.st.length d b' r.dl.length d')))
    rw [HN.out, HM.out] at N2 K2
    obtain ⟨by_, W2, HBY, HW2⟩ := boxed w2 (bxO r b n d b' m d')
    rw [HW2.out, HBY.out] at N2
    rw [HW2.out] at K2
    have EA := mkHid (enc_at (c := d) (c' := d') N2.out.i N2.out.j HC.out.s0 HC.out.s1 HC.out.t0 HC.out.t1 HSS.out HEE.out)
    unfold rv at EA
    rw [HN.out, HM.out] at EA
    clear hi hj b2 CA K1 c0 c1 c2 c3 c4 c5 c6
    obtain ⟨g0, g1, g2, g3, g4, g5, g6⟩ := N2.out.d.c
    rw [HN.out] at g5
    rw [HM.out] at g6
    go_upto_region 4 with fail
    rw [HW2.out, HBY.out]
    go_wp2_with fail
    refine (EA.out).mono ?_
    rintro e w3 ⟨rfl, b3⟩
    have K3 := mkHid (K2.out.next b3)
    have N3 := mkHid (N2.out.next b3)
    clear b3 K2 N2 EA g0 g1 g2 g3 g4 g5 g6
    have RA := mkHid (renc_at (c := c) (c' := c') K3.out.i K3.out.j HC.out.s0 HC.out.s1 HC.out.t0 HC.out.t1 HSS.out HEE.out)
    unfold rv at RA
    rw [HN.out, HM.out] at RA
    obtain ⟨c0, c1, c2, c3, c4, c5, c6⟩ := K3.out.d.c
    rw [HN.out] at c5
    rw [HM.out] at c6
    go_wp2_with fail
    refine (RA.out).mono ?_
    rintro e w4 ⟨rfl, b4⟩
    have T4 := mkHid (show Two w w4 bx by_ r a a' b b' c c' d d' from ⟨K3.out.next b4, N3.out.next b4⟩)
    clear b4 K3 N3 RA c0 c1 c2 c3 c4 c5 c6
    have GA := mkHid (show ∀ w', Sx w bx by_ r a a' b b' c c' d d' n m w' → Calls Try.prog 13 #[.agg #[.int .u32 r.sd, .int .u32 r.md, .int .i64 r.fi, .int .i64 r.ba, .int .i64 r.co, .slice b n d, .slice b' m d']] w' fun e w'' => e = .returned (.bool (goodR r)) ∧ Below w'.heap.size w' w'' from fun w' h => by
      have := good_any r b d b' d' w' h.2.2.2.i h.2.2.2.j
      unfold rv at this
      rw [HN.out, HM.out] at this
      exact this.mono (fun e w'' h => ⟨h.1, h.2.belowZ⟩))
    have GB := mkHid (show ∀ w', Sx w bx by_ r a a' b b' c c' d d' n m w' → Calls Try.prog 14 #[.agg #[.int .u32 r.sd, .int .u32 r.md, .int .i64 r.fi, .int .i64 r.ba, .int .i64 r.co, .slice a n c, .slice a' m c']] w' fun e w'' => e = .returned (.bool (goodR r)) ∧ Below w'.heap.size w' w'' from fun w' h => by
      have := rgood_any r a c a' c' w' h.2.2.1.i h.2.2.1.j
      unfold rv at this
      rw [HN.out, HM.out] at this
      exact this.mono (fun e w'' h => ⟨h.1, h.2.belowZ⟩))
    have GS := mkHid (show ∀ w', Sx w bx by_ r a a' b b' c c' d d' n m w' → Calls Try.prog 15 #[.agg #[.int .u32 r.sd, .int .u32 r.md, .int .i64 r.fi, .int .i64 r.ba, .int .i64 r.co, .slice b n d, .slice b' m d'], .agg #[.int .u32 r.sd, .int .u32 r.md, .int .i64 r.fi, .int .i64 r.ba, .int .i64 r.co, .slice a n c, .slice a' m c']] w' fun e w'' => e = .returned (.bool true) ∧ Below w'.heap.size w' w'' from fun w' h => by
      have := same_self r b d b' d' a c a' c' w' h.2.2.2.i h.2.2.2.j h.2.2.1.i h.2.2.1.j
      unfold rv at this
      rw [HN.out, HM.out] at this
      exact this.mono (fun e w'' h => ⟨h.1, h.2.belowZ⟩))
    have HNX := mkHid (fun (w1 w2 : World) (h : Two w w1 bx by_ r a a' b b' c c' d d') (hb : Below w1.heap.size w1 w2) => two_next HN.out HM.out h hb)
    have HNY := mkHid (fun (w1 w2 : World) (hb : Below w1.heap.size w1 w2) (h : Sx w bx by_ r a a' b b' c c' d d' n m w1) => (show Sx w bx by_ r a a' b b' c c' d d' n m w2 from two_next HN.out HM.out h.2.2 hb))
    have HS0 := mkHid (HNX.out w4 w4 T4.out (Below.refl _ _))
    have HS1 := mkHid (HNX.out w4 w4.drew T4.out (Below.refl _ _).drew)
    cases hG : goodR r with
    | true =>
      rw [hG] at GA GB
      clear hG
      have td := HS1.out
      go_wp2_with fail
      go_region_held3 (fun w' => (w'.cell? ⟨bx, 0, none⟩ = some (.int .u32 r.sd) ∧ w'.cell? ⟨bx, 1, none⟩ = some (.int .u32 r.md) ∧ w'.cell? ⟨bx, 2, none⟩ = some (.int .i64 r.fi) ∧ w'.cell? ⟨bx, 3, none⟩ = some (.int .i64 r.ba) ∧ w'.cell? ⟨bx, 4, none⟩ = some (.int .i64 r.co) ∧ w'.cell? ⟨bx, 5, none⟩ = some (.slice a n c) ∧ w'.cell? ⟨bx, 6, none⟩ = some (.slice a' m c')) ∧ (w'.cell? ⟨by_, 0, none⟩ = some (.int .u32 r.sd) ∧ w'.cell? ⟨by_, 1, none⟩ = some (.int .u32 r.md) ∧ w'.cell? ⟨by_, 2, none⟩ = some (.int .i64 r.fi) ∧ w'.cell? ⟨by_, 3, none⟩ = some (.int .i64 r.ba) ∧ w'.cell? ⟨by_, 4, none⟩ = some (.int .i64 r.co) ∧ w'.cell? ⟨by_, 5, none⟩ = some (.slice b n d) ∧ w'.cell? ⟨by_, 6, none⟩ = some (.slice b' m d')) ∧ Two w w' bx by_ r a a' b b' c c' d d')
        (first | exact HS0.out | exact HS1.out | exact HNY.out _ _ (by assumption) (by assumption))
        (first | (go_at_call 13; refine (GA.out _ (by first | assumption | exact HNY.out _ _ (by assumption) (by assumption))).mono ?_; rintro e w' ⟨rfl, hbx⟩) | (go_at_call 14; refine (GB.out _ (by first | assumption | exact HNY.out _ _ (by assumption) (by assumption))).mono ?_; rintro e w' ⟨rfl, hbx⟩) | (go_at_call 15; refine (GS.out _ (by first | assumption | exact HNY.out _ _ (by assumption) (by assumption))).mono ?_; rintro e w' ⟨rfl, hbx⟩) | (go_at_call 9; refine (wakes_any _).mono ?_; rintro e w' ⟨rfl, hbx⟩))
      go_wp2
      go_ret
      exact ⟨rfl, (show Sx w bx by_ r a a' b b' c c' d d' n m _ by assumption).2.2.1.k.belowZ⟩
    | false =>
      rw [hG] at GA GB
      clear hG
      have td := HS1.out
      go_wp2_with fail
      go_region_held3 (fun w' => (w'.cell? ⟨bx, 0, none⟩ = some (.int .u32 r.sd) ∧ w'.cell? ⟨bx, 1, none⟩ = some (.int .u32 r.md) ∧ w'.cell? ⟨bx, 2, none⟩ = some (.int .i64 r.fi) ∧ w'.cell? ⟨bx, 3, none⟩ = some (.int .i64 r.ba) ∧ w'.cell? ⟨bx, 4, none⟩ = some (.int .i64 r.co) ∧ w'.cell? ⟨bx, 5, none⟩ = some (.slice a n c) ∧ w'.cell? ⟨bx, 6, none⟩ = some (.slice a' m c')) ∧ (w'.cell? ⟨by_, 0, none⟩ = some (.int .u32 r.sd) ∧ w'.cell? ⟨by_, 1, none⟩ = some (.int .u32 r.md) ∧ w'.cell? ⟨by_, 2, none⟩ = some (.int .i64 r.fi) ∧ w'.cell? ⟨by_, 3, none⟩ = some (.int .i64 r.ba) ∧ w'.cell? ⟨by_, 4, none⟩ = some (.int .i64 r.co) ∧ w'.cell? ⟨by_, 5, none⟩ = some (.slice b n d) ∧ w'.cell? ⟨by_, 6, none⟩ = some (.slice b' m d')) ∧ Two w w' bx by_ r a a' b b' c c' d d')
        (first | exact HS0.out | exact HS1.out | exact HNY.out _ _ (by assumption) (by assumption))
        (first | (go_at_call 13; refine (GA.out _ (by first | assumption | exact HNY.out _ _ (by assumption) (by assumption))).mono ?_; rintro e w' ⟨rfl, hbx⟩) | (go_at_call 14; refine (GB.out _ (by first | assumption | exact HNY.out _ _ (by assumption) (by assumption))).mono ?_; rintro e w' ⟨rfl, hbx⟩) | (go_at_call 15; refine (GS.out _ (by first | assumption | exact HNY.out _ _ (by assumption) (by assumption))).mono ?_; rintro e w' ⟨rfl, hbx⟩) | (go_at_call 9; refine (wakes_any _).mono ?_; rintro e w' ⟨rfl, hbx⟩))
      go_wp2
      go_ret
      exact ⟨rfl, (show Sx w bx by_ r a a' b b' c c' d d' n m _ by assumption).2.2.1.k.belowZ⟩

set_option maxRecDepth 100000 in
theorem lifted (os : Os) (started : os.Started) (H : Type) (enc : TypeId × Value → H) :
    ReturnsInHanded {} Try.checked os 3 .any (Rows.twccEncodesSpec.pre6 enc Try.prog Try.f3 Rows.twccEncodesRow.domain false) (Rows.twccEncodesSpec.post enc Try.prog Try.f3 false true false false) := by
  refine returnsInHanded_of_change (C := Try.checked) own started (by kernel_rfl) Try.func3
    (ChangeSpec.witness6 (enc := enc) (C := Try.checked) false ⟨#[], #[.agg #[.int .u32 0, .int .u32 0, .int .i64 0, .int .i64 0, .int .i64 0, .slice none 0 0, .slice none 0 0]], []⟩ 8 (by kernel_rfl) (by kernel_rfl) (by kernel_rfl) (by kernel_rfl)) ?_
  intro W base args ds gs before hval0 hW hcnd _
  have hval : ∀ (j : Nat) t v, Try.f3.params[j]? = some t → args[j]? = some v → Value.okWide Try.prog W .any base t v := hval0
  have hW' := hW
  obtain ⟨p, q, hA0, hV, rfl, hfz, hnd⟩ := hW
  have hA : DataW.TrodAll enc Try.prog W 0 (fun _ => true) true Try.f3.params.toList args.toList ds p := hA0
  rw [Try.params3] at hA hval
  obtain ⟨v0, vs0, d0, ds0, p0, q0, hargs, rfl, rfl, h0, r0⟩ := trodAll_cons hA
  obtain ⟨rfl, rfl, rfl⟩ := trodAll_nil r0
  obtain rfl : args = #[v0] := by cases args; simp_all
  obtain ⟨rfl, rfl⟩ := trodVars_none hV
  have k0 := h0
  have lt0 : ∀ x ∈ p0, x.block < W.heap.size := by obtain ⟨m, hm⟩ := k0; exact DataW.trod_lt m _ _ _ hm
  obtain ⟨r, a, c, a', c', rfl, w0⟩ := open0 (hval 0 25 v0 rfl rfl) h0
  clear hA0 hval0
  refine (walk r a c a' c' W w0).mono fun e W' ⟨he, bel⟩ => ?_
  subst he
  exact ⟨_, rfl, _, _, _, [], _, [], hW', trodAll_mk1 (shut_bool Try.underlying4 _), (trodAll_cons_mk (Below.trod laidOut (by kernel_rfl) (of_decide_eq_true (by kernel_rfl)) k0 bel lt0) trodAll_mk0), rfl, bel.frame _, fun h => by cases h⟩

theorem over : Rows.twccEncodesRow.holds Try.pinned (OpenSpec.ofChange Rows.twccEncodesSpec) :=
  OpenClaim.holds_of_wide 3 Try.f3 rfl rfl rfl rfl rfl rfl rfl ⟨rfl, rfl, rfl, rfl, rfl⟩ rfl rfl rfl rfl rfl (by kernel_rfl) Try.func3 (by kernel_rfl)
    (of_decide_eq_true (by kernel_rfl)) (by unfold Func.isWrapper; first | (rw [if_pos (by decide +kernel)]; kernel_rfl) | (rw [if_neg (by decide +kernel)]; exact ⟨rfl, rfl⟩))
    (fun os started H enc _ => lifted os started H enc)
end Go.Proofs.Ytcbehpocnnkkeaa.twccEncodes
namespace Go.Proofs.Ytcbehpocnnkkeaa
/-- The statement. -/
theorem twccEncodes_holds : Rows.TwccEncodesSaid := twccEncodes.over
#print axioms twccEncodes_holds
end Go.Proofs.Ytcbehpocnnkkeaa
