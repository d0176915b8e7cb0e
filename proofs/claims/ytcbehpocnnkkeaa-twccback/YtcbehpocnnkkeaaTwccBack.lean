/-
  TwccBack: what was encoded is decoded as it was; what was decoded is encoded to what decodes alike.
-/
import Derived.Test.YtcbehpocnnkkeaaRows
import Derived.WalkKit
import Derived.ProofKit
import Derived.OpenShut
import Derived.ShutString
import Derived.ChangeOld
import Derived.Below
import Derived.Deep.Slices
import Derived.Test.YtcbehpocnnkkeaaTwV
namespace Go.Proofs.Ytcbehpocnnkkeaa.twccBack
open Go.ChangeShapes Go.WideShapes Go.ChangeAt Go.RowKit
open Go.ChangeMaps (open_string shut_string)
set_option linter.unusedVariables false

theorem own : ownKnob Try.prog.godebug = none := by kernel_rfl
theorem laidOut : laidOutB Try.prog = true := by kernel_rfl

theorem open0 {H : Type} {enc : TypeId × Value → H} {W : World} {r : Reach} {b0 : Nat} {v : Value} {d : DataW H} {p : List MemPlace} (hv : Value.okWide Try.prog W r b0 25 v)
    (h : DataW.Trod enc Try.prog W 0 (fun _ => true) true 25 v d p) : ∃ r a c a' c', v = rv r a r.st.length c a' r.dl.length c' ∧ CIn W r a c a' c' := open_twcc hv h
set_option maxRecDepth 100000 in
set_option maxHeartbeats 2000000 in
theorem walk (r : Rp) (a : Option Addr) (c : Nat) (a' : Option Addr) (c' : Nat) (a1 : ByteArray) (w : World) (w0 : CIn w r a c a' c') (w1 : a1.size ≤ maxLen) : Calls Try.prog 5 #[rv r a r.st.length c a' r.dl.length c', .string a1] w fun e w' => e = .returned (.bool true) ∧ Below w.heap.size w w' := by
  have HC := mkHid w0
  have K0 := mkHid (ck_new (c := c) (c' := c') w0.i w0.j (Apart.refl (fun _ => False) w))
  obtain ⟨S, HSS⟩ : ∃ x, Hid (encS r = x) := ⟨_, rfl⟩
  obtain ⟨E, HEE⟩ : ∃ x, Hid (encE r = x) := ⟨_, rfl⟩
  obtain ⟨bx, W, HBX, HW⟩ := boxed w (bxO r a r.st.length c a' r.dl.length c')
  rw [HW.out, HBX.out] at K0
  have LA := mkHid (large_any r a c a' c' W K0.out.i K0.out.j)
  obtain ⟨g, HG⟩ : ∃ g, Hid (lgR r = g) := ⟨_, rfl⟩
  rw [HG.out] at LA
  clear w0
  have hw1 : (a1.size : Int) ≤ 9223372036854775807 := by unfold maxLen at w1; omega
  clear w1
  obtain ⟨c0, c1, c2, c3, c4, c5, c6⟩ := K0.out.d.c
  unfold rv at LA ⊢
  go_enter Try.func5, Try.ntmps5
  go_wp2_with fail
  rw [HW.out, HBX.out]
  go_wp2_with fail
  refine (LA.out).mono ?_
  rintro e w1 ⟨rfl, ap1⟩
  have K1 := mkHid (K0.out.ap ap1)
  clear ap1 K0 LA c0 c1 c2 c3 c4 c5 c6
  obtain ⟨c0, c1, c2, c3, c4, c5, c6⟩ := K1.out.d.c
  cases g with
  | true =>
    go_wp2_with fail
    refine (wakes_any _).mono ?_
    rintro e w9 ⟨rfl, p9⟩
    have K9 := mkHid (K1.out.next p9)
    clear p9
    go_wp2
    go_ret
    exact ⟨rfl, K9.out.k.belowZ⟩
  | false =>
    by_cases h7 : (70000 : Int) < a1.size
    · go_wp2_with fail
      refine (wakes_any _).mono ?_
      rintro e w9 ⟨rfl, p9⟩
      have K9 := mkHid (K1.out.next p9)
      clear p9
      go_wp2
      go_ret
      exact ⟨rfl, K9.out.k.belowZ⟩
    · have h7' : (a1.size : Int) ≤ 70000 := by omega
      have CA := mkHid (copy_any r a c a' c' w1 K1.out.i K1.out.j (by have := lgR_no HG.out; omega) (by have := lgR_no HG.out; omega))
      unfold rv at CA
      go_wp2_with fail
      refine (CA.out).mono ?_
      rintro e w2 ⟨b, d, b', d', rfl, hi, hj, b2⟩
      have K2 := mkHid (K1.out.ap b2)
      have EA := mkHid (enc_at (c := d) (c' := d') hi hj HC.out.s0 HC.out.s1 HC.out.t0 HC.out.t1 HSS.out HEE.out)
      unfold rv at EA
      clear hi hj b2 CA K1 c0 c1 c2 c3 c4 c5 c6
      go_wp2_with fail
      refine (EA.out).mono ?_
      rintro e w3 ⟨rfl, b3⟩
      have K3 := mkHid (K2.out.next b3)
      clear b3 K2 EA
      -- the second half, from any world that keeps the report
      have HALF := mkHid (fun (w3 : World) => dec_at a1 (by omega) (r := decR a1) (E := decE a1) rfl rfl w3)
      obtain ⟨q, HQ⟩ : ∃ q, Hid (decR a1 = q) := ⟨_, rfl⟩
      obtain ⟨F, HFF⟩ : ∃ F, Hid (decE a1 = F) := ⟨_, rfl⟩
      rw [HQ.out, HFF.out] at HALF
      unfold rv at HALF
      have HGOOD := mkHid (show F = 0 → goodR q = true ∧ 0 ≤ q.sd ∧ q.sd < 4294967296 ∧ 0 ≤ q.md ∧ q.md < 4294967296 by
        intro h; rw [← HQ.out]; exact dec_good (by rw [HFF.out]; exact h))
      have HNONE := mkHid (show ¬ F = 0 → q = Rp.none by
        intro h; rw [← HQ.out]; exact decR_none (by rw [HFF.out]; exact h))
      by_cases hE : E = 0
      · subst hE
        have hg : goodR r = true := by
          cases hg : goodR r with
          | true => rfl
          | false => have := (encE_no hg).1; rw [HEE.out] at this; cases this
        have hs := (encE_yes hg).2
        rw [HSS.out] at hs
        have hz := enc_size hg
        have hb := dec_enc hg HC.out.s0 HC.out.s1 HC.out.t0 HC.out.t1
        rw [← hs] at hz hb
        have DB := mkHid (dec_at S (by omega) hb.2 hb.1 w3)
        unfold rv at DB
        clear hg hs hz hb
        go_wp2_with fail
        refine (DB.out).mono ?_
        rintro e w4 ⟨⟨pa, pc, pa', pc', rfl, hi, hj⟩, b4⟩
        have N4 := mkHid (ck_new (c := pc) (c' := pc') hi hj (K3.out.next b4).k)
        have K4 := mkHid ((K3.out.next b4).ap ((Apart.refl _ _).alloc (bxO r pa r.st.length pc pa' r.dl.length pc')))
        obtain ⟨by_, W4, HBY, HW4⟩ := boxed w4 (bxO r pa r.st.length pc pa' r.dl.length pc')
        rw [HW4.out, HBY.out] at N4
        rw [HW4.out] at K4
        have SA := mkHid (same_self r pa pc pa' pc' a c a' c' W4 N4.out.i N4.out.j K4.out.i K4.out.j)
        unfold rv at SA
        clear hi hj b4 K3 DB
        obtain ⟨g0, g1, g2, g3, g4, g5, g6⟩ := N4.out.d.c
        obtain ⟨c0, c1, c2, c3, c4, c5, c6⟩ := K4.out.d.c
        go_upto_region 6 with fail
        rw [HW4.out, HBY.out]
        go_wp2_with fail
        refine (SA.out).mono ?_
        rintro e w5 ⟨rfl, a5⟩
        have K5 := mkHid (K4.out.ap a5)
        clear a5 N4 K4 SA g0 g1 g2 g3 g4 g5 g6 c0 c1 c2 c3 c4 c5 c6
        go_wp2_with fail
        refine (HALF.out _).mono ?_
        rintro e w7 ⟨⟨qa, qc, qa', qc', rfl, hi, hj⟩, b7⟩
        have N7 := mkHid (ck_new (c := qc) (c' := qc') hi hj (K5.out.next b7).k)
        obtain ⟨by7, W7, HBY7, HW7⟩ := boxed w7 (bxO q qa q.st.length qc qa' q.dl.length qc')
        rw [HW7.out, HBY7.out] at N7
        clear hi hj b7
        obtain ⟨c0, c1, c2, c3, c4, c5, c6⟩ := N7.out.d.c
        go_upto_region 9 with fail
        rw [HW7.out, HBY7.out]
        by_cases hF : F = 0
        · subst hF
          have GQ := mkHid (HGOOD.out rfl)
          have hs := (encE_yes GQ.out.1).2
          have hz := enc_size GQ.out.1
          have hb := dec_enc GQ.out.1 GQ.out.2.1 GQ.out.2.2.1 GQ.out.2.2.2.1 GQ.out.2.2.2.2
          rw [← hs] at hz hb
          obtain ⟨U, HU⟩ : ∃ U, Hid (encS q = U) := ⟨_, rfl⟩
          rw [HU.out] at hz hb
          have EB := mkHid (enc_at (c := qc) (c' := qc') N7.out.i N7.out.j GQ.out.2.1 GQ.out.2.2.1 GQ.out.2.2.2.1 GQ.out.2.2.2.2 HU.out (encE_yes GQ.out.1).1)
          have DB := mkHid (fun w => dec_at U (by omega) hb.2 hb.1 w)
          unfold rv at EB DB
          clear hs hz hb
          go_wp2_with fail
          refine (EB.out).mono ?_
          rintro e w8 ⟨rfl, b8⟩
          have N8 := mkHid (N7.out.next b8)
          clear b8 N7 EB c0 c1 c2 c3 c4 c5 c6
          go_wp2_with fail
          refine (DB.out _).mono ?_
          rintro e w10 ⟨⟨ta, tc, ta', tc', rfl, hi, hj⟩, b10⟩
          have T10 := mkHid (ck_new (c := tc) (c' := tc') hi hj (N8.out.next b10).k)
          have N10 := mkHid ((N8.out.next b10).ap ((Apart.refl _ _).alloc (bxO q ta q.st.length tc ta' q.dl.length tc')))
          obtain ⟨by10, W10, HBY10, HW10⟩ := boxed w10 (bxO q ta q.st.length tc ta' q.dl.length tc')
          rw [HW10.out, HBY10.out] at T10
          rw [HW10.out] at N10
          clear hi hj b10 N8 DB
          have SB := mkHid (same_self q ta tc ta' tc' qa qc qa' qc' W10 T10.out.i T10.out.j N10.out.i N10.out.j)
          unfold rv at SB
          obtain ⟨g0, g1, g2, g3, g4, g5, g6⟩ := T10.out.d.c
          obtain ⟨c0, c1, c2, c3, c4, c5, c6⟩ := N10.out.d.c
          go_upto_region 13 with fail
          rw [HW10.out, HBY10.out]
          go_wp2_with fail
          refine (SB.out).mono ?_
          rintro e w11 ⟨rfl, a11⟩
          have N11 := mkHid (N10.out.ap a11)
          clear a11 T10 N10 SB g0 g1 g2 g3 g4 g5 g6 c0 c1 c2 c3 c4 c5 c6
          obtain ⟨c0, c1, c2, c3, c4, c5, c6⟩ := N11.out.d.c
          have GA := mkHid (good_any q qa qc qa' qc' w11 N11.out.i N11.out.j)
          rw [GQ.out.1] at GA
          unfold rv at GA
          go_wp2_with fail
          refine (GA.out).mono ?_
          rintro e w12 ⟨rfl, a12⟩
          have N12 := mkHid (N11.out.ap a12)
          clear a12 N11 GA c0 c1 c2 c3 c4 c5 c6
          go_wp2_with fail
          refine (wakes_any _).mono ?_
          rintro e w9 ⟨rfl, p9⟩
          have K9 := mkHid (N12.out.next p9)
          clear p9
          go_wp2
          go_ret
          exact ⟨rfl, K9.out.k.belowZ⟩
        · obtain rfl := HNONE.out hF
          go_wp2_with fail
          refine (wakes_any _).mono ?_
          rintro e w9 ⟨rfl, p9⟩
          have K9 := mkHid (N7.out.next p9)
          clear p9
          go_wp2
          go_ret
          exact ⟨rfl, K9.out.k.belowZ⟩
      · go_wp2_with fail
        refine (HALF.out _).mono ?_
        rintro e w7 ⟨⟨qa, qc, qa', qc', rfl, hi, hj⟩, b7⟩
        have N7 := mkHid (ck_new (c := qc) (c' := qc') hi hj (K3.out.next b7).k)
        obtain ⟨by7, W7, HBY7, HW7⟩ := boxed w7 (bxO q qa q.st.length qc qa' q.dl.length qc')
        rw [HW7.out, HBY7.out] at N7
        clear hi hj b7
        obtain ⟨c0, c1, c2, c3, c4, c5, c6⟩ := N7.out.d.c
        go_upto_region 9 with fail
        rw [HW7.out, HBY7.out]
        by_cases hF : F = 0
        · subst hF
          have GQ := mkHid (HGOOD.out rfl)
          have hs := (encE_yes GQ.out.1).2
          have hz := enc_size GQ.out.1
          have hb := dec_enc GQ.out.1 GQ.out.2.1 GQ.out.2.2.1 GQ.out.2.2.2.1 GQ.out.2.2.2.2
          rw [← hs] at hz hb
          obtain ⟨U, HU⟩ : ∃ U, Hid (encS q = U) := ⟨_, rfl⟩
          rw [HU.out] at hz hb
          have EB := mkHid (enc_at (c := qc) (c' := qc') N7.out.i N7.out.j GQ.out.2.1 GQ.out.2.2.1 GQ.out.2.2.2.1 GQ.out.2.2.2.2 HU.out (encE_yes GQ.out.1).1)
          have DB := mkHid (fun w => dec_at U (by omega) hb.2 hb.1 w)
          unfold rv at EB DB
          clear hs hz hb
          go_wp2_with fail
          refine (EB.out).mono ?_
          rintro e w8 ⟨rfl, b8⟩
          have N8 := mkHid (N7.out.next b8)
          clear b8 N7 EB c0 c1 c2 c3 c4 c5 c6
          go_wp2_with fail
          refine (DB.out _).mono ?_
          rintro e w10 ⟨⟨ta, tc, ta', tc', rfl, hi, hj⟩, b10⟩
          have T10 := mkHid (ck_new (c := tc) (c' := tc') hi hj (N8.out.next b10).k)
          have N10 := mkHid ((N8.out.next b10).ap ((Apart.refl _ _).alloc (bxO q ta q.st.length tc ta' q.dl.length tc')))
          obtain ⟨by10, W10, HBY10, HW10⟩ := boxed w10 (bxO q ta q.st.length tc ta' q.dl.length tc')
          rw [HW10.out, HBY10.out] at T10
          rw [HW10.out] at N10
          clear hi hj b10 N8 DB
          have SB := mkHid (same_self q ta tc ta' tc' qa qc qa' qc' W10 T10.out.i T10.out.j N10.out.i N10.out.j)
          unfold rv at SB
          obtain ⟨g0, g1, g2, g3, g4, g5, g6⟩ := T10.out.d.c
          obtain ⟨c0, c1, c2, c3, c4, c5, c6⟩ := N10.out.d.c
          go_upto_region 13 with fail
          rw [HW10.out, HBY10.out]
          go_wp2_with fail
          refine (SB.out).mono ?_
          rintro e w11 ⟨rfl, a11⟩
          have N11 := mkHid (N10.out.ap a11)
          clear a11 T10 N10 SB g0 g1 g2 g3 g4 g5 g6 c0 c1 c2 c3 c4 c5 c6
          obtain ⟨c0, c1, c2, c3, c4, c5, c6⟩ := N11.out.d.c
          have GA := mkHid (good_any q qa qc qa' qc' w11 N11.out.i N11.out.j)
          rw [GQ.out.1] at GA
          unfold rv at GA
          go_wp2_with fail
          refine (GA.out).mono ?_
          rintro e w12 ⟨rfl, a12⟩
          have N12 := mkHid (N11.out.ap a12)
          clear a12 N11 GA c0 c1 c2 c3 c4 c5 c6
          go_wp2_with fail
          refine (wakes_any _).mono ?_
          rintro e w9 ⟨rfl, p9⟩
          have K9 := mkHid (N12.out.next p9)
          clear p9
          go_wp2
          go_ret
          exact ⟨rfl, K9.out.k.belowZ⟩
        · obtain rfl := HNONE.out hF
          go_wp2_with fail
          refine (wakes_any _).mono ?_
          rintro e w9 ⟨rfl, p9⟩
          have K9 := mkHid (N7.out.next p9)
          clear p9
          go_wp2
          go_ret
          exact ⟨rfl, K9.out.k.belowZ⟩

set_option maxRecDepth 100000 in
theorem lifted (os : Os) (started : os.Started) (H : Type) (enc : TypeId × Value → H) :
    ReturnsInHanded {} Try.checked os 5 .any (Rows.twccBackSpec.pre6 enc Try.prog Try.f5 Rows.twccBackRow.domain false) (Rows.twccBackSpec.post enc Try.prog Try.f5 false true false false) := by
  refine returnsInHanded_of_change (C := Try.checked) own started (by kernel_rfl) Try.func5
    (ChangeSpec.witness6 (enc := enc) (C := Try.checked) false ⟨#[], #[.agg #[.int .u32 0, .int .u32 0, .int .i64 0, .int .i64 0, .int .i64 0, .slice none 0 0, .slice none 0 0], .string ByteArray.empty], []⟩ 8 (by kernel_rfl) (by kernel_rfl) (by kernel_rfl) (by kernel_rfl)) ?_
  intro W base args ds gs before hval0 hW hcnd _
  have hval : ∀ (j : Nat) t v, Try.f5.params[j]? = some t → args[j]? = some v → Value.okWide Try.prog W .any base t v := hval0
  have hW' := hW
  obtain ⟨p, q, hA0, hV, rfl, hfz, hnd⟩ := hW
  have hA : DataW.TrodAll enc Try.prog W 0 (fun _ => true) true Try.f5.params.toList args.toList ds p := hA0
  rw [Try.params5] at hA hval
  obtain ⟨v0, vs0, d0, ds0, p0, q0, hargs, rfl, rfl, h0, r0⟩ := trodAll_cons hA
  obtain ⟨v1, vs1, d1, ds1, p1, q1, rfl, rfl, rfl, h1, r1⟩ := trodAll_cons r0
  obtain ⟨rfl, rfl, rfl⟩ := trodAll_nil r1
  obtain rfl : args = #[v0, v1] := by cases args; simp_all
  obtain ⟨rfl, rfl⟩ := trodVars_none hV
  have k0 := h0
  have lt0 : ∀ x ∈ p0, x.block < W.heap.size := by obtain ⟨m, hm⟩ := k0; exact DataW.trod_lt m _ _ _ hm
  obtain ⟨r, a, c, a', c', rfl, w0⟩ := open0 (hval 0 25 v0 rfl rfl) h0
  obtain ⟨a1, rfl, rfl, rfl, w1⟩ := open_string Try.underlying9 (hval 1 9 v1 rfl rfl) h1
  clear hA0 hval0
  refine (walk r a c a' c' a1 W w0 w1).mono fun e W' ⟨he, bel⟩ => ?_
  subst he
  exact ⟨_, rfl, _, _, _, [], _, [], hW', trodAll_mk1 (shut_bool Try.underlying4 _), (trodAll_cons_mk (Below.trod laidOut (by kernel_rfl) (of_decide_eq_true (by kernel_rfl)) k0 bel lt0) (trodAll_cons_mk (shut_string Try.underlying9 w1) trodAll_mk0)), rfl, bel.frame _, fun h => by cases h⟩

theorem over : Rows.twccBackRow.holds Try.pinned (OpenSpec.ofChange Rows.twccBackSpec) :=
  OpenClaim.holds_of_wide 5 Try.f5 rfl rfl rfl rfl rfl rfl rfl ⟨rfl, rfl, rfl, rfl, rfl⟩ rfl rfl rfl rfl rfl (by kernel_rfl) Try.func5 (by kernel_rfl)
    (of_decide_eq_true (by kernel_rfl)) (by unfold Func.isWrapper; first | (rw [if_pos (by decide +kernel)]; kernel_rfl) | (rw [if_neg (by decide +kernel)]; exact ⟨rfl, rfl⟩))
    (fun os started H enc _ => lifted os started H enc)
end Go.Proofs.Ytcbehpocnnkkeaa.twccBack
namespace Go.Proofs.Ytcbehpocnnkkeaa
/-- The statement. -/
theorem twccBack_holds : Rows.TwccBackSaid := twccBack.over
#print axioms twccBack_holds
end Go.Proofs.Ytcbehpocnnkkeaa
