/-
  NackBack: what was encoded is decoded as it was; what was decoded is encoded to what decodes alike, and is no longer.
-/
import Derived.Test.YtmnpghelglohlaaRows
import Derived.WalkKit
import Derived.ProofKit
import Derived.OpenShut
import Derived.ShutString
import Derived.ChangeOld
import Derived.Below
import Derived.Deep.Slices
import Derived.Test.YtmnpghelglohlaaNkV
namespace Go.Proofs.Ytmnpghelglohlaa.nackBack
open Go.ChangeShapes Go.WideShapes Go.ChangeAt Go.RowKit
open Go.ChangeMaps (open_string shut_string)
set_option linter.unusedVariables false

theorem own : ownKnob Try.prog.godebug = none := by kernel_rfl
theorem laidOut : laidOutB Try.prog = true := by kernel_rfl

theorem open0 {H : Type} {enc : TypeId × Value → H} {W : World} {r : Reach} {b0 : Nat} {v : Value} {d : DataW H} {p : List MemPlace} (hv : Value.okWide Try.prog W r b0 25 v)
    (h : DataW.Trod enc Try.prog W 0 (fun _ => true) true 25 v d p) : ∃ r a c, v = nv r a r.lo.length c ∧ CIn W r a c := open_nack hv h
set_option maxRecDepth 100000 in
set_option maxHeartbeats 4000000 in
theorem walk (r : Nk) (a : Option Addr) (c : Nat) (a1 : ByteArray) (w : World) (w0 : CIn w r a c) (w1 : a1.size ≤ maxLen) : Calls Try.prog 5 #[nv r a r.lo.length c, .string a1] w fun e w' => e = .returned (.bool true) ∧ Below w.heap.size w w' := by
  have HC := mkHid w0
  have K0 := mkHid (ck_new (c := c) w0.i (Apart.refl (fun _ => False) w))
  obtain ⟨S, HSS⟩ : ∃ x, Hid (encS r = x) := ⟨_, rfl⟩
  obtain ⟨E, HEE⟩ : ∃ x, Hid (encE r = x) := ⟨_, rfl⟩
  obtain ⟨n, HN⟩ : ∃ n, Hid (r.lo.length = n) := ⟨_, rfl⟩
  have m1 := w0.i.len
  rw [HN.out] at m1
  obtain ⟨bx, W, HBX, HW⟩ := boxed w (bxO r a r.lo.length c)
  rw [HW.out, HBX.out] at K0
  clear w0
  have hw1 : (a1.size : Int) ≤ 9223372036854775807 := by unfold maxLen at w1; omega
  clear w1
  obtain ⟨c0, c1, c2⟩ := K0.out.d.c
  rw [HN.out] at c2
  unfold nv
  rw [HN.out]
  have HWN := mkHid HW.out
  rw [HN.out] at HWN
  by_cases h5 : (5000 : Int) < n
  · go_enter Try.func5, Try.ntmps5
    go_wp2_with fail
    rw [HWN.out]
    refine (wakes_any _).mono ?_
    rintro e w9 ⟨rfl, p9⟩
    have K9 := mkHid (K0.out.next p9)
    clear p9
    go_wp2
    go_ret
    exact ⟨rfl, K9.out.k.belowZ⟩
  · by_cases h7 : (70000 : Int) < a1.size
    · go_enter Try.func5, Try.ntmps5
      go_wp2_with fail
      rw [HWN.out]
      refine (wakes_any _).mono ?_
      rintro e w9 ⟨rfl, p9⟩
      have K9 := mkHid (K0.out.next p9)
      clear p9
      go_wp2
      go_ret
      exact ⟨rfl, K9.out.k.belowZ⟩
    · have FA := mkHid (few_any r a c W K0.out.i (by rw [HN.out]; omega))
      unfold nv at FA
      rw [HN.out] at FA
      go_enter Try.func5, Try.ntmps5
      go_wp2_with fail
      rw [HWN.out, HBX.out]
      go_wp2_with fail
      refine (FA.out).mono ?_
      rintro e w2 ⟨⟨b, d, rfl, hi⟩, a2⟩
      have K2 := mkHid (K0.out.ap a2)
      have EA := mkHid (enc_at (c := d) hi HC.out.s0 HC.out.s1 HC.out.t0 HC.out.t1 HSS.out HEE.out)
      unfold nv at EA
      rw [HN.out] at EA
      clear hi a2 FA K0 c0 c1 c2
      go_wp2_with fail
      refine (EA.out).mono ?_
      rintro e w3 ⟨rfl, b3⟩
      have K3 := mkHid (K2.out.next b3)
      clear b3 K2 EA
      obtain ⟨q, HQ⟩ : ∃ q, Hid (decR a1 = q) := ⟨_, rfl⟩
      obtain ⟨F, HFF⟩ : ∃ F, Hid (decE a1 = F) := ⟨_, rfl⟩
      obtain ⟨nq, HNQ⟩ : ∃ nq, Hid (q.lo.length = nq) := ⟨_, rfl⟩
      have HALF := mkHid (fun (w3 : World) => dec_at a1 hw1 HQ.out HFF.out w3)
      unfold nv at HALF
      rw [HNQ.out] at HALF
      have HGOOD := mkHid (show F = 0 → isL q.lo = true ∧ 0 ≤ q.sd ∧ q.sd < 4294967296 ∧ 0 ≤ q.md ∧ q.md < 4294967296 by
        intro h; rw [← HQ.out]; exact decR_good (by rw [HFF.out]; exact h))
      have HSHORT := mkHid (show F = 0 → (packS (nkB q)).size ≤ a1.size by
        intro h; rw [← HQ.out]; exact back_short (by rw [HFF.out]; exact h))
      have HNONE := mkHid (show ¬ F = 0 → q = ⟨0, 0, []⟩ by
        intro h; rw [← HQ.out]; exact decR_none (by rw [HFF.out]; exact h))
      by_cases hE : E = 0
      · subst hE
        have hg : isL r.lo = true := by
          cases hg : isL r.lo with
          | true => rfl
          | false => have := (encE_no hg).1; rw [HEE.out] at this; cases this
        have hs := (encE_yes hg).2
        rw [HSS.out] at hs
        have hz := enc_size r
        have hn := enL_len _ r.lo (Nat.le_refl _)
        have hl4 := ((isL_iff r.lo).1 hg).2.1
        have hb := dec_enc hg HC.out.s0 HC.out.s1 HC.out.t0 HC.out.t1
        rw [← hs] at hz hb
        have DB := mkHid (dec_at S (by omega) hb.2 hb.1 w3)
        unfold nv at DB
        rw [HN.out] at DB
        clear hg hs hz hb hn hl4
        go_wp2_with fail
        refine (DB.out).mono ?_
        rintro e w4 ⟨⟨pa, pc, rfl, hi⟩, b4⟩
        have N4 := mkHid (ck_new (r := r) (c := pc) hi (K3.out.next b4).k)
        have K4 := mkHid ((K3.out.next b4).ap ((Apart.refl _ _).alloc (bxO r pa r.lo.length pc)))
        obtain ⟨by_, W4, HBY, HW4⟩ := boxed w4 (bxO r pa r.lo.length pc)
        rw [HW4.out, HBY.out] at N4
        rw [HW4.out] at K4
        rw [HN.out] at HW4
        have SA := mkHid (same_self r pa pc a c W4 N4.out.i K4.out.i)
        unfold nv at SA
        rw [HN.out] at SA
        clear hi b4 K3 DB
        obtain ⟨g0, g1, g2⟩ := N4.out.d.c
        obtain ⟨c0, c1, c2⟩ := K4.out.d.c
        rw [HN.out] at g2 c2
        go_upto_region 6 with fail
        rw [HW4.out, HBY.out]
        go_wp2_with fail
        refine (SA.out).mono ?_
        rintro e w5 ⟨rfl, a5⟩
        have K5 := mkHid (K4.out.ap a5)
        clear a5 N4 K4 SA g0 g1 g2 c0 c1 c2
        go_wp2_with fail
        refine (HALF.out _).mono ?_
        rintro e w7 ⟨⟨qa, qc, rfl, hi⟩, b7⟩
        have N7 := mkHid (ck_new (c := qc) hi (K5.out.next b7).k)
        obtain ⟨by7, W7, HBY7, HW7⟩ := boxed w7 (bxO q qa q.lo.length qc)
        rw [HW7.out, HBY7.out] at N7
        rw [HNQ.out] at HW7
        clear hi b7
        obtain ⟨c0, c1, c2⟩ := N7.out.d.c
        rw [HNQ.out] at c2
        go_upto_region 9 with fail
        rw [HW7.out, HBY7.out]
        by_cases hF : F = 0
        · subst hF
          have GQ := mkHid (HGOOD.out rfl)
          have hb := dec_enc GQ.out.1 GQ.out.2.1 GQ.out.2.2.1 GQ.out.2.2.2.1 GQ.out.2.2.2.2
          have hsz := HSHORT.out rfl
          have hq5 : q.lo.length ≤ 5000 := by have := ((isL_iff q.lo).1 GQ.out.1).2.1; omega
          obtain ⟨U, HU⟩ : ∃ U, Hid (packS (nkB q) = U) := ⟨_, rfl⟩
          rw [HU.out] at hb hsz
          have HUE := mkHid (show encS q = U by rw [← HU.out]; exact (encE_yes GQ.out.1).2)
          have hUs : (U.size : Int) ≤ a1.size := by omega
          have FA := mkHid (few_any q qa qc W7 N7.out.i hq5)
          have DB := mkHid (fun w => dec_at U (by omega) hb.2 hb.1 w)
          unfold nv at FA DB
          rw [HNQ.out] at FA DB
          clear hb hsz hq5
          go_wp2_with fail
          refine (FA.out).mono ?_
          rintro e w8 ⟨⟨b, d, rfl, hi⟩, a8⟩
          have N8 := mkHid (N7.out.ap a8)
          have EB := mkHid (enc_at (c := d) hi GQ.out.2.1 GQ.out.2.2.1 GQ.out.2.2.2.1 GQ.out.2.2.2.2 HUE.out (encE_yes GQ.out.1).1)
          unfold nv at EB
          rw [HNQ.out] at EB
          clear hi a8 FA N7 c0 c1 c2
          go_wp2_with fail
          refine (EB.out).mono ?_
          rintro e w9 ⟨rfl, b9⟩
          have N9 := mkHid (N8.out.next b9)
          clear b9 N8 EB
          go_wp2_with fail
          refine (DB.out _).mono ?_
          rintro e w10 ⟨⟨ta, tc, rfl, hi⟩, b10⟩
          have T10 := mkHid (ck_new (r := q) (c := tc) (by unfold Hid at HNQ; exact hi) (N9.out.next b10).k)
          have N10 := mkHid ((N9.out.next b10).ap ((Apart.refl _ _).alloc (bxO q ta q.lo.length tc)))
          obtain ⟨by10, W10, HBY10, HW10⟩ := boxed w10 (bxO q ta q.lo.length tc)
          rw [HW10.out, HBY10.out] at T10
          rw [HW10.out] at N10
          rw [HNQ.out] at HW10
          clear hi b10 N9 DB
          have SB := mkHid (same_self q ta tc qa qc W10 T10.out.i N10.out.i)
          unfold nv at SB
          rw [HNQ.out] at SB
          obtain ⟨g0, g1, g2⟩ := T10.out.d.c
          obtain ⟨c0, c1, c2⟩ := N10.out.d.c
          rw [HNQ.out] at g2 c2
          go_upto_region 13 with fail
          rw [HW10.out, HBY10.out]
          go_wp2_with fail
          refine (SB.out).mono ?_
          rintro e w11 ⟨rfl, a11⟩
          have N11 := mkHid (N10.out.ap a11)
          clear a11 T10 N10 SB g0 g1 g2 c0 c1 c2
          go_wp2_with fail
          refine (wakes_any _).mono ?_
          rintro e w9 ⟨rfl, p9⟩
          have K9 := mkHid (N11.out.next p9)
          clear p9
          go_wp2
          go_ret
          exact ⟨rfl, K9.out.k.belowZ⟩
        · obtain rfl := HNONE.out hF
          obtain rfl : 0 = nq := HNQ.out
          go_wp2_with fail
          refine (wakes_any _).mono ?_
          rintro e w9 ⟨rfl, p9⟩
          have K9 := mkHid (N7.out.next p9)
          clear p9
          go_wp2
          go_ret
          exact ⟨rfl, K9.out.k.belowZ⟩
      · have HE0 := hE
        go_wp2_with fail
        refine (HALF.out _).mono ?_
        rintro e w7 ⟨⟨qa, qc, rfl, hi⟩, b7⟩
        have N7 := mkHid (ck_new (c := qc) hi (K3.out.next b7).k)
        obtain ⟨by7, W7, HBY7, HW7⟩ := boxed w7 (bxO q qa q.lo.length qc)
        rw [HW7.out, HBY7.out] at N7
        rw [HNQ.out] at HW7
        clear hi b7
        obtain ⟨c0, c1, c2⟩ := N7.out.d.c
        rw [HNQ.out] at c2
        go_upto_region 9 with fail
        rw [HW7.out, HBY7.out]
        by_cases hF : F = 0
        · subst hF
          have GQ := mkHid (HGOOD.out rfl)
          have hb := dec_enc GQ.out.1 GQ.out.2.1 GQ.out.2.2.1 GQ.out.2.2.2.1 GQ.out.2.2.2.2
          have hsz := HSHORT.out rfl
          have hq5 : q.lo.length ≤ 5000 := by have := ((isL_iff q.lo).1 GQ.out.1).2.1; omega
          obtain ⟨U, HU⟩ : ∃ U, Hid (packS (nkB q) = U) := ⟨_, rfl⟩
          rw [HU.out] at hb hsz
          have HUE := mkHid (show encS q = U by rw [← HU.out]; exact (encE_yes GQ.out.1).2)
          have hUs : (U.size : Int) ≤ a1.size := by omega
          have FA := mkHid (few_any q qa qc W7 N7.out.i hq5)
          have DB := mkHid (fun w => dec_at U (by omega) hb.2 hb.1 w)
          unfold nv at FA DB
          rw [HNQ.out] at FA DB
          clear hb hsz hq5
          go_wp2_with fail
          refine (FA.out).mono ?_
          rintro e w8 ⟨⟨b, d, rfl, hi⟩, a8⟩
          have N8 := mkHid (N7.out.ap a8)
          have EB := mkHid (enc_at (c := d) hi GQ.out.2.1 GQ.out.2.2.1 GQ.out.2.2.2.1 GQ.out.2.2.2.2 HUE.out (encE_yes GQ.out.1).1)
          unfold nv at EB
          rw [HNQ.out] at EB
          clear hi a8 FA N7 c0 c1 c2
          go_wp2_with fail
          refine (EB.out).mono ?_
          rintro e w9 ⟨rfl, b9⟩
          have N9 := mkHid (N8.out.next b9)
          clear b9 N8 EB
          go_wp2_with fail
          refine (DB.out _).mono ?_
          rintro e w10 ⟨⟨ta, tc, rfl, hi⟩, b10⟩
          have T10 := mkHid (ck_new (r := q) (c := tc) (by unfold Hid at HNQ; exact hi) (N9.out.next b10).k)
          have N10 := mkHid ((N9.out.next b10).ap ((Apart.refl _ _).alloc (bxO q ta q.lo.length tc)))
          obtain ⟨by10, W10, HBY10, HW10⟩ := boxed w10 (bxO q ta q.lo.length tc)
          rw [HW10.out, HBY10.out] at T10
          rw [HW10.out] at N10
          rw [HNQ.out] at HW10
          clear hi b10 N9 DB
          have SB := mkHid (same_self q ta tc qa qc W10 T10.out.i N10.out.i)
          unfold nv at SB
          rw [HNQ.out] at SB
          obtain ⟨g0, g1, g2⟩ := T10.out.d.c
          obtain ⟨c0, c1, c2⟩ := N10.out.d.c
          rw [HNQ.out] at g2 c2
          go_upto_region 13 with fail
          rw [HW10.out, HBY10.out]
          go_wp2_with fail
          refine (SB.out).mono ?_
          rintro e w11 ⟨rfl, a11⟩
          have N11 := mkHid (N10.out.ap a11)
          clear a11 T10 N10 SB g0 g1 g2 c0 c1 c2
          go_wp2_with fail
          refine (wakes_any _).mono ?_
          rintro e w9 ⟨rfl, p9⟩
          have K9 := mkHid (N11.out.next p9)
          clear p9
          go_wp2
          go_ret
          exact ⟨rfl, K9.out.k.belowZ⟩
        · obtain rfl := HNONE.out hF
          obtain rfl : 0 = nq := HNQ.out
          go_wp2_with fail
          refine (wakes_any _).mono ?_
          rintro e w9 ⟨rfl, p9⟩
          have K9 := mkHid (N7.out.next p9)
          clear p9
          go_wp2
          go_ret
          exact ⟨rfl, K9.out.k.belowZ⟩

set_option maxRecDepth 100000 in
theorem lifted (os : Os) (started : os.Started) (H : Type) (enc : TypeId × Value → H) :
    ReturnsInHanded {} Try.checked os 5 .any (Rows.nackBackSpec.pre6 enc Try.prog Try.f5 Rows.nackBackRow.domain false) (Rows.nackBackSpec.post enc Try.prog Try.f5 false true false false) := by
  refine returnsInHanded_of_change (C := Try.checked) own started (by kernel_rfl) Try.func5
    (ChangeSpec.witness6 (enc := enc) (C := Try.checked) false ⟨#[], #[.agg #[.int .u32 0, .int .u32 0, .slice none 0 0], .string ByteArray.empty], []⟩ 8 (by kernel_rfl) (by kernel_rfl) (by kernel_rfl) (by kernel_rfl)) ?_
  intro W base args ds gs before hval0 hW hcnd _
  have hval : ∀ (j : Nat) t v, Try.f5.params[j]? = some t → args[j]? = some v → Value.okWide Try.prog W .any base t v := hval0
  have hW' := hW
  obtain ⟨p, q, hA0, hV, rfl, hfz, hnd⟩ := hW
  have hA : DataW.TrodAll enc Try.prog W 0 (fun _ => true) true Try.f5.params.toList args.toList ds p := hA0
  rw [Try.params5] at hA hval
  obtain ⟨v0, vs0, d0, ds0, p0, q0, hargs, rfl, rfl, h0, r0⟩ := trodAll_cons hA
  obtain ⟨v1, vs1, d1, ds1, p1, q1, rfl, rfl, rfl, h1, r1⟩ := trodAll_cons r0
  obtain ⟨rfl, rfl, rfl⟩ := trodAll_nil r1
  obtain rfl : args = #[v0, v1] := by cases args; simp_all
  obtain ⟨rfl, rfl⟩ := trodVars_none hV
  have k0 := h0
  have lt0 : ∀ x ∈ p0, x.block < W.heap.size := by obtain ⟨m, hm⟩ := k0; exact DataW.trod_lt m _ _ _ hm
  obtain ⟨r, a, c, rfl, w0⟩ := open0 (hval 0 25 v0 rfl rfl) h0
  obtain ⟨a1, rfl, rfl, rfl, w1⟩ := open_string Try.underlying9 (hval 1 9 v1 rfl rfl) h1
  clear hA0 hval0
  refine (walk r a c a1 W w0 w1).mono fun e W' ⟨he, bel⟩ => ?_
  subst he
  exact ⟨_, rfl, _, _, _, [], _, [], hW', trodAll_mk1 (shut_bool Try.underlying4 _), (trodAll_cons_mk (Below.trod laidOut (by kernel_rfl) (of_decide_eq_true (by kernel_rfl)) k0 bel lt0) (trodAll_cons_mk (shut_string Try.underlying9 w1) trodAll_mk0)), rfl, bel.frame _, fun h => by cases h⟩

theorem over : Rows.nackBackRow.holds Try.pinned (OpenSpec.ofChange Rows.nackBackSpec) :=
  OpenClaim.holds_of_wide 5 Try.f5 rfl rfl rfl rfl rfl rfl rfl ⟨rfl, rfl, rfl, rfl, rfl⟩ rfl rfl rfl rfl rfl (by kernel_rfl) Try.func5 (by kernel_rfl)
    (of_decide_eq_true (by kernel_rfl)) (by unfold Func.isWrapper; first | (rw [if_pos (by decide +kernel)]; kernel_rfl) | (rw [if_neg (by decide +kernel)]; exact ⟨rfl, rfl⟩))
    (fun os started H enc _ => lifted os started H enc)
end Go.Proofs.Ytmnpghelglohlaa.nackBack
namespace Go.Proofs.Ytmnpghelglohlaa
/-- The statement. -/
theorem nackBack_holds : Rows.NackBackSaid := nackBack.over
#print axioms nackBack_holds
end Go.Proofs.Ytmnpghelglohlaa
