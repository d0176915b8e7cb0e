/-
  CcfbBack: what was encoded is decoded, what was decoded is encoded as it was.
-/
import Derived.Test.YtohembamfjbclaaRows
import Derived.WalkKit
import Derived.ProofKit
import Derived.OpenShut
import Derived.ShutString
import Derived.ChangeOld
import Derived.Below
import Derived.Deep.Slices
import Derived.Test.YtohembamfjbclaaCcS
import Derived.Test.YtohembamfjbclaaCcR
namespace Go.Proofs.Ytohembamfjbclaa.ccfbBack
open Go.ChangeShapes Go.WideShapes Go.ChangeAt Go.RowKit
open Go.ChangeMaps (open_string shut_string)
set_option linter.unusedVariables false

theorem own : ownKnob Try.prog.godebug = none := by kernel_rfl
theorem laidOut : laidOutB Try.prog = true := by kernel_rfl

theorem open0 {H : Type} {enc : TypeId × Value → H} {W : World} {r : Reach} {b0 : Nat} {v : Value} {d : DataW H} {p : List MemPlace} (hv : Value.okWide Try.prog W r b0 25 v)
    (h : DataW.Trod enc Try.prog W 0 (fun _ => true) true 25 v d p) : ∃ sd a cap l st, v = rv sd a l.length cap st ∧ CIn W sd a l st := open_ccfb hv h
set_option maxRecDepth 100000 in
set_option maxHeartbeats 1000000 in
theorem walk (sd : Int) (a : Option Addr) (cap : Nat) (l : List Bk) (st : Int) (a1 : ByteArray) (w : World) (w0 : CIn w sd a l st) (w1 : a1.size ≤ maxLen) : Calls Try.prog 5 #[rv sd a l.length cap st, .string a1] w fun e w' => e = .returned (.bool true) ∧ Below w.heap.size w w' := by
  have HC := mkHid w0
  have K0 := mkHid (ck_box (sd := sd) (cap := cap) (st := st) w0.b)
  obtain ⟨n, HN⟩ : ∃ n, Hid (l.length = n) := ⟨_, rfl⟩
  obtain ⟨S, HSS⟩ : ∃ x, Hid (encS sd l st = x) := ⟨_, rfl⟩
  obtain ⟨E, HEE⟩ : ∃ x, Hid (encE l = x) := ⟨_, rfl⟩
  rw [HN.out] at K0 ⊢
  obtain ⟨bx, W, HBX, HW⟩ := boxed w sd (.slice a n cap) st
  rw [HW.out, HBX.out] at K0
  have LA := mkHid (large_any sd st a cap l W K0.out.b)
  unfold LargePost rv at LA
  rw [HN.out] at LA
  unfold rv
  clear w0
  have HW1L := mkHid w1
  have hw1 : (a1.size : Int) ≤ 9223372036854775807 := by unfold maxLen at w1; omega
  clear w1
  go_enter Try.func5, Try.ntmps5
  go_wp2_with fail
  rw [HW.out, HBX.out]
  refine (LA.out).mono ?_
  rintro e w1 ⟨⟨g, rfl, hg⟩, ap1⟩
  have K1 := mkHid (K0.out.ap ap1)
  have HG := mkHid hg
  clear ap1 K0 LA hg
  have kd := K1.out.d
  rw [HN.out] at kd
  obtain ⟨⟨c0, c1, c2⟩, _⟩ := cells3' kd
  clear kd
  cases g with
  | true =>
    go_wp2_with fail
    refine (wakes_any _).mono ?_
    rintro e w9 ⟨rfl, p9⟩
    have K9 := mkHid (K1.out.next p9)
    clear p9
    go_wp2
    go_ret
    exact ⟨rfl, K9.out.k.belowZ⟩
  | false =>
    by_cases h7 : (70000 : Int) < a1.size
    · go_wp2_with fail
      refine (wakes_any _).mono ?_
      rintro e w9 ⟨rfl, p9⟩
      have K9 := mkHid (K1.out.next p9)
      clear p9
      go_wp2
      go_ret
      exact ⟨rfl, K9.out.k.belowZ⟩
    · have h7' : (a1.size : Int) ≤ 70000 := by omega
      obtain ⟨sd', HSD⟩ : ∃ x, Hid (decSd a1 = x) := ⟨_, rfl⟩
      obtain ⟨l', HL'⟩ : ∃ x, Hid (decL a1 = x) := ⟨_, rfl⟩
      obtain ⟨st', HST⟩ : ∃ x, Hid (decSt a1 = x) := ⟨_, rfl⟩
      obtain ⟨F, HFF⟩ : ∃ x, Hid (decE a1 = x) := ⟨_, rfl⟩
      obtain ⟨n', HN'⟩ : ∃ n, Hid (l'.length = n) := ⟨_, rfl⟩
      obtain ⟨l1, l2, l3⟩ := HG.out rfl
      have CA := mkHid (copy_any sd st a cap l w1 K1.out.b (by rw [HN.out]; exact l1) l2)
      have HL1 := mkHid l1
      have HL2 := mkHid l2
      have HSZ := mkHid (show szB l ≤ 80400 by have := sz_nM l; rw [HN.out] at this; omega)
      unfold CopyPost rv at CA
      rw [HN.out] at CA
      clear l1 l2 l3 HG
      go_wp2_with fail
      refine (CA.out).mono ?_
      rintro e w2 ⟨a', c', rfl, hba, b2⟩
      have K2 := mkHid (K1.out.next b2)
      have EA := mkHid (enc_at (cap := c') hba HC.out.s0 HC.out.s1 HC.out.t0 HC.out.t1 HSS.out HEE.out)
      rw [HN.out] at EA
      clear hba b2 CA K1 c0 c1 c2
      go_wp2_with fail
      refine (EA.out).mono ?_
      rintro e w3 ⟨rfl, b3⟩
      have K3 := mkHid (K2.out.next b3)
      clear b3 K2 EA
      by_cases hE : E = 0
      · subst hE
        have HB := mkHid (back HEE.out HC.out.b.bd HC.out.s0 HC.out.s1 HC.out.t0 HC.out.t1)
        have hz8 := encS_size (sd := sd) (st := st) HEE.out
        have hsl := (encE_zero HEE.out).2
        rw [HSS.out] at HB hz8
        have DB := mkHid (dec_at S (by omega) HB.out.2.2.1 HB.out.2.1 HB.out.2.2.2 HB.out.1 w3)
        unfold rv at DB
        rw [HN.out] at DB
        clear hz8 hsl
        go_wp2_with fail
        refine (DB.out).mono ?_
        rintro e w4 ⟨⟨ba, bc, rfl, hba⟩, b4⟩
        have N4 := mkHid (ck_new (sd := sd) (cap := bc) (st := st) hba (K3.out.next b4).k)
        have K4 := mkHid ((K3.out.next b4).ap ((Apart.refl _ _).alloc (.cells #[.int .u32 sd, .slice ba n bc, .int .u32 st] 25)))
        rw [HN.out] at N4
        obtain ⟨by_, W4, HBY, HW4⟩ := boxed w4 sd (.slice ba n bc) st
        rw [HW4.out, HBY.out] at N4
        rw [HW4.out] at K4
        clear hba b4 K3 DB
        have SA := mkHid (same_is (cap := bc) (cap' := cap) N4.out.b K4.out.b (same_yes (sd := sd) (st := st) ⟨rfl, rfl, rfl⟩))
        rw [HN.out] at SA
        have nd := N4.out.d
        have kd := K4.out.d
        rw [HN.out] at nd kd
        obtain ⟨⟨g0, g1, g2⟩, _⟩ := cells3' nd
        obtain ⟨⟨c0, c1, c2⟩, _⟩ := cells3' kd
        clear nd kd
        go_upto_region 6 with fail
        rw [HW4.out, HBY.out]
        go_wp2_with fail
        refine (SA.out).mono ?_
        rintro e w5 ⟨rfl, a5⟩
        have K5 := mkHid (K4.out.ap a5)
        clear a5 N4 K4 SA g0 g1 g2 c0 c1 c2
        have DA := mkHid (dec_at a1 (by omega) HSD.out HL'.out HST.out HFF.out w5)
        unfold rv at DA
        rw [HN'.out] at DA
        go_wp2_with fail
        refine (DA.out).mono ?_
        rintro e w7 ⟨⟨qa, qc, rfl, hba⟩, b7⟩
        have N7 := mkHid (ck_new (sd := sd') (cap := qc) (st := st') hba (K5.out.next b7).k)
        rw [HN'.out] at N7
        obtain ⟨by7, W7, HBY7, HW7⟩ := boxed w7 sd' (.slice qa n' qc) st'
        rw [HW7.out, HBY7.out] at N7
        clear hba b7 DA
        have nd := N7.out.d
        rw [HN'.out] at nd
        obtain ⟨⟨h0, h1, h2⟩, _⟩ := cells3' nd
        clear nd
        go_upto_region 9 with fail
        rw [HW7.out, HBY7.out]
        by_cases hF : F = 0
        · subst hF
          obtain ⟨ag1, ag2, ag3, ag4⟩ := again HFF.out
          have hbd := decSd_bd a1
          have hbt := decSt_bd a1
          rw [HSD.out] at hbd
          rw [HST.out] at hbt
          rw [HSD.out, HL'.out, HST.out] at ag3
          rw [HL'.out] at ag1
          have EB := mkHid (enc_at (cap := qc) N7.out.b hbd.1 hbd.2 hbt.1 hbt.2 ag3 ag1)
          have HGD := mkHid (encE_zero ag1).1
          rw [HN'.out] at EB
          clear ag1 ag2 ag3 ag4 hbd hbt
          go_wp2_with fail
          refine (EB.out).mono ?_
          rintro e w8 ⟨rfl, b8⟩
          have N8 := mkHid (N7.out.next b8)
          have GA := mkHid (good_any sd' st' qa qc l' w8 N8.out.b)
          unfold rv at GA
          rw [HN'.out, HGD.out] at GA
          clear b8 h0 h1 h2
          have nd := N8.out.d
          rw [HN'.out] at nd
          obtain ⟨⟨h0, h1, h2⟩, _⟩ := cells3' nd
          clear nd
          go_wp2_with fail
          refine (GA.out).mono ?_
          rintro e w10 ⟨rfl, a10⟩
          have N10 := mkHid (N8.out.ap a10)
          clear a10 h0 h1 h2
          go_wp2_with fail
          refine (wakes_any _).mono ?_
          rintro e w9 ⟨rfl, p9⟩
          have K9 := mkHid (N10.out.next p9)
          clear p9
          go_wp2
          go_ret
          exact ⟨rfl, K9.out.k.belowZ⟩
        · obtain ⟨q1, q2, q3⟩ := decL_none (s := a1) (by rw [HFF.out]; exact hF)
          obtain rfl : sd' = 0 := by rw [← HSD.out, q2]
          obtain rfl : n' = 0 := by rw [← HN'.out, ← HL'.out, q1]; rfl
          clear q1 q2 q3
          go_wp2_with fail
          refine (wakes_any _).mono ?_
          rintro e w9 ⟨rfl, p9⟩
          have K9 := mkHid (N7.out.next p9)
          clear p9
          go_wp2
          go_ret
          exact ⟨rfl, K9.out.k.belowZ⟩
      · 
        have DA := mkHid (dec_at a1 (by omega) HSD.out HL'.out HST.out HFF.out w3)
        unfold rv at DA
        rw [HN'.out] at DA
        go_wp2_with fail
        refine (DA.out).mono ?_
        rintro e w7 ⟨⟨qa, qc, rfl, hba⟩, b7⟩
        have N7 := mkHid (ck_new (sd := sd') (cap := qc) (st := st') hba (K3.out.next b7).k)
        rw [HN'.out] at N7
        obtain ⟨by7, W7, HBY7, HW7⟩ := boxed w7 sd' (.slice qa n' qc) st'
        rw [HW7.out, HBY7.out] at N7
        clear hba b7 DA
        have nd := N7.out.d
        rw [HN'.out] at nd
        obtain ⟨⟨h0, h1, h2⟩, _⟩ := cells3' nd
        clear nd
        go_upto_region 9 with fail
        rw [HW7.out, HBY7.out]
        by_cases hF : F = 0
        · subst hF
          obtain ⟨ag1, ag2, ag3, ag4⟩ := again HFF.out
          have hbd := decSd_bd a1
          have hbt := decSt_bd a1
          rw [HSD.out] at hbd
          rw [HST.out] at hbt
          rw [HSD.out, HL'.out, HST.out] at ag3
          rw [HL'.out] at ag1
          have EB := mkHid (enc_at (cap := qc) N7.out.b hbd.1 hbd.2 hbt.1 hbt.2 ag3 ag1)
          have HGD := mkHid (encE_zero ag1).1
          rw [HN'.out] at EB
          clear ag1 ag2 ag3 ag4 hbd hbt
          go_wp2_with fail
          refine (EB.out).mono ?_
          rintro e w8 ⟨rfl, b8⟩
          have N8 := mkHid (N7.out.next b8)
          have GA := mkHid (good_any sd' st' qa qc l' w8 N8.out.b)
          unfold rv at GA
          rw [HN'.out, HGD.out] at GA
          clear b8 h0 h1 h2
          have nd := N8.out.d
          rw [HN'.out] at nd
          obtain ⟨⟨h0, h1, h2⟩, _⟩ := cells3' nd
          clear nd
          go_wp2_with fail
          refine (GA.out).mono ?_
          rintro e w10 ⟨rfl, a10⟩
          have N10 := mkHid (N8.out.ap a10)
          clear a10 h0 h1 h2
          go_wp2_with fail
          refine (wakes_any _).mono ?_
          rintro e w9 ⟨rfl, p9⟩
          have K9 := mkHid (N10.out.next p9)
          clear p9
          go_wp2
          go_ret
          exact ⟨rfl, K9.out.k.belowZ⟩
        · obtain ⟨q1, q2, q3⟩ := decL_none (s := a1) (by rw [HFF.out]; exact hF)
          obtain rfl : sd' = 0 := by rw [← HSD.out, q2]
          obtain rfl : n' = 0 := by rw [← HN'.out, ← HL'.out, q1]; rfl
          clear q1 q2 q3
          go_wp2_with fail
          refine (wakes_any _).mono ?_
          rintro e w9 ⟨rfl, p9⟩
          have K9 := mkHid (N7.out.next p9)
          clear p9
          go_wp2
          go_ret
          exact ⟨rfl, K9.out.k.belowZ⟩

set_option maxRecDepth 100000 in
theorem lifted (os : Os) (started : os.Started) (H : Type) (enc : TypeId × Value → H) :
    ReturnsInHanded {} Try.checked os 5 .any (Rows.ccfbBackSpec.pre6 enc Try.prog Try.f5 Rows.ccfbBackRow.domain false) (Rows.ccfbBackSpec.post enc Try.prog Try.f5 false true false false) := by
  refine returnsInHanded_of_change (C := Try.checked) own started (by kernel_rfl) Try.func5
    (ChangeSpec.witness6 (enc := enc) (C := Try.checked) false ⟨#[], #[.agg #[.int .u32 0, .slice none 0 0, .int .u32 0], .string ByteArray.empty], []⟩ 8 (by kernel_rfl) (by kernel_rfl) (by kernel_rfl) (by kernel_rfl)) ?_
  intro W base args ds gs before hval0 hW hcnd _
  have hval : ∀ (j : Nat) t v, Try.f5.params[j]? = some t → args[j]? = some v → Value.okWide Try.prog W .any base t v := hval0
  have hW' := hW
  obtain ⟨p, q, hA0, hV, rfl, hfz, hnd⟩ := hW
  have hA : DataW.TrodAll enc Try.prog W 0 (fun _ => true) true Try.f5.params.toList args.toList ds p := hA0
  rw [Try.params5] at hA hval
  obtain ⟨v0, vs0, d0, ds0, p0, q0, hargs, rfl, rfl, h0, r0⟩ := trodAll_cons hA
  obtain ⟨v1, vs1, d1, ds1, p1, q1, rfl, rfl, rfl, h1, r1⟩ := trodAll_cons r0
  obtain ⟨rfl, rfl, rfl⟩ := trodAll_nil r1
  obtain rfl : args = #[v0, v1] := by cases args; simp_all
  obtain ⟨rfl, rfl⟩ := trodVars_none hV
  have k0 := h0
  have lt0 : ∀ x ∈ p0, x.block < W.heap.size := by obtain ⟨m, hm⟩ := k0; exact DataW.trod_lt m _ _ _ hm
  obtain ⟨sd, a, cap, l, st, rfl, w0⟩ := open0 (hval 0 25 v0 rfl rfl) h0
  obtain ⟨a1, rfl, rfl, rfl, w1⟩ := open_string Try.underlying9 (hval 1 9 v1 rfl rfl) h1
  clear hA0 hval0
  refine (walk sd a cap l st a1 W w0 w1).mono fun e W' ⟨he, bel⟩ => ?_
  subst he
  exact ⟨_, rfl, _, _, _, [], _, [], hW', trodAll_mk1 (shut_bool Try.underlying4 _), (trodAll_cons_mk (Below.trod laidOut (by kernel_rfl) (of_decide_eq_true (by kernel_rfl)) k0 bel lt0) (trodAll_cons_mk (shut_string Try.underlying9 w1) trodAll_mk0)), rfl, bel.frame _, fun h => by cases h⟩

theorem over : Rows.ccfbBackRow.holds Try.pinned (OpenSpec.ofChange Rows.ccfbBackSpec) :=
  OpenClaim.holds_of_wide 5 Try.f5 rfl rfl rfl rfl rfl rfl rfl ⟨rfl, rfl, rfl, rfl, rfl⟩ rfl rfl rfl rfl rfl (by kernel_rfl) Try.func5 (by kernel_rfl)
    (of_decide_eq_true (by kernel_rfl)) (by unfold Func.isWrapper; first | (rw [if_pos (by decide +kernel)]; kernel_rfl) | (rw [if_neg (by decide +kernel)]; exact ⟨rfl, rfl⟩))
    (fun os started H enc _ => lifted os started H enc)
end Go.Proofs.Ytohembamfjbclaa.ccfbBack
namespace Go.Proofs.Ytohembamfjbclaa
/-- The statement. -/
theorem ccfbBack_holds : Rows.CcfbBackSaid := ccfbBack.over
#print axioms ccfbBack_holds
end Go.Proofs.Ytohembamfjbclaa
