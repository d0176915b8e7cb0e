/-
  CcfbCuts: a body that is cut off is another one, or none; it never tells more packets than stand in it.
-/
import Derived.Test.YtohembamfjbclaaRows
import Derived.WalkKit
import Derived.ProofKit
import Derived.OpenShut
import Derived.ShutString
import Derived.ChangeOld
import Derived.Below
import Derived.Deep.Slices
import Derived.Test.YtohembamfjbclaaCcS
import Derived.Test.YtohembamfjbclaaCcR
import Derived.Test.YtohembamfjbclaaCcX
namespace Go.Proofs.Ytohembamfjbclaa.ccfbCuts
open Go.ChangeShapes Go.WideShapes Go.ChangeAt Go.RowKit
open Go.ChangeMaps (open_string shut_string)
set_option linter.unusedVariables false

theorem own : ownKnob Try.prog.godebug = none := by kernel_rfl
theorem laidOut : laidOutB Try.prog = true := by kernel_rfl

theorem open0 {H : Type} {enc : TypeId × Value → H} {W : World} {r : Reach} {b0 : Nat} {v : Value} {d : DataW H} {p : List MemPlace} (hv : Value.okWide Try.prog W r b0 25 v)
    (h : DataW.Trod enc Try.prog W 0 (fun _ => true) true 25 v d p) : ∃ sd a cap l st, v = rv sd a l.length cap st ∧ CIn W sd a l st := open_ccfb hv h
theorem nM_le (l : List Bk) (k : Nat) : nM (l.take k) ≤ nM l := by
  have := nM_app (l.take k) (l.drop k)
  rw [List.take_append_drop] at this; omega
/-- What is known of a body that is cut off. -/
theorem cut_facts {sd st : Int} {l : List Bk} (h : encE l = 0) (k : Nat) (hk : k < (encS sd l st).size) (X : ByteArray) (hX : (encS sd l st).extract 0 k = X) :
    X.size = k ∧ (¬ k % 4 = 0 → decE X = 90) ∧ (decE X = 0 → sameB (decSd X) (decL X) (decSt X) sd l st = false) ∧ 2 * nM (decL X) ≤ k ∧ k ≤ 65536 := by
  have hs : X.size = k := by rw [← hX, ByteArray.size_extract]; omega
  obtain ⟨hg, hz⟩ := encE_zero h
  have hsz := encS_size (sd := sd) (st := st) h
  refine ⟨hs, fun h4 => decE_90 (by omega) (by rw [hs]; exact h4), fun h0 => same_no ?_, ?_, by omega⟩
  · rintro ⟨e1, e2, e3⟩
    have := (again h0).2.2.1
    rw [e1, e2, e3] at this
    rw [this, hs] at hk
    omega
  · by_cases h0 : decE X = 0
    · have := (again h0).2.1
      have := nM_sz (decL X)
      omega
    · rw [(decL_none h0).1]; simp [nM]
set_option maxRecDepth 100000 in
set_option maxHeartbeats 1000000 in
theorem walk (sd : Int) (a : Option Addr) (cap : Nat) (l : List Bk) (st : Int) (a1 : Int) (w : World) (w0 : CIn w sd a l st) (w1 : (Lit.int .i64 a1).wf = true) : Calls Try.prog 6 #[rv sd a l.length cap st, .int .i64 a1] w fun e w' => e = .returned (.bool true) ∧ Below w.heap.size w w' := by
  have HC := mkHid w0
  have K0 := mkHid (ck_box (sd := sd) (cap := cap) (st := st) w0.b)
  obtain ⟨n, HN⟩ : ∃ n, Hid (l.length = n) := ⟨_, rfl⟩
  obtain ⟨S, HSS⟩ : ∃ x, Hid (encS sd l st = x) := ⟨_, rfl⟩
  obtain ⟨E, HEE⟩ : ∃ x, Hid (encE l = x) := ⟨_, rfl⟩
  rw [HN.out] at K0 ⊢
  obtain ⟨bx, W, HBX, HW⟩ := boxed w sd (.slice a n cap) st
  rw [HW.out, HBX.out] at K0
  have LA := mkHid (large_any sd st a cap l W K0.out.b)
  unfold LargePost rv at LA
  rw [HN.out] at LA
  unfold rv
  clear w0 w1
  go_enter Try.func6, Try.ntmps6
  go_wp2_with fail
  rw [HW.out, HBX.out]
  refine (LA.out).mono ?_
  rintro e w1 ⟨⟨g, rfl, hg⟩, ap1⟩
  have K1 := mkHid (K0.out.ap ap1)
  have HG := mkHid hg
  clear ap1 K0 LA hg
  have kd := K1.out.d
  rw [HN.out] at kd
  obtain ⟨⟨c0, c1, c2⟩, _⟩ := cells3' kd
  clear kd
  cases g with
  | true =>
    go_wp2_with fail
    refine (wakes_any _).mono ?_
    rintro e w2 ⟨rfl, p2⟩
    have K2 := mkHid (K1.out.next p2)
    clear p2
    go_wp2
    go_ret
    exact ⟨rfl, K2.out.k.belowZ⟩
  | false =>
    obtain ⟨l1, l2, l3⟩ := HG.out rfl
    have CA := mkHid (copy_any sd st a cap l w1 K1.out.b (by rw [HN.out]; exact l1) l2)
    have HL1 := mkHid l1
    have HL2 := mkHid l2
    have HSZ := mkHid (show szB l ≤ 80400 by have := sz_nM l; rw [HN.out] at this; omega)
    unfold CopyPost rv at CA
    rw [HN.out] at CA
    clear l1 l2 l3 HG
    go_wp2_with fail
    refine (CA.out).mono ?_
    rintro e w2 ⟨a', c', rfl, hba, b2⟩
    have K2 := mkHid (K1.out.next b2)
    have EA := mkHid (enc_at (cap := c') hba HC.out.s0 HC.out.s1 HC.out.t0 HC.out.t1 HSS.out HEE.out)
    rw [HN.out] at EA
    clear hba b2 CA K1 c0 c1 c2
    go_wp2_with fail
    refine (EA.out).mono ?_
    rintro e w3 ⟨rfl, b3⟩
    have K3 := mkHid (K2.out.next b3)
    clear b3 K2 EA
    by_cases hE : E = 0
    · subst hE
      have hz8 := encS_size (sd := sd) (st := st) HEE.out
      have HCF := mkHid (fun k hk X hX => cut_facts (sd := sd) (st := st) HEE.out k hk X hX)
      rw [HSS.out] at hz8 HCF
      have hsl := (encE_zero HEE.out).2
      have hne : S.toList.isEmpty = false := by
        rw [List.isEmpty_eq_false_iff]
        intro e
        have : S.size = 0 := by rw [ByteArray.toList_eq] at e; show S.data.size = 0; rw [← Array.length_toList, e]; rfl
        omega
      obtain ⟨k, hk, hkl⟩ : ∃ k : Nat, (IntKind.u64.wrap a1).tmod (S.size : Int) = k ∧ k < S.size := by
        have h0 : 0 ≤ IntKind.u64.wrap a1 := by rw [IntKind.wrap_u64]; omega
        have h1 := Int.tmod_nonneg (S.size : Int) h0
        have h2 := Int.tmod_lt_of_pos (IntKind.u64.wrap a1) (show (0 : Int) < S.size by omega)
        exact ⟨((IntKind.u64.wrap a1).tmod (S.size : Int)).toNat, by omega, by omega⟩
      obtain ⟨X, HX⟩ : ∃ X, Hid (S.extract 0 k = X) := ⟨_, rfl⟩
      have HF := mkHid (HCF.out k hkl X HX.out)
      have hkl' : (k : Int) < S.size := by omega
      have hz' : ¬ (S.size : Int) = 0 := by omega
      have hz2 : (S.size : Int) ≤ 65536 := by omega
      clear hz8 HCF hsl hkl
      obtain ⟨sd', HSD⟩ : ∃ x, Hid (decSd X = x) := ⟨_, rfl⟩
      obtain ⟨l', HL'⟩ : ∃ x, Hid (decL X = x) := ⟨_, rfl⟩
      obtain ⟨st', HST⟩ : ∃ x, Hid (decSt X = x) := ⟨_, rfl⟩
      obtain ⟨F, HFF⟩ : ∃ x, Hid (decE X = x) := ⟨_, rfl⟩
      have HL16 := mkHid (show l'.length ≤ 16 by rw [← HL'.out]; exact (decL_bd X).1)
      obtain ⟨n', HN'⟩ : ∃ n, Hid (l'.length = n) := ⟨_, rfl⟩
      have DA := mkHid (dec_at X (by have := HF.out; omega) HSD.out HL'.out HST.out HFF.out w3)
      unfold rv at DA
      rw [HN'.out] at DA HL16
      rw [HSD.out, HL'.out, HST.out, HFF.out] at HF
      go_wp2_with fail
      rw [HX.out]
      refine (DA.out).mono ?_
      rintro e w4 ⟨⟨qa, qc, rfl, hba⟩, b4⟩
      have N4 := mkHid (ck_new (sd := sd') (cap := qc) (st := st') hba (K3.out.next b4).k)
      have K4 := mkHid ((K3.out.next b4).ap ((Apart.refl _ _).alloc (.cells #[.int .u32 sd', .slice qa n' qc, .int .u32 st'] 25)))
      rw [HN'.out] at N4
      obtain ⟨by_, W4, HBY, HW4⟩ := boxed w4 sd' (.slice qa n' qc) st'
      rw [HW4.out, HBY.out] at N4
      rw [HW4.out] at K4
      clear hba b4 K3 DA
      have nd := N4.out.d
      have kd := K4.out.d
      rw [HN'.out] at nd
      rw [HN.out] at kd
      obtain ⟨⟨g0, g1, g2⟩, _⟩ := cells3' nd
      obtain ⟨⟨c0, c1, c2⟩, _⟩ := cells3' kd
      clear nd kd hk hne hz' hz2 hkl'
      go_upto_region 10 with fail
      rw [HW4.out, HBY.out]
      go_cut [59] (fun c wc => c = .bool false ∧ Apart (fun _ => False) W4 wc)
      case first =>
        by_cases h4 : (k : Int) % 4 = 0
        · have e2 : (k : Int).tmod 4 = 0 := by rw [Int.tmod_eq_emod_of_nonneg (by omega)]; exact h4
          by_cases hF : F = 0
          · subst hF
            have SA := mkHid (same_is (cap := qc) (cap' := cap) N4.out.b K4.out.b (HF.out.2.2.1 rfl))
            rw [HN.out, HN'.out] at SA
            go_wp2_with fail
            refine (SA.out).mono ?_
            rintro e w5 ⟨rfl, a5⟩
            have A5 := mkHid a5
            clear a5
            go_wp2
            go_meet
            case rel => exact ⟨rfl, A5.out⟩
          · go_wp2
            go_meet
            case rel => exact ⟨rfl, Apart.refl _ _⟩
        · obtain rfl : F = 90 := HF.out.2.1 (by omega)
          obtain ⟨r, hr, hr0⟩ : ∃ r : Int, (k : Int) % 4 = r ∧ ¬ r = 0 := ⟨_, rfl, h4⟩
          have e2 : (k : Int).tmod 4 = r := by rw [Int.tmod_eq_emod_of_nonneg (by omega)]; exact hr
          clear h4
          go_wp2
          go_meet
          case rel => exact ⟨rfl, Apart.refl _ _⟩
      case rest =>
        obtain ⟨rfl, hac⟩ := hcut
        have N5 := mkHid (N4.out.ap hac)
        clear hac N4 K4 c0 c1 c2 g0 g1 g2
        have HNM := mkHid HF.out.2.2.2.1
        have HK6 := mkHid HF.out.2.2.2.2
        have hk6 : (k : Int) ≤ 65536 := by have := HK6.out; omega
        have hn16 : (n' : Int) ≤ 16 := by have := HL16.out; omega
        go_wp2
        go_loopw [10, 11] (fun v i wr => ∃ j : Nat, j ≤ n' ∧ i = .int .i64 (j : Int) ∧ v = .int .i64 ((nM (l'.take j) : Nat) : Int) ∧ wr = wc) (fun _ i _ => n' - (intOf i).toNat)
        case atStart => exact ⟨0, Nat.zero_le _, rfl, rfl, rfl⟩
        case round =>
          obtain ⟨j, hj, rfl, rfl, hwr⟩ := hrel
          subst hwr
          have nd := N5.out.d
          rw [HN'.out] at nd
          obtain ⟨⟨g0, g1, g2⟩, _⟩ := cells3' nd
          clear nd
          obtain ⟨z, HZ⟩ : ∃ z : Nat, Hid (nM (l'.take j) = z) := ⟨_, rfl⟩
          rw [HZ.out]
          have hz1 : (z : Int) ≤ 32768 := by have := nM_le l' j; have := HNM.out; have := HK6.out; have := HZ.out; omega
          by_cases hlt : j < n'
          · obtain ⟨b, off, x, rfl, hb, hx, d0, d1, ⟨ma, mc, d2, hma⟩, _⟩ := N5.out.b.at j (by rw [HN'.out]; exact hlt)
            have HSTP := mkHid (nM_take hx)
            obtain ⟨M, HM⟩ : ∃ M, Hid (x.m.length = M) := ⟨_, rfl⟩
            rw [HM.out, HZ.out] at HSTP
            rw [HM.out] at d2
            have hm5 : (M : Int) ≤ 32768 := by have := nM_le l' (j + 1); have := HNM.out; have := HK6.out; have := HSTP.out; omega
            have hj0 : (0 : Int) ≤ j := by omega
            have hj1 : (j : Int) < n' := by omega
            clear hb hx d0 d1 hma g0 g2
            go_wp2
            go_roundw
            case rel => exact ⟨j + 1, hlt, by go_num, by rw [HSTP.out]; go_num, by first | rfl | trivial⟩
            case measure => simp [intOf]; omega
          · obtain rfl : n' = j := by omega
            have hz3 : 2 * (z : Int) ≤ k := by
              have := HZ.out
              rw [← HN'.out, List.take_length] at this
              have := HNM.out
              omega
            go_wp2_with fail
            refine (wakes_any _).mono ?_
            rintro e w9 ⟨rfl, p9⟩
            have K9 := mkHid (N5.out.next p9)
            clear p9
            go_wp2
            go_ret
            exact ⟨rfl, K9.out.k.belowZ⟩
    · obtain rfl : S = ⟨#[]⟩ := by rw [← HSS.out]; exact encS_none (by rw [HEE.out]; exact hE)
      go_wp2_with fail
      refine (wakes_any _).mono ?_
      rintro e w9 ⟨rfl, p9⟩
      have K9 := mkHid (K3.out.next p9)
      clear p9
      go_wp2
      go_ret
      exact ⟨rfl, K9.out.k.belowZ⟩

set_option maxRecDepth 100000 in
theorem lifted (os : Os) (started : os.Started) (H : Type) (enc : TypeId × Value → H) :
    ReturnsInHanded {} Try.checked os 6 .any (Rows.ccfbCutsSpec.pre6 enc Try.prog Try.f6 Rows.ccfbCutsRow.domain false) (Rows.ccfbCutsSpec.post enc Try.prog Try.f6 false true false false) := by
  refine returnsInHanded_of_change (C := Try.checked) own started (by kernel_rfl) Try.func6
    (ChangeSpec.witness6 (enc := enc) (C := Try.checked) false ⟨#[], #[.agg #[.int .u32 0, .slice none 0 0, .int .u32 0], .int .i64 0], []⟩ 8 (by kernel_rfl) (by kernel_rfl) (by kernel_rfl) (by kernel_rfl)) ?_
  intro W base args ds gs before hval0 hW hcnd _
  have hval : ∀ (j : Nat) t v, Try.f6.params[j]? = some t → args[j]? = some v → Value.okWide Try.prog W .any base t v := hval0
  have hW' := hW
  obtain ⟨p, q, hA0, hV, rfl, hfz, hnd⟩ := hW
  have hA : DataW.TrodAll enc Try.prog W 0 (fun _ => true) true Try.f6.params.toList args.toList ds p := hA0
  rw [Try.params6] at hA hval
  obtain ⟨v0, vs0, d0, ds0, p0, q0, hargs, rfl, rfl, h0, r0⟩ := trodAll_cons hA
  obtain ⟨v1, vs1, d1, ds1, p1, q1, rfl, rfl, rfl, h1, r1⟩ := trodAll_cons r0
  obtain ⟨rfl, rfl, rfl⟩ := trodAll_nil r1
  obtain rfl : args = #[v0, v1] := by cases args; simp_all
  obtain ⟨rfl, rfl⟩ := trodVars_none hV
  have k0 := h0
  have lt0 : ∀ x ∈ p0, x.block < W.heap.size := by obtain ⟨m, hm⟩ := k0; exact DataW.trod_lt m _ _ _ hm
  obtain ⟨sd, a, cap, l, st, rfl, w0⟩ := open0 (hval 0 25 v0 rfl rfl) h0
  obtain ⟨a1, rfl, rfl, rfl, w1⟩ := open_int Try.underlying3 (hval 1 3 v1 rfl rfl) h1
  clear hA0 hval0
  refine (walk sd a cap l st a1 W w0 w1).mono fun e W' ⟨he, bel⟩ => ?_
  subst he
  exact ⟨_, rfl, _, _, _, [], _, [], hW', trodAll_mk1 (shut_bool Try.underlying4 _), (trodAll_cons_mk (Below.trod laidOut (by kernel_rfl) (of_decide_eq_true (by kernel_rfl)) k0 bel lt0) (trodAll_cons_mk (shut_int Try.underlying3 w1) trodAll_mk0)), rfl, bel.frame _, fun h => by cases h⟩

theorem over : Rows.ccfbCutsRow.holds Try.pinned (OpenSpec.ofChange Rows.ccfbCutsSpec) :=
  OpenClaim.holds_of_wide 6 Try.f6 rfl rfl rfl rfl rfl rfl rfl ⟨rfl, rfl, rfl, rfl, rfl⟩ rfl rfl rfl rfl rfl (by kernel_rfl) Try.func6 (by kernel_rfl)
    (of_decide_eq_true (by kernel_rfl)) (by unfold Func.isWrapper; first | (rw [if_pos (by decide +kernel)]; kernel_rfl) | (rw [if_neg (by decide +kernel)]; exact ⟨rfl, rfl⟩))
    (fun os started H enc _ => lifted os started H enc)
end Go.Proofs.Ytohembamfjbclaa.ccfbCuts
namespace Go.Proofs.Ytohembamfjbclaa
/-- The statement. -/
theorem ccfbCuts_holds : Rows.CcfbCutsSaid := ccfbCuts.over
#print axioms ccfbCuts_holds
end Go.Proofs.Ytohembamfjbclaa
