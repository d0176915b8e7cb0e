/-
  CcfbSize: a body is as long as its packets ask.
-/
import Derived.Test.YtohembamfjbclaaRows
import Derived.WalkKit
import Derived.ProofKit
import Derived.OpenShut
import Derived.ShutString
import Derived.ChangeOld
import Derived.Below
import Derived.Deep.Slices
import Derived.Test.YtohembamfjbclaaCcS
import Derived.Test.YtohembamfjbclaaCcR
namespace Go.Proofs.Ytohembamfjbclaa.ccfbSize
open Go.ChangeShapes Go.WideShapes Go.ChangeAt Go.RowKit
open Go.ChangeMaps (open_string shut_string)
set_option linter.unusedVariables false

theorem own : ownKnob Try.prog.godebug = none := by kernel_rfl
theorem laidOut : laidOutB Try.prog = true := by kernel_rfl

theorem open0 {H : Type} {enc : TypeId × Value → H} {W : World} {r : Reach} {b0 : Nat} {v : Value} {d : DataW H} {p : List MemPlace} (hv : Value.okWide Try.prog W r b0 25 v)
    (h : DataW.Trod enc Try.prog W 0 (fun _ => true) true 25 v d p) : ∃ sd a cap l st, v = rv sd a l.length cap st ∧ CIn W sd a l st := open_ccfb hv h
set_option maxRecDepth 100000 in
set_option maxHeartbeats 1000000 in
theorem walk (sd : Int) (a : Option Addr) (cap : Nat) (l : List Bk) (st : Int) (w : World) (w0 : CIn w sd a l st) : Calls Try.prog 7 #[rv sd a l.length cap st] w fun e w' => e = .returned (.bool true) ∧ Below w.heap.size w w' := by
  have HC := mkHid w0
  have K0 := mkHid (ck_box (sd := sd) (cap := cap) (st := st) w0.b)
  obtain ⟨n, HN⟩ : ∃ n, Hid (l.length = n) := ⟨_, rfl⟩
  obtain ⟨S, HSS⟩ : ∃ x, Hid (encS sd l st = x) := ⟨_, rfl⟩
  obtain ⟨E, HEE⟩ : ∃ x, Hid (encE l = x) := ⟨_, rfl⟩
  rw [HN.out] at K0 ⊢
  obtain ⟨bx, W, HBX, HW⟩ := boxed w sd (.slice a n cap) st
  rw [HW.out, HBX.out] at K0
  have LA := mkHid (large_any sd st a cap l W K0.out.b)
  unfold LargePost rv at LA
  rw [HN.out] at LA
  unfold rv
  clear w0
  go_enter Try.func7, Try.ntmps7
  go_wp2_with fail
  rw [HW.out, HBX.out]
  refine (LA.out).mono ?_
  rintro e w1 ⟨⟨g, rfl, hg⟩, a1⟩
  have K1 := mkHid (K0.out.ap a1)
  have HG := mkHid hg
  clear a1 K0 LA hg
  have kd := K1.out.d
  rw [HN.out] at kd
  obtain ⟨⟨c0, c1, c2⟩, _⟩ := cells3' kd
  clear kd
  cases g with
  | true =>
    go_wp2_with fail
    refine (wakes_any _).mono ?_
    rintro e w2 ⟨rfl, p2⟩
    have K2 := mkHid (K1.out.next p2)
    clear p2
    go_wp2
    go_ret
    exact ⟨rfl, K2.out.k.belowZ⟩
  | false =>
    obtain ⟨l1, l2, l3⟩ := HG.out rfl
    have CA := mkHid (copy_any sd st a cap l w1 K1.out.b (by rw [HN.out]; exact l1) l2)
    have HL1 := mkHid l1
    have HL2 := mkHid l2
    have HSZ := mkHid (show szB l ≤ 80400 by have := sz_nM l; rw [HN.out] at this; omega)
    unfold CopyPost rv at CA
    rw [HN.out] at CA
    clear l1 l2 l3 HG
    go_wp2_with fail
    refine (CA.out).mono ?_
    rintro e w2 ⟨a', c', rfl, hba, b2⟩
    have K2 := mkHid (K1.out.next b2)
    have EA := mkHid (enc_at (cap := c') hba HC.out.s0 HC.out.s1 HC.out.t0 HC.out.t1 HSS.out HEE.out)
    rw [HN.out] at EA
    clear hba b2 CA K1 c0 c1 c2
    go_wp2_with fail
    refine (EA.out).mono ?_
    rintro e w3 ⟨rfl, b3⟩
    have K3 := mkHid (K2.out.next b3)
    clear b3 K2 EA
    have hn40 : (n : Int) ≤ 40 := by have := HL1.out; omega
    go_wp2
    go_loopw [5, 6] (fun v i wr => ∃ k : Nat, k ≤ n ∧ i = .int .i64 (k : Int) ∧ v = .int .i64 ((8 + szB (l.take k) : Nat) : Int) ∧ wr = w3) (fun _ i _ => n - (intOf i).toNat)
    case atStart => exact ⟨0, Nat.zero_le _, rfl, rfl, rfl⟩
    case round =>
      obtain ⟨k, hk, rfl, rfl, hwr⟩ := hrel
      subst hwr
      have kd := K3.out.d
      rw [HN.out] at kd
      obtain ⟨⟨c0, c1, c2⟩, _⟩ := cells3' kd
      clear kd
      obtain ⟨z, HZ⟩ : ∃ z : Nat, Hid (8 + szB (l.take k) = z) := ⟨_, rfl⟩
      rw [HZ.out]
      have hz1 : (z : Int) ≤ 80408 := by have := szB_le l k; have := HSZ.out; have := HZ.out; omega
      have HZ4 := mkHid (show z % 4 = 0 by have := szB_mod (l.take k); have := HZ.out; omega)
      by_cases hlt : k < n
      · obtain ⟨b, off, x, rfl, hb, hx, d0, d1, ⟨ma, mc, d2, hma⟩, _⟩ := K3.out.b.at k (by rw [HN.out]; exact hlt)
        have HM5 := mkHid (HL2.out x (List.mem_of_getElem? hx))
        have HST := mkHid (szB_take hx)
        obtain ⟨M, HM⟩ : ∃ M, Hid (x.m.length = M) := ⟨_, rfl⟩
        rw [HM.out] at d2 HM5 HST
        have hm5 : (M : Int) ≤ 5000 := by have := HM5.out; omega
        have hk0 : (0 : Int) ≤ k := by omega
        have hk1 : (k : Int) < n := by omega
        have HNX := mkHid (show 8 + szB (l.take (k + 1)) = z + (8 + mb M) by rw [HST.out]; have := HZ.out; omega)
        clear hb hx d0 d1 hma c0 c2
        by_cases hp : M % 2 = 0
        · have e1 : ((z : Int) + (8 + 2 * (M : Int))) % 4 = 0 := by have := HZ4.out; omega
          have e2 : ((z : Int) + (8 + 2 * (M : Int))).tmod 4 = 0 := by rw [Int.tmod_eq_emod_of_nonneg (by omega)]; exact e1
          have HR := mkHid (show (z + (8 + mb M) : Nat) = z + (8 + 2 * M) by unfold mb; omega)
          clear hp
          go_wp2
          go_roundw
          case rel => exact ⟨k + 1, hlt, by go_num, by rw [HNX.out, HR.out]; go_num, by first | rfl | trivial⟩
          case measure => simp [intOf]; omega
        · have e1 : ((z : Int) + (8 + 2 * (M : Int))) % 4 = 2 := by have := HZ4.out; omega
          have e2 : ((z : Int) + (8 + 2 * (M : Int))).tmod 4 = 2 := by rw [Int.tmod_eq_emod_of_nonneg (by omega)]; exact e1
          have HR := mkHid (show (z + (8 + mb M) : Nat) = z + (8 + 2 * M) + 2 by unfold mb; omega)
          clear hp
          go_wp2
          go_roundw
          case rel => exact ⟨k + 1, hlt, by go_num, by rw [HNX.out, HR.out]; go_num, by first | rfl | trivial⟩
          case measure => simp [intOf]; omega
      · obtain rfl : n = k := by omega
        have HZE := mkHid (show z = 8 + szB l by rw [← HZ.out, ← HN.out, List.take_length])
        have GB := mkHid (rgood_any sd st a cap l wr K3.out.b)
        unfold rv at GB
        rw [HN.out] at GB
        rcases encE_cases l with ⟨h1, h2⟩ | ⟨h1, h2, h3⟩ | ⟨h1, h2, h3⟩
        · obtain rfl : E = 1 := by rw [← HEE.out, h2]
          obtain rfl : S = ⟨#[]⟩ := by rw [← HSS.out]; exact encS_none (by rw [h2]; decide)
          rw [h1] at GB
          clear h1 h2
          go_wp2_with fail
          refine (GB.out).mono ?_
          rintro e w4 ⟨rfl, a4⟩
          have K4 := mkHid (K3.out.ap a4)
          clear a4 c0 c1 c2
          go_wp2_with fail
          refine (wakes_any _).mono ?_
          rintro e w5 ⟨rfl, p5⟩
          have K5 := mkHid (K4.out.next p5)
          clear p5
          go_wp2
          go_ret
          exact ⟨rfl, K5.out.k.belowZ⟩
        · obtain rfl : E = 2 := by rw [← HEE.out, h3]
          obtain rfl : S = ⟨#[]⟩ := by rw [← HSS.out]; exact encS_none (by rw [h3]; decide)
          rw [h1] at GB
          have hz2 : (65536 : Int) < z := by have := HZE.out; omega
          clear h1 h2 h3
          go_wp2_with fail
          refine (GB.out).mono ?_
          rintro e w4 ⟨rfl, a4⟩
          have K4 := mkHid (K3.out.ap a4)
          clear a4 c0 c1 c2
          go_wp2_with fail
          refine (wakes_any _).mono ?_
          rintro e w5 ⟨rfl, p5⟩
          have K5 := mkHid (K4.out.next p5)
          clear p5
          go_wp2
          go_ret
          exact ⟨rfl, K5.out.k.belowZ⟩
        · obtain rfl : E = 0 := by rw [← HEE.out, h3]
          have hz2 : (z : Int) ≤ 65536 := by have := HZE.out; omega
          have hz3 : (S.size : Int) = z := by have := encS_size (sd := sd) (st := st) h3; rw [HSS.out] at this; have := HZE.out; omega
          clear h1 h2 h3
          go_wp2_with fail
          refine (wakes_any _).mono ?_
          rintro e w5 ⟨rfl, p5⟩
          have K5 := mkHid (K3.out.next p5)
          clear p5
          go_wp2
          go_ret
          exact ⟨rfl, K5.out.k.belowZ⟩

set_option maxRecDepth 100000 in
theorem lifted (os : Os) (started : os.Started) (H : Type) (enc : TypeId × Value → H) :
    ReturnsInHanded {} Try.checked os 7 .any (Rows.ccfbSizeSpec.pre6 enc Try.prog Try.f7 Rows.ccfbSizeRow.domain false) (Rows.ccfbSizeSpec.post enc Try.prog Try.f7 false true false false) := by
  refine returnsInHanded_of_change (C := Try.checked) own started (by kernel_rfl) Try.func7
    (ChangeSpec.witness6 (enc := enc) (C := Try.checked) false ⟨#[], #[.agg #[.int .u32 0, .slice none 0 0, .int .u32 0]], []⟩ 8 (by kernel_rfl) (by kernel_rfl) (by kernel_rfl) (by kernel_rfl)) ?_
  intro W base args ds gs before hval0 hW hcnd _
  have hval : ∀ (j : Nat) t v, Try.f7.params[j]? = some t → args[j]? = some v → Value.okWide Try.prog W .any base t v := hval0
  have hW' := hW
  obtain ⟨p, q, hA0, hV, rfl, hfz, hnd⟩ := hW
  have hA : DataW.TrodAll enc Try.prog W 0 (fun _ => true) true Try.f7.params.toList args.toList ds p := hA0
  rw [Try.params7] at hA hval
  obtain ⟨v0, vs0, d0, ds0, p0, q0, hargs, rfl, rfl, h0, r0⟩ := trodAll_cons hA
  obtain ⟨rfl, rfl, rfl⟩ := trodAll_nil r0
  obtain rfl : args = #[v0] := by cases args; simp_all
  obtain ⟨rfl, rfl⟩ := trodVars_none hV
  have k0 := h0
  have lt0 : ∀ x ∈ p0, x.block < W.heap.size := by obtain ⟨m, hm⟩ := k0; exact DataW.trod_lt m _ _ _ hm
  obtain ⟨sd, a, cap, l, st, rfl, w0⟩ := open0 (hval 0 25 v0 rfl rfl) h0
  clear hA0 hval0
  refine (walk sd a cap l st W w0).mono fun e W' ⟨he, bel⟩ => ?_
  subst he
  exact ⟨_, rfl, _, _, _, [], _, [], hW', trodAll_mk1 (shut_bool Try.underlying4 _), (trodAll_cons_mk (Below.trod laidOut (by kernel_rfl) (of_decide_eq_true (by kernel_rfl)) k0 bel lt0) trodAll_mk0), rfl, bel.frame _, fun h => by cases h⟩

theorem over : Rows.ccfbSizeRow.holds Try.pinned (OpenSpec.ofChange Rows.ccfbSizeSpec) :=
  OpenClaim.holds_of_wide 7 Try.f7 rfl rfl rfl rfl rfl rfl rfl ⟨rfl, rfl, rfl, rfl, rfl⟩ rfl rfl rfl rfl rfl (by kernel_rfl) Try.func7 (by kernel_rfl)
    (of_decide_eq_true (by kernel_rfl)) (by unfold Func.isWrapper; first | (rw [if_pos (by decide +kernel)]; kernel_rfl) | (rw [if_neg (by decide +kernel)]; exact ⟨rfl, rfl⟩))
    (fun os started H enc _ => lifted os started H enc)
end Go.Proofs.Ytohembamfjbclaa.ccfbSize
namespace Go.Proofs.Ytohembamfjbclaa
/-- The statement. -/
theorem ccfbSize_holds : Rows.CcfbSizeSaid := ccfbSize.over
#print axioms ccfbSize_holds
end Go.Proofs.Ytohembamfjbclaa
