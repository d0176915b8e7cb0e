/-
  TwccSmall: a run of packets that are all alike takes one chunk, whatever their number.
-/
import Derived.Test.YtcbehpocnnkkeaaRows
import Derived.WalkKit
import Derived.ProofKit
import Derived.OpenShut
import Derived.ShutString
import Derived.ChangeOld
import Derived.Below
import Derived.Deep.Slices
import Derived.Test.YtcbehpocnnkkeaaTwT
import Derived.Deep.RegionHeld3
namespace Go.Proofs.Ytcbehpocnnkkeaa.twccSmall
open Go.ChangeShapes Go.WideShapes Go.ChangeAt Go.RowKit
open Go.ChangeMaps (open_string shut_string)
set_option linter.unusedVariables false

theorem own : ownKnob Try.prog.godebug = none := by kernel_rfl
theorem laidOut : laidOutB Try.prog = true := by kernel_rfl

theorem open2 {H : Type} {enc : TypeId × Value → H} {W : World} {r : Reach} {b0 : Nat} {v : Value} {d : DataW H} {p : List MemPlace} (hv : Value.okWide Try.prog W r b0 25 v)
    (h : DataW.Trod enc Try.prog W 0 (fun _ => true) true 25 v d p) : ∃ r a c a' c', v = rv r a r.st.length c a' r.dl.length c' ∧ CIn W r a c a' c' := open_twcc hv h
theorem q_nat (a : Int) (m : Nat) (hm : 0 < m) : ∃ q : Nat, (IntKind.u64.wrap a).tmod m = (q : Int) ∧ q < m := by
  have h : 0 ≤ IntKind.u64.wrap a := by rw [IntKind.wrap_u64]; omega
  have h1 := Int.tmod_nonneg (m : Int) h
  have h2 := Int.tmod_lt_of_pos (IntKind.u64.wrap a) (show (0 : Int) < m by omega)
  exact ⟨((IntKind.u64.wrap a).tmod m).toNat, by omega, by omega⟩
theorem wr64 (x : Int) (h0 : 0 ≤ x) (h1 : x ≤ 1000000000) : IntKind.i64.wrap x = x := by rw [IntKind.wrap_i64]; omega
set_option maxRecDepth 100000 in
set_option maxHeartbeats 4000000 in
theorem walk (a0 a1 : Int) (r : Rp) (a : Option Addr) (c : Nat) (a' : Option Addr) (c' : Nat) (w : World) (w0 : (Lit.int .i64 a0).wf = true) (w1 : (Lit.int .i64 a1).wf = true) (w2 : CIn w r a c a' c') : Calls Try.prog 6 #[.int .i64 a0, .int .i64 a1, rv r a r.st.length c a' r.dl.length c'] w fun e w' => e = .returned (.bool true) ∧ Below w.heap.size w w' := by
  have HC := mkHid w2
  obtain ⟨q, hq, hq1⟩ := q_nat a0 4096 (by decide)
  obtain ⟨sn, hs, hs1⟩ := q_nat a1 3 (by decide)
  simp only [Int.cast_ofNat_Int] at hq hs
  obtain ⟨s, HS⟩ : ∃ s : Int, Hid ((sn : Int) = s) := ⟨_, rfl⟩
  rw [HS.out] at hs
  have s0 : 0 ≤ s := by have := HS.out; omega
  have s2 : s ≤ 2 := by have := HS.out; omega
  obtain ⟨k, HK⟩ : ∃ k : Nat, Hid (1 + q = k) := ⟨_, rfl⟩
  have hk : 1 + (q : Int) = (k : Int) := by have := HK.out; omega
  have hk1 : (1 : Int) ≤ k := by omega
  have hk4 : (k : Int) ≤ 4096 := by omega
  have hq1' : (q : Int) < 4096 := by omega
  have K0 := mkHid (ck_new (c := c) (c' := c') w2.i w2.j (Apart.refl (fun _ => False) w))
  clear w0 w1 w2
  obtain ⟨bx, W, HBX, HW⟩ := boxed w (bxO r a r.st.length c a' r.dl.length c')
  rw [HW.out, HBX.out] at K0
  obtain ⟨c0, c1, c2, c3, c4, c5, c6⟩ := K0.out.d.c
  obtain ⟨f0, f1, f2, f3, f4, f5, f6⟩ := K0.out.d.f
  have L0 := mkHid (show Lw w ((W.setCell ⟨bx, 5, none⟩ (.slice none 0 0)).setCell ⟨bx, 6, none⟩ (.slice none 0 0)) bx (.int .u32 r.sd) (.int .u32 r.md) (.int .i64 r.fi) (.int .i64 r.ba) (.int .i64 r.co) none 0 0 [] none 0 0 [] by
    have S := (ap_set W bx 5 (.slice none 0 0)).trans (ap_set _ bx 6 (.slice none 0 0)) (fun _ _ h => h)
    refine ⟨(K0.out.d.set5 _).set6 _, World.ownsRow_nil _ _ _ _, World.ownsRow_nil _ _ _ _, (fun k h => by cases h), K0.out.k.trans S (fun i hi e => by have := HBX.out; omega), by rw [HBX.out]; exact Nat.le_refl _, ?_⟩
    have := lt_of_heap K0.out.d
    have := S.size
    omega)
  obtain ⟨W1, HW1⟩ : ∃ W1, Hid ((W.setCell ⟨bx, 5, none⟩ (.slice none 0 0)).setCell ⟨bx, 6, none⟩ (.slice none 0 0) = W1) := ⟨_, mkHid rfl⟩
  rw [HW1.out] at L0
  obtain ⟨i0, hi, hz0, hz1, hz2⟩ := info3'
  unfold rv
  go_enter Try.func6, Try.ntmps6
  go_upto_region 1 with fail
  rw [HW.out, HBX.out]
  go_upto_region 3 with fail
  rw [HW1.out]
  clear c0 c1 c2 c3 c4 c5 c6 f0 f1 f2 f3 f4 f5 f6 K0 hq hs hq1 hs1 hq1'
  go_wp2
  go_loopw [9] (fun i wr => ∃ (j : Nat) (va : Option Addr) (vc : Nat) (da : Option Addr) (m dc : Nat), j ≤ k ∧ i = .int .i64 (j : Int) ∧ m ≤ j ∧ Lw w wr bx (.int .u32 r.sd) (.int .u32 r.md) (.int .i64 r.fi) (.int .i64 r.ba) (.int .i64 r.co) va j vc (List.replicate j s) da m dc (dsS s j)) (fun i _ => k - (intOf i).toNat)
  case atStart => exact ⟨0, none, 0, none, 0, 0, Nat.zero_le _, rfl, Nat.le_refl _, by rw [dsS_nil]; exact L0.out⟩
  case round =>
    obtain ⟨j, va, vc, da, m, dc, hj, rfl, hmj, hlw⟩ := hrel
    have HL := mkHid hlw
    have HM := mkHid hmj
    clear hlw L0 hmj
    obtain ⟨c0, c1, c2, c3, c4, c5, c6⟩ := HL.out.o.c
    obtain ⟨f0, f1, f2, f3, f4, f5, f6⟩ := HL.out.o.f
    by_cases hlt : j < k
    · have j0 : (0 : Int) ≤ j := by omega
      have j1 : (j : Int) < k := by omega
      have GA := mkHid (HL.out.alloc (.cells #[.int .i64 s] 3))
      go_upto_region 7 with (at_builtin; refine wpList_append_own2 _ rfl (.tmp 29) (.tmp 31) 23 rfl (bx + 1) 3 i0 (.int .i64 0) 1 8 Try.underlying23 hi hz0 hz1 hz2 rfl (by decide) (.slice va j vc) j (IC (List.replicate j s)) rfl GA.out.ow ⟨wr.heap.size, 0, none⟩ 1 1 [.int .i64 s] rfl rfl (cell_one_new _ _ _) (by intro u hu; simp at hu; subst hu; rfl) (by unfold maxLen; omega) (by omega) GA.out.z.2 ?_; intro v3 w7 hown3 hgrow3 hown4; obtain ⟨va3, vc3, hv3⟩ := ownsRow_slice hown3; subst hv3; have G8 := mkHid (GA.out.app5 hown3 hgrow3 hown4); have NB := mkHid (GA.out.nb5 hgrow3); clear hown3 hgrow3 hown4 c0 c1 c2 c3 c4 c5 c6 f0 f1 f2 f3 f4 f5 f6; obtain ⟨c0, c1, c2, c3, c4, c5, c6⟩ := NB.out.c; obtain ⟨f0, f1, f2, f3, f4, f5, f6⟩ := NB.out.f)
      obtain ⟨W8, HW8⟩ : ∃ W8, Hid (w7.setCell ⟨bx, 5, none⟩ (.slice va3 (j + 1) vc3) = W8) := ⟨_, rfl⟩
      rw [HW8.out] at G8 ⊢
      rw [← rep_add] at G8
      clear GA NB HL c0 c1 c2 c3 c4 c5 c6 f0 f1 f2 f3 f4 f5 f6
      obtain ⟨c0, c1, c2, c3, c4, c5, c6⟩ := G8.out.o.c
      obtain ⟨f0, f1, f2, f3, f4, f5, f6⟩ := G8.out.o.f
      by_cases h0 : 0 < s
      · obtain ⟨y, HY⟩ : ∃ y : Int, Hid (((j % 200 : Nat) : Int) = y) := ⟨_, rfl⟩
        have D1 := mkHid (dsS_add h0 j)
        rw [HY.out] at D1
        have ht1 : (j : Int).tmod 200 = y := by rw [Int.tmod_eq_emod_of_nonneg j0]; have := HY.out; omega
        have ht2 : (j : Int) % 200 = y := by have := HY.out; omega
        have y0 : 0 ≤ y := by omega
        have y1 : y < 200 := by omega
        have GB := mkHid (G8.out.alloc (.cells #[.int .i64 y] 3))
        go_wp2_with (at_builtin; refine wpList_append_own2 _ rfl (.tmp 37) (.tmp 40) 23 rfl (bx + 1) 3 i0 (.int .i64 0) 1 8 Try.underlying23 hi hz0 hz1 hz2 rfl (by decide) (.slice da m dc) m (IC (dsS s j)) rfl GB.out.od ⟨W8.heap.size, 0, none⟩ 1 1 [.int .i64 y] rfl rfl (cell_one_new _ _ _) (by intro u hu; simp at hu; subst hu; rfl) (by unfold maxLen; have := HM.out; omega) (by have := HM.out; omega) GB.out.z.2 ?_; intro v3 w9 hown3 hgrow3 hown4; obtain ⟨da3, dc3, hv3⟩ := ownsRow_slice hown3; subst hv3; have G9 := mkHid (GB.out.app6 hown3 hgrow3 hown4); have NB := mkHid (GB.out.nb6 hgrow3); clear hown3 hgrow3 hown4 c0 c1 c2 c3 c4 c5 c6 f0 f1 f2 f3 f4 f5 f6; obtain ⟨c0, c1, c2, c3, c4, c5, c6⟩ := NB.out.c; obtain ⟨f0, f1, f2, f3, f4, f5, f6⟩ := NB.out.f)
        go_roundw
        case rel => exact ⟨j + 1, va3, vc3, da3, m + 1, dc3, by omega, by go_num, by have := HM.out; omega, by rw [D1.out]; exact G9.out⟩
        case measure => simp [intOf]; omega
      · have D1 := mkHid (show dsS s (j + 1) = dsS s j by rw [dsS_zero h0, dsS_zero h0])
        go_wp2
        go_roundw
        case rel => exact ⟨j + 1, va3, vc3, da, m, dc, by omega, by go_num, by have := HM.out; omega, by rw [D1.out]; exact G8.out⟩
        case measure => simp [intOf]; omega
    · obtain rfl : k = j := by omega
      obtain ⟨R, R0, R1, R2, R3, R4, R5, R6⟩ : ∃ R : Rp, Hid (R.sd = r.sd) ∧ Hid (R.md = r.md) ∧ Hid (R.fi = r.fi) ∧ Hid (R.ba = r.ba) ∧ Hid (R.co = r.co) ∧ Hid (R.st = List.replicate k s) ∧ Hid (R.dl = dsS s k) := ⟨⟨r.sd, r.md, r.fi, r.ba, r.co, List.replicate k s, dsS s k⟩, mkHid rfl, mkHid rfl, mkHid rfl, mkHid rfl, mkHid rfl, mkHid rfl, mkHid rfl⟩
      obtain ⟨hl1, hia⟩ := HL.out.ia
      obtain ⟨hl2, hja⟩ := HL.out.ja
      have RL := mkHid (show R.st.length = k by rw [R5.out]; exact hl1)
      have RM := mkHid (show R.dl.length = m by rw [R6.out]; exact hl2)
      have K0 := mkHid (show Ck w wr bx R va vc da dc by
        refine ⟨HL.out.a, ?_, by rw [R5.out]; exact hia, by rw [R6.out]; exact hja⟩
        rw [RL.out, RM.out, R0.out, R1.out, R2.out, R3.out, R4.out]
        exact HL.out.o)
      have CA := mkHid (copy_any R va vc da dc wr K0.out.i K0.out.j (by rw [RL.out]; omega) (by rw [RM.out]; have := HM.out; omega))
      unfold rv at CA
      rw [RL.out, RM.out, R0.out, R1.out, R2.out, R3.out, R4.out] at CA
      obtain ⟨S, HSS⟩ : ∃ x, Hid (encS R = x) := ⟨_, rfl⟩
      obtain ⟨E, HEE⟩ : ∃ x, Hid (encE R = x) := ⟨_, rfl⟩
      clear hl1 hia hl2 hja HL f0 f1 f2 f3 f4 f5 f6 hlt hj
      go_wp2_with fail
      refine (CA.out).mono ?_
      rintro e w2 ⟨b, d, b', d', rfl, hi1, hj1, b2⟩
      have K2 := mkHid (K0.out.ap b2)
      have EA := mkHid (enc_at (c := d) (c' := d') hi1 hj1 (by rw [R0.out]; exact HC.out.s0) (by rw [R0.out]; exact HC.out.s1) (by rw [R1.out]; exact HC.out.t0) (by rw [R1.out]; exact HC.out.t1) HSS.out HEE.out)
      unfold rv at EA
      rw [RL.out, RM.out, R0.out, R1.out, R2.out, R3.out, R4.out] at EA
      clear hi1 hj1 b2 CA K0 c0 c1 c2 c3 c4 c5 c6
      go_wp2_with fail
      refine (EA.out).mono ?_
      rintro e w3 ⟨rfl, b3⟩
      have K3 := mkHid (K2.out.next b3)
      clear b3 K2 EA
      have GD := mkHid (rgood_any R va vc da dc w3 K3.out.i K3.out.j)
      obtain ⟨g, HG⟩ : ∃ g, Hid (goodR R = g) := ⟨_, rfl⟩
      rw [HG.out] at GD
      unfold rv at GD
      rw [RL.out, RM.out, R0.out, R1.out, R2.out, R3.out, R4.out] at GD
      have kd := K3.out.d
      rw [RL.out, RM.out, R0.out, R1.out, R2.out, R3.out, R4.out] at kd
      obtain ⟨c0, c1, c2, c3, c4, c5, c6⟩ := kd.c
      clear kd
      go_wp2_with fail
      refine (GD.out).mono ?_
      rintro e w4 ⟨rfl, b4⟩
      have K4 := mkHid (K3.out.ap b4)
      clear b4 K3 GD c0 c1 c2 c3 c4 c5 c6
      cases g with
      | false =>
        obtain ⟨e1, e2⟩ := encE_no HG.out
        rw [HEE.out] at e1
        rw [HSS.out] at e2
        subst e1 e2
        go_wp2_with fail
        refine (wakes_any _).mono ?_
        rintro e w9 ⟨rfl, p9⟩
        have K9 := mkHid (K4.out.next p9)
        clear p9
        go_wp2
        go_ret
        exact ⟨rfl, K9.out.k.belowZ⟩
      | true =>
        obtain ⟨e1, e2⟩ := encE_yes HG.out
        rw [HEE.out] at e1
        rw [HSS.out] at e2
        subst e1
        obtain ⟨z1, z2, z3, _⟩ := enc_size HG.out
        obtain ⟨m1, m2⟩ := small_is (by omega) (by omega) s0 s2 R5.out HG.out
        rw [← e2] at z1 z2 z3 m1 m2
        have h16 : 16 < S.size := by omega
        have h17 : 17 < S.size := by omega
        have b16 := gv_byte S 16 h16
        have b17 := gv_byte S 17 h17
        rw [show 8 * 16 = 128 from rfl] at b16
        rw [show 8 * 17 = 136 from rfl] at b17
        have u16 := S[16].toNat_lt
        have u17 := S[17].toNat_lt
        rw [b16, b17] at m2
        obtain ⟨u, HU⟩ : ∃ u, Hid (S[16].toNat = u) := ⟨_, mkHid rfl⟩
        obtain ⟨v, HV⟩ : ∃ v, Hid (S[17].toNat = v) := ⟨_, mkHid rfl⟩
        have eu := HU.out
        have ev := HV.out
        rw [eu] at u16 m2
        rw [ev] at u17 m2
        have hs16 : (16 : Int) < S.size := by omega
        have hs17 : (17 : Int) < S.size := by omega
        have hu : (u : Int) < 256 := by omega
        have hv : (v : Int) < 256 := by omega
        have huv : (u : Int) * 256 + v = s * 8192 + k := by omega
        have hx0 : 0 ≤ s * (k : Int) := Int.mul_nonneg s0 (by omega)
        have hx1 : s * (k : Int) ≤ 8192 := by
          have := Int.mul_le_mul s2 hk4 (by omega) (by decide)
          omega
        obtain ⟨x, hx⟩ : ∃ x, s * (k : Int) = x := ⟨_, rfl⟩
        rw [hx] at hx0 hx1 m1
        obtain ⟨t, ht⟩ : ∃ t, (18 + x + 3).tdiv 4 = t := ⟨_, rfl⟩
        have ht' : (18 + x + 3) / 4 = t := by rw [← ht, Int.tdiv_eq_ediv_of_nonneg (by omega)]
        have ht0 : 0 ≤ t := by omega
        have ht1 : t ≤ 4096 := by omega
        have ht4 : t * 4 = (S.size : Int) := by omega
        have hsz : (S.size : Int) ≤ 20000 := by omega
        have hw0 := wr64 x hx0 (by omega)
        have hw1 := wr64 (18 + x) (by omega) (by omega)
        have hw2 := wr64 (18 + x + 3) (by omega) (by omega)
        have hw3 := wr64 t ht0 (by omega)
        have hw4 := wr64 (S.size : Int) (by omega) (by omega)
        have hw5 := wr64 (u : Int) (by omega) (by omega)
        have hw6 := wr64 ((u : Int) * 256) (by omega) (by omega)
        have hw7 := wr64 (v : Int) (by omega) (by omega)
        have hw8 := wr64 ((u : Int) * 256 + v) (by omega) (by omega)
        have hw9 := wr64 (s * 8192) (by omega) (by omega)
        have hw10 := wr64 (s * 8192 + k) (by omega) (by omega)
        clear z1 z2 z3 m1 m2 b16 b17 u16 u17 e2
        have HS0 := mkHid K4.out.k
        have HS1 := mkHid ((K4.out.ap ((Apart.refl _ _).drew)).k)
        have HNY := mkHid (fun (w1 w2 : World) (hb : Below w1.heap.size w1 w2) (h : Apart (fun _ => False) w w1) => h.zz (below_apart hb))
        have td := HS1.out
        go_wp2_with fail
        go_region_held3 (fun w' => Apart (fun _ => False) w w')
          (first | exact HS0.out | exact HS1.out | exact HNY.out _ _ (by assumption) (by assumption))
          (first | (go_at_call 9; refine (wakes_any _).mono ?_; rintro e w' ⟨rfl, hbx⟩))
        all_goals (try go_wp2)
        all_goals (go_ret; exact ⟨rfl, (show Apart (fun _ => False) w _ by assumption).belowZ⟩)

set_option maxRecDepth 100000 in
theorem lifted (os : Os) (started : os.Started) (H : Type) (enc : TypeId × Value → H) :
    ReturnsInHanded {} Try.checked os 6 .any (Rows.twccSmallSpec.pre6 enc Try.prog Try.f6 Rows.twccSmallRow.domain false) (Rows.twccSmallSpec.post enc Try.prog Try.f6 false true false false) := by
  refine returnsInHanded_of_change (C := Try.checked) own started (by kernel_rfl) Try.func6
    (ChangeSpec.witness6 (enc := enc) (C := Try.checked) false ⟨#[], #[.int .i64 0, .int .i64 0, .agg #[.int .u32 0, .int .u32 0, .int .i64 0, .int .i64 0, .int .i64 0, .slice none 0 0, .slice none 0 0]], []⟩ 8 (by kernel_rfl) (by kernel_rfl) (by kernel_rfl) (by kernel_rfl)) ?_
  intro W base args ds gs before hval0 hW hcnd _
  have hval : ∀ (j : Nat) t v, Try.f6.params[j]? = some t → args[j]? = some v → Value.okWide Try.prog W .any base t v := hval0
  have hW' := hW
  obtain ⟨p, q, hA0, hV, rfl, hfz, hnd⟩ := hW
  have hA : DataW.TrodAll enc Try.prog W 0 (fun _ => true) true Try.f6.params.toList args.toList ds p := hA0
  rw [Try.params6] at hA hval
  obtain ⟨v0, vs0, d0, ds0, p0, q0, hargs, rfl, rfl, h0, r0⟩ := trodAll_cons hA
  obtain ⟨v1, vs1, d1, ds1, p1, q1, rfl, rfl, rfl, h1, r1⟩ := trodAll_cons r0
  obtain ⟨v2, vs2, d2, ds2, p2, q2, rfl, rfl, rfl, h2, r2⟩ := trodAll_cons r1
  obtain ⟨rfl, rfl, rfl⟩ := trodAll_nil r2
  obtain rfl : args = #[v0, v1, v2] := by cases args; simp_all
  obtain ⟨rfl, rfl⟩ := trodVars_none hV
  obtain ⟨a0, rfl, rfl, rfl, w0⟩ := open_int Try.underlying3 (hval 0 3 v0 rfl rfl) h0
  obtain ⟨a1, rfl, rfl, rfl, w1⟩ := open_int Try.underlying3 (hval 1 3 v1 rfl rfl) h1
  have k2 := h2
  have lt2 : ∀ x ∈ p2, x.block < W.heap.size := by obtain ⟨m, hm⟩ := k2; exact DataW.trod_lt m _ _ _ hm
  obtain ⟨r, a, c, a', c', rfl, w2⟩ := open2 (hval 2 25 v2 rfl rfl) h2
  clear hA0 hval0
  refine (walk a0 a1 r a c a' c' W w0 w1 w2).mono fun e W' ⟨he, bel⟩ => ?_
  subst he
  exact ⟨_, rfl, _, _, _, [], _, [], hW', trodAll_mk1 (shut_bool Try.underlying4 _), (trodAll_cons_mk (shut_int Try.underlying3 w0) (trodAll_cons_mk (shut_int Try.underlying3 w1) (trodAll_cons_mk (Below.trod laidOut (by kernel_rfl) (of_decide_eq_true (by kernel_rfl)) k2 bel lt2) trodAll_mk0))), rfl, bel.frame _, fun h => by cases h⟩

theorem over : Rows.twccSmallRow.holds Try.pinned (OpenSpec.ofChange Rows.twccSmallSpec) :=
  OpenClaim.holds_of_wide 6 Try.f6 rfl rfl rfl rfl rfl rfl rfl ⟨rfl, rfl, rfl, rfl, rfl⟩ rfl rfl rfl rfl rfl (by kernel_rfl) Try.func6 (by kernel_rfl)
    (of_decide_eq_true (by kernel_rfl)) (by unfold Func.isWrapper; first | (rw [if_pos (by decide +kernel)]; kernel_rfl) | (rw [if_neg (by decide +kernel)]; exact ⟨rfl, rfl⟩))
    (fun os started H enc _ => lifted os started H enc)
end Go.Proofs.Ytcbehpocnnkkeaa.twccSmall
namespace Go.Proofs.Ytcbehpocnnkkeaa
/-- The statement. -/
theorem twccSmall_holds : Rows.TwccSmallSaid := twccSmall.over
#print axioms twccSmall_holds
end Go.Proofs.Ytcbehpocnnkkeaa
