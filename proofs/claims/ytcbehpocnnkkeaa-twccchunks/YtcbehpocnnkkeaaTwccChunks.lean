/-
  TwccChunks: however statuses lie, a body has at most a chunk for each seven of them and one more for each run; it is read back whole, with something behind it that pads.
-/
import Derived.Test.YtcbehpocnnkkeaaRows
import Derived.WalkKit
import Derived.ProofKit
import Derived.OpenShut
import Derived.ShutString
import Derived.ChangeOld
import Derived.Below
import Derived.Deep.Slices
import Derived.Test.YtcbehpocnnkkeaaTwV
namespace Go.Proofs.Ytcbehpocnnkkeaa.twccChunks
open Go.ChangeShapes Go.WideShapes Go.ChangeAt Go.RowKit
open Go.ChangeMaps (open_string shut_string)
set_option linter.unusedVariables false

theorem own : ownKnob Try.prog.godebug = none := by kernel_rfl
theorem laidOut : laidOutB Try.prog = true := by kernel_rfl

theorem open0 {H : Type} {enc : TypeId × Value → H} {W : World} {r : Reach} {b0 : Nat} {v : Value} {d : DataW H} {p : List MemPlace} (hv : Value.okWide Try.prog W r b0 25 v)
    (h : DataW.Trod enc Try.prog W 0 (fun _ => true) true 25 v d p) : ∃ r a c a' c', v = rv r a r.st.length c a' r.dl.length c' ∧ CIn W r a c a' c' := open_twcc hv h
theorem pre_of {s s' : ByteArray} (h : s.size ≤ s'.size) (hb : ∀ j, j < s.size → s'.data.toList.getD j 0 = s.data.toList.getD j 0) : Pre s s' := by
  refine ⟨h, fun p n hp => val_congr _ _ _ _ _ fun i hi => ?_⟩
  unfold bt
  rw [hb _ (by omega)]
theorem pre_app (s x : ByteArray) : Pre s (s ++ x) := by
  refine pre_of (by rw [ByteArray.size_append]; omega) fun j hj => ?_
  have hl : s.data.toList.length = s.size := by rw [Array.length_toList]; rfl
  have e : (s ++ x).data.toList = s.data.toList ++ x.data.toList := by simp [ByteArray.data_append]
  rw [e, List.getD_eq_getElem?_getD, List.getD_eq_getElem?_getD, List.getElem?_append_left (by omega)]
theorem pre_cut (s : ByteArray) (k : Nat) (hk : k ≤ s.size) : Pre (s.extract 0 k) s ∧ (s.extract 0 k).size = k := by
  have hsz : (s.extract 0 k).size = k := by simp; omega
  refine ⟨pre_of (by omega) fun j hj => ?_, hsz⟩
  have e : (s.extract 0 k).data.toList = s.data.toList.take k := by simp [ByteArray.data_extract]
  rw [e, List.getD_eq_getElem?_getD, List.getD_eq_getElem?_getD, List.getElem?_take, if_pos (by omega)]
theorem sumL_take {l : List Int} {k : Nat} {x : Int} (h : l[k]? = some x) : sumL (l.take (k + 1)) = sumL (l.take k) + x := by
  have ap : ∀ p q : List Int, sumL (p ++ q) = sumL p + sumL q := by
    intro p q
    induction p with
    | nil => simp [sumL]
    | cons y p ih => simp [sumL, ih]; omega
  rw [List.take_add_one, h, ap]
  simp [sumL]
theorem sumL_take_bd {l : List Int} (h : ∀ s ∈ l, 0 ≤ s ∧ s ≤ 2) (k : Nat) : 0 ≤ sumL (l.take k) ∧ sumL (l.take k) ≤ 2 * l.length := by
  have := sumL_bd (st := l.take k) (fun s hs => h s (List.mem_of_mem_take hs))
  rw [List.length_take] at this
  omega
set_option maxRecDepth 100000 in
set_option maxHeartbeats 2000000 in
theorem walk (r : Rp) (a : Option Addr) (c : Nat) (a' : Option Addr) (c' : Nat) (w : World) (w0 : CIn w r a c a' c') : Calls Try.prog 7 #[rv r a r.st.length c a' r.dl.length c'] w fun e w' => e = .returned (.bool true) ∧ Below w.heap.size w w' := by
  have HC := mkHid w0
  have K0 := mkHid (ck_new (c := c) (c' := c') w0.i w0.j (Apart.refl (fun _ => False) w))
  obtain ⟨S, HSS⟩ : ∃ x, Hid (encS r = x) := ⟨_, rfl⟩
  obtain ⟨bx, W, HBX, HW⟩ := boxed w (bxO r a r.st.length c a' r.dl.length c')
  rw [HW.out, HBX.out] at K0
  have LA := mkHid (large_any r a c a' c' W K0.out.i K0.out.j)
  obtain ⟨g, HG⟩ : ∃ g, Hid (lgR r = g) := ⟨_, rfl⟩
  rw [HG.out] at LA
  clear w0
  obtain ⟨c0, c1, c2, c3, c4, c5, c6⟩ := K0.out.d.c
  unfold rv at LA ⊢
  go_enter Try.func7, Try.ntmps7
  go_wp2_with fail
  rw [HW.out, HBX.out]
  go_wp2_with fail
  refine (LA.out).mono ?_
  rintro e w1 ⟨rfl, ap1⟩
  have K1 := mkHid (K0.out.ap ap1)
  clear ap1 K0 LA c0 c1 c2 c3 c4 c5 c6
  obtain ⟨c0, c1, c2, c3, c4, c5, c6⟩ := K1.out.d.c
  cases g with
  | true =>
    go_wp2_with fail
    refine (wakes_any _).mono ?_
    rintro e w9 ⟨rfl, p9⟩
    have K9 := mkHid (K1.out.next p9)
    clear p9
    go_wp2
    go_ret
    exact ⟨rfl, K9.out.k.belowZ⟩
  | false =>
    have GD := mkHid (rgood_any r a c a' c' w1 K1.out.i K1.out.j)
    obtain ⟨gd, HGD⟩ : ∃ g, Hid (goodR r = g) := ⟨_, rfl⟩
    rw [HGD.out] at GD
    unfold rv at GD
    go_wp2_with fail
    refine (GD.out).mono ?_
    rintro e w2 ⟨rfl, ap2⟩
    have K2 := mkHid (K1.out.ap ap2)
    clear ap2 K1 GD c0 c1 c2 c3 c4 c5 c6
    obtain ⟨c0, c1, c2, c3, c4, c5, c6⟩ := K2.out.d.c
    cases gd with
    | false =>
      go_wp2_with fail
      refine (wakes_any _).mono ?_
      rintro e w9 ⟨rfl, p9⟩
      have K9 := mkHid (K2.out.next p9)
      clear p9
      go_wp2
      go_ret
      exact ⟨rfl, K9.out.k.belowZ⟩
    | true =>
      have CA := mkHid (copy_any r a c a' c' w2 K2.out.i K2.out.j (by have := lgR_no HG.out; omega) (by have := lgR_no HG.out; omega))
      unfold rv at CA
      go_wp2_with fail
      refine (CA.out).mono ?_
      rintro e w3 ⟨b, d, b', d', rfl, hi, hj, b3⟩
      have K3 := mkHid (K2.out.ap b3)
      have EA := mkHid (enc_at (c := d) (c' := d') hi hj HC.out.s0 HC.out.s1 HC.out.t0 HC.out.t1 HSS.out (encE_yes HGD.out).1)
      unfold rv at EA
      clear hi hj b3 CA K2 c0 c1 c2 c3 c4 c5 c6
      go_wp2_with fail
      refine (EA.out).mono ?_
      rintro e w4 ⟨rfl, b4⟩
      have K4 := mkHid (K3.out.next b4)
      clear b4 K3 EA
      obtain ⟨_, _, _, ⟨h1, h2⟩, hm⟩ := goodR_iff.1 HGD.out
      have HM2 := mkHid (mat_012 hm)
      obtain ⟨z1, z2, z3, z4, z5, z6⟩ := enc_size HGD.out
      have hs := (encE_yes HGD.out).2
      rw [HSS.out] at hs
      have HCH := mkHid (chB_len r.st)
      have HMORE := mkHid (fun s' => dec_more (s' := s') HGD.out)
      have HLESS := mkHid (fun s' => dec_less (s' := s') HGD.out)
      rw [← hs] at z1 z2 z3 z5 z6 HMORE HLESS
      have HSM := mkHid (sumL_bd HM2.out)
      obtain ⟨n, HN⟩ : ∃ n, Hid (r.st.length = n) := ⟨_, rfl⟩
      obtain ⟨z, HZ⟩ : ∃ z, Hid (sumL r.st = z) := ⟨_, rfl⟩
      have HSZ := mkHid (show S.size % 4 = 0 ∧ 20 ≤ S.size ∧ S.size ≤ 20000 ∧ (18 + z ≤ S.size) ∧ ((S.size : Int) ≤ 16 + z + 2 * ((n : Int) / 7 + 1) + 3) by
        have c1 := HCH.out.2.1
        have c2 := HCH.out.2.2 (by omega)
        have c3 := HCH.out.1
        rw [HN.out] at c1
        have := HZ.out
        omega)
      have hn1 : (1 : Int) ≤ n := by rw [HN.out] at h1; omega
      have hn4 : (n : Int) ≤ 4096 := by rw [HN.out] at h2; omega
      have hzb : 0 ≤ z ∧ z ≤ 8192 := by have := HSM.out; rw [HZ.out, HN.out] at this; omega
      obtain ⟨hz0, hz8⟩ := hzb
      clear h1 h2 hm z1 z2 z3 z4 z5 z6 hs
      go_wp2
      go_loopw [5, 6, 7] (fun x t i wr => ∃ k q : Nat, k ≤ n ∧ i = .int .i64 (k : Int) ∧ x = .int .i64 (sumL (r.st.take k)) ∧ t = .int .i64 (q : Int) ∧ 1 ≤ q ∧ q ≤ k + 1 ∧ Ck w wr bx r a c a' c') (fun _ _ i _ => n - (intOf i).toNat)
      case atStart => exact ⟨0, 1, Nat.zero_le _, rfl, by simp [sumL], rfl, Nat.le_refl _, Nat.le_refl _, K4.out⟩
      case round =>
        obtain ⟨k, q, hk, rfl, rfl, rfl, q0, q1, hck⟩ := hrel
        have KK := mkHid hck
        clear hck
        obtain ⟨x0, x1⟩ := sumL_take_bd HM2.out k
        have HX := mkHid (fun x (h : r.st[k]? = some x) => sumL_take h)
        obtain ⟨y, HY⟩ : ∃ y, Hid (sumL (r.st.take k) = y) := ⟨_, rfl⟩
        rw [HY.out] at x0 x1 HX ⊢
        rw [HN.out] at x1
        have x2 : y ≤ 8192 := by omega
        have q0' : (1 : Int) ≤ q := by omega
        have q1' : (q : Int) ≤ 4097 := by omega
        clear x1
        obtain ⟨c0, c1, c2, c3, c4, c5, c6⟩ := KK.out.d.c
        rw [HN.out] at c5
        by_cases hlt : k < n
        · obtain ⟨b, off, x, rfl, _, hx, e0⟩ := KK.out.i.at k (by rw [HN.out]; exact hlt)
          have HXX := mkHid (HX.out x hx)
          obtain ⟨s0, s2⟩ := HM2.out x (List.mem_of_getElem? hx)
          cases k with
          | zero =>
            have k1 : (0 : Int) < n := by omega
            rw [Nat.add_zero] at e0
            go_wp2_with fail
            go_quiet (fail)
            go_wp2
            go_roundw
            case rel => exact ⟨1, q, by omega, by go_num, by rw [HXX.out], rfl, q0, by omega, KK.out.ap ((Apart.refl _ _).drewN _)⟩
            case measure => simp [intOf]; omega
          | succ j =>
            obtain ⟨b2, off2, x', e2, _, hx', e1⟩ := KK.out.i.at j (by rw [HN.out]; omega)
            simp only [Option.some.injEq, Addr.mk.injEq, and_true] at e2
            obtain ⟨rfl, rfl⟩ := e2
            have k0 : (0 : Int) ≤ j := by omega
            have k1 : (j : Int) + 1 < n := by omega
            have kd : decide ((0 : Int) < (j : Int) + 1) = true := decide_eq_true (by omega)
            by_cases hxx : x = x'
            · subst hxx
              go_wp2_with fail
              go_quiet (fail)
              go_wp2
              go_roundw
              case rel => exact ⟨j + 1 + 1, q, by omega, by go_num, by rw [HXX.out], rfl, q0, by omega, KK.out.ap ((Apart.refl _ _).drewN _)⟩
              case measure => simp [intOf]; omega
            · have hne : (x != x') = true := by simp [hxx]
              go_wp2_with fail
              go_quiet (fail)
              go_wp2
              go_roundw
              case rel => exact ⟨j + 1 + 1, q + 1, by omega, by go_num, by rw [HXX.out], by go_num, by omega, by omega, KK.out.ap ((Apart.refl _ _).drewN _)⟩
              case measure => simp [intOf]; omega
        · obtain rfl : k = n := by omega
          have hyz : sumL (r.st.take k) = sumL r.st := by rw [List.take_of_length_le (by rw [HN.out]; omega)]
          obtain rfl : y = z := (HY.out.symm.trans hyz).trans HZ.out
          go_wp2_with fail
          go_quiet (fail)
          have K5 := mkHid (KK.out.ap ((Apart.refl _ _).drewN nq))
          obtain ⟨w5, HW5⟩ : ∃ w5, Hid (wr.drewN nq = w5) := ⟨_, rfl⟩
          rw [HW5.out] at K5 ⊢
          obtain ⟨hz4, hz20, hzm, hzl, hzg⟩ := HSZ.out
          have hs4 : ¬ (S.size : Int) < 4 := by omega
          have hsz : (S.size : Int) ≤ 20000 := by omega
          have hl1 : 16 + y + 2 ≤ (S.size : Int) := by omega
          obtain ⟨T, HT⟩ : ∃ T : Int, Hid (16 + y + 2 * ((k : Int) / 7 + q + 1) + 3 = T) := ⟨_, rfl⟩
          have hl2 : (S.size : Int) ≤ T := by have := HT.out; omega
          have hl4 : (S.size : Int) % 4 = 0 := by omega
          rw [HT.out]
          have hm4 : (S.size : Int) - 4 = ((S.size - 4 : Nat) : Int) := by omega
          obtain ⟨P1, HP1⟩ : ∃ P, Hid (S.size - 4 = P) := ⟨_, rfl⟩
          obtain ⟨pc1, pc2⟩ := pre_cut S P1 (by have := HP1.out; omega)
          have D1 := mkHid (dec_at (S ++ ⟨#[0, 0, 0, 0]⟩) (by rw [ByteArray.size_append]; show S.size + 4 ≤ _; omega) rfl (HMORE.out _ (pre_app S _) (by rw [ByteArray.size_append]; rfl)))
          obtain ⟨F, HF⟩ : ∃ F, Hid (decE (S.extract 0 P1) = F) := ⟨_, rfl⟩
          have hF : ¬ F = 0 := by rw [← HF.out]; exact HLESS.out _ pc1 (by have := HP1.out; omega)
          have D2 := mkHid (dec_at (S.extract 0 P1) (by rw [pc2]; have := HP1.out; omega) rfl HF.out)
          rw [HP1.out] at hm4
          unfold rv at D1 D2
          clear hz4 hz20 hzm hzl hzg pc1 pc2 HMORE HLESS c0 c1 c2 c3 c4 c5 c6 KK
          go_wp2_with fail
          refine (D1.out _).mono ?_
          rintro e w6 ⟨⟨pa, pc, pa', pc', rfl, _, _⟩, b6⟩
          have K6 := mkHid ((K5.out.next b6).ap ((Apart.refl _ _).alloc (bxO (decR (S ++ ⟨#[0, 0, 0, 0]⟩)) pa (decR (S ++ ⟨#[0, 0, 0, 0]⟩)).st.length pc pa' (decR (S ++ ⟨#[0, 0, 0, 0]⟩)).dl.length pc')))
          clear b6 K5 D1
          go_wp2_with fail
          refine (D2.out _).mono ?_
          rintro e w7 ⟨⟨qa, qc, qa', qc', rfl, _, _⟩, b7⟩
          have K7 := mkHid ((K6.out.next b7).ap ((Apart.refl _ _).alloc (bxO (decR (S.extract 0 P1)) qa (decR (S.extract 0 P1)).st.length qc qa' (decR (S.extract 0 P1)).dl.length qc')))
          clear b7 K6 D2
          go_wp2_with fail
          refine (wakes_any _).mono ?_
          rintro e w9 ⟨rfl, p9⟩
          have K9 := mkHid (K7.out.next p9)
          clear p9
          go_wp2
          go_ret
          exact ⟨ret_b (bne_iff_ne.2 hF), K9.out.k.belowZ⟩

set_option maxRecDepth 100000 in
theorem lifted (os : Os) (started : os.Started) (H : Type) (enc : TypeId × Value → H) :
    ReturnsInHanded {} Try.checked os 7 .any (Rows.twccChunksSpec.pre6 enc Try.prog Try.f7 Rows.twccChunksRow.domain false) (Rows.twccChunksSpec.post enc Try.prog Try.f7 false true false false) := by
  refine returnsInHanded_of_change (C := Try.checked) own started (by kernel_rfl) Try.func7
    (ChangeSpec.witness6 (enc := enc) (C := Try.checked) false ⟨#[], #[.agg #[.int .u32 0, .int .u32 0, .int .i64 0, .int .i64 0, .int .i64 0, .slice none 0 0, .slice none 0 0]], []⟩ 8 (by kernel_rfl) (by kernel_rfl) (by kernel_rfl) (by kernel_rfl)) ?_
  intro W base args ds gs before hval0 hW hcnd _
  have hval : ∀ (j : Nat) t v, Try.f7.params[j]? = some t → args[j]? = some v → Value.okWide Try.prog W .any base t v := hval0
  have hW' := hW
  obtain ⟨p, q, hA0, hV, rfl, hfz, hnd⟩ := hW
  have hA : DataW.TrodAll enc Try.prog W 0 (fun _ => true) true Try.f7.params.toList args.toList ds p := hA0
  rw [Try.params7] at hA hval
  obtain ⟨v0, vs0, d0, ds0, p0, q0, hargs, rfl, rfl, h0, r0⟩ := trodAll_cons hA
  obtain ⟨rfl, rfl, rfl⟩ := trodAll_nil r0
  obtain rfl : args = #[v0] := by cases args; simp_all
  obtain ⟨rfl, rfl⟩ := trodVars_none hV
  have k0 := h0
  have lt0 : ∀ x ∈ p0, x.block < W.heap.size := by obtain ⟨m, hm⟩ := k0; exact DataW.trod_lt m _ _ _ hm
  obtain ⟨r, a, c, a', c', rfl, w0⟩ := open0 (hval 0 25 v0 rfl rfl) h0
  clear hA0 hval0
  refine (walk r a c a' c' W w0).mono fun e W' ⟨he, bel⟩ => ?_
  subst he
  exact ⟨_, rfl, _, _, _, [], _, [], hW', trodAll_mk1 (shut_bool Try.underlying4 _), (trodAll_cons_mk (Below.trod laidOut (by kernel_rfl) (of_decide_eq_true (by kernel_rfl)) k0 bel lt0) trodAll_mk0), rfl, bel.frame _, fun h => by cases h⟩

theorem over : Rows.twccChunksRow.holds Try.pinned (OpenSpec.ofChange Rows.twccChunksSpec) :=
  OpenClaim.holds_of_wide 7 Try.f7 rfl rfl rfl rfl rfl rfl rfl ⟨rfl, rfl, rfl, rfl, rfl⟩ rfl rfl rfl rfl rfl (by kernel_rfl) Try.func7 (by kernel_rfl)
    (of_decide_eq_true (by kernel_rfl)) (by unfold Func.isWrapper; first | (rw [if_pos (by decide +kernel)]; kernel_rfl) | (rw [if_neg (by decide +kernel)]; exact ⟨rfl, rfl⟩))
    (fun os started H enc _ => lifted os started H enc)
end Go.Proofs.Ytcbehpocnnkkeaa.twccChunks
namespace Go.Proofs.Ytcbehpocnnkkeaa
/-- The statement. -/
theorem twccChunks_holds : Rows.TwccChunksSaid := twccChunks.over
#print axioms twccChunks_holds
end Go.Proofs.Ytcbehpocnnkkeaa
