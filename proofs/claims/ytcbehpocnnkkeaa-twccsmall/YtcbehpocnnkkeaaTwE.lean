/-
  What Encode hands back.
-/
import Derived.Test.YtcbehpocnnkkeaaTwL
import Derived.Deep.RegionHeld3
namespace Go.Proofs.Ytcbehpocnnkkeaa
open Go.RowKit

def slen : Value → Nat
  | .slice _ n _ => n
  | _ => 0
theorem frame17 (a : Act) (hs : a.tmps.size = 17) (hd : a.defers = []) : ∃ u : Nat → Value, (∀ i, a.tmps.getD i undef = u i) ∧ a = { tmps := #[u 0, u 1, u 2, u 3, u 4, u 5, u 6, u 7, u 8, u 9, u 10, u 11, u 12, u 13, u 14, u 15, u 16], defers := [] } := frame_of a 17 hs hd
set_option maxRecDepth 100000 in
set_option maxHeartbeats 1000000 in
theorem putchunks_any (b : Nat) (v : Value) (L : List Bool) (a : Option Addr) (c : Nat) (l : List Int) (hm : l.length ≤ 4096) (h2 : ∀ s ∈ l, 0 ≤ s ∧ s ≤ 2) (hp : L.length % 16 = 0) (hl : L.length + (chB l).length ≤ 524288) (w : World) (h : Wr 73 w b v L) (hi : IA b w a c l) :
    Calls Try.prog 20 #[.pointer (some ⟨b, 0, none⟩), .slice a l.length c] w fun e w' => e = .returned (.tuple #[]) ∧ ∃ v', Wr 73 w' b v' (L ++ chB l) ∧ Tch b v v' w w' := by
  have H := mkHid h
  have HI0 := mkHid hi
  have HLL := mkHid hl
  have HP0 := mkHid hp
  have H20 := mkHid h2
  have HM0 := mkHid hm
  have m1 := hi.len
  obtain ⟨n0, HN0⟩ : ∃ n, Hid (l.length = n) := ⟨_, rfl⟩
  rw [HN0.out] at m1 ⊢
  clear h hi hl hp h2 hm
  go_enter Try.func20, Try.ntmps20
  go_wp2
  refine wp_scope_label 0 (fun a₁ w' => ∃ (a' : Option Addr) (c' : Nat) (l' : List Int) (vc : Value) (P : List Bool), (a₁.tmps.size = 17 ∧ a₁.defers = [] ∧ a₁.tmps.getD 0 undef = .pointer (some ⟨b, 0, none⟩) ∧ a₁.tmps.getD 1 undef = .slice a n0 c ∧ a₁.tmps.getD 4 undef = .slice a' l'.length c') ∧ IA b w' a' c' l' ∧ Wr 73 w' b vc P ∧ Tch b v vc w w' ∧ P ++ chB l' = L ++ chB l ∧ P.length % 16 = 0 ∧ (∀ s ∈ l', 0 ≤ s ∧ s ≤ 2) ∧ l'.length ≤ 4096) (fun a₁ _ => slen (a₁.tmps.getD 4 undef)) rfl ?_ ?_
  · intro Q' hh
    have HH := mkHid hh
    clear hh
    go_wp2
    go_step3
    refine ‹∀ a w, Code.wp _ _ _ a w → _› _ _ (HH.out _ _ ?_)
    exact ⟨a, c, l, v, L, ⟨rfl, rfl, rfl, rfl, by rw [HN0.out]; rfl⟩, HI0.out, H.out, Tch.refl _ _ _, rfl, HP0.out, H20.out, HM0.out⟩
  · rintro a₁ w' ⟨a', c', l', vc, P, ⟨z, d, e0, e1, e2⟩, hij, hw, ht, hpe, hp6, hs2, hm4⟩
    obtain ⟨u, hu, ha'⟩ := frame17 a₁ z d
    rw [hu] at e0 e1 e2
    obtain ⟨n, HN⟩ : ∃ n, Hid (l'.length = n) := ⟨_, rfl⟩
    rw [HN.out] at e2
    rw [e0, e1, e2] at ha'
    clear z d hu e0 e1 e2
    subst ha'
    have HW := mkHid hw
    have HT := mkHid ht
    have HI := mkHid hij
    have HPE := mkHid hpe
    have HP6 := mkHid hp6
    have H2 := mkHid hs2
    have HM4 := mkHid hm4
    have hc' := hij.1
    rw [HN.out] at hc' hm4
    have m4 : (n : Int) ≤ 4096 := by omega
    clear hw ht hij hpe hp6 hs2 H HI0 H20
    by_cases hn : n = 0
    · subst hn
      obtain rfl := List.eq_nil_of_length_eq_zero HN.out
      go_wp2
      simp only [Exit.jump]
      go_returns
      refine ⟨rfl, vc, ?_, HT.out⟩
      have := HPE.out
      rw [chB_nil, List.append_nil] at this
      rw [← this]
      exact HW.out
    · have hn' : ¬ (n : Int) = 0 := by omega
      have hk := kind_le l'
      rcases (by omega : kind l' = 0 ∨ kind l' = 1 ∨ kind l' = 2) with hK | hK | hK
      · have LY := mkHid (layer_any b c' a' l' (by rw [HN.out]; omega) w' (by have := HW.out.lt; omega) HI.out)
        rw [show layF l' = 57 by unfold layF; rw [hK]; rfl, HN.out] at LY
        obtain ⟨k, HKK⟩ : ∃ k, Hid (alk l' = k) := ⟨_, rfl⟩
        have HCN := mkHid (show ckN l' = k by unfold ckN; rw [hK, ← HKK.out]; rfl)
        have HCB := mkHid (show chB l' = runB l' ++ chB (l'.drop k) by
          rw [chB_cons (by rw [HN.out]; omega), HCN.out]; unfold ckB; rw [hK]; rfl)
        have HL6 := mkHid (show (runB l').length = 16 by have := ckB_len l'; unfold ckB at this; rw [hK] at this; exact this)
        have k0 : 0 < k := by rw [← HCN.out]; exact ckN_pos (by rw [HN.out]; omega)
        have k1 : k ≤ n := by have := ckN_le l'; rw [HCN.out, HN.out] at this; exact this
        have k0' : (0 : Int) ≤ k := by omega
        have k1' : (k : Int) ≤ n := by omega
        have HPL := mkHid (show P.length + 16 ≤ 524288 by have := congrArg List.length HPE.out; simp [HCB.out, HL6.out] at this; have := HLL.out; omega)
        obtain ⟨bq, off, x, rfl, _, _, _⟩ := HI.out.at 0 (by rw [HN.out]; omega)
        have hkc : k ≤ c' := by omega
        clear hk
        go_wp2_with fail
        refine (LY.out).mono ?_
        rintro e w1 ⟨rfl, a1⟩
        have W1 := mkHid (wr_of HW.out a1)
        have T1 := mkHid (HT.out.trans (tch_of a1))
        have I1 := mkHid (HI.out.kept (a1.belowF b (by have := HW.out.lt; omega)))
        clear a1 LY
        have PR := mkHid (putrun_any b vc P _ c' l' (by rw [HN.out]; omega) HM4.out H2.out HPL.out w1 W1.out I1.out)
        rw [HKK.out, HN.out] at PR
        go_wp2_with fail
        refine (PR.out).mono ?_
        rintro e w2 ⟨rfl, v2, h2, t2⟩
        have W2 := mkHid h2
        have T2 := mkHid (T1.out.trans t2)
        have I2 := mkHid (I1.out.kept (t2.below W1.out b (Nat.le_refl _)))
        clear h2 t2 W1 T1 I1 PR HW HT HI
        go_wp2
        all_goals
          go_step3
          refine ⟨rfl, ⟨_, _, l'.drop k, v2, P ++ runB l', ⟨rfl, rfl, rfl, rfl, by rw [List.length_drop, HN.out]; rfl⟩, by first | exact I2.out.drop k hkc | (have q := I2.out.tail k hkc; have e : c' = k := (by assumption); rw [if_pos e, e, Nat.sub_self] at q; exact q), W2.out, T2.out, ?_, ?_, ?_, ?_⟩, ?_⟩
          · rw [List.append_assoc, ← HCB.out]; exact HPE.out
          · rw [List.length_append, HL6.out]; have := HP6.out; omega
          · exact fun s hs => H2.out s (List.mem_of_mem_drop hs)
          · have := HM4.out; rw [List.length_drop]; omega
          · simp [slen]; omega
      · have LY := mkHid (layer_any b c' a' l' (by rw [HN.out]; omega) w' (by have := HW.out.lt; omega) HI.out)
        rw [show layF l' = 59 by unfold layF; rw [hK]; rfl, HN.out] at LY
        obtain ⟨k, HKK⟩ : ∃ k, Hid (min 14 l'.length = k) := ⟨_, rfl⟩
        have HCN := mkHid (show ckN l' = k by unfold ckN; rw [hK, ← HKK.out]; rfl)
        have HCB := mkHid (show chB l' = longB l' ++ chB (l'.drop k) by
          rw [chB_cons (by rw [HN.out]; omega), HCN.out]; unfold ckB; rw [hK]; rfl)
        have HL6 := mkHid (show (longB l').length = 16 by have := ckB_len l'; unfold ckB at this; rw [hK] at this; exact this)
        have k0 : 0 < k := by rw [← HCN.out]; exact ckN_pos (by rw [HN.out]; omega)
        have k1 : k ≤ n := by have := ckN_le l'; rw [HCN.out, HN.out] at this; exact this
        have k0' : (0 : Int) ≤ k := by omega
        have k1' : (k : Int) ≤ n := by omega
        have HPL := mkHid (show P.length + 16 ≤ 524288 by have := congrArg List.length HPE.out; simp [HCB.out, HL6.out] at this; have := HLL.out; omega)
        obtain ⟨bq, off, x, rfl, _, _, _⟩ := HI.out.at 0 (by rw [HN.out]; omega)
        have hkc : k ≤ c' := by omega
        clear hk
        go_wp2_with fail
        refine (LY.out).mono ?_
        rintro e w1 ⟨rfl, a1⟩
        have W1 := mkHid (wr_of HW.out a1)
        have T1 := mkHid (HT.out.trans (tch_of a1))
        have I1 := mkHid (HI.out.kept (a1.belowF b (by have := HW.out.lt; omega)))
        clear a1 LY
        have PR := mkHid (putlong_any b vc P _ c' l' H2.out HP6.out HPL.out w1 W1.out I1.out)
        rw [HKK.out, HN.out] at PR
        go_wp2_with fail
        refine (PR.out).mono ?_
        rintro e w2 ⟨rfl, v2, h2, t2⟩
        have W2 := mkHid h2
        have T2 := mkHid (T1.out.trans t2)
        have I2 := mkHid (I1.out.kept (t2.below W1.out b (Nat.le_refl _)))
        clear h2 t2 W1 T1 I1 PR HW HT HI
        go_wp2
        all_goals
          go_step3
          refine ⟨rfl, ⟨_, _, l'.drop k, v2, P ++ longB l', ⟨rfl, rfl, rfl, rfl, by rw [List.length_drop, HN.out]; rfl⟩, by first | exact I2.out.drop k hkc | (have q := I2.out.tail k hkc; have e : c' = k := (by assumption); rw [if_pos e, e, Nat.sub_self] at q; exact q), W2.out, T2.out, ?_, ?_, ?_, ?_⟩, ?_⟩
          · rw [List.append_assoc, ← HCB.out]; exact HPE.out
          · rw [List.length_append, HL6.out]; have := HP6.out; omega
          · exact fun s hs => H2.out s (List.mem_of_mem_drop hs)
          · have := HM4.out; rw [List.length_drop]; omega
          · simp [slen]; omega
      · have LY := mkHid (layer_any b c' a' l' (by rw [HN.out]; omega) w' (by have := HW.out.lt; omega) HI.out)
        rw [show layF l' = 60 by unfold layF; rw [hK]; rfl, HN.out] at LY
        obtain ⟨k, HKK⟩ : ∃ k, Hid (min 7 l'.length = k) := ⟨_, rfl⟩
        have HCN := mkHid (show ckN l' = k by unfold ckN; rw [hK, ← HKK.out]; rfl)
        have HCB := mkHid (show chB l' = shortB l' ++ chB (l'.drop k) by
          rw [chB_cons (by rw [HN.out]; omega), HCN.out]; unfold ckB; rw [hK]; rfl)
        have HL6 := mkHid (show (shortB l').length = 16 by have := ckB_len l'; unfold ckB at this; rw [hK] at this; exact this)
        have k0 : 0 < k := by rw [← HCN.out]; exact ckN_pos (by rw [HN.out]; omega)
        have k1 : k ≤ n := by have := ckN_le l'; rw [HCN.out, HN.out] at this; exact this
        have k0' : (0 : Int) ≤ k := by omega
        have k1' : (k : Int) ≤ n := by omega
        have HPL := mkHid (show P.length + 16 ≤ 524288 by have := congrArg List.length HPE.out; simp [HCB.out, HL6.out] at this; have := HLL.out; omega)
        obtain ⟨bq, off, x, rfl, _, _, _⟩ := HI.out.at 0 (by rw [HN.out]; omega)
        have hkc : k ≤ c' := by omega
        clear hk
        go_wp2_with fail
        refine (LY.out).mono ?_
        rintro e w1 ⟨rfl, a1⟩
        have W1 := mkHid (wr_of HW.out a1)
        have T1 := mkHid (HT.out.trans (tch_of a1))
        have I1 := mkHid (HI.out.kept (a1.belowF b (by have := HW.out.lt; omega)))
        clear a1 LY
        have PR := mkHid (putshort_any b vc P _ c' l' H2.out HP6.out HPL.out w1 W1.out I1.out)
        rw [HKK.out, HN.out] at PR
        go_wp2_with fail
        refine (PR.out).mono ?_
        rintro e w2 ⟨rfl, v2, h2, t2⟩
        have W2 := mkHid h2
        have T2 := mkHid (T1.out.trans t2)
        have I2 := mkHid (I1.out.kept (t2.below W1.out b (Nat.le_refl _)))
        clear h2 t2 W1 T1 I1 PR HW HT HI
        go_wp2
        all_goals
          go_step3
          refine ⟨rfl, ⟨_, _, l'.drop k, v2, P ++ shortB l', ⟨rfl, rfl, rfl, rfl, by rw [List.length_drop, HN.out]; rfl⟩, by first | exact I2.out.drop k hkc | (have q := I2.out.tail k hkc; have e : c' = k := (by assumption); rw [if_pos e, e, Nat.sub_self] at q; exact q), W2.out, T2.out, ?_, ?_, ?_, ?_⟩, ?_⟩
          · rw [List.append_assoc, ← HCB.out]; exact HPE.out
          · rw [List.length_append, HL6.out]; have := HP6.out; omega
          · exact fun s hs => H2.out s (List.mem_of_mem_drop hs)
          · have := HM4.out; rw [List.length_drop]; omega
          · simp [slen]; omega
set_option maxRecDepth 100000 in
set_option maxHeartbeats 1000000 in
theorem putdeltas_any (b : Nat) (v : Value) (L : List Bool) (a : Option Addr) (c : Nat) (st : List Int) (a' : Option Addr) (c' : Nat) (dl : List Int) (hg : mat st dl = true) (hl : L.length + (dls st dl).length ≤ 524288) (w : World) (h : Wr 73 w b v L) (hi : IA b w a c st) (hi' : IA b w a' c' dl) :
    Calls Try.prog 21 #[.pointer (some ⟨b, 0, none⟩), .slice a st.length c, .slice a' dl.length c'] w fun e w' => e = .returned (.tuple #[]) ∧ ∃ v', Wr 73 w' b v' (L ++ dls st dl) ∧ Tch b v v' w w' := by
  have H := mkHid h
  have HI := mkHid hi
  have HI' := mkHid hi'
  have HLL := mkHid hl
  have HG := mkHid hg
  have H2 := mkHid (mat_012 hg)
  have m1 := hi.len
  have m2 := hi'.len
  obtain ⟨n, HN⟩ : ∃ n, Hid (st.length = n) := ⟨_, rfl⟩
  obtain ⟨m, HM⟩ : ∃ m, Hid (dl.length = m) := ⟨_, rfl⟩
  rw [HN.out] at m1 ⊢
  rw [HM.out] at m2 ⊢
  clear h hi hi' hl hg
  go_enter Try.func21, Try.ntmps21
  go_wp2
  go_loopw [2, 10] (fun x i wr => ∃ (k : Nat) (ad : Option Addr) (cd : Nat) (d : List Int) (vj : Value) (P : List Bool), k ≤ n ∧ i = .int .i64 (k : Int) ∧ x = .slice ad d.length cd ∧ IA b wr ad cd d ∧ mat (st.drop k) d = true ∧ Wr 73 wr b vj P ∧ Tch b v vj w wr ∧ P ++ dls (st.drop k) d = L ++ dls st dl ∧ IA b wr a c st) (fun _ i _ => n - (intOf i).toNat)
  case atStart => exact ⟨0, a', c', dl, v, L, Nat.zero_le _, rfl, by rw [HM.out], HI'.out, HG.out, H.out, Tch.refl _ _ _, rfl, HI.out⟩
  case round =>
    obtain ⟨k, ad, cd, d, vj, P, hk, rfl, rfl, hd, hg, hw, ht, hpe, hs⟩ := hrel
    have HD := mkHid hd
    have HGK := mkHid hg
    have HW := mkHid hw
    have HT := mkHid ht
    have HPE := mkHid hpe
    have HS := mkHid hs
    have m3 := hd.len
    clear hd hg hw ht hpe hs H HI HI' HG
    by_cases hlt : k < n
    · obtain ⟨bs, os, x, rfl, _, hx, c0⟩ := HS.out.at k (by rw [HN.out]; exact hlt)
      have HX := mkHid (drop_at hx)
      obtain ⟨x0, x2⟩ := H2.out x (List.mem_of_getElem? hx)
      clear hx
      by_cases h0 : x = 0
      · subst h0
        have HGN := mkHid (show mat (st.drop (k + 1)) d = true by have := HGK.out; rw [HX.out] at this; exact this)
        have HPN := mkHid (show P ++ dls (st.drop (k + 1)) d = L ++ dls st dl by have := HPE.out; rw [HX.out] at this; exact this)
        go_wp2
        go_roundw
        case rel => exact ⟨k + 1, ad, cd, d, vj, P, by omega, by go_num, rfl, HD.out, HGN.out, HW.out, HT.out, HPN.out, HS.out⟩
        case measure => simp [intOf]; omega
      · cases d with
        | nil =>
          have := HGK.out
          rw [HX.out, mat, if_neg h0] at this
          cases this
        | cons y d =>
          obtain ⟨b', off', y', rfl, hbl, hy, c1⟩ := HD.out.at 0 (by simp)
          simp at hy
          subst hy
          rw [Nat.add_zero] at c1
          have HGN := mkHid (show mat (st.drop (k + 1)) d = true by have := HGK.out; rw [HX.out, mat, if_neg h0] at this; simp only [Bool.and_eq_true] at this; exact this.2)
          have HPN := mkHid (show P ++ bitsOf (u32 y) (dW x) ++ dls (st.drop (k + 1)) d = L ++ dls st dl by have := HPE.out; rw [HX.out, dls, if_neg h0] at this; rw [List.append_assoc]; exact this)
          have HPL := mkHid (show P.length + dW x ≤ 524288 by have := congrArg List.length HPN.out; simp at this; have := HLL.out; omega)
          obtain ⟨z, HZ⟩ : ∃ z, Hid ((y :: d).length = z) := ⟨_, rfl⟩
          rw [HZ.out] at m3 ⊢
          have hz : ¬ (z : Int) = 0 := by have := HZ.out; simp at this; omega
          have hz1 : (1 : Int) ≤ z := by omega
          have hz2 : (0 : Int) < z := by omega
          have hz3 : 0 < z := by omega
          have DB := mkHid (deltabits_any x)
          have HDW := mkHid (show dW x ≤ 32 by unfold dW; split <;> omega)
          obtain ⟨D, HDD⟩ : ∃ D, Hid (dW x = D) := ⟨_, rfl⟩
          rw [HDD.out] at DB HPN HPL HDW
          have C1 := mkHid c1
          have W0 := mkHid (HW.out.kept ((Apart.refl (fun _ => False) _).drew) (fun h => h) (fun _ _ h => h))
          have T0 := mkHid (HT.out.trans (tch_of ((Apart.refl (fun _ => False) wr).drew)))
          have D0 := mkHid (HD.out.kept (((Apart.refl (fun _ => False) wr).drew).belowF b (by have := HW.out.lt; omega)))
          have S0 := mkHid (HS.out.kept (((Apart.refl (fun _ => False) wr).drew).belowF b (by have := HW.out.lt; omega)))
          have PF := mkHid (put_fit b vj P (IntKind.u32.wrap y) D (u32 y) D (by unfold u32; rw [IntKind.wrap_u32]; omega) rfl (u32_lt y) HDW.out HPL.out _ W0.out)
          go_wp2_with fail
          go_region_held3 (fun w' => w'.cell? ⟨b', off', none⟩ = some (.int .i64 y))
            (first | exact C1.out | assumption)
            (first | (go_at_call 48; refine (DB.out _).mono ?_; rintro e w' ⟨rfl, rfl⟩) | (go_at_call 19; refine (PF.out).mono ?_; rintro e w2 ⟨rfl, v2, h2, t2⟩; have W2 := mkHid h2; have T2 := mkHid (T0.out.trans t2); have D2 := mkHid ((D0.out.kept (t2.below W0.out b (Nat.le_refl _))).tail 1 (by have := HD.out.1; simp at this; omega)); have S2 := mkHid (S0.out.kept (t2.below W0.out b (Nat.le_refl _))); have k1 : w2.cell? ⟨b', off', none⟩ = some (.int .i64 y) := ((t2.below W0.out b (Nat.le_refl _)).cell (p := ⟨b', off', none⟩) hbl).trans C1.out; clear h2 t2))
          go_wp2
          go_roundw
          case rel =>
            refine ⟨k + 1, _, cd - 1, d, v2, P ++ bitsOf (u32 y) D, by omega, by go_num, ?_, D2.out, HGN.out, W2.out, T2.out, HPN.out, S2.out⟩
            have := HZ.out
            simp at this
            subst this
            simp
          case measure => simp [intOf]; omega
    · obtain rfl : k = n := by omega
      go_wp2
      go_returns
      refine ⟨rfl, vj, ?_, HT.out⟩
      have := HPE.out
      rw [← HN.out, List.drop_length, dls, List.append_nil] at this
      rw [← this]
      exact HW.out
theorem align32 (L : List Bool) (h2 : L.length + 32 ≤ 524288) : alignS L 32 = L ++ bitsOf 0 ((32 - L.length % 32) % 32) := by
  unfold alignS
  have e : (32 - (L.length : Int) % 32) % 32 = (((32 - L.length % 32) % 32 : Nat) : Int) := by omega
  rw [e, if_pos (by omega), Int.toNat_natCast]
theorem encE_no {r : Rp} (h : goodR r = false) : encE r = 1 ∧ encS r = ⟨#[]⟩ := by unfold encE encS; rw [h]; exact ⟨rfl, rfl⟩
theorem encE_yes {r : Rp} (h : goodR r = true) : encE r = 0 ∧ encS r = packS (encL r) := by unfold encE encS; rw [h]; exact ⟨rfl, rfl⟩
/-- What a call keeps of its own copy of a report and of the writer. -/
theorem ia_tch {b : Nat} {v v' : Value} {w w' : World} {L : List Bool} {a : Option Addr} {c : Nat} {l : List Int} (h : IA b w a c l) (t : Tch b v v' w w') (hw : Wr 73 w b v L) : IA b w' a c l := h.kept (t.below hw b (Nat.le_refl _))
set_option maxRecDepth 100000 in
set_option maxHeartbeats 1000000 in
theorem enc_any (r : Rp) (a : Option Addr) (c : Nat) (a' : Option Addr) (c' : Nat) (w : World) (h : IA w.heap.size w a c r.st) (h' : IA w.heap.size w a' c' r.dl) (s0 : 0 ≤ r.sd) (s1 : r.sd < 4294967296) (t0 : 0 ≤ r.md) (t1 : r.md < 4294967296) :
    Calls Try.prog 11 #[rv r a r.st.length c a' r.dl.length c'] w fun e w' => e = .returned (.tuple #[.string (encS r), .int .i64 (encE r)]) ∧ Below w.heap.size w w' := by
  have A0 := mkHid ((Apart.refl (fun _ => False) w).alloc (.cells #[.int .u32 r.sd, .int .u32 r.md, .int .i64 r.fi, .int .i64 r.ba, .int .i64 r.co, .slice a r.st.length c, .slice a' r.dl.length c'] 25))
  have N0 := mkHid (heap_alloc_new w (.cells #[.int .u32 r.sd, .int .u32 r.md, .int .i64 r.fi, .int .i64 r.ba, .int .i64 r.co, .slice a r.st.length c, .slice a' r.dl.length c'] 25))
  have I0 := mkHid (h.on A0.out.belowZ)
  have J0 := mkHid (h'.on A0.out.belowZ)
  have GD := mkHid (good_any r a c a' c' _ I0.out J0.out)
  have m1 := h.len
  have m2 := h'.len
  unfold rv at GD ⊢
  have HG0 := mkHid (@goodR_iff r)
  have HBL := mkHid (@bodyB_len r)
  obtain ⟨sd, md, fi, ba, co, st, dl⟩ := r
  simp only at *
  obtain ⟨n, HN⟩ : ∃ n, Hid (st.length = n) := ⟨_, rfl⟩
  obtain ⟨m, HM⟩ : ∃ m, Hid (dl.length = m) := ⟨_, rfl⟩
  rw [HN.out, HM.out] at A0 N0 GD ⊢
  rw [HN.out] at m1
  rw [HM.out] at m2
  rw [HN.out, HM.out] at I0 J0
  obtain ⟨bx, HBX⟩ : ∃ bx, Hid (w.heap.size = bx) := ⟨_, rfl⟩
  obtain ⟨W, HW⟩ : ∃ W, Hid (w.alloc (.cells #[.int .u32 sd, .int .u32 md, .int .i64 fi, .int .i64 ba, .int .i64 co, .slice a n c, .slice a' m c'] 25) = W) := ⟨_, rfl⟩
  rw [HBX.out, HW.out] at N0
  rw [HW.out] at A0 I0 J0 GD
  obtain ⟨c0, c1, c2, c3, c4, c5, c6⟩ := cells7 N0.out
  clear h h'
  cases hg : goodR ⟨sd, md, fi, ba, co, st, dl⟩ with
  | false =>
    rw [hg] at GD
    obtain ⟨q1, q2⟩ := encE_no hg
    rw [q1, q2]
    clear q1 q2 hg
    go_enter Try.func11, Try.ntmps11
    go_wp2_with fail
    rw [HW.out, HBX.out]
    go_wp2_with fail
    refine (GD.out).mono ?_
    rintro e w1 ⟨rfl, a1⟩
    have A1 := mkHid (A0.out.zz a1)
    clear a1
    go_wp2
    go_ret2
    exact ⟨rfl, A1.out.belowZ⟩
  | true =>
    rw [hg] at GD
    have HG := mkHid hg
    obtain ⟨q1, q2⟩ := encE_yes hg
    have Q1 := mkHid q1
    have Q2 := mkHid q2
    obtain ⟨⟨f0, f1⟩, ⟨g0, g1⟩, ⟨k0, k1⟩, ⟨n0, n1⟩, hmt⟩ := HG0.out.1 hg
    try simp only at f0 f1 g0 g1 k0 k1 n0 n1 hmt
    have HMT := mkHid hmt
    have HS2 := mkHid (mat_012 hmt)
    have HL := mkHid (HBL.out hg)
    have HLT := mkHid (show 128 + (chB st).length + (dls st dl).length ≤ 524288 - 32 by have := HL.out.2.1; simp [bodyB] at this; omega)
    have HN4 := mkHid n1
    rw [HN.out] at n0 n1
    have n1' : (n : Int) ≤ 4096 := by omega
    rw [Q1.out, Q2.out]
    clear q1 q2 hg hmt HG0 HBL HL
    go_enter Try.func11, Try.ntmps11
    go_wp2_with fail
    rw [HW.out, HBX.out]
    go_wp2_with fail
    refine (GD.out).mono ?_
    rintro e w1 ⟨rfl, a1⟩
    have A1 := mkHid (A0.out.zz a1)
    have N1 := mkHid (a1.heap N0.out (fun h => h))
    have I1 := mkHid (I0.out.on a1.belowZ)
    have J1 := mkHid (J0.out.on a1.belowZ)
    clear a1 c0 c1 c2 c3 c4 c5 c6 N0 I0 J0 GD A0
    obtain ⟨wb, HWB⟩ : ∃ wb, Hid (w1.heap.size = wb) := ⟨_, rfl⟩
    have hbw : bx < wb := by rw [← HWB.out]; exact lt_of_heap N1.out
    go_wp2_with fail
    refine (write_any _).mono ?_
    rw [HWB.out]
    rintro e w3 ⟨rfl, r3, a3, z3⟩
    have R3 := mkHid r3
    have A3 := mkHid (A1.out.zz a3)
    have I3 := mkHid (I1.out.kept a3.belowZ)
    have J3 := mkHid (J1.out.kept a3.belowZ)
    rw [HWB.out] at I3 J3
    have X3 := mkHid (show Bx _ w3 bx wb (.slice none 0 0) from ⟨a3.heap N1.out (fun h => h), by omega, fun e => by cases e⟩)
    clear r3 a3 z3 N1 I1 J1
    obtain ⟨c0, c1, c2, c3, c4, c5, c6⟩ := cells7 X3.out.heap
    go_wp2_with fail
    refine (put_fit wb _ _ _ _ sd.toNat 32 (by omega) rfl (by first | exact u32_lt _ | omega) (by omega) (by simp) _ R3.out).mono ?_
    rintro e w4 ⟨rfl, v4, r4, t4⟩
    have R4 := mkHid r4
    have X4 := mkHid (X3.out.next t4)
    have T4 := mkHid t4
    have I4 := mkHid (ia_tch I3.out t4 R3.out)
    have J4 := mkHid (ia_tch J3.out t4 R3.out)
    clear r4 t4 c0 c1 c2 c3 c4 c5 c6 X3 I3 J3
    obtain ⟨c0, c1, c2, c3, c4, c5, c6⟩ := cells7 X4.out.heap
    go_wp2_with fail
    refine (put_fit wb v4 _ _ _ md.toNat 32 (by omega) rfl (by first | exact u32_lt _ | omega) (by omega) (by simp) _ R4.out).mono ?_
    rintro e w5 ⟨rfl, v5, r5, t5⟩
    have R5 := mkHid r5
    have X5 := mkHid (X4.out.next t5)
    have T5 := mkHid (T4.out.trans t5)
    have I5 := mkHid (ia_tch I4.out t5 R4.out)
    have J5 := mkHid (ia_tch J4.out t5 R4.out)
    clear r5 t5 c0 c1 c2 c3 c4 c5 c6 X4 I4 J4 T4 R4
    obtain ⟨c0, c1, c2, c3, c4, c5, c6⟩ := cells7 X5.out.heap
    go_wp2_with fail
    refine (put_fit wb v5 _ _ _ fi.toNat 16 (by omega) rfl (by first | exact u32_lt _ | omega) (by omega) (by simp) _ R5.out).mono ?_
    rintro e w6 ⟨rfl, v6, r6, t6⟩
    have R6 := mkHid r6
    have X6 := mkHid (X5.out.next t6)
    have T6 := mkHid (T5.out.trans t6)
    have I6 := mkHid (ia_tch I5.out t6 R5.out)
    have J6 := mkHid (ia_tch J5.out t6 R5.out)
    clear r6 t6 c0 c1 c2 c3 c4 c5 c6 X5 I5 J5 T5 R5
    obtain ⟨c0, c1, c2, c3, c4, c5, c6⟩ := cells7 X6.out.heap
    go_wp2_with fail
    refine (put_fit wb v6 _ _ _ n 16 (by omega) rfl (by first | exact u32_lt _ | omega) (by omega) (by simp) _ R6.out).mono ?_
    rintro e w7 ⟨rfl, v7, r7, t7⟩
    have R7 := mkHid r7
    have X7 := mkHid (X6.out.next t7)
    have T7 := mkHid (T6.out.trans t7)
    have I7 := mkHid (ia_tch I6.out t7 R6.out)
    have J7 := mkHid (ia_tch J6.out t7 R6.out)
    clear r7 t7 c0 c1 c2 c3 c4 c5 c6 X6 I6 J6 T6 R6
    obtain ⟨c0, c1, c2, c3, c4, c5, c6⟩ := cells7 X7.out.heap
    go_wp2_with fail
    refine (put_fit wb v7 _ _ _ (u32 ba) 24 (by unfold u32; first | (rw [IntKind.wrap_u32]; omega) | omega) rfl (by first | exact u32_lt _ | omega) (by omega) (by simp) _ R7.out).mono ?_
    rintro e w8 ⟨rfl, v8, r8, t8⟩
    have R8 := mkHid r8
    have X8 := mkHid (X7.out.next t8)
    have T8 := mkHid (T7.out.trans t8)
    have I8 := mkHid (ia_tch I7.out t8 R7.out)
    have J8 := mkHid (ia_tch J7.out t8 R7.out)
    clear r8 t8 c0 c1 c2 c3 c4 c5 c6 X7 I7 J7 T7 R7
    obtain ⟨c0, c1, c2, c3, c4, c5, c6⟩ := cells7 X8.out.heap
    go_wp2_with fail
    refine (put_fit wb v8 _ _ _ co.toNat 8 (by omega) rfl (by first | exact u32_lt _ | omega) (by omega) (by simp) _ R8.out).mono ?_
    rintro e w9 ⟨rfl, v9, r9, t9⟩
    have R9 := mkHid r9
    have X9 := mkHid (X8.out.next t9)
    have T9 := mkHid (T8.out.trans t9)
    have I9 := mkHid (ia_tch I8.out t9 R8.out)
    have J9 := mkHid (ia_tch J8.out t9 R8.out)
    clear r9 t9 c0 c1 c2 c3 c4 c5 c6 X8 I8 J8 T8 R8
    have PC := mkHid (putchunks_any wb v9 _ a c st HN4.out HS2.out (by simp) (by have := HLT.out; simp; omega) _ R9.out I9.out)
    rw [HN.out] at PC
    obtain ⟨c0, c1, c2, c3, c4, c5, c6⟩ := cells7 X9.out.heap
    go_wp2_with fail
    refine (PC.out).mono ?_
    rintro e w10 ⟨rfl, v10, r10, t10⟩
    have R10 := mkHid r10
    have X10 := mkHid (X9.out.next t10)
    have T10 := mkHid (T9.out.trans t10)
    have I10 := mkHid (ia_tch I9.out t10 R9.out)
    have J10 := mkHid (ia_tch J9.out t10 R9.out)
    clear r10 t10 c0 c1 c2 c3 c4 c5 c6 X9 I9 J9 T9 R9
    have PD := mkHid (putdeltas_any wb v10 _ a c st a' c' dl HMT.out (by have := HLT.out; simp; omega) _ R10.out I10.out J10.out)
    rw [HN.out, HM.out] at PD
    obtain ⟨c0, c1, c2, c3, c4, c5, c6⟩ := cells7 X10.out.heap
    go_wp2_with fail
    refine (PD.out).mono ?_
    rintro e w11 ⟨rfl, v11, r11, t11⟩
    have R11 := mkHid r11
    have X11 := mkHid (X10.out.next t11)
    have T11 := mkHid (T10.out.trans t11)
    have I11 := mkHid (ia_tch I10.out t11 R10.out)
    have J11 := mkHid (ia_tch J10.out t11 R10.out)
    clear r11 t11 c0 c1 c2 c3 c4 c5 c6 X10 I10 J10 T10 R10
    go_wp2_with fail
    refine (align_any wb v11 _ 32 _ R11.out).mono ?_
    rintro e w20 ⟨rfl, v20, r20, t20⟩
    have R20 := mkHid r20
    have T20 := mkHid (T11.out.trans t20)
    clear r20 t20 R11 T11
    rw [align32 _ (by have := HLT.out; simp; omega)] at R20
    go_wp2_with fail
    refine (text_any wb v20 _ _ R20.out).mono ?_
    rintro e w21 ⟨rfl, rfl⟩
    go_wp2
    go_ret2
    refine ⟨by simp [encL, bodyB, hdB, HN.out], ?_⟩
    have hb := T20.out.below R3.out wb (Nat.le_refl _)
    have a3 := A3.out.belowZ
    exact a3.trans (hb.mono (by rw [HBX.out]; omega))
end Go.Proofs.Ytcbehpocnnkkeaa
