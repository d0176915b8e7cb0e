/-
  What the reference's Encode hands back.
-/
import Derived.Test.YtmnpghelglohlaaNkG
import Derived.Test.YtmnpghelglohlaaNkT
import Derived.Test.YtmnpghelglohlaaBiZ
namespace Go.Proofs.Ytmnpghelglohlaa
open Go.RowKit

theorem rput_fit (b : Nat) (v : Value) (l : List Bool) (x n : Int) (X m : Nat) (eX : x = X) (e : n = m) (x1 : X < 4294967296) (hm : m ≤ 32) (hl : l.length + m ≤ 524288) (w : World) (h : Wr 74 w b v l) :
    Calls Try.prog 23 #[.pointer (some ⟨b, 0, none⟩), .int .u32 x, .int .i64 n] w fun e w' => e = .returned (.tuple #[]) ∧ ∃ v', Wr 74 w' b v' (l ++ bitsOf X m) ∧ Tch b v v' w w' := by
  subst e eX
  have := rput_any b v l X m (by omega) (by omega) w h
  unfold putS at this
  rw [if_pos (by omega)] at this
  exact this
theorem ia_tchr {b : Nat} {v v' : Value} {w w' : World} {L : List Bool} {a : Option Addr} {c : Nat} {l : List Int} (h : IA b w a c l) (t : Tch b v v' w w') (hw : Wr 74 w b v L) : IA b w' a c l := h.kept (t.below hw b (Nat.le_refl _))
set_option maxRecDepth 100000 in
set_option maxHeartbeats 2000000 in
theorem renc_any (r : Nk) (a : Option Addr) (c : Nat) (w : World) (h : IA w.heap.size w a c r.lo) (s0 : 0 ≤ r.sd) (s1 : r.sd < 4294967296) (t0 : 0 ≤ r.md) (t1 : r.md < 4294967296) :
    Calls Try.prog 11 #[nv r a r.lo.length c] w fun e w' => e = .returned (.tuple #[.string (encS r), .int .i64 (encE r)]) ∧ Below w.heap.size w w' := by
  have A0 := mkHid ((Apart.refl (fun _ => False) w).alloc (.cells #[.int .u32 r.sd, .int .u32 r.md, .slice a r.lo.length c] 25))
  have N0 := mkHid (heap_alloc_new w (.cells #[.int .u32 r.sd, .int .u32 r.md, .slice a r.lo.length c] 25))
  have I0 := mkHid (h.on A0.out.belowZ)
  have GD := mkHid (rgood_any _ _ a c r.lo (Nat.le_refl _) I0.out)
  have m1 := h.len
  unfold nv
  obtain ⟨sd, md, lo⟩ := r
  simp only at *
  obtain ⟨n, HN⟩ : ∃ n, Hid (lo.length = n) := ⟨_, rfl⟩
  rw [HN.out] at A0 N0 GD I0 m1 ⊢
  obtain ⟨bx, HBX⟩ : ∃ bx, Hid (w.heap.size = bx) := ⟨_, rfl⟩
  obtain ⟨W, HW⟩ : ∃ W, Hid (w.alloc (.cells #[.int .u32 sd, .int .u32 md, .slice a n c] 25) = W) := ⟨_, rfl⟩
  rw [HBX.out, HW.out] at N0
  rw [HW.out] at A0 I0 GD
  obtain ⟨c0, c1, c2, -⟩ := cells3 N0.out
  clear h
  cases hg : isL lo with
  | false =>
    rw [hg] at GD
    obtain ⟨q1, q2⟩ := encE_no (r := ⟨sd, md, lo⟩) hg
    rw [q1, q2]
    clear q1 q2 hg
    go_enter Try.func11, Try.ntmps11
    go_wp2_with fail
    rw [HW.out, HBX.out]
    go_wp2_with fail
    refine (GD.out).mono ?_
    rintro e w1 ⟨rfl, a1⟩
    have A1 := mkHid (A0.out.zz a1)
    clear a1
    go_wp2
    go_ret2
    exact ⟨rfl, A1.out.belowZ⟩
  | true =>
    rw [hg] at GD
    obtain ⟨q1, q2⟩ := encE_yes (r := ⟨sd, md, lo⟩) hg
    have HL := mkHid ((isL_iff lo).1 hg)
    have HEN := mkHid (enL_len _ lo (Nat.le_refl _))
    have HBB := mkHid (nkB_len ⟨sd, md, lo⟩)
    obtain ⟨B, HB⟩ : ∃ B, Hid (nkB ⟨sd, md, lo⟩ = B) := ⟨_, rfl⟩
    have HBQ := mkHid (show ([] ++ bitsOf sd.toNat 32 ++ bitsOf md.toNat 32) ++ enB (enL (lo.drop 0)) = B by rw [← HB.out]; simp [nkB])
    rw [HB.out] at HBB
    rw [q1, q2, HB.out]
    clear q1 q2 hg
    go_enter Try.func11, Try.ntmps11
    go_wp2_with fail
    rw [HW.out, HBX.out]
    go_wp2_with fail
    refine (GD.out).mono ?_
    rintro e w1 ⟨rfl, a1⟩
    have A1 := mkHid (A0.out.zz a1)
    have N1 := mkHid (a1.heap N0.out (fun h => h))
    have I1 := mkHid (I0.out.on a1.belowZ)
    clear a1 c0 c1 c2 N0 I0 GD A0
    obtain ⟨wb, HWB⟩ : ∃ wb, Hid (w1.heap.size = wb) := ⟨_, rfl⟩
    have hbw : bx < wb := by rw [← HWB.out]; exact lt_of_heap N1.out
    go_wp2_with fail
    refine (rwrite_any _).mono ?_
    rw [HWB.out]
    rintro e w3 ⟨rfl, r3, a3, z3⟩
    have R3 := mkHid r3
    have A3 := mkHid (A1.out.zz a3)
    have I3 := mkHid (I1.out.kept a3.belowZ)
    rw [HWB.out] at I3
    have X3 := mkHid (show Bx _ w3 bx wb (.slice none 0 0) from ⟨a3.heap N1.out (fun h => h), by omega, fun e => by cases e⟩)
    clear r3 a3 z3 N1 I1
    obtain ⟨c0, c1, c2, -⟩ := cells3 X3.out.heap
    go_wp2_with fail
    refine (rput_fit wb _ _ _ _ sd.toNat 32 (by omega) rfl (by omega) (by omega) (by simp) _ R3.out).mono ?_
    rintro e w4 ⟨rfl, v4, r4, t4⟩
    have R4 := mkHid r4
    have X4 := mkHid (X3.out.next t4)
    have T4 := mkHid t4
    have I4 := mkHid (ia_tchr I3.out t4 R3.out)
    clear r4 t4 c0 c1 c2 X3 I3
    obtain ⟨c0, c1, c2, -⟩ := cells3 X4.out.heap
    go_wp2_with fail
    refine (rput_fit wb v4 _ _ _ md.toNat 32 (by omega) rfl (by omega) (by omega) (by simp) _ R4.out).mono ?_
    rintro e w5 ⟨rfl, v5, r5, t5⟩
    have R5 := mkHid r5
    have X5 := mkHid (X4.out.next t5)
    have T5 := mkHid (T4.out.trans t5)
    have I5 := mkHid (ia_tchr I4.out t5 R4.out)
    clear r5 t5 c0 c1 c2 X4 I4 T4 R4
    go_wp2
    go_loopw [5, 6, 7, 8] (fun i _ _ _ wr => ∃ (k : Nat) (vj : Value) (P : List Bool), k ≤ n ∧ i = .int .i64 (k : Int) ∧ IA wb wr a c lo ∧ Ri (lo.drop k) ∧ Wr 74 wr wb vj P ∧ Tch wb (.slice none 0 0) vj w3 wr ∧ P ++ enB (enL (lo.drop k)) = B ∧ Bx (.cells #[.int .u32 sd, .int .u32 md, .slice a n c] 25) wr bx wb vj) (fun i _ _ _ _ => n - (intOf i).toNat)
    case atStart => exact ⟨0, v5, _, Nat.zero_le _, rfl, I5.out, HL.out.2.2, R5.out, T5.out, HBQ.out, X5.out⟩
    case round =>
      obtain ⟨k, vj, P, hk, rfl, hi, hri, hwr, htc, hpe, hbx⟩ := hrel
      have HI := mkHid hi
      have HRI := mkHid hri
      have HWR := mkHid hwr
      have HTC := mkHid htc
      have HPE := mkHid hpe
      have HX := mkHid hbx
      clear hi hri hwr htc hpe hbx R5 X5 I5 T5
      obtain ⟨c0, c1, c2, -⟩ := cells3 HX.out.heap
      by_cases hlt : k < n
      · obtain ⟨bs, off, x, rfl, _, hx, cx⟩ := HI.out.at k (by rw [HN.out]; exact hlt)
        have HV := mkHid (drop_at hx)
        have hri := HRI.out
        rw [HV.out] at hri
        obtain ⟨x0, x1, hup⟩ := hri
        have HU := mkHid hup
        have k0 : (0 : Int) ≤ k := by omega
        have k1 : (k : Int) < n := by omega
        obtain ⟨M, HM⟩ : ∃ M, Hid (msk x 0 (lo.drop (k + 1)) = M) := ⟨_, rfl⟩
        obtain ⟨T, HT⟩ : ∃ T, Hid (k + 1 + tkN x (lo.drop (k + 1)) = T) := ⟨_, rfl⟩
        have HML := mkHid (show M < 65536 by rw [← HM.out]; exact msk_lt x _ 0 (by decide))
        have HTN := mkHid (show k + 1 ≤ T ∧ T ≤ n by have := tkN_le x (lo.drop (k + 1)); rw [List.length_drop, HN.out] at this; have := HT.out; omega)
        clear hup hx
        have HPE2 := mkHid (show (P ++ bitsOf x.toNat 16 ++ bitsOf M 16) ++ enB (enL (lo.drop T)) = B by
          have := HPE.out
          rw [HV.out, enL_cons, enB, HM.out, List.drop_drop, show k + 1 + tkN x (lo.drop (k + 1)) = T from HT.out] at this
          simpa [List.append_assoc] using this)
        have HPN := mkHid HPE2.out
        have HPL := mkHid (show P.length + 32 ≤ 524288 by
          have h1 := congrArg List.length HPE2.out
          simp only [List.length_append, bitsOf_len] at h1
          have h2 : B.length = 64 + 32 * (enL lo).length := HBB.out
          have h3 : (enL lo).length ≤ lo.length := HEN.out
          have h4 := HL.out.2.1
          omega)
        have HRN := mkHid (ri_drop lo HL.out.2.2 T)
        have P1 := mkHid (rput_fit wb vj P x 16 x.toNat 16 (by omega) rfl (by omega) (by omega) (by have := HPL.out; omega) _ HWR.out)
        have hw : IntKind.u32.wrap x = x := by rw [IntKind.wrap_u32]; omega
        clear HPE HPE2
        go_wp2
        go_loopw [5, 7, 8] (fun i m _ wi => wi = wr ∧ ∃ (j q : Nat) (la : Int), k + 1 ≤ j ∧ j ≤ n ∧ i = .int .i64 (j : Int) ∧ m = .int .u32 (q : Int) ∧ q < 65536 ∧ Up x la (lo.drop j) ∧ msk x q (lo.drop j) = M ∧ j + tkN x (lo.drop j) = T) (fun i _ _ _ => n - (intOf i).toNat)
        case atStart => exact ⟨rfl, k + 1, 0, x, Nat.le_refl _, by omega, rfl, rfl, by decide, HU.out, HM.out, HT.out⟩
        case round =>
          obtain ⟨rfl, j, q, la, hj1, hj2, rfl, rfl, hq, hup, hms, htk⟩ := hrel
          have HQ := mkHid hq
          have HUP := mkHid hup
          have HMS := mkHid hms
          have HTK := mkHid htk
          clear hq hup hms htk k0 k1
          by_cases hjn : j < n
          · obtain ⟨b2, off2, v, hb2, _, hv, cv⟩ := HI.out.at j (by rw [HN.out]; exact hjn)
            simp only [Option.some.injEq, Addr.mk.injEq, and_true] at hb2
            obtain ⟨rfl, rfl⟩ := hb2
            have HVJ := mkHid (drop_at hv)
            have j0 : (0 : Int) ≤ j := by omega
            have j1 : (j : Int) < n := by omega
            have hup := HUP.out
            rw [HVJ.out] at hup
            obtain ⟨⟨v0, v1, v2, v3⟩, v4⟩ := hup
            have RC := mkHid (rcrop16 (v - x))
            obtain ⟨d, HD⟩ : ∃ d : Int, Hid ((v - x) % 65536 = d) := ⟨_, rfl⟩
            rw [HD.out] at RC v2 v3
            have d0 : 1 ≤ d := by omega
            have HU4 := mkHid v4
            clear v2 v4 hv
            by_cases h16 : (16 : Int) < d
            · obtain rfl : M = q := by have e1 := HMS.out; rw [HVJ.out, msk, HD.out, if_neg (by omega)] at e1; exact e1.symm
              obtain rfl : T = j := by have e2 := HTK.out; rw [HVJ.out, tkN, HD.out, if_neg (by omega)] at e2; exact e2.symm
              go_wp2_with fail
              refine (RC.out _).mono ?_
              rintro e w5 ⟨rfl, rfl⟩
              go_wp2_with fail
              refine (P1.out).mono ?_
              rintro e w6 ⟨rfl, v6, h6, t6⟩
              have H6 := mkHid h6
              have T6 := mkHid (HTC.out.trans t6)
              have X6 := mkHid (HX.out.next t6)
              have I6 := mkHid (ia_tchr HI.out t6 HWR.out)
              clear h6 t6 c0 c1 c2 cx P1 HWR HTC HX HI
              have P2 := mkHid (rput_fit wb v6 (P ++ bitsOf x.toNat 16) (M : Int) 16 M 16 rfl rfl (by have := HML.out; omega) (by omega) (by rw [List.length_append, bitsOf_len]; have := HPL.out; omega) _ H6.out)
              go_wp2_with fail
              refine (P2.out).mono ?_
              rintro e w7 ⟨rfl, v7, h7, t7⟩
              have H7 := mkHid h7
              have T7 := mkHid (T6.out.trans t7)
              have X7 := mkHid (X6.out.next t7)
              have I7 := mkHid (ia_tchr I6.out t7 H6.out)
              clear h7 t7 P2 H6 T6 X6 I6
              go_wp2
              go_roundw
              case rel => exact ⟨T, v7, _, HTN.out.2, rfl, I7.out, HRN.out, H7.out, T7.out, HPN.out, X7.out⟩
              case measure => have := HTN.out; simp [intOf]; omega
            · have hu : IntKind.u64.wrap (d - 1) = d - 1 := by rw [IntKind.wrap_u64]; omega
              have HOB := mkHid (or_bit32 q HQ.out (d - 1) (by omega) (by omega))
              clear v3
              go_wp2_with fail
              refine (RC.out _).mono ?_
              rintro e w5 ⟨rfl, rfl⟩
              clear v0 v1
              go_wp2
              have ed : (d - 1).toNat = d.toNat - 1 := by omega
              rw [ed] at HOB
              refine ⟨⟨trivial, j + 1, q ||| 2 ^ (d.toNat - 1), v, by omega, by omega, by go_num, by rw [HOB.out], ?_, HU4.out, ?_, ?_⟩, by simp [intOf]; omega⟩
              · exact Nat.or_lt_two_pow (n := 16) HQ.out (Nat.pow_lt_pow_right (by decide) (by omega))
              · have e1 := HMS.out
                rw [HVJ.out, msk, HD.out, if_pos (by omega), ed] at e1
                exact e1
              · have e2 := HTK.out
                rw [HVJ.out, tkN, HD.out, if_pos (by omega)] at e2
                omega
          · obtain rfl : j = n := by omega
            obtain rfl : M = q := by have e1 := HMS.out; rw [← HN.out, List.drop_length] at e1; exact e1.symm
            obtain rfl : T = j := by have e2 := HTK.out; rw [← HN.out, List.drop_length] at e2; rw [← HN.out]; exact e2.symm
            go_wp2_with fail
            refine (P1.out).mono ?_
            rintro e w6 ⟨rfl, v6, h6, t6⟩
            have H6 := mkHid h6
            have T6 := mkHid (HTC.out.trans t6)
            have X6 := mkHid (HX.out.next t6)
            have I6 := mkHid (ia_tchr HI.out t6 HWR.out)
            clear h6 t6 c0 c1 c2 cx P1 HWR HTC HX HI
            have P2 := mkHid (rput_fit wb v6 (P ++ bitsOf x.toNat 16) (M : Int) 16 M 16 rfl rfl (by have := HML.out; omega) (by omega) (by rw [List.length_append, bitsOf_len]; have := HPL.out; omega) _ H6.out)
            go_wp2_with fail
            refine (P2.out).mono ?_
            rintro e w7 ⟨rfl, v7, h7, t7⟩
            have H7 := mkHid h7
            have T7 := mkHid (T6.out.trans t7)
            have X7 := mkHid (X6.out.next t7)
            have I7 := mkHid (ia_tchr I6.out t7 H6.out)
            clear h7 t7 P2 H6 T6 X6 I6
            go_wp2
            go_roundw
            case rel => exact ⟨T, v7, _, HTN.out.2, rfl, I7.out, HRN.out, H7.out, T7.out, HPN.out, X7.out⟩
            case measure => have := HTN.out; simp [intOf]; omega
      · obtain rfl : k = n := by omega
        have HPB := mkHid (show P = B by have := HPE.out; rwa [← HN.out, List.drop_length, enL_nil, enB, List.append_nil] at this)
        have TX := mkHid (rtext_any wb vj P _ HWR.out)
        rw [HPB.out] at TX
        go_wp2_with fail
        refine (TX.out).mono ?_
        rintro e w9 ⟨rfl, rfl⟩
        go_wp2
        go_ret2
        refine ⟨rfl, ?_⟩
        exact (A3.out.belowZ).trans ((HTC.out.below R3.out w.heap.size (by have := HBX.out; omega)))
end Go.Proofs.Ytmnpghelglohlaa
