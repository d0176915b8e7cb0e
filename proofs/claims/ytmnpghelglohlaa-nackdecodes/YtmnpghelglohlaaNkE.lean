/-
  What Encode hands back.
-/
import Derived.Test.YtmnpghelglohlaaNkW
namespace Go.Proofs.Ytmnpghelglohlaa
open Go.RowKit

/-- A list with its two senders, as a value. -/
def nv (r : Nk) (a : Option Addr) (n c : Nat) : Value := .agg #[.int .u32 r.sd, .int .u32 r.md, .slice a n c]
def slen : Value → Nat
  | .slice _ n _ => n
  | _ => 0
theorem encE_no {r : Nk} (h : isL r.lo = false) : encE r = 1 ∧ encS r = ⟨#[]⟩ := by unfold encE encS; rw [h]; exact ⟨rfl, rfl⟩
theorem encE_yes {r : Nk} (h : isL r.lo = true) : encE r = 0 ∧ encS r = packS (nkB r) := by unfold encE encS; rw [h]; exact ⟨rfl, rfl⟩
set_option maxRecDepth 100000 in
set_option maxHeartbeats 1000000 in
theorem enc_any (r : Nk) (a : Option Addr) (c : Nat) (w : World) (h : IA w.heap.size w a c r.lo) (s0 : 0 ≤ r.sd) (s1 : r.sd < 4294967296) (t0 : 0 ≤ r.md) (t1 : r.md < 4294967296) :
    Calls Try.prog 10 #[nv r a r.lo.length c] w fun e w' => e = .returned (.tuple #[.string (encS r), .int .i64 (encE r)]) ∧ Below w.heap.size w w' := by
  have A0 := mkHid ((Apart.refl (fun _ => False) w).alloc (.cells #[.int .u32 r.sd, .int .u32 r.md, .slice a r.lo.length c] 25))
  have N0 := mkHid (heap_alloc_new w (.cells #[.int .u32 r.sd, .int .u32 r.md, .slice a r.lo.length c] 25))
  have I0 := mkHid (h.on A0.out.belowZ)
  have GD := mkHid (islist_any _ _ a c r.lo I0.out)
  have m1 := h.len
  unfold nv
  obtain ⟨sd, md, lo⟩ := r
  simp only at *
  obtain ⟨n, HN⟩ : ∃ n, Hid (lo.length = n) := ⟨_, rfl⟩
  rw [HN.out] at A0 N0 GD I0 m1 ⊢
  obtain ⟨bx, HBX⟩ : ∃ bx, Hid (w.heap.size = bx) := ⟨_, rfl⟩
  obtain ⟨W, HW⟩ : ∃ W, Hid (w.alloc (.cells #[.int .u32 sd, .int .u32 md, .slice a n c] 25) = W) := ⟨_, rfl⟩
  rw [HBX.out, HW.out] at N0
  rw [HW.out] at A0 I0 GD
  obtain ⟨c0, c1, c2, -⟩ := cells3 N0.out
  clear h
  cases hg : isL lo with
  | false =>
    rw [hg] at GD
    obtain ⟨q1, q2⟩ := encE_no (r := ⟨sd, md, lo⟩) hg
    rw [q1, q2]
    clear q1 q2 hg
    go_enter Try.func10, Try.ntmps10
    go_wp2_with fail
    rw [HW.out, HBX.out]
    go_wp2_with fail
    refine (GD.out).mono ?_
    rintro e w1 ⟨rfl, rfl⟩
    go_wp2
    go_ret2
    exact ⟨rfl, A0.out.belowZ⟩
  | true =>
    rw [hg] at GD
    obtain ⟨q1, q2⟩ := encE_yes (r := ⟨sd, md, lo⟩) hg
    have HL := mkHid ((isL_iff lo).1 hg)
    have HEN := mkHid (enL_len _ lo (Nat.le_refl _))
    have HBB := mkHid (nkB_len ⟨sd, md, lo⟩)
    obtain ⟨B, HB⟩ : ∃ B, Hid (nkB ⟨sd, md, lo⟩ = B) := ⟨_, rfl⟩
    have HBQ := mkHid (show ([] ++ bitsOf sd.toNat 32 ++ bitsOf md.toNat 32) ++ enB (enL lo) = B by rw [← HB.out]; simp [nkB])
    rw [HB.out] at HBB
    rw [q1, q2, HB.out]
    clear q1 q2 hg
    go_enter Try.func10, Try.ntmps10
    go_wp2_with fail
    rw [HW.out, HBX.out]
    go_wp2_with fail
    refine (GD.out).mono ?_
    rintro e w1 ⟨rfl, rfl⟩
    clear c0 c1 c2
    obtain ⟨wb, HWB⟩ : ∃ wb, Hid (w1.heap.size = wb) := ⟨_, rfl⟩
    have hbw : bx < wb := by rw [← HWB.out]; exact lt_of_heap N0.out
    go_wp2_with fail
    refine (write_any _).mono ?_
    rw [HWB.out]
    rintro e w3 ⟨rfl, r3, a3, z3⟩
    have R3 := mkHid r3
    have A3 := mkHid (A0.out.zz a3)
    have I3 := mkHid (I0.out.kept a3.belowZ)
    rw [HWB.out] at I3
    have X3 := mkHid (show Bx _ w3 bx wb (.slice none 0 0) from ⟨a3.heap N0.out (fun h => h), by omega, fun e => by cases e⟩)
    clear r3 a3 z3 N0 I0
    obtain ⟨c0, c1, c2, -⟩ := cells3 X3.out.heap
    go_wp2_with fail
    refine (put_fit wb _ _ _ _ sd.toNat 32 (by omega) rfl (by omega) (by omega) (by simp) _ R3.out).mono ?_
    rintro e w4 ⟨rfl, v4, r4, t4⟩
    have R4 := mkHid r4
    have X4 := mkHid (X3.out.next t4)
    have T4 := mkHid t4
    have I4 := mkHid (ia_tch I3.out t4 R3.out)
    clear r4 t4 c0 c1 c2 X3 I3
    obtain ⟨c0, c1, c2, -⟩ := cells3 X4.out.heap
    go_wp2_with fail
    refine (put_fit wb v4 _ _ _ md.toNat 32 (by omega) rfl (by omega) (by omega) (by simp) _ R4.out).mono ?_
    rintro e w5 ⟨rfl, v5, r5, t5⟩
    have R5 := mkHid r5
    have X5 := mkHid (X4.out.next t5)
    have T5 := mkHid (T4.out.trans t5)
    have I5 := mkHid (ia_tch I4.out t5 R4.out)
    clear r5 t5 c0 c1 c2 X4 I4 T4 R4
    obtain ⟨c0, c1, c2, -⟩ := cells3 X5.out.heap
    go_wp2
    go_loopw [5] (fun x wr => ∃ (ad : Option Addr) (cd : Nat) (d : List Int) (vj : Value) (P : List Bool), x = .slice ad d.length cd ∧ IA wb wr ad cd d ∧ Ri d ∧ d.length ≤ 4096 ∧ Wr 67 wr wb vj P ∧ Tch wb (.slice none 0 0) vj w3 wr ∧ P ++ enB (enL d) = B) (fun x _ => slen x)
    case atStart => exact ⟨a, c, lo, v5, _, by rw [HN.out], I5.out, HL.out.2.2, HL.out.2.1, R5.out, T5.out, HBQ.out⟩
    case round =>
      obtain ⟨ad, cd, d, vj, P, rfl, hi, hri, hdl, hwr, htc, hpe⟩ := hrel
      have HI := mkHid hi
      have HRI := mkHid hri
      have HWR := mkHid hwr
      have HTC := mkHid htc
      have HPE := mkHid hpe
      have m3 := hi.len
      clear hi hri hwr htc hpe R5 X5 I5 T5 c0 c1 c2
      cases d with
      | nil =>
        have HPB := mkHid (show P = B by have := HPE.out; rwa [enL_nil, enB, List.append_nil] at this)
        have TX := mkHid (text_any wb vj P _ HWR.out)
        rw [HPB.out] at TX
        simp only [List.length_nil] at *
        go_wp2_with fail
        refine (TX.out).mono ?_
        rintro e w9 ⟨rfl, rfl⟩
        go_wp2
        go_ret2
        refine ⟨rfl, ?_⟩
        exact (A3.out.belowZ).trans ((HTC.out.below R3.out w.heap.size (by have := HBX.out; omega)))
      | cons x t =>
        have HPL := mkHid (show P.length + 32 ≤ 524288 by
          have h1 := congrArg List.length HPE.out
          rw [List.length_append, enB_len, enL_cons, List.length_cons] at h1
          have h2 : B.length = 64 + 32 * (enL lo).length := HBB.out
          have h3 : (enL lo).length ≤ lo.length := HEN.out
          have h4 := HL.out.2.1
          omega)
        have PE := mkHid (putentry_any wb vj P ad cd x t HRI.out (by simp at hdl; omega) HPL.out _ HWR.out HI.out)
        have HRN := mkHid (ri_of x t HRI.out.2.2 (tkN x t))
        have HTN := mkHid (show (t.drop (tkN x t)).length < (x :: t).length by simp; omega)
        have HPN := mkHid (show (P ++ (bitsOf x.toNat 16 ++ bitsOf (msk x 0 t) 16)) ++ enB (enL (t.drop (tkN x t))) = B by
          have := HPE.out; rw [enL_cons, enB] at this; simpa [List.append_assoc] using this)
        obtain ⟨d2, HD2⟩ : ∃ d2, Hid (t.drop (tkN x t) = d2) := ⟨_, rfl⟩
        rw [HD2.out] at PE HRN HTN HPN
        obtain ⟨z, HZ⟩ : ∃ z, Hid ((x :: t).length = z) := ⟨_, rfl⟩
        rw [HZ.out] at PE HTN hdl m3 ⊢
        have hz : (0 : Int) < z := by have := HZ.out; simp at this; omega
        go_wp2_with fail
        refine (PE.out).mono ?_
        rintro e w4 ⟨⟨a4, c4, rfl, i4⟩, v6, h6, t6⟩
        have I4 := mkHid i4
        have H6 := mkHid h6
        have T6 := mkHid (HTC.out.trans t6)
        clear i4 h6 t6 PE HWR HTC HI
        go_wp2
        go_roundw
        case rel => exact ⟨_, _, d2, v6, _, rfl, I4.out, HRN.out, by have := HTN.out; omega, H6.out, T6.out, HPN.out⟩
        case measure => exact HTN.out
end Go.Proofs.Ytmnpghelglohlaa
