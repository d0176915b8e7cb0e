/-
  RtpCuts: a header that is cut off anywhere is short.
-/
import Derived.Test.YtdajcgicpfpeoaaRows
import Derived.WalkKit
import Derived.ProofKit
import Derived.OpenShut
import Derived.ShutString
import Derived.ChangeOld
import Derived.Below
import Derived.Deep.Slices
import Derived.Test.YtdajcgicpfpeoaaRtW
namespace Go.Proofs.Ytdajcgicpfpeoaa.rtpCuts
open Go.ChangeShapes Go.WideShapes Go.ChangeAt Go.RowKit
open Go.ChangeMaps (open_string shut_string)
set_option linter.unusedVariables false

theorem own : ownKnob Try.prog.godebug = none := by kernel_rfl
theorem laidOut : laidOutB Try.prog = true := by kernel_rfl

theorem open0 {H : Type} {enc : TypeId × Value → H} {W : World} {r : Reach} {b0 : Nat} {v : Value} {d : DataW H} {p : List MemPlace} (hv : Value.okWide Try.prog W r b0 26 v)
    (h : DataW.Trod enc Try.prog W 0 (fun _ => true) true 26 v d p) :
    ∃ mk ty sq tm ss sa ns sc ea ne ec S I D, v = hdr mk ty sq tm ss (.slice sa ns sc) (.slice ea ne ec) ∧ HIn W tm ss sa ns S ea ne I D := open_hdr hv h
set_option maxRecDepth 100000 in
set_option maxHeartbeats 400000 in
theorem walk (mk : Bool) (ty sq tm ss : Int) (sa : Option Addr) (ns sc : Nat) (ea : Option Addr) (ne ec : Nat) (S I : Nat → Int) (D : Nat → ByteArray) (a1 : Int) (w : World) (w0 : HIn w tm ss sa ns S ea ne I D) (w1' : (Lit.int .i64 a1).wf = true) : Calls Try.prog 6 #[hdr mk ty sq tm ss (.slice sa ns sc) (.slice ea ne ec), .int .i64 a1] w fun e w' => e = .returned (.bool true) ∧ Below w.heap.size w w' := by
  have t0 := w0.t0
  have t1 := w0.t1
  have s0 := w0.s0
  have s1 := w0.s1
  have HSB := mkHid (sa_bd w0.s)
  have K0 := mkHid (hk_box (mk := mk) (ty := ty) (sq := sq) (sc := sc) (ec := ec) w0)
  obtain ⟨bx, W, HBX, HW, _, _⟩ := boxed w mk ty sq tm ss (.slice sa ns sc) (.slice ea ne ec)
  rw [HW.out, HBX.out] at K0
  clear w0
  go_enter Try.func6, Try.ntmps6
  go_wp2_with fail
  rw [HW.out, HBX.out]
  refine (large_any mk ty sq tm ss sa ea ns sc ne ec S I D W K0.out.s K0.out.x).mono ?_
  rintro e w1 ⟨rfl, p1⟩
  have K1 := mkHid (K0.out.next p1)
  clear p1 K0
  obtain ⟨⟨c0, c1, c2, c3, c4, c5, c6⟩, _⟩ := K1.out.d.cells
  cases hl : lgB ns ne D with
  | true =>
    clear hl
    go_wp2_with fail
    refine (wakes_any _).mono ?_
    rintro e w2 ⟨rfl, p2⟩
    have K2 := mkHid (K1.out.next p2)
    clear p2
    go_wp2
    go_ret
    exact ⟨rfl, K2.out.a.belowZ⟩
  | false =>
    obtain ⟨l1, l2⟩ := small_of hl
    clear hl
    go_wp2_with fail
    refine (copy_any mk ty sq tm ss sa ea ns sc ne ec S I D _ K1.out.s K1.out.x l1 l2).mono ?_
    rintro e w2 ⟨sa', sc', ea', ec', rfl, cs, cx, p2⟩
    have K2 := mkHid (K1.out.next p2)
    have CS := mkHid cs
    have CX := mkHid cx
    clear p2 K1 cs cx c0 c1 c2 c3 c4 c5 c6
    go_wp2_with fail
    refine (enc_any mk ty sq tm ss sa' ea' ns sc' ne ec' S I D w2 CS.out CX.out t0 t1 s0 s1).mono ?_
    rintro e w3 ⟨rfl, p3⟩
    have K3 := mkHid (K2.out.next p3)
    clear p3 K2 CS CX
    obtain ⟨⟨c0, c1, c2, c3, c4, c5, c6⟩, _⟩ := K3.out.d.cells
    have HES : Hid (encS mk ty sq tm ss ns S ne I D = if goodB ty sq ns ne I D = true then packS (encL mk ty sq tm ss ns S ne I D) else ⟨#[]⟩) := rfl
    have HEE : Hid (encE ty sq ns ne I D = if goodB ty sq ns ne I D = true then 0 else 1) := rfl
    cases hg : goodB ty sq ns ne I D with
    | false =>
      rw [hg] at HES HEE
      rw [HES.out, HEE.out, if_neg (by simp), if_neg (by simp)]
      go_wp2_with fail
      refine (wakes_any _).mono ?_
      rintro e w5 ⟨rfl, p5⟩
      have K5 := mkHid (K3.out.next p5)
      clear p5
      go_wp2
      go_ret
      exact ⟨rfl, K5.out.a.belowZ⟩
    | true =>
      have G := good_of (S := S) hg t0 t1 s0 s1 HSB.out
      rw [hg] at HES HEE
      rw [HES.out, HEE.out, if_pos rfl, if_pos rfl]
      obtain ⟨hl8, hpl, hsz, hsm⟩ := enc_len (mk := mk) G
      have HG := mkHid G
      have hs12 : 12 ≤ (packS (encL mk ty sq tm ss ns S ne I D)).size := by rw [hsz]; split <;> omega
      have HCUT : Hid (∀ k, k < (packS (encL mk ty sq tm ss ns S ne I D)).size → decE ((packS (encL mk ty sq tm ss ns S ne I D)).extract 0 k) = 60 ∧ ((packS (encL mk ty sq tm ss ns S ne I D)).extract 0 k).size = k) := fun k hk => by
        obtain ⟨q1, q2⟩ := pre_cut (encL mk ty sq tm ss ns S ne I D) k (by omega)
        exact ⟨(dec_enc HG.out _ _ rfl q1).1 (by rw [q2]; omega), q2⟩
      obtain ⟨es, HS⟩ : ∃ es, Hid (packS (encL mk ty sq tm ss ns S ne I D) = es) := ⟨_, rfl⟩
      rw [HS.out] at hs12 hsm HCUT ⊢
      clear G hg hl8 hpl hsz
      have hne : es.toList.isEmpty = false := by
        rw [List.isEmpty_eq_false_iff]
        intro e
        have : es.size = 0 := by rw [ByteArray.toList_eq] at e; show es.data.size = 0; rw [← Array.length_toList, e]; rfl
        omega
      obtain ⟨k, hk, hkl⟩ : ∃ k : Nat, (IntKind.u64.wrap a1).tmod (es.size : Int) = k ∧ k < es.size := by
        have h0 : 0 ≤ IntKind.u64.wrap a1 := by rw [IntKind.wrap_u64]; omega
        have h1 := Int.tmod_nonneg (es.size : Int) h0
        have h2 := Int.tmod_lt_of_pos (IntKind.u64.wrap a1) (show (0 : Int) < es.size by omega)
        exact ⟨((IntKind.u64.wrap a1).tmod (es.size : Int)).toNat, by omega, by omega⟩
      obtain ⟨cut1, cut2⟩ := HCUT.out k hkl
      have hkl' : (k : Int) < es.size := by omega
      have hz' : ¬ (es.size : Int) = 0 := by omega
      have hz2 : (es.size : Int) ≤ 320 := by omega
      go_wp2_with fail
      refine (dec_any (es.extract 0 k) (by rw [cut2]; omega) w3).mono ?_
      rintro e w4 ⟨p4, ⟨_, rfl⟩ | ⟨hbad, _⟩⟩
      · rw [cut1]
        have K4 := mkHid (K3.out.next p4)
        have K5 := mkHid (K4.out.alloc (.cells #[.bool false, .int .i64 0, .int .i64 0, .int .u32 0, .int .u32 0, .slice none 0 0, .slice none 0 0] 26))
        clear p4 K3 c0 c1 c2 c3 c4 c5 c6
        obtain ⟨by_, W2, HBY, HW2, _, _⟩ := boxed w4 false 0 0 0 0 (.slice none 0 0) (.slice none 0 0)
        rw [HW2.out] at K5
        go_wp2_with fail
        rw [HW2.out]
        refine (wakes_any _).mono ?_
        rintro e w5 ⟨rfl, p5⟩
        have K6 := mkHid (K5.out.next p5)
        clear p5
        go_wp2
        go_ret
        exact ⟨rfl, K6.out.a.belowZ⟩
      · rw [cut1] at hbad; exact absurd hbad (by decide)

set_option maxRecDepth 100000 in
theorem lifted (os : Os) (started : os.Started) (H : Type) (enc : TypeId × Value → H) :
    ReturnsInHanded {} Try.checked os 6 .any (Rows.rtpCutsSpec.pre6 enc Try.prog Try.f6 Rows.rtpCutsRow.domain false) (Rows.rtpCutsSpec.post enc Try.prog Try.f6 false true false false) := by
  refine returnsInHanded_of_change (C := Try.checked) own started (by kernel_rfl) Try.func6
    (ChangeSpec.witness6 (enc := enc) (C := Try.checked) false ⟨#[], #[.agg #[.bool false, .int .i64 0, .int .i64 0, .int .u32 0, .int .u32 0, .slice none 0 0, .slice none 0 0], .int .i64 0], []⟩ 8 (by kernel_rfl) (by kernel_rfl) (by kernel_rfl) (by kernel_rfl)) ?_
  intro W base args ds gs before hval0 hW hcnd _
  have hval : ∀ (j : Nat) t v, Try.f6.params[j]? = some t → args[j]? = some v → Value.okWide Try.prog W .any base t v := hval0
  have hW' := hW
  obtain ⟨p, q, hA0, hV, rfl, hfz, hnd⟩ := hW
  have hA : DataW.TrodAll enc Try.prog W 0 (fun _ => true) true Try.f6.params.toList args.toList ds p := hA0
  rw [Try.params6] at hA hval
  obtain ⟨v0, vs0, d0, ds0, p0, q0, hargs, rfl, rfl, h0, r0⟩ := trodAll_cons hA
  obtain ⟨v1, vs1, d1, ds1, p1, q1, rfl, rfl, rfl, h1, r1⟩ := trodAll_cons r0
  obtain ⟨rfl, rfl, rfl⟩ := trodAll_nil r1
  obtain rfl : args = #[v0, v1] := by cases args; simp_all
  obtain ⟨rfl, rfl⟩ := trodVars_none hV
  have k0 := h0
  have lt0 : ∀ x ∈ p0, x.block < W.heap.size := by obtain ⟨m, hm⟩ := k0; exact DataW.trod_lt m _ _ _ hm
  obtain ⟨mk, ty, sq, tm, ss, sa, ns, sc, ea, ne, ec, S, I, D, rfl, w0⟩ := open0 (hval 0 26 v0 rfl rfl) h0
  obtain ⟨a1, rfl, rfl, rfl, w1⟩ := open_int Try.underlying3 (hval 1 3 v1 rfl rfl) h1
  clear hA0 hval0
  refine (walk mk ty sq tm ss sa ns sc ea ne ec S I D a1 W w0 w1).mono fun e W' ⟨he, bel⟩ => ?_
  subst he
  exact ⟨_, rfl, _, _, _, [], _, [], hW', trodAll_mk1 (shut_bool Try.underlying4 _), (trodAll_cons_mk (Below.trod laidOut (by kernel_rfl) (of_decide_eq_true (by kernel_rfl)) k0 bel lt0) (trodAll_cons_mk (shut_int Try.underlying3 w1) trodAll_mk0)), rfl, bel.frame _, fun h => by cases h⟩

theorem over : Rows.rtpCutsRow.holds Try.pinned (OpenSpec.ofChange Rows.rtpCutsSpec) :=
  OpenClaim.holds_of_wide 6 Try.f6 rfl rfl rfl rfl rfl rfl rfl ⟨rfl, rfl, rfl, rfl, rfl⟩ rfl rfl rfl rfl rfl (by kernel_rfl) Try.func6 (by kernel_rfl)
    (of_decide_eq_true (by kernel_rfl)) (by unfold Func.isWrapper; first | (rw [if_pos (by decide +kernel)]; kernel_rfl) | (rw [if_neg (by decide +kernel)]; exact ⟨rfl, rfl⟩))
    (fun os started H enc _ => lifted os started H enc)
end Go.Proofs.Ytdajcgicpfpeoaa.rtpCuts
namespace Go.Proofs.Ytdajcgicpfpeoaa
/-- The statement. -/
theorem rtpCuts_holds : Rows.RtpCutsSaid := rtpCuts.over
#print axioms rtpCuts_holds
end Go.Proofs.Ytdajcgicpfpeoaa
