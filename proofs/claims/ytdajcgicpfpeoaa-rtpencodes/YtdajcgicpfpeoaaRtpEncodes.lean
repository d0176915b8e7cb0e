/-
  RtpEncodes: the bytes of every header, or that it is none.
-/
import Derived.Test.YtdajcgicpfpeoaaRows
import Derived.WalkKit
import Derived.ProofKit
import Derived.OpenShut
import Derived.ShutString
import Derived.ChangeOld
import Derived.Below
import Derived.Deep.Slices
import Derived.Test.YtdajcgicpfpeoaaRtS
namespace Go.Proofs.Ytdajcgicpfpeoaa.rtpEncodes
open Go.ChangeShapes Go.WideShapes Go.ChangeAt Go.RowKit
open Go.ChangeMaps (open_string shut_string)
set_option linter.unusedVariables false

theorem own : ownKnob Try.prog.godebug = none := by kernel_rfl
theorem laidOut : laidOutB Try.prog = true := by kernel_rfl

theorem open0 {H : Type} {enc : TypeId × Value → H} {W : World} {r : Reach} {b0 : Nat} {v : Value} {d : DataW H} {p : List MemPlace} (hv : Value.okWide Try.prog W r b0 26 v)
    (h : DataW.Trod enc Try.prog W 0 (fun _ => true) true 26 v d p) :
    ∃ mk ty sq tm ss sa ns sc ea ne ec S I D, v = hdr mk ty sq tm ss (.slice sa ns sc) (.slice ea ne ec) ∧ HIn W tm ss sa ns S ea ne I D := open_hdr hv h
set_option maxRecDepth 100000 in
set_option maxHeartbeats 400000 in
theorem walk (mk : Bool) (ty sq tm ss : Int) (sa : Option Addr) (ns sc : Nat) (ea : Option Addr) (ne ec : Nat) (S I : Nat → Int) (D : Nat → ByteArray) (w : World) (w0 : HIn w tm ss sa ns S ea ne I D) : Calls Try.prog 3 #[hdr mk ty sq tm ss (.slice sa ns sc) (.slice ea ne ec)] w fun e w' => e = .returned (.bool true) ∧ Below w.heap.size w w' := by
  have t0 := w0.t0
  have t1 := w0.t1
  have s0 := w0.s0
  have s1 := w0.s1
  have K0 := mkHid (hk_box (mk := mk) (ty := ty) (sq := sq) (sc := sc) (ec := ec) w0)
  obtain ⟨bx, W, HBX, HW, _, _⟩ := boxed w mk ty sq tm ss (.slice sa ns sc) (.slice ea ne ec)
  rw [HW.out, HBX.out] at K0
  clear w0
  go_enter Try.func3, Try.ntmps3
  go_wp2_with fail
  rw [HW.out, HBX.out]
  refine (large_any mk ty sq tm ss sa ea ns sc ne ec S I D W K0.out.s K0.out.x).mono ?_
  rintro e w1 ⟨rfl, p1⟩
  have K1 := mkHid (K0.out.next p1)
  clear p1 K0
  obtain ⟨⟨c0, c1, c2, c3, c4, c5, c6⟩, _⟩ := K1.out.d.cells
  cases hl : lgB ns ne D with
  | true =>
    clear hl
    go_wp2_with fail
    refine (wakes_any _).mono ?_
    rintro e w2 ⟨rfl, p2⟩
    have K2 := mkHid (K1.out.next p2)
    clear p2
    go_wp2
    go_ret
    exact ⟨rfl, K2.out.a.belowZ⟩
  | false =>
    obtain ⟨l1, l2⟩ := small_of hl
    clear hl
    go_wp2_with fail
    refine (copy_any mk ty sq tm ss sa ea ns sc ne ec S I D _ K1.out.s K1.out.x l1 l2).mono ?_
    rintro e w2 ⟨sa', sc', ea', ec', rfl, cs, cx, p2⟩
    have N2 := mkHid (hk_new (mk := mk) (ty := ty) (sq := sq) (tm := tm) (ss := ss) (sc := sc') (ec := ec') (K1.out.next p2).a cs cx)
    have K2 := mkHid ((K1.out.next p2).alloc (.cells #[.bool mk, .int .i64 ty, .int .i64 sq, .int .u32 tm, .int .u32 ss, .slice sa' ns sc', .slice ea' ne ec'] 26))
    obtain ⟨by_, W2, HBY, HW2, _, _⟩ := boxed w2 mk ty sq tm ss (.slice sa' ns sc') (.slice ea' ne ec')
    rw [HW2.out] at N2 K2
    rw [HBY.out] at N2
    clear p2 K1 cs cx c0 c1 c2 c3 c4 c5 c6
    go_wp2_with fail
    rw [HW2.out, HBY.out]
    refine (enc_any mk ty sq tm ss sa' ea' ns sc' ne ec' S I D W2 N2.out.s N2.out.x t0 t1 s0 s1).mono ?_
    rintro e w3 ⟨rfl, p3⟩
    have N3 := mkHid (N2.out.next p3)
    have K3 := mkHid (K2.out.next p3)
    clear p3 N2 K2
    obtain ⟨es, HES⟩ : ∃ es, Hid (encS mk ty sq tm ss ns S ne I D = es) := ⟨_, rfl⟩
    obtain ⟨ee, HEE⟩ : ∃ ee, Hid (encE ty sq ns ne I D = ee) := ⟨_, rfl⟩
    rw [HES.out, HEE.out]
    obtain ⟨⟨c0, c1, c2, c3, c4, c5, c6⟩, _⟩ := K3.out.d.cells
    go_wp2_with fail
    refine (renc_any mk ty sq tm ss sa ea ns sc ne ec S I D w3 K3.out.s K3.out.x t0 t1 s0 s1).mono ?_
    rintro e w4 ⟨rfl, p4⟩
    have N4 := mkHid (N3.out.next p4)
    have K4 := mkHid (K3.out.next p4)
    clear p4 N3 K3 c0 c1 c2 c3 c4 c5 c6
    rw [HES.out, HEE.out]
    obtain ⟨⟨c0, c1, c2, c3, c4, c5, c6⟩, _⟩ := K4.out.d.cells
    obtain ⟨⟨g0, g1, g2, g3, g4, g5, g6⟩, _⟩ := N4.out.d.cells
    go_wp2_with fail
    refine (same_any mk ty sq tm ss sa' ea' sa ea ns sc' sc ne ec' ec S I D w4 N4.out.s N4.out.x K4.out.s K4.out.x).mono ?_
    rintro e w5 ⟨rfl, p5⟩
    have K5 := mkHid (K4.out.next p5)
    clear p5 N4 K4 c0 c1 c2 c3 c4 c5 c6 g0 g1 g2 g3 g4 g5 g6
    go_wp2_with fail
    refine (wakes_any _).mono ?_
    rintro e w6 ⟨rfl, p6⟩
    have K6 := mkHid (K5.out.next p6)
    clear p6
    go_wp2
    go_ret
    exact ⟨rfl, K6.out.a.belowZ⟩

set_option maxRecDepth 100000 in
theorem lifted (os : Os) (started : os.Started) (H : Type) (enc : TypeId × Value → H) :
    ReturnsInHanded {} Try.checked os 3 .any (Rows.rtpEncodesSpec.pre6 enc Try.prog Try.f3 Rows.rtpEncodesRow.domain false) (Rows.rtpEncodesSpec.post enc Try.prog Try.f3 false true false false) := by
  refine returnsInHanded_of_change (C := Try.checked) own started (by kernel_rfl) Try.func3
    (ChangeSpec.witness6 (enc := enc) (C := Try.checked) false ⟨#[], #[.agg #[.bool false, .int .i64 0, .int .i64 0, .int .u32 0, .int .u32 0, .slice none 0 0, .slice none 0 0]], []⟩ 8 (by kernel_rfl) (by kernel_rfl) (by kernel_rfl) (by kernel_rfl)) ?_
  intro W base args ds gs before hval0 hW hcnd _
  have hval : ∀ (j : Nat) t v, Try.f3.params[j]? = some t → args[j]? = some v → Value.okWide Try.prog W .any base t v := hval0
  have hW' := hW
  obtain ⟨p, q, hA0, hV, rfl, hfz, hnd⟩ := hW
  have hA : DataW.TrodAll enc Try.prog W 0 (fun _ => true) true Try.f3.params.toList args.toList ds p := hA0
  rw [Try.params3] at hA hval
  obtain ⟨v0, vs0, d0, ds0, p0, q0, hargs, rfl, rfl, h0, r0⟩ := trodAll_cons hA
  obtain ⟨rfl, rfl, rfl⟩ := trodAll_nil r0
  obtain rfl : args = #[v0] := by cases args; simp_all
  obtain ⟨rfl, rfl⟩ := trodVars_none hV
  have k0 := h0
  have lt0 : ∀ x ∈ p0, x.block < W.heap.size := by obtain ⟨m, hm⟩ := k0; exact DataW.trod_lt m _ _ _ hm
  obtain ⟨mk, ty, sq, tm, ss, sa, ns, sc, ea, ne, ec, S, I, D, rfl, w0⟩ := open0 (hval 0 26 v0 rfl rfl) h0
  clear hA0 hval0
  refine (walk mk ty sq tm ss sa ns sc ea ne ec S I D W w0).mono fun e W' ⟨he, bel⟩ => ?_
  subst he
  exact ⟨_, rfl, _, _, _, [], _, [], hW', trodAll_mk1 (shut_bool Try.underlying4 _), (trodAll_cons_mk (Below.trod laidOut (by kernel_rfl) (of_decide_eq_true (by kernel_rfl)) k0 bel lt0) trodAll_mk0), rfl, bel.frame _, fun h => by cases h⟩

theorem over : Rows.rtpEncodesRow.holds Try.pinned (OpenSpec.ofChange Rows.rtpEncodesSpec) :=
  OpenClaim.holds_of_wide 3 Try.f3 rfl rfl rfl rfl rfl rfl rfl ⟨rfl, rfl, rfl, rfl, rfl⟩ rfl rfl rfl rfl rfl (by kernel_rfl) Try.func3 (by kernel_rfl)
    (of_decide_eq_true (by kernel_rfl)) (by unfold Func.isWrapper; first | (rw [if_pos (by decide +kernel)]; kernel_rfl) | (rw [if_neg (by decide +kernel)]; exact ⟨rfl, rfl⟩))
    (fun os started H enc _ => lifted os started H enc)
end Go.Proofs.Ytdajcgicpfpeoaa.rtpEncodes
namespace Go.Proofs.Ytdajcgicpfpeoaa
/-- The statement. -/
theorem rtpEncodes_holds : Rows.RtpEncodesSaid := rtpEncodes.over
#print axioms rtpEncodes_holds
end Go.Proofs.Ytdajcgicpfpeoaa
