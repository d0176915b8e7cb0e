/-
  RtpSizes: a header is as long as its parts ask.
-/
import Derived.Test.YtdajcgicpfpeoaaRows
import Derived.WalkKit
import Derived.ProofKit
import Derived.OpenShut
import Derived.ShutString
import Derived.ChangeOld
import Derived.Below
import Derived.Deep.Slices
import Derived.Test.YtdajcgicpfpeoaaRtW
namespace Go.Proofs.Ytdajcgicpfpeoaa.rtpSizes
open Go.ChangeShapes Go.WideShapes Go.ChangeAt Go.RowKit
open Go.ChangeMaps (open_string shut_string)
set_option linter.unusedVariables false

theorem own : ownKnob Try.prog.godebug = none := by kernel_rfl
theorem laidOut : laidOutB Try.prog = true := by kernel_rfl

theorem open0 {H : Type} {enc : TypeId × Value → H} {W : World} {r : Reach} {b0 : Nat} {v : Value} {d : DataW H} {p : List MemPlace} (hv : Value.okWide Try.prog W r b0 26 v)
    (h : DataW.Trod enc Try.prog W 0 (fun _ => true) true 26 v d p) :
    ∃ mk ty sq tm ss sa ns sc ea ne ec S I D, v = hdr mk ty sq tm ss (.slice sa ns sc) (.slice ea ne ec) ∧ HIn W tm ss sa ns S ea ne I D := open_hdr hv h
set_option maxRecDepth 100000 in
set_option maxHeartbeats 400000 in
theorem walk (mk : Bool) (ty sq tm ss : Int) (sa : Option Addr) (ns sc : Nat) (ea : Option Addr) (ne ec : Nat) (S I : Nat → Int) (D : Nat → ByteArray) (w : World) (w0 : HIn w tm ss sa ns S ea ne I D) : Calls Try.prog 7 #[hdr mk ty sq tm ss (.slice sa ns sc) (.slice ea ne ec)] w fun e w' => e = .returned (.bool true) ∧ Below w.heap.size w w' := by
  have t0 := w0.t0
  have t1 := w0.t1
  have s0 := w0.s0
  have s1 := w0.s1
  have HSB := mkHid (sa_bd w0.s)
  have K0 := mkHid (hk_box (mk := mk) (ty := ty) (sq := sq) (sc := sc) (ec := ec) w0)
  obtain ⟨bx, W, HBX, HW, _, _⟩ := boxed w mk ty sq tm ss (.slice sa ns sc) (.slice ea ne ec)
  rw [HW.out, HBX.out] at K0
  clear w0
  go_enter Try.func7, Try.ntmps7
  go_wp2_with fail
  rw [HW.out, HBX.out]
  refine (large_any mk ty sq tm ss sa ea ns sc ne ec S I D W K0.out.s K0.out.x).mono ?_
  rintro e w1 ⟨rfl, p1⟩
  have K1 := mkHid (K0.out.next p1)
  clear p1 K0
  obtain ⟨⟨c0, c1, c2, c3, c4, c5, c6⟩, _⟩ := K1.out.d.cells
  cases hl : lgB ns ne D with
  | true =>
    clear hl
    go_wp2_with fail
    refine (wakes_any _).mono ?_
    rintro e w2 ⟨rfl, p2⟩
    have K2 := mkHid (K1.out.next p2)
    clear p2
    go_wp2
    go_ret
    exact ⟨rfl, K2.out.a.belowZ⟩
  | false =>
    obtain ⟨l1, l2⟩ := small_of hl
    clear hl
    go_wp2_with fail
    refine (copy_any mk ty sq tm ss sa ea ns sc ne ec S I D _ K1.out.s K1.out.x l1 l2).mono ?_
    rintro e w2 ⟨sa', sc', ea', ec', rfl, cs, cx, p2⟩
    have K2 := mkHid (K1.out.next p2)
    have CS := mkHid cs
    have CX := mkHid cx
    clear p2 K1 cs cx c0 c1 c2 c3 c4 c5 c6
    go_wp2_with fail
    refine (enc_any mk ty sq tm ss sa' ea' ns sc' ne ec' S I D w2 CS.out CX.out t0 t1 s0 s1).mono ?_
    rintro e w3 ⟨rfl, p3⟩
    have K3 := mkHid (K2.out.next p3)
    clear p3 K2 CS CX
    obtain ⟨⟨c0, c1, c2, c3, c4, c5, c6⟩, _⟩ := K3.out.d.cells
    have HES : Hid (encS mk ty sq tm ss ns S ne I D = if goodB ty sq ns ne I D = true then packS (encL mk ty sq tm ss ns S ne I D) else ⟨#[]⟩) := rfl
    have HEE : Hid (encE ty sq ns ne I D = if goodB ty sq ns ne I D = true then 0 else 1) := rfl
    have GB := mkHid (good_any mk ty sq tm ss sa ea ns sc ne ec S I D w3 K3.out.s K3.out.x)
    cases hg : goodB ty sq ns ne I D with
    | false =>
      rw [hg] at HES HEE GB
      rw [HES.out, HEE.out, if_neg (by simp), if_neg (by simp)]
      go_wp2_with fail
      refine (GB.out).mono ?_
      rintro e w4 ⟨rfl, p4⟩
      have K4 := mkHid (K3.out.next p4)
      clear p4 K3 c0 c1 c2 c3 c4 c5 c6
      go_wp2_with fail
      refine (wakes_any _).mono ?_
      rintro e w5 ⟨rfl, p5⟩
      have K5 := mkHid (K4.out.next p5)
      clear p5
      go_wp2
      go_ret
      exact ⟨rfl, K5.out.a.belowZ⟩
    | true =>
      have G := good_of (S := S) hg t0 t1 s0 s1 HSB.out
      rw [hg] at HES HEE GB
      rw [HES.out, HEE.out, if_pos rfl, if_pos rfl]
      obtain ⟨_, _, hsz, hsm⟩ := enc_len (mk := mk) G
      have hns := G.hns
      have hne := G.hne
      have HL := mkHid (fun k hk => xlen_le G.hok k hk)
      obtain ⟨es, HS⟩ : ∃ es, Hid (packS (encL mk ty sq tm ss ns S ne I D) = es) := ⟨_, rfl⟩
      rw [HS.out] at hsz hsm ⊢
      have hn1 : (ns : Int) ≤ 15 := by omega
      have hn2 : (ne : Int) ≤ 14 := by omega
      clear G hg
      by_cases h0 : ne = 0
      · subst h0
        rw [if_pos rfl] at hsz
        have hsz' : (es.size : Int) = 12 + 4 * ns := by omega
        go_wp2_with fail
        refine (GB.out).mono ?_
        rintro e w4 ⟨rfl, p4⟩
        have K4 := mkHid (K3.out.next p4)
        clear p4 K3 c0 c1 c2 c3 c4 c5 c6
        go_wp2_with fail
        refine (wakes_any _).mono ?_
        rintro e w5 ⟨rfl, p5⟩
        have K5 := mkHid (K4.out.next p5)
        clear p5
        go_wp2
        go_ret
        exact ⟨rfl, K5.out.a.belowZ⟩
      · rw [if_neg h0] at hsz
        have HSZ := mkHid hsz
        clear hsz
        have h0' : (0 : Int) < ne := by omega
        go_wp2_with fail
        clear c0 c1 c2 c3 c4 c5 c6
        go_loopw [6, 7] (fun tt i wr => ∃ j : Nat, j ≤ ne ∧ i = .int .i64 (j : Int) ∧ tt = .int .i64 (xlen D j : Int) ∧ wr = w3) (fun _ i _ => ne - (intOf i).toNat)
        case atStart => exact ⟨0, Nat.zero_le _, rfl, rfl, rfl⟩
        case round =>
          obtain ⟨j, hj, rfl, rfl, hwr⟩ := hrel
          subst hwr
          obtain ⟨⟨c0, c1, c2, c3, c4, c5, c6⟩, _⟩ := K3.out.d.cells
          have hl := HL.out j hj
          by_cases hlt : j < ne
          · rcases K3.out.x.2 with h0 | ⟨b, off, rfl, hbl, hrows⟩
            · omega
            obtain ⟨d0, d1, _⟩ := hrows j hlt
            have hl2 := HL.out (j + 1) (by omega)
            have HXX : Hid (xlen D (j + 1) = xlen D j + (1 + (D j).size)) := rfl
            rw [HXX.out] at hl2
            have hj0 : (0 : Int) ≤ j := by omega
            have hj1 : (j : Int) < ne := by omega
            generalize hdd : D j = dd at d1 hl2 HXX
            generalize hxx : xlen D j = xx at *
            clear hrows hbl d0 hdd hxx c0 c1 c2 c3 c4 c5
            go_wp2
            go_roundw
            case rel => exact ⟨j + 1, by omega, by go_num, by rw [HXX.out]; go_num, by first | rfl | trivial⟩
            case measure => simp [intOf]; omega
          · obtain rfl : j = ne := by omega
            obtain ⟨xx, HXX⟩ : ∃ xx, Hid (xlen D j = xx) := ⟨_, rfl⟩
            rw [HXX.out] at hl ⊢
            have hsz := HSZ.out
            rw [HXX.out] at hsz
            have hsz' : (es.size : Int) = 12 + 4 * ns + (4 + ((xx : Int) + 3) / 4 * 4) := by omega
            clear hsz hlt
            go_wp2_with fail
            refine (GB.out).mono ?_
            rintro e w4 ⟨rfl, p4⟩
            have K4 := mkHid (K3.out.next p4)
            clear p4 K3 c0 c1 c2 c3 c4 c5 c6
            go_wp2_with fail
            refine (wakes_any _).mono ?_
            rintro e w5 ⟨rfl, p5⟩
            have K5 := mkHid (K4.out.next p5)
            clear p5
            go_wp2
            go_ret
            exact ⟨rfl, K5.out.a.belowZ⟩

set_option maxRecDepth 100000 in
theorem lifted (os : Os) (started : os.Started) (H : Type) (enc : TypeId × Value → H) :
    ReturnsInHanded {} Try.checked os 7 .any (Rows.rtpSizesSpec.pre6 enc Try.prog Try.f7 Rows.rtpSizesRow.domain false) (Rows.rtpSizesSpec.post enc Try.prog Try.f7 false true false false) := by
  refine returnsInHanded_of_change (C := Try.checked) own started (by kernel_rfl) Try.func7
    (ChangeSpec.witness6 (enc := enc) (C := Try.checked) false ⟨#[], #[.agg #[.bool false, .int .i64 0, .int .i64 0, .int .u32 0, .int .u32 0, .slice none 0 0, .slice none 0 0]], []⟩ 8 (by kernel_rfl) (by kernel_rfl) (by kernel_rfl) (by kernel_rfl)) ?_
  intro W base args ds gs before hval0 hW hcnd _
  have hval : ∀ (j : Nat) t v, Try.f7.params[j]? = some t → args[j]? = some v → Value.okWide Try.prog W .any base t v := hval0
  have hW' := hW
  obtain ⟨p, q, hA0, hV, rfl, hfz, hnd⟩ := hW
  have hA : DataW.TrodAll enc Try.prog W 0 (fun _ => true) true Try.f7.params.toList args.toList ds p := hA0
  rw [Try.params7] at hA hval
  obtain ⟨v0, vs0, d0, ds0, p0, q0, hargs, rfl, rfl, h0, r0⟩ := trodAll_cons hA
  obtain ⟨rfl, rfl, rfl⟩ := trodAll_nil r0
  obtain rfl : args = #[v0] := by cases args; simp_all
  obtain ⟨rfl, rfl⟩ := trodVars_none hV
  have k0 := h0
  have lt0 : ∀ x ∈ p0, x.block < W.heap.size := by obtain ⟨m, hm⟩ := k0; exact DataW.trod_lt m _ _ _ hm
  obtain ⟨mk, ty, sq, tm, ss, sa, ns, sc, ea, ne, ec, S, I, D, rfl, w0⟩ := open0 (hval 0 26 v0 rfl rfl) h0
  clear hA0 hval0
  refine (walk mk ty sq tm ss sa ns sc ea ne ec S I D W w0).mono fun e W' ⟨he, bel⟩ => ?_
  subst he
  exact ⟨_, rfl, _, _, _, [], _, [], hW', trodAll_mk1 (shut_bool Try.underlying4 _), (trodAll_cons_mk (Below.trod laidOut (by kernel_rfl) (of_decide_eq_true (by kernel_rfl)) k0 bel lt0) trodAll_mk0), rfl, bel.frame _, fun h => by cases h⟩

theorem over : Rows.rtpSizesRow.holds Try.pinned (OpenSpec.ofChange Rows.rtpSizesSpec) :=
  OpenClaim.holds_of_wide 7 Try.f7 rfl rfl rfl rfl rfl rfl rfl ⟨rfl, rfl, rfl, rfl, rfl⟩ rfl rfl rfl rfl rfl (by kernel_rfl) Try.func7 (by kernel_rfl)
    (of_decide_eq_true (by kernel_rfl)) (by unfold Func.isWrapper; first | (rw [if_pos (by decide +kernel)]; kernel_rfl) | (rw [if_neg (by decide +kernel)]; exact ⟨rfl, rfl⟩))
    (fun os started H enc _ => lifted os started H enc)
end Go.Proofs.Ytdajcgicpfpeoaa.rtpSizes
namespace Go.Proofs.Ytdajcgicpfpeoaa
/-- The statement. -/
theorem rtpSizes_holds : Rows.RtpSizesSaid := rtpSizes.over
#print axioms rtpSizes_holds
end Go.Proofs.Ytdajcgicpfpeoaa
