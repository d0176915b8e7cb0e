/-
  RtpBack: what was encoded is decoded, whatever follows; what was decoded is encoded to what decodes alike.
-/
import Derived.Test.YtdajcgicpfpeoaaRows
import Derived.WalkKit
import Derived.ProofKit
import Derived.OpenShut
import Derived.ShutString
import Derived.ChangeOld
import Derived.Below
import Derived.Deep.Slices
import Derived.Test.YtdajcgicpfpeoaaRtAa
namespace Go.Proofs.Ytdajcgicpfpeoaa.rtpBack
open Go.ChangeShapes Go.WideShapes Go.ChangeAt Go.RowKit
open Go.ChangeMaps (open_string shut_string)
set_option linter.unusedVariables false

theorem own : ownKnob Try.prog.godebug = none := by kernel_rfl
theorem laidOut : laidOutB Try.prog = true := by kernel_rfl

theorem open0 {H : Type} {enc : TypeId × Value → H} {W : World} {r : Reach} {b0 : Nat} {v : Value} {d : DataW H} {p : List MemPlace} (hv : Value.okWide Try.prog W r b0 26 v)
    (h : DataW.Trod enc Try.prog W 0 (fun _ => true) true 26 v d p) :
    ∃ mk ty sq tm ss sa ns sc ea ne ec S I D, v = hdr mk ty sq tm ss (.slice sa ns sc) (.slice ea ne ec) ∧ HIn W tm ss sa ns S ea ne I D := open_hdr hv h
set_option maxRecDepth 100000 in
set_option maxHeartbeats 400000 in
theorem walk (mk : Bool) (ty sq tm ss : Int) (sa : Option Addr) (ns sc : Nat) (ea : Option Addr) (ne ec : Nat) (S I : Nat → Int) (D : Nat → ByteArray) (a1 a2 : ByteArray) (w : World) (w0 : HIn w tm ss sa ns S ea ne I D) (w1' : a1.size ≤ maxLen) (w2' : a2.size ≤ maxLen) : Calls Try.prog 5 #[hdr mk ty sq tm ss (.slice sa ns sc) (.slice ea ne ec), .string a1, .string a2] w fun e w' => e = .returned (.bool true) ∧ Below w.heap.size w w' := by
  have t0 := w0.t0
  have t1 := w0.t1
  have s0 := w0.s0
  have s1 := w0.s1
  have HSB := mkHid (sa_bd w0.s)
  have K0 := mkHid (hk_box (mk := mk) (ty := ty) (sq := sq) (sc := sc) (ec := ec) w0)
  obtain ⟨bx, W, HBX, HW, _, _⟩ := boxed w mk ty sq tm ss (.slice sa ns sc) (.slice ea ne ec)
  rw [HW.out, HBX.out] at K0
  clear w0
  unfold maxLen at w1' w2'
  have m1 : (a1.size : Int) ≤ 9223372036854775807 := by omega
  have m2 : (a2.size : Int) ≤ 9223372036854775807 := by omega
  go_enter Try.func5, Try.ntmps5
  go_wp2_with fail
  rw [HW.out, HBX.out]
  refine (large_any mk ty sq tm ss sa ea ns sc ne ec S I D W K0.out.s K0.out.x).mono ?_
  rintro e w1 ⟨rfl, p1⟩
  have K1 := mkHid (K0.out.next p1)
  clear p1 K0
  obtain ⟨⟨c0, c1, c2, c3, c4, c5, c6⟩, _⟩ := K1.out.d.cells
  by_cases b1 : 1000 < a1.size
  · have b1' : (1000 : Int) < a1.size := by omega
    generalize lgB ns ne D = lg
    cases lg <;>
    · clear b1
      go_wp2_with fail
      refine (wakes_any _).mono ?_
      rintro e w2 ⟨rfl, p2⟩
      have K2 := mkHid (K1.out.next p2)
      clear p2
      go_wp2
      go_ret
      exact ⟨rfl, K2.out.a.belowZ⟩
  have b1' : ¬ (1000 : Int) < a1.size := by omega
  by_cases b2 : 300000 < a2.size
  · have b2' : (300000 : Int) < a2.size := by omega
    have B2 := mkHid b2
    clear b2
    generalize lgB ns ne D = lg
    cases lg <;>
    · clear b1
      go_wp2_with fail
      refine (wakes_any _).mono ?_
      rintro e w2 ⟨rfl, p2⟩
      have K2 := mkHid (K1.out.next p2)
      clear p2
      go_wp2
      go_ret
      exact ⟨rfl, K2.out.a.belowZ⟩
  have b2' : ¬ (300000 : Int) < a2.size := by omega
  have BA2 := mkHid (show a2.size ≤ 300000 by omega)
  clear b2
  cases hl : lgB ns ne D with
  | true =>
    clear hl
    go_wp2_with fail
    refine (wakes_any _).mono ?_
    rintro e w2 ⟨rfl, p2⟩
    have K2 := mkHid (K1.out.next p2)
    clear p2
    go_wp2
    go_ret
    exact ⟨rfl, K2.out.a.belowZ⟩
  | false =>
    obtain ⟨l1, l2⟩ := small_of hl
    clear hl
    go_wp2_with fail
    refine (copy_any mk ty sq tm ss sa ea ns sc ne ec S I D _ K1.out.s K1.out.x l1 l2).mono ?_
    rintro e w2 ⟨sa', sc', ea', ec', rfl, cs, cx, p2⟩
    have K2 := mkHid (K1.out.next p2)
    have CS := mkHid cs
    have CX := mkHid cx
    clear p2 K1 cs cx c0 c1 c2 c3 c4 c5 c6
    go_wp2_with fail
    refine (enc_any mk ty sq tm ss sa' ea' ns sc' ne ec' S I D w2 CS.out CX.out t0 t1 s0 s1).mono ?_
    rintro e w3 ⟨rfl, p3⟩
    have K3 := mkHid (K2.out.next p3)
    clear p3 K2 CS CX
    obtain ⟨⟨c0, c1, c2, c3, c4, c5, c6⟩, _⟩ := K3.out.d.cells
    have HES : Hid (encS mk ty sq tm ss ns S ne I D = if goodB ty sq ns ne I D = true then packS (encL mk ty sq tm ss ns S ne I D) else ⟨#[]⟩) := rfl
    have HEE : Hid (encE ty sq ns ne I D = if goodB ty sq ns ne I D = true then 0 else 1) := rfl
    cases hg : goodB ty sq ns ne I D with
    | false =>
      rw [hg] at HES HEE
      rw [HES.out, HEE.out, if_neg (by simp), if_neg (by simp)]
      have KK := mkHid K3.out
      clear K3 c0 c1 c2 c3 c4 c5 c6 hg
      -- the text that came in
      cases hz : decide (decE a2 = 0) with
      | false =>
        have hz' : decE a2 ≠ 0 := of_decide_eq_false hz
        clear hz
        go_wp2_with fail
        refine (dec_any a2 (by have := BA2.out; omega) _).mono ?_
        rintro e wa ⟨pa, ⟨_, rfl⟩ | ⟨hbad, _⟩⟩
        · have KA := mkHid ((KK.out.next pa).alloc (.cells #[.bool false, .int .i64 0, .int .i64 0, .int .u32 0, .int .u32 0, .slice none 0 0, .slice none 0 0] 26))
          obtain ⟨ba, WA, HBA, HWA, DA, _⟩ := boxed wa false 0 0 0 0 (.slice none 0 0) (.slice none 0 0)
          rw [HWA.out] at KA
          clear pa
          generalize decE a2 = E at *
          obtain ⟨⟨g0, g1, g2, g3, g4, g5, g6⟩, _⟩ := DA.out.cells
          clear g0 g1 g2 g3 g4 g5
          go_wp2_with fail
          rw [HWA.out]
          refine (wakes_any _).mono ?_
          rintro e wb ⟨rfl, pb⟩
          have KB := mkHid (KA.out.next pb)
          clear pb
          go_wp2
          go_ret
          exact ⟨rfl, KB.out.a.belowZ⟩
        · exact absurd hbad hz'
      | true =>
        have hz' : decE a2 = 0 := of_decide_eq_true hz
        have G2 := mkHid (dec_good a2)
        have hP := (decP_le hz').1
        have hP2 : ((decP a2 / 8 : Nat) : Int) ≤ a2.size := by omega
        have DS := mkHid (fun w => dec_self a2 (by have := BA2.out; omega) hz' w)
        clear hz hz' hP
        obtain ⟨mk2, HMK⟩ : ∃ x : Bool, Hid (((gw a2 8 1 : Int) == 1) = x) := ⟨_, rfl⟩
        rw [HMK.out] at DS
        generalize (gw a2 9 7 : Int) = ty2 at *
        generalize (gw a2 16 16 : Int) = sq2 at *
        generalize (gw a2 32 32 : Int) = tm2 at *
        generalize (gw a2 64 32 : Int) = ss2 at *
        generalize gv a2 4 4 = ns2 at *
        generalize (fun i => (gw a2 (96 + 32 * i) 32 : Int)) = S2 at *
        generalize eI (decX a2) = I2 at *
        generalize eD (decX a2) = D2 at *
        generalize (decX a2).length = ne2 at *
        generalize decP a2 / 8 = n2 at *
        go_wp2_with fail
        refine (DS.out _).mono ?_
        rintro e wa ⟨pa, sa2, sc2, ea2, ec2, rfl, sk, xk⟩
        have NA := mkHid (hk_new (mk := mk2) (ty := ty2) (sq := sq2) (tm := tm2) (ss := ss2) (sc := sc2) (ec := ec2) (KK.out.next pa).a sk xk)
        obtain ⟨ba, WA, HBA, HWA, _, _⟩ := boxed wa mk2 ty2 sq2 tm2 ss2 (.slice sa2 ns2 sc2) (.slice ea2 ne2 ec2)
        rw [HWA.out, HBA.out] at NA
        clear pa sk xk KK
        obtain ⟨⟨g0, g1, g2, g3, g4, g5, g6⟩, _⟩ := NA.out.d.cells
        go_wp2_with fail
        rw [HWA.out, HBA.out]
        refine (enc_any mk2 ty2 sq2 tm2 ss2 sa2 ea2 ns2 sc2 ne2 ec2 S2 I2 D2 _ NA.out.s NA.out.x G2.out.t0 G2.out.t1 G2.out.s0 G2.out.s1).mono ?_
        rintro e wb ⟨rfl, pb⟩
        have NB := mkHid (NA.out.next pb)
        have HU := mkHid (show encS mk2 ty2 sq2 tm2 ss2 ns2 S2 ne2 I2 D2 = packS (encL mk2 ty2 sq2 tm2 ss2 ns2 S2 ne2 I2 D2) from if_pos G2.out.b)
        have HV := mkHid (show encE ty2 sq2 ns2 ne2 I2 D2 = 0 from if_pos G2.out.b)
        rw [HU.out, HV.out]
        obtain ⟨u8, u1, u9, u2⟩ := enc_len (mk := mk2) G2.out
        have DU := mkHid (fun w => dec_read G2.out (read_self (mk := mk2) G2.out) (by omega) w)
        rw [show (encL mk2 ty2 sq2 tm2 ss2 ns2 S2 ne2 I2 D2).length / 8 = (packS (encL mk2 ty2 sq2 tm2 ss2 ns2 S2 ne2 I2 D2)).size from by omega] at DU
        clear u1 u8 u9
        generalize packS (encL mk2 ty2 sq2 tm2 ss2 ns2 S2 ne2 I2 D2) = us at *
        have u3 : (us.size : Int) ≤ 320 := by omega
        clear pb NA g0 g1 g2 g3 g4 g5 g6
        obtain ⟨⟨g0, g1, g2, g3, g4, g5, g6⟩, _⟩ := NB.out.d.cells
        go_wp2_with fail
        refine (DU.out _).mono ?_
        rintro e wc ⟨pc, sa3, sc3, ea3, ec3, rfl, sk, xk⟩
        have MC := mkHid (hk_new (mk := mk2) (ty := ty2) (sq := sq2) (tm := tm2) (ss := ss2) (sc := sc3) (ec := ec3) (NB.out.next pc).a sk xk)
        have NC := mkHid ((NB.out.next pc).alloc (.cells #[.bool mk2, .int .i64 ty2, .int .i64 sq2, .int .u32 tm2, .int .u32 ss2, .slice sa3 ns2 sc3, .slice ea3 ne2 ec3] 26))
        obtain ⟨bc, WC, HBC, HWC, _, _⟩ := boxed wc mk2 ty2 sq2 tm2 ss2 (.slice sa3 ns2 sc3) (.slice ea3 ne2 ec3)
        obtain ⟨⟨x0, x1, x2, x3, x4, x5, x6⟩, _⟩ := NC.out.d.cells
        rw [HWC.out] at MC NC
        rw [HBC.out] at MC
        clear pc sk xk NB g0 g1 g2 g3 g4 g5 g6
        go_wp2_with fail
        rw [HWC.out, HBC.out]
        refine (same_any mk2 ty2 sq2 tm2 ss2 sa2 ea2 sa3 ea3 ns2 sc2 sc3 ne2 ec2 ec3 S2 I2 D2 _ NC.out.s NC.out.x MC.out.s MC.out.x).mono ?_
        rintro e wd ⟨rfl, pd⟩
        have ND := mkHid (NC.out.next pd)
        clear pd NC MC x0 x1 x2 x3 x4 x5 x6
        go_wp2_with fail
        refine (wakes_any _).mono ?_
        rintro e we ⟨rfl, pe⟩
        have NE := mkHid (ND.out.next pe)
        clear pe
        go_wp2
        go_ret
        exact ⟨rfl, NE.out.a.belowZ⟩
    | true =>
      have G := mkHid (good_of (S := S) hg t0 t1 s0 s1 HSB.out)
      rw [hg] at HES HEE
      rw [HES.out, HEE.out, if_pos rfl, if_pos rfl]
      obtain ⟨u8, u1, u9, u2⟩ := enc_len (mk := mk) G.out
      have DT := mkHid (fun w => dec_read G.out (read_app (mk := mk) G.out a1) (by rw [ByteArray.size_append]; omega) w)
      rw [show (encL mk ty sq tm ss ns S ne I D).length / 8 = (packS (encL mk ty sq tm ss ns S ne I D)).size from by omega] at DT
      clear u1 u8 u9 hg
      generalize packS (encL mk ty sq tm ss ns S ne I D) = es at *
      have u3 : (es.size : Int) ≤ 320 := by omega
      go_wp2_with fail
      refine (DT.out _).mono ?_
      rintro e w4 ⟨p4, sa4, sc4, ea4, ec4, rfl, sk, xk⟩
      have N4 := mkHid (hk_new (mk := mk) (ty := ty) (sq := sq) (tm := tm) (ss := ss) (sc := sc4) (ec := ec4) (K3.out.next p4).a sk xk)
      have K4 := mkHid ((K3.out.next p4).alloc (.cells #[.bool mk, .int .i64 ty, .int .i64 sq, .int .u32 tm, .int .u32 ss, .slice sa4 ns sc4, .slice ea4 ne ec4] 26))
      obtain ⟨b4, W4, HB4, HW4, _, _⟩ := boxed w4 mk ty sq tm ss (.slice sa4 ns sc4) (.slice ea4 ne ec4)
      obtain ⟨⟨x0, x1, x2, x3, x4, x5, x6⟩, _⟩ := K4.out.d.cells
      rw [HW4.out] at N4 K4
      rw [HB4.out] at N4
      clear p4 sk xk K3 c0 c1 c2 c3 c4 c5 c6
      go_wp2_with fail
      rw [HW4.out, HB4.out]
      refine (same_any mk ty sq tm ss sa ea sa4 ea4 ns sc sc4 ne ec ec4 S I D _ K4.out.s K4.out.x N4.out.s N4.out.x).mono ?_
      rintro e w5 ⟨rfl, p5⟩
      have KK := mkHid (K4.out.next p5)
      clear p5 K4 N4 x0 x1 x2 x3 x4 x5 x6 u2 u3
      -- the text that came in
      cases hz : decide (decE a2 = 0) with
      | false =>
        have hz' : decE a2 ≠ 0 := of_decide_eq_false hz
        clear hz
        go_wp2_with fail
        refine (dec_any a2 (by have := BA2.out; omega) _).mono ?_
        rintro e wa ⟨pa, ⟨_, rfl⟩ | ⟨hbad, _⟩⟩
        · have KA := mkHid ((KK.out.next pa).alloc (.cells #[.bool false, .int .i64 0, .int .i64 0, .int .u32 0, .int .u32 0, .slice none 0 0, .slice none 0 0] 26))
          obtain ⟨ba, WA, HBA, HWA, DA, _⟩ := boxed wa false 0 0 0 0 (.slice none 0 0) (.slice none 0 0)
          rw [HWA.out] at KA
          clear pa
          generalize decE a2 = E at *
          obtain ⟨⟨g0, g1, g2, g3, g4, g5, g6⟩, _⟩ := DA.out.cells
          clear g0 g1 g2 g3 g4 g5
          go_wp2_with fail
          rw [HWA.out]
          refine (wakes_any _).mono ?_
          rintro e wb ⟨rfl, pb⟩
          have KB := mkHid (KA.out.next pb)
          clear pb
          go_wp2
          go_ret
          exact ⟨rfl, KB.out.a.belowZ⟩
        · exact absurd hbad hz'
      | true =>
        have hz' : decE a2 = 0 := of_decide_eq_true hz
        have G2 := mkHid (dec_good a2)
        have hP := (decP_le hz').1
        have hP2 : ((decP a2 / 8 : Nat) : Int) ≤ a2.size := by omega
        have DS := mkHid (fun w => dec_self a2 (by have := BA2.out; omega) hz' w)
        clear hz hz' hP
        obtain ⟨mk2, HMK⟩ : ∃ x : Bool, Hid (((gw a2 8 1 : Int) == 1) = x) := ⟨_, rfl⟩
        rw [HMK.out] at DS
        generalize (gw a2 9 7 : Int) = ty2 at *
        generalize (gw a2 16 16 : Int) = sq2 at *
        generalize (gw a2 32 32 : Int) = tm2 at *
        generalize (gw a2 64 32 : Int) = ss2 at *
        generalize gv a2 4 4 = ns2 at *
        generalize (fun i => (gw a2 (96 + 32 * i) 32 : Int)) = S2 at *
        generalize eI (decX a2) = I2 at *
        generalize eD (decX a2) = D2 at *
        generalize (decX a2).length = ne2 at *
        generalize decP a2 / 8 = n2 at *
        go_wp2_with fail
        refine (DS.out _).mono ?_
        rintro e wa ⟨pa, sa2, sc2, ea2, ec2, rfl, sk, xk⟩
        have NA := mkHid (hk_new (mk := mk2) (ty := ty2) (sq := sq2) (tm := tm2) (ss := ss2) (sc := sc2) (ec := ec2) (KK.out.next pa).a sk xk)
        obtain ⟨ba, WA, HBA, HWA, _, _⟩ := boxed wa mk2 ty2 sq2 tm2 ss2 (.slice sa2 ns2 sc2) (.slice ea2 ne2 ec2)
        rw [HWA.out, HBA.out] at NA
        clear pa sk xk KK
        obtain ⟨⟨g0, g1, g2, g3, g4, g5, g6⟩, _⟩ := NA.out.d.cells
        go_wp2_with fail
        rw [HWA.out, HBA.out]
        refine (enc_any mk2 ty2 sq2 tm2 ss2 sa2 ea2 ns2 sc2 ne2 ec2 S2 I2 D2 _ NA.out.s NA.out.x G2.out.t0 G2.out.t1 G2.out.s0 G2.out.s1).mono ?_
        rintro e wb ⟨rfl, pb⟩
        have NB := mkHid (NA.out.next pb)
        have HU := mkHid (show encS mk2 ty2 sq2 tm2 ss2 ns2 S2 ne2 I2 D2 = packS (encL mk2 ty2 sq2 tm2 ss2 ns2 S2 ne2 I2 D2) from if_pos G2.out.b)
        have HV := mkHid (show encE ty2 sq2 ns2 ne2 I2 D2 = 0 from if_pos G2.out.b)
        rw [HU.out, HV.out]
        obtain ⟨u8, u1, u9, u2⟩ := enc_len (mk := mk2) G2.out
        have DU := mkHid (fun w => dec_read G2.out (read_self (mk := mk2) G2.out) (by omega) w)
        rw [show (encL mk2 ty2 sq2 tm2 ss2 ns2 S2 ne2 I2 D2).length / 8 = (packS (encL mk2 ty2 sq2 tm2 ss2 ns2 S2 ne2 I2 D2)).size from by omega] at DU
        clear u1 u8 u9
        generalize packS (encL mk2 ty2 sq2 tm2 ss2 ns2 S2 ne2 I2 D2) = us at *
        have u3 : (us.size : Int) ≤ 320 := by omega
        clear pb NA g0 g1 g2 g3 g4 g5 g6
        obtain ⟨⟨g0, g1, g2, g3, g4, g5, g6⟩, _⟩ := NB.out.d.cells
        go_wp2_with fail
        refine (DU.out _).mono ?_
        rintro e wc ⟨pc, sa3, sc3, ea3, ec3, rfl, sk, xk⟩
        have MC := mkHid (hk_new (mk := mk2) (ty := ty2) (sq := sq2) (tm := tm2) (ss := ss2) (sc := sc3) (ec := ec3) (NB.out.next pc).a sk xk)
        have NC := mkHid ((NB.out.next pc).alloc (.cells #[.bool mk2, .int .i64 ty2, .int .i64 sq2, .int .u32 tm2, .int .u32 ss2, .slice sa3 ns2 sc3, .slice ea3 ne2 ec3] 26))
        obtain ⟨bc, WC, HBC, HWC, _, _⟩ := boxed wc mk2 ty2 sq2 tm2 ss2 (.slice sa3 ns2 sc3) (.slice ea3 ne2 ec3)
        obtain ⟨⟨x0, x1, x2, x3, x4, x5, x6⟩, _⟩ := NC.out.d.cells
        rw [HWC.out] at MC NC
        rw [HBC.out] at MC
        clear pc sk xk NB g0 g1 g2 g3 g4 g5 g6
        go_wp2_with fail
        rw [HWC.out, HBC.out]
        refine (same_any mk2 ty2 sq2 tm2 ss2 sa2 ea2 sa3 ea3 ns2 sc2 sc3 ne2 ec2 ec3 S2 I2 D2 _ NC.out.s NC.out.x MC.out.s MC.out.x).mono ?_
        rintro e wd ⟨rfl, pd⟩
        have ND := mkHid (NC.out.next pd)
        clear pd NC MC x0 x1 x2 x3 x4 x5 x6
        go_wp2_with fail
        refine (wakes_any _).mono ?_
        rintro e we ⟨rfl, pe⟩
        have NE := mkHid (ND.out.next pe)
        clear pe
        go_wp2
        go_ret
        exact ⟨rfl, NE.out.a.belowZ⟩

set_option maxRecDepth 100000 in
theorem lifted (os : Os) (started : os.Started) (H : Type) (enc : TypeId × Value → H) :
    ReturnsInHanded {} Try.checked os 5 .any (Rows.rtpBackSpec.pre6 enc Try.prog Try.f5 Rows.rtpBackRow.domain false) (Rows.rtpBackSpec.post enc Try.prog Try.f5 false true false false) := by
  refine returnsInHanded_of_change (C := Try.checked) own started (by kernel_rfl) Try.func5
    (ChangeSpec.witness6 (enc := enc) (C := Try.checked) false ⟨#[], #[.agg #[.bool false, .int .i64 0, .int .i64 0, .int .u32 0, .int .u32 0, .slice none 0 0, .slice none 0 0], .string ByteArray.empty, .string ByteArray.empty], []⟩ 8 (by kernel_rfl) (by kernel_rfl) (by kernel_rfl) (by kernel_rfl)) ?_
  intro W base args ds gs before hval0 hW hcnd _
  have hval : ∀ (j : Nat) t v, Try.f5.params[j]? = some t → args[j]? = some v → Value.okWide Try.prog W .any base t v := hval0
  have hW' := hW
  obtain ⟨p, q, hA0, hV, rfl, hfz, hnd⟩ := hW
  have hA : DataW.TrodAll enc Try.prog W 0 (fun _ => true) true Try.f5.params.toList args.toList ds p := hA0
  rw [Try.params5] at hA hval
  obtain ⟨v0, vs0, d0, ds0, p0, q0, hargs, rfl, rfl, h0, r0⟩ := trodAll_cons hA
  obtain ⟨v1, vs1, d1, ds1, p1, q1, rfl, rfl, rfl, h1, r1⟩ := trodAll_cons r0
  obtain ⟨v2, vs2, d2, ds2, p2, q2, rfl, rfl, rfl, h2, r2⟩ := trodAll_cons r1
  obtain ⟨rfl, rfl, rfl⟩ := trodAll_nil r2
  obtain rfl : args = #[v0, v1, v2] := by cases args; simp_all
  obtain ⟨rfl, rfl⟩ := trodVars_none hV
  have k0 := h0
  have lt0 : ∀ x ∈ p0, x.block < W.heap.size := by obtain ⟨m, hm⟩ := k0; exact DataW.trod_lt m _ _ _ hm
  obtain ⟨mk, ty, sq, tm, ss, sa, ns, sc, ea, ne, ec, S, I, D, rfl, w0⟩ := open0 (hval 0 26 v0 rfl rfl) h0
  obtain ⟨a1, rfl, rfl, rfl, w1⟩ := open_string Try.underlying9 (hval 1 9 v1 rfl rfl) h1
  obtain ⟨a2, rfl, rfl, rfl, w2⟩ := open_string Try.underlying9 (hval 2 9 v2 rfl rfl) h2
  clear hA0 hval0
  refine (walk mk ty sq tm ss sa ns sc ea ne ec S I D a1 a2 W w0 w1 w2).mono fun e W' ⟨he, bel⟩ => ?_
  subst he
  exact ⟨_, rfl, _, _, _, [], _, [], hW', trodAll_mk1 (shut_bool Try.underlying4 _), (trodAll_cons_mk (Below.trod laidOut (by kernel_rfl) (of_decide_eq_true (by kernel_rfl)) k0 bel lt0) (trodAll_cons_mk (shut_string Try.underlying9 w1) (trodAll_cons_mk (shut_string Try.underlying9 w2) trodAll_mk0))), rfl, bel.frame _, fun h => by cases h⟩

theorem over : Rows.rtpBackRow.holds Try.pinned (OpenSpec.ofChange Rows.rtpBackSpec) :=
  OpenClaim.holds_of_wide 5 Try.f5 rfl rfl rfl rfl rfl rfl rfl ⟨rfl, rfl, rfl, rfl, rfl⟩ rfl rfl rfl rfl rfl (by kernel_rfl) Try.func5 (by kernel_rfl)
    (of_decide_eq_true (by kernel_rfl)) (by unfold Func.isWrapper; first | (rw [if_pos (by decide +kernel)]; kernel_rfl) | (rw [if_neg (by decide +kernel)]; exact ⟨rfl, rfl⟩))
    (fun os started H enc _ => lifted os started H enc)
end Go.Proofs.Ytdajcgicpfpeoaa.rtpBack
namespace Go.Proofs.Ytdajcgicpfpeoaa
/-- The statement. -/
theorem rtpBack_holds : Rows.RtpBackSaid := rtpBack.over
#print axioms rtpBack_holds
end Go.Proofs.Ytdajcgicpfpeoaa
