/-
  NackMasks: an entry tells of its number and of just those whose bit is set, wherever its number stands.
-/
import Derived.Test.YtmnpghelglohlaaRows
import Derived.WalkKit
import Derived.ProofKit
import Derived.OpenShut
import Derived.ShutString
import Derived.ChangeOld
import Derived.Below
import Derived.Deep.Slices
import Derived.Test.YtmnpghelglohlaaNkV
import Derived.Test.YtmnpghelglohlaaNkX
import Derived.Test.YtmnpghelglohlaaNkA
namespace Go.Proofs.Ytmnpghelglohlaa.nackMasks
open Go.ChangeShapes Go.WideShapes Go.ChangeAt Go.RowKit
open Go.ChangeMaps (open_string shut_string)
set_option linter.unusedVariables false

theorem own : ownKnob Try.prog.godebug = none := by kernel_rfl
theorem laidOut : laidOutB Try.prog = true := by kernel_rfl

theorem mk_cells (a0 a1 : Int) (b0 : 0 ≤ a0 ∧ a0 ≤ 65535) (b1 : 0 ≤ a1 ∧ a1 ≤ 65535) : [Value.int .u8 0, .int .u8 0, .int .u8 0, .int .u8 1, .int .u8 0, .int .u8 0, .int .u8 0, .int .u8 2, .int .u8 (a0 / 256), .int .u8 (a0 % 256), .int .u8 (a1 / 256), .int .u8 (a1 % 256)] = (mkL a0.toNat a1.toNat).map (fun x => Value.int .u8 (x.toNat : Int)) := by
  have e1 : a0 / 256 = ((a0.toNat / 256 % 256 : Nat) : Int) := by omega
  have e2 : a0 % 256 = ((a0.toNat % 256 % 256 : Nat) : Int) := by omega
  have e3 : a1 / 256 = ((a1.toNat / 256 % 256 : Nat) : Int) := by omega
  have e4 : a1 % 256 = ((a1.toNat % 256 % 256 : Nat) : Int) := by omega
  rw [e1, e2, e3, e4]
  simp only [mkL, List.map_cons, List.map_nil, UInt8.toNat_ofNat']
  rfl
theorem own_one (w : World) (e : TypeId) (v : Value) : (w.alloc (.cells #[v] e)).ownsRow w.heap.size e 1 (.slice (some ⟨w.heap.size, 0, none⟩) 1 1) 1 [v] :=
  ⟨by simp, .inr ⟨w.heap.size, 1, #[v], rfl, Nat.le_refl _, heap_alloc_new _ _, Nat.le_refl _, by unfold maxLen; omega, by simp, by simp⟩⟩
theorem and_bit16 (a1 : Int) (y0 : 0 ≤ a1) (y1 : a1 ≤ 65535) (i : Nat) : bits .and .u16 (a1 / 2 ^ i) 1 = ((a1.toNat / 2 ^ i % 2 : Nat) : Int) := by
  obtain ⟨M, rfl⟩ : ∃ M : Nat, a1 = M := ⟨a1.toNat, by omega⟩
  have e1 : ((M : Int) / 2 ^ i) = ((M / 2 ^ i : Nat) : Int) := by simp
  have l1 : M / 2 ^ i < 65536 := Nat.lt_of_le_of_lt (Nat.div_le_self _ _) (by omega)
  have e2 := u16_and_nat (M / 2 ^ i) 1 l1 (by decide)
  rw [Nat.and_one_is_mod] at e2
  rw [e1, Int.toNat_natCast]; exact e2
/-- What is known while the list that is wanted is made. -/
structure Mw (w wr : World) (B bx : Nat) (a : Option Addr) (c : Nat) (R : List Int) (v : Value) (acc : List Int) : Prop where
  t : Td wr bx (.int .u32 1) (.int .u32 2) (.slice a R.length c)
  i : IA B wr a c R
  o : OI B wr v acc
  k : Apart (fun _ => False) w wr
  z : w.heap.size ≤ B ∧ bx < B ∧ B ≤ wr.heap.size
theorem Mw.next {w wr w2 : World} {B bx : Nat} {a : Option Addr} {c : Nat} {R : List Int} {v v2 : Value} {acc acc2 : List Int} (h : Mw w wr B bx a c R v acc) (hb : Below B wr w2) (ho : OI B w2 v2 acc2) : Mw w w2 B bx a c R v2 acc2 := by
  have ha : Apart (B ≤ ·) wr w2 := ⟨hb.os, hb.tape, hb.output, hb.size, fun k _ hx => hb.block k (by omega)⟩
  have hz := h.z
  exact ⟨h.t.kept ha (by omega), h.i.kept hb, ho, h.k.trans ha (fun i hi e => by omega), hz.1, hz.2.1, Nat.le_trans hz.2.2 hb.size⟩
set_option maxRecDepth 100000 in
set_option maxHeartbeats 2000000 in
theorem walk (a0 : Int) (a1 : Int) (w : World) (w0 : (Lit.int .u16 a0).wf = true) (w1 : (Lit.int .u16 a1).wf = true) : Calls Try.prog 6 #[.int .u16 a0, .int .u16 a1] w fun e w' => e = .returned (.bool true) ∧ Below w.heap.size w w' := by
  have b0 := bounds_u16 w0
  have b1 := bounds_u16 w1
  clear w0 w1
  obtain ⟨x0, x1⟩ := b0
  obtain ⟨y0, y1⟩ := b1
  obtain ⟨W, HW⟩ : ∃ W, Hid (w.alloc (.cells #[.int .u8 0, .int .u8 0, .int .u8 0, .int .u8 1, .int .u8 0, .int .u8 0, .int .u8 0, .int .u8 2, .int .u8 (a0 / 256), .int .u8 (a0 % 256), .int .u8 (a1 / 256), .int .u8 (a1 % 256)] 5) = W) := ⟨_, rfl⟩
  have A0 := mkHid (show Apart (fun _ => False) w W by rw [← HW.out]; exact (Apart.refl _ _).alloc _)
  obtain ⟨M, HM⟩ : ∃ M, Hid (a1.toNat = M) := ⟨_, rfl⟩
  have HML := mkHid (show M < 65536 by rw [← HM.out]; omega)
  obtain ⟨S, HS⟩ : ∃ S, Hid (mkS a0.toNat M = S) := ⟨_, rfl⟩
  have HPS := mkHid (show packS (nkB ⟨1, 2, a0 :: tl a0 M 0 16⟩) = S by
    have := mkS_is a0.toNat M HML.out
    rw [Int.toNat_of_nonneg x0] at this
    rw [this, HS.out])
  have HSZ := mkHid (show S.size = 12 by rw [← HS.out]; rfl)
  have hcv : (convert 43 9 (.slice (some ⟨w.heap.size, 0, none⟩) 12 12)).run Try.prog (w.alloc (.cells #[.int .u8 0, .int .u8 0, .int .u8 0, .int .u8 1, .int .u8 0, .int .u8 0, .int .u8 0, .int .u8 2, .int .u8 (a0 / 256), .int .u8 (a0 % 256), .int .u8 (a1 / 256), .int .u8 (a1 % 256)] 5)) = .ok (.string S) (w.alloc (.cells #[.int .u8 0, .int .u8 0, .int .u8 0, .int .u8 1, .int .u8 0, .int .u8 0, .int .u8 0, .int .u8 2, .int .u8 (a0 / 256), .int .u8 (a0 % 256), .int .u8 (a1 / 256), .int .u8 (a1 % 256)] 5)) := by
    have := run_convert_bytes_back (P := Try.prog) (w.alloc (.cells #[.int .u8 0, .int .u8 0, .int .u8 0, .int .u8 1, .int .u8 0, .int .u8 0, .int .u8 0, .int .u8 2, .int .u8 (a0 / 256), .int .u8 (a0 % 256), .int .u8 (a1 / 256), .int .u8 (a1 % 256)] 5)) 43 9 5 ⟨w.heap.size, 0, none⟩ 12 (mkL a0.toNat a1.toNat) Try.underlying43 Try.underlying5 Try.underlying9 (fun j hj => by
      rw [Addr.add_lit, Nat.zero_add, cell_of_row _ w.heap.size j _ 5 _ (heap_alloc_new w _)]
      have h := congrArg (fun l => l[j]?) (mk_cells a0 a1 ⟨x0, x1⟩ ⟨y0, y1⟩)
      simp only [List.getElem?_map, List.getElem?_eq_getElem hj, Option.map_some] at h
      rw [← h]
      simp)
    rw [← HS.out, ← HM.out]
    exact this
  obtain ⟨R, HR⟩ : ∃ R, Hid (a0 :: tl a0 M 0 16 = R) := ⟨_, rfl⟩
  rw [HR.out] at HPS
  have HG := mkHid (show isL R = true by rw [← HR.out]; exact tl_isL a0 x0 (by omega) M)
  have HDE := mkHid (show decE S = 0 ∧ decR S = ⟨1, 2, R⟩ by
    rw [← HPS.out]
    exact dec_enc (r := ⟨1, 2, R⟩) HG.out (show (0 : Int) ≤ 1 by decide) (show (1 : Int) < 4294967296 by decide) (show (0 : Int) ≤ 2 by decide) (show (2 : Int) < 4294967296 by decide))
  have HEN := mkHid (show encS ⟨1, 2, R⟩ = S ∧ encE ⟨1, 2, R⟩ = 0 by
    obtain ⟨q1, q2⟩ := encE_yes (r := ⟨1, 2, R⟩) HG.out
    exact ⟨q2.trans HPS.out, q1⟩)
  have DA := mkHid (dec_at S (by rw [HSZ.out]; decide) HDE.out.2 HDE.out.1)
  obtain ⟨n, HN⟩ : ∃ n, Hid (R.length = n) := ⟨_, rfl⟩
  have HN17 := mkHid (show n ≤ 17 by rw [← HN.out, ← HR.out]; have := tl_len a0 M 16 0; simp; omega)
  unfold nv at DA
  simp only [HN.out] at DA
  go_enter Try.func6, Try.ntmps6
  go_wp2_with fail
  rw [HW.out]
  refine (DA.out _).mono ?_
  rintro e w1 ⟨⟨a, c, rfl, hi⟩, b1⟩
  have K1 := mkHid (ck_new (r := ⟨1, 2, R⟩) hi (A0.out.zz (below_apart b1)))
  obtain ⟨bx, W1, HBX, HW1⟩ := boxed w1 (bxO ⟨1, 2, R⟩ a R.length c)
  rw [HW1.out, HBX.out] at K1
  simp only [HN.out] at HW1
  clear hi b1 DA hcv A0
  go_upto_region 3 with fail
  rw [HW1.out, HBX.out]
  obtain ⟨i0, hi, hz0, hz1, hz2⟩ := info3'
  obtain ⟨B, HB⟩ : ∃ B, Hid (W1.heap.size = B) := ⟨_, rfl⟩
  have M0 := mkHid (show Mw w (W1.alloc (.cells #[.int .i64 a0] 3)) B bx a c R (.slice (some ⟨B, 0, none⟩) 1 1) [a0] by
    have hal := (Apart.refl (fun _ => False) W1).alloc (.cells #[.int .i64 a0] 3)
    rw [← HB.out]
    exact ⟨K1.out.d.kept hal (fun h => h), K1.out.i.kept hal.belowZ, own_one W1 3 (.int .i64 a0), K1.out.k.zz hal, K1.out.k.size, lt_of_heap K1.out.d, by simp⟩)
  obtain ⟨W2, HW2⟩ : ∃ W2, Hid (W1.alloc (.cells #[.int .i64 a0] 3) = W2) := ⟨_, rfl⟩
  rw [HW2.out] at M0
  have HR0 := mkHid (show [a0] ++ tl a0 M 0 (16 - 0) = R from HR.out)
  clear K1
  go_wp2
  rw [HW2.out, HB.out]
  go_loopw [8, 9] (fun v i wr => ∃ (k : Nat) (acc : List Int), k ≤ 16 ∧ i = .int .i64 (k : Int) ∧ acc ++ tl a0 M k (16 - k) = R ∧ Mw w wr B bx a c R v acc ∧ acc.length ≤ 1 + k) (fun _ i _ => 16 - (intOf i).toNat)
  case atStart => exact ⟨0, [a0], Nat.zero_le _, rfl, HR0.out, M0.out, by simp⟩
  case round =>
    obtain ⟨k, acc, hk, rfl, hr, hm, hl⟩ := hrel
    have HKR := mkHid hr
    have M1 := mkHid hm
    have HAL := mkHid hl
    obtain ⟨ad, cp, hv⟩ := ownsRow_slice hm.o
    subst hv
    obtain ⟨m, HMM⟩ : ∃ m, Hid (acc.length = m) := ⟨_, rfl⟩
    rw [HMM.out] at M1 ⊢
    clear hr hm hl M0 HR0
    by_cases hlt : k < 16
    · have k0 : (0 : Int) ≤ k := by omega
      have k1 : (k : Int) < 16 := by omega
      have hu : IntKind.u64.wrap (k : Int) = k := by rw [IntKind.wrap_u64]; omega
      have ib := mkHid (and_bit16 a1 y0 y1 k)
      rw [HM.out] at ib
      obtain ⟨bt, HBT⟩ : ∃ bt, Hid (M / 2 ^ k % 2 = bt) := ⟨_, rfl⟩
      rw [HBT.out] at ib
      have hbt : bt < 2 := by rw [← HBT.out]; exact Nat.mod_lt _ (by decide)
      have HTL := mkHid (show tl a0 M k (16 - k) = (if bt = 1 then [(a0 + k + 1) % 65536] else []) ++ tl a0 M (k + 1) (16 - (k + 1)) by
        rw [show 16 - k = (16 - (k + 1)) + 1 by omega, tl, HBT.out])
      rcases (by omega : bt = 0 ∨ bt = 1) with rfl | rfl
      · have ib' : bits .and .u16 (a1 / 2 ^ k) 1 = 0 := ib.out
        go_wp2
        go_roundw
        case rel =>
          refine ⟨k + 1, acc, by omega, by go_num, ?_, M1.out, by have := HAL.out; omega⟩
          have := HKR.out
          rw [HTL.out, if_neg (by decide), List.nil_append] at this
          exact this
        case measure => simp [intOf]; omega
      · have ib' : bits .and .u16 (a1 / 2 ^ k) 1 = 1 := ib.out
        obtain ⟨y, HY⟩ : ∃ y, Hid ((a0 + k + 1) % 65536 = y) := ⟨_, rfl⟩
        have hy : wrap64 (IntKind.u16.wrap (IntKind.u16.wrap (a0 + k) + 1)) = y := by
          have := HY.out
          rw [IntKind.wrap_u16, IntKind.wrap_u16]; unfold wrap64; omega
        have HOW := mkHid (show wr.ownsRow B 3 1 (.slice ad m cp) m (IC acc) by have := M1.out.o; unfold OI at this; rw [HMM.out] at this; exact this)
        have HM17 := mkHid (show m ≤ 17 by have := HAL.out; have := HMM.out; omega)
        go_upto_region 6 with (at_builtin; refine wpList_append_own2 _ rfl (.tmp 42) (.tmp 49) 23 rfl B 3 i0 (.int .i64 0) 1 8 Try.underlying23 hi hz0 hz1 hz2 rfl (by decide) (.slice ad m cp) m (IC acc) rfl (HOW.out.alloc _) ⟨wr.heap.size, 0, none⟩ 1 1 [.int .i64 y] rfl rfl (cell_one_new _ _ _) (by intro u hu; simp at hu; subst hu; rfl) (by unfold maxLen; have := HM17.out; omega) (by have := HM17.out; omega) (by have := M1.out.z; simp; omega) ?_; intro v5 w9 hown4 hgrow4 _; have M2 := mkHid (M1.out.next (own_below M1.out.o M1.out.z.2.2 hgrow4) (OI.grown hown4 HMM.out.symm)); clear hown4 hgrow4 HOW)
        go_wp2
        go_roundw
        case rel =>
          refine ⟨k + 1, acc ++ [y], by omega, by go_num, ?_, M2.out, by rw [List.length_append]; have := HAL.out; simp; omega⟩
          have := HKR.out
          rw [HTL.out, if_pos rfl, HY.out] at this
          simpa [List.append_assoc] using this
        case measure => simp [intOf]; omega
    · obtain rfl : k = 16 := by omega
      have HAR := mkHid (show acc = R by
        have := HKR.out
        rw [Nat.sub_self, tl, List.append_nil] at this
        exact this)
      have hmn : m = n := by rw [← HMM.out, ← HN.out, HAR.out]
      obtain ⟨_, _, hv, ia⟩ := own_ia M1.out.o
      simp only [Value.slice.injEq] at hv
      obtain ⟨rfl, -, rfl⟩ := hv
      rw [HAR.out] at ia
      have I1 := mkHid ia
      have K1 := mkHid (show Ck w wr bx ⟨1, 2, R⟩ a c from ⟨M1.out.k, M1.out.t, M1.out.i.up M1.out.z.2.2⟩)
      have FA := mkHid (few_any ⟨1, 2, R⟩ a c wr K1.out.i (by have := HN17.out; have := HN.out; simp only; omega))
      subst hmn
      clear M1 ia
      unfold nv at FA
      simp only [HN.out] at FA
      obtain ⟨c0, c1, c2⟩ := K1.out.d.c
      simp only [HN.out] at c2
      go_wp2_with fail
      refine (FA.out).mono ?_
      rintro e w2 ⟨⟨b, d, rfl, hj⟩, a2⟩
      have K2 := mkHid (K1.out.ap a2)
      have I2 := mkHid (I1.out.on a2.belowZ)
      have EA := mkHid (enc_at (r := ⟨1, 2, R⟩) (c := d) hj (show (0 : Int) ≤ 1 by decide) (show (1 : Int) < 4294967296 by decide) (show (0 : Int) ≤ 2 by decide) (show (2 : Int) < 4294967296 by decide) HEN.out.1 HEN.out.2)
      unfold nv at EA
      simp only [HN.out] at EA
      clear hj a2 FA K1 I1 c0 c1 c2
      go_wp2_with fail
      refine (EA.out).mono ?_
      rintro e w3 ⟨rfl, b3⟩
      have K3 := mkHid (K2.out.next b3)
      have I3 := mkHid (I2.out.on b3)
      have IS := mkHid (ints_self w3.heap.size a c ad cp R w3 (Nat.le_refl _) K3.out.i I3.out)
      rw [HN.out] at IS
      clear b3 EA K2 I2
      obtain ⟨c0, c1, c2⟩ := K3.out.d.c
      simp only [HN.out] at c2
      go_wp2_with fail
      refine (IS.out).mono ?_
      rintro e w4 ⟨rfl, a4⟩
      have K4 := mkHid (K3.out.ap a4)
      clear a4 IS K3 I3 c0 c1 c2
      go_wp2_with fail
      refine (wakes_any _).mono ?_
      rintro e w9 ⟨rfl, p9⟩
      have K9 := mkHid (K4.out.next p9)
      clear p9
      go_wp2
      go_ret
      exact ⟨rfl, K9.out.k.belowZ⟩

set_option maxRecDepth 100000 in
theorem lifted (os : Os) (started : os.Started) (H : Type) (enc : TypeId × Value → H) :
    ReturnsInHanded {} Try.checked os 6 .any (Rows.nackMasksSpec.pre6 enc Try.prog Try.f6 Rows.nackMasksRow.domain false) (Rows.nackMasksSpec.post enc Try.prog Try.f6 false true false false) := by
  refine returnsInHanded_of_change (C := Try.checked) own started (by kernel_rfl) Try.func6
    (ChangeSpec.witness6 (enc := enc) (C := Try.checked) false ⟨#[], #[.int .u16 0, .int .u16 0], []⟩ 8 (by kernel_rfl) (by kernel_rfl) (by kernel_rfl) (by kernel_rfl)) ?_
  intro W base args ds gs before hval0 hW hcnd _
  have hval : ∀ (j : Nat) t v, Try.f6.params[j]? = some t → args[j]? = some v → Value.okWide Try.prog W .any base t v := hval0
  have hW' := hW
  obtain ⟨p, q, hA0, hV, rfl, hfz, hnd⟩ := hW
  have hA : DataW.TrodAll enc Try.prog W 0 (fun _ => true) true Try.f6.params.toList args.toList ds p := hA0
  rw [Try.params6] at hA hval
  obtain ⟨v0, vs0, d0, ds0, p0, q0, hargs, rfl, rfl, h0, r0⟩ := trodAll_cons hA
  obtain ⟨v1, vs1, d1, ds1, p1, q1, rfl, rfl, rfl, h1, r1⟩ := trodAll_cons r0
  obtain ⟨rfl, rfl, rfl⟩ := trodAll_nil r1
  obtain rfl : args = #[v0, v1] := by cases args; simp_all
  obtain ⟨rfl, rfl⟩ := trodVars_none hV
  obtain ⟨a0, rfl, rfl, rfl, w0⟩ := open_int Try.underlying41 (hval 0 41 v0 rfl rfl) h0
  obtain ⟨a1, rfl, rfl, rfl, w1⟩ := open_int Try.underlying41 (hval 1 41 v1 rfl rfl) h1
  clear hA0 hval0
  refine (walk a0 a1 W w0 w1).mono fun e W' ⟨he, bel⟩ => ?_
  subst he
  exact ⟨_, rfl, _, _, _, [], _, [], hW', trodAll_mk1 (shut_bool Try.underlying4 _), (trodAll_cons_mk (shut_int Try.underlying41 w0) (trodAll_cons_mk (shut_int Try.underlying41 w1) trodAll_mk0)), rfl, bel.frame _, fun h => by cases h⟩

theorem over : Rows.nackMasksRow.holds Try.pinned (OpenSpec.ofChange Rows.nackMasksSpec) :=
  OpenClaim.holds_of_wide 6 Try.f6 rfl rfl rfl rfl rfl rfl rfl ⟨rfl, rfl, rfl, rfl, rfl⟩ rfl rfl rfl rfl rfl (by kernel_rfl) Try.func6 (by kernel_rfl)
    (of_decide_eq_true (by kernel_rfl)) (by unfold Func.isWrapper; first | (rw [if_pos (by decide +kernel)]; kernel_rfl) | (rw [if_neg (by decide +kernel)]; exact ⟨rfl, rfl⟩))
    (fun os started H enc _ => lifted os started H enc)
end Go.Proofs.Ytmnpghelglohlaa.nackMasks
namespace Go.Proofs.Ytmnpghelglohlaa
/-- The statement. -/
theorem nackMasks_holds : Rows.NackMasksSaid := nackMasks.over
#print axioms nackMasks_holds
end Go.Proofs.Ytmnpghelglohlaa
