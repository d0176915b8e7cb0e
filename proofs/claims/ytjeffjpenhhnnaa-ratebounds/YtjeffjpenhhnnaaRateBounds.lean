/-
  RateBounds: the rate and the loss lie within their bounds, and a sample that comes too late changes neither rate nor bytes of a meter that is full.
-/
import Derived.Test.YtjeffjpenhhnnaaRows
import Derived.WalkKit
import Derived.ProofKit
import Derived.OpenShut
import Derived.ShutString
import Derived.ChangeOld
import Derived.Below
import Derived.Deep.Slices
import Derived.Test.YtjeffjpenhhnnaaRaAd
namespace Go.Proofs.Ytjeffjpenhhnnaa.rateBounds
open Go.ChangeShapes Go.WideShapes Go.ChangeAt Go.RowKit
open Go.ChangeMaps (open_string shut_string)
set_option linter.unusedVariables false

theorem own : ownKnob Try.prog.godebug = none := by kernel_rfl
theorem laidOut : laidOutB Try.prog = true := by kernel_rfl

theorem open1 {H : Type} {enc : TypeId × Value → H} {W : World} {a : Option Addr} {len cap : Nat} {d : DataW H} {p : List MemPlace}
    (h : DataW.Trod enc Try.prog W 0 (fun _ => true) true 22 (.slice a len cap) d p) : StepsAt W a len := open_steps h
/-- What stands at the head of the loop. -/
structure Lp (w : World) (b : Nat) (T : Int) (i : Nat) (e : Int) (sm : Bool) (ear en : Int) (L : List Sm) (F : List Bool) (N : Nat → Prop) (wr : World) : Prop where
  mt : Mt N wr b T ear en L F
  len : L.length ≤ i
  bd : Bd T ear en
  all : All T en L
  own : ∀ q, N q → w.heap.size ≤ q
  ap : Apart (fun q => w.heap.size ≤ q) w wr
  some : sm = true → e = en ∧ -1099511627776 < en ∧ en < 1099511627776
  none : sm = false → en = -1125899906842624
theorem Lp.kept {w : World} {b : Nat} {T : Int} {i : Nat} {e : Int} {sm : Bool} {ear en : Int} {L : List Sm} {F : List Bool} {N : Nat → Prop} {wr wr' : World} (h : Lp w b T i e sm ear en L F N wr) (ha : Apart (fun _ => False) wr wr') : Lp w b T i e sm ear en L F N wr' :=
  ⟨h.mt.kept ha (fun _ _ h => h), h.len, h.bd, h.all, h.own, h.ap.trans ha (fun _ _ h => h.elim), h.some, h.none⟩
theorem Lp.lost {w : World} {b : Nat} {T : Int} {i : Nat} {e : Int} {sm : Bool} {ear en : Int} {L : List Sm} {F F' : List Bool} {N : Nat → Prop} {wr wr' : World} (h : Lp w b T i e sm ear en L F N wr) (hm : Mt N wr' b T ear en L F') (ha : Apart (fun k => k = b) wr wr') : Lp w b T (i + 1) e sm ear en L F' N wr' :=
  ⟨hm, Nat.le_succ_of_le h.len, h.bd, h.all, h.own, h.ap.trans ha (fun k _ e => by rw [show k = b from e]; exact h.own b h.mt.own.1), h.some, h.none⟩
theorem Lp.got {w : World} {b : Nat} {T : Int} {i : Nat} {e : Int} {sm : Bool} {ear en : Int} {L L' : List Sm} {F F' : List Bool} {N N' : Nat → Prop} {wr wr' : World} {x z : Int} (h : Lp w b T i e sm ear en L F N wr) (hp : L'.Perm (stF T en L x z)) (hm : Mt N' wr' b T (min ear x) (max en x) L' F')
    (hn : ∀ q, N' q → N q ∨ wr.heap.size ≤ q) (ha : Apart N wr wr') (x1 : -1099511627776 < x) (x2 : x < 1099511627776) : Lp w b T (i + 1) (max en x) true (min ear x) (max en x) L' F' N' wr' := by
  refine ⟨hm, ?_, h.bd.got (by omega) (by omega), all_got hp, ?_, h.ap.trans ha (fun k _ hk => h.own k hk), fun _ => ⟨rfl, ?_⟩, fun h => by cases h⟩
  · have := hp.length_eq
    have := stF_len T en L x z
    have := h.len
    omega
  · intro q hq
    rcases hn q hq with h1 | h1
    · exact h.own q h1
    · have := h.ap.size; omega
  · cases hs : sm with
    | true => have := h.some hs; omega
    | false => have := h.none hs; omega
set_option maxRecDepth 100000 in
set_option maxHeartbeats 4000000 in
theorem walk (a0 : Int) (a1 : Option Addr) (len1 cap1 : Nat) (a2 : Int) (w : World) (w0 : (Lit.int .i64 a0).wf = true) (w1 : StepsAt w a1 len1) (w2 : (Lit.int .i64 a2).wf = true) : Calls Try.prog 4 #[.int .i64 a0, .slice a1 len1 cap1, .int .i64 a2] w fun e w' => e = .returned (.bool true) ∧ Below w.heap.size w w' := by
  obtain ⟨hlen, KK, VV, CC, hrow⟩ := w1
  have hlen' : (len1 : Int) ≤ 9223372036854775807 := by unfold maxLen at hlen; omega
  have ROW := mkHid hrow
  clear hrow hlen w0 w2
  have MD := mkHid (mod64_any a0 1073741824 (by omega) (by omega) w)
  have hm := modH_in a0 1073741824 (by omega)
  obtain ⟨md, HMD⟩ : ∃ md, Hid (modH a0 1073741824 = md) := ⟨_, mkHid rfl⟩
  rw [HMD.out] at MD hm
  obtain ⟨T, HT⟩ : ∃ T, Hid (1000 + md = T) := ⟨_, mkHid rfl⟩
  have hT : 1000 ≤ T ∧ T ≤ 1073742823 := by have := HT.out; omega
  have eT : IntKind.i64.wrap (1000 + md) = T := by rw [HT.out, IntKind.wrap_i64]; omega
  go_enter Try.func4, Try.ntmps4
  go_wp2_with (go_at_call 23; refine MD.out.mono ?_; rintro e w9 ⟨rfl, rfl⟩)
  refine (new_mt T (by omega) (by omega) w9).mono ?_
  rintro e w1 ⟨⟨b, rfl, hm, hb⟩, ha⟩
  have HB := mkHid (show w9.heap.size ≤ b by omega)
  have M0 := mkHid (show Lp w9 b T 0 0 false 1125899906842624 (-1125899906842624) [] [] (fun k => k = b) w1 from ⟨hm, Nat.le_refl _, bd_new (by omega) (by omega), (fun s h => by cases h), (fun q e => by rw [show q = b from e]; exact HB.out), ha.mono (fun _ _ h => h.elim), (fun h => by cases h), fun _ => rfl⟩)
  clear hm hb ha MD HMD HT eT
  go_wp2_with fail
  go_loopg [10, 11, 12, 13, 14, 15] 200 (fun kx s10 s11 s12 _ _ _ wr => ∃ (i : Nat) (e : Int) (sm : Bool) (ear en : Int) (L : List Sm) (F : List Bool) (N : Nat → Prop), s10 = .int .i64 e ∧ s11 = .bool sm ∧ s12 = .int .i64 i ∧ i ≤ 200 ∧ i ≤ len1 ∧ kx = 200 - i ∧ Hid (Lp w9 b T i e sm ear en L F N wr))
  case atStart => exact ⟨0, 0, false, _, _, [], [], _, rfl, rfl, rfl, by omega, Nat.zero_le _, rfl, M0⟩
  case round =>
    obtain ⟨i, e, sm, ear, en, L, F, N, rfl, rfl, rfl, hi, hil, hkx, HL⟩ := hrel
    by_cases hlt : i < len1 ∧ i < 200
    · obtain ⟨hlt1, hlt2⟩ := hlt
      have hi1 : (i : Int) < len1 := by omega
      have hi2 : (i : Int) < 200 := by omega
      obtain ⟨rb, off, rfl, hrb, hc⟩ : ∃ rb off, a1 = some ⟨rb, off, none⟩ ∧ rb < w9.heap.size ∧ (w9.cell? ⟨rb, off + i * 3, none⟩ = some (.int .i64 (KK i)) ∧ w9.cell? ⟨rb, off + i * 3 + 1, none⟩ = some (.int .i64 (VV i)) ∧ w9.cell? ⟨rb, off + i * 3 + 2, none⟩ = some (.int .i64 (CC i)) ∧ In64 (VV i) ∧ In64 (CC i)) := by
        rcases ROW.out with h | ⟨rb, off, h1, h2, h3⟩
        · omega
        · exact ⟨rb, off, h1, h2, h3 i hlt1⟩
      obtain ⟨c0, c1, c2, i1, i2⟩ := hc
      rw [← HL.out.ap.cell (p := ⟨rb, off + i * 3, none⟩) hrb (by simp only; omega)] at c0
      rw [← HL.out.ap.cell (p := ⟨rb, off + i * 3 + 1, none⟩) hrb (by simp only; omega)] at c1
      rw [← HL.out.ap.cell (p := ⟨rb, off + i * 3 + 2, none⟩) hrb (by simp only; omega)] at c2
      obtain ⟨kk, HKK⟩ : ∃ x, Hid (KK i = x) := ⟨_, mkHid rfl⟩
      obtain ⟨vv, HVV⟩ : ∃ x, Hid (VV i = x) := ⟨_, mkHid rfl⟩
      obtain ⟨cc, HCC⟩ : ∃ x, Hid (CC i = x) := ⟨_, mkHid rfl⟩
      rw [HKK.out] at c0
      rw [HVV.out] at c1 i1
      rw [HCC.out] at c2 i2
      unfold In64 at i1 i2
      go_wp2_with fail
      obtain ⟨W1, HW1⟩ : ∃ W1, Hid (wr.alloc (.cells #[.int .i64 kk, .int .i64 vv, .int .i64 cc] 31) = W1) := ⟨_, mkHid rfl⟩
      obtain ⟨xb, HXB⟩ : ∃ xb, Hid (wr.heap.size = xb) := ⟨_, mkHid rfl⟩
      have A1 := mkHid (show Apart (fun _ => False) wr W1 from by rw [← HW1.out]; exact (Apart.refl _ _).alloc _)
      have X1 := mkHid (show W1.heap[xb]? = some (.cells #[.int .i64 kk, .int .i64 vv, .int .i64 cc] 31 (0, 0)) from by rw [← HW1.out, ← HXB.out]; exact heap_alloc_new wr _)
      have L1 := mkHid (HL.out.kept A1.out)
      rw [HW1.out, HXB.out]
      clear c0 c1 c2 HL A1
      have d1 := fun p => (cells3 (wd_heap X1.out p)).2.1
      have d2 := fun p => (cells3 (wd_heap X1.out p)).2.2.1
      have MZ := mkHid (fun W => (mod_any vv 1501 (by omega) (by omega) W).mono (fun e w' ⟨h1, h2⟩ => And.intro h1 (by subst h2; exact Apart.refl (fun _ => False) _)))
      have hz := modH_in vv 1501 (by omega)
      obtain ⟨z, HZ⟩ : ∃ z, Hid (modH vv 1501 = z) := ⟨_, mkHid rfl⟩
      rw [HZ.out] at MZ hz
      have hct := Int.lt_tmod_of_pos cc (show (0 : Int) < 1099511627776 by omega)
      have hct2 := Int.tmod_lt_of_pos cc (show (0 : Int) < 1099511627776 by omega)
      obtain ⟨x, HX⟩ : ∃ x, Hid (cc.tmod 1099511627776 = x) := ⟨_, mkHid rfl⟩
      rw [HX.out] at hct hct2
      have ex : IntKind.i64.wrap (cc.tmod 1099511627776) = x := by rw [HX.out, IntKind.wrap_i64]; omega
      refine wp_region_wd (by kernel_rfl) (by kernel_rfl) ?_
      repeat (go_big_quiet_step ((go_at_call 24; exact wd_call (MZ.out _))))
      refine wpQuiet_nil ?_
      rintro _ ⟨p, rfl⟩
      have A2 := mkHid (wd_apart W1 p)
      have X2 := mkHid (A2.out.heap X1.out (fun h => h))
      have L2 := mkHid (L1.out.kept A2.out)
      obtain ⟨W2, HW2⟩ : ∃ W2, Hid (wd W1 p = W2) := ⟨_, mkHid rfl⟩
      rw [HW2.out] at A2 X2 L2 ⊢
      rw [HX.out]
      clear d1 d2 ex A2 L1 X1
      obtain ⟨g0, g1, g2, gf⟩ := cells3 X2.out
      by_cases hk : kk = 0
      · subst hk
        have G := mkHid (got_mt L2.out.mt L2.out.bd (by have := L2.out.len; omega) (x := x) (z := z) (by omega) (by omega) (by omega) (by omega))
        go_wp2_with fail
        refine G.out.mono ?_
        rintro e9 w3 ⟨rfl, L', N', hp, hm, hn, ha⟩
        have L3 := mkHid (L2.out.got hp hm hn ha hct hct2)
        clear hp hm hn ha G
        obtain ⟨y, HY⟩ : ∃ y, Hid (max en x = y) := ⟨_, mkHid rfl⟩
        obtain ⟨ea, HEA⟩ : ∃ y, Hid (min ear x = y) := ⟨_, mkHid rfl⟩
        obtain ⟨F', HF⟩ : ∃ F', Hid (ftF 1 false F = F') := ⟨_, mkHid rfl⟩
        rw [HY.out, HEA.out, HF.out] at L3
        have hSM := mkHid (And.intro L2.out.some L2.out.none)
        clear L2 X2 g0 g1 g2 gf
        obtain ⟨W4, p0, L4, hw4⟩ : ∃ (W4 : World) (p0 : Wn), Hid (Lp w9 b T (i + 1) y true ea y L' F' N' W4) ∧ w3 = wd W4 p0 := ⟨w3, _, L3, wd_self w3⟩
        clear L3
        subst hw4
        have hl4 : L'.length ≤ 201 := by have := L4.out.len; omega
        have hbd := sz_bd L4.out.mt.fit
        have hrb := rtV_bd (T := T) (ear := ea) (en := y) (L := L') hT.1 hbd.1 (by omega)
        have hlb := lossV_le F'
        have RT := mkHid (fun p => rate_mt (w := wd W4 p) (L4.out.mt.kept (wd_apart W4 p) (fun _ _ h => h)) L4.out.bd (by omega))
        have BY := mkHid (fun p => bytes_mt (w := wd W4 p) (L4.out.mt.kept (wd_apart W4 p) (fun _ _ h => h)))
        have LO := mkHid (fun p => loss_mt (w := wd W4 p) (L4.out.mt.kept (wd_apart W4 p) (fun _ _ h => h)))
        obtain ⟨r, HR⟩ : ∃ r, Hid (rtV T ea y L' = r) := ⟨_, mkHid rfl⟩
        obtain ⟨u, HU⟩ : ∃ u, Hid (sz L' = u) := ⟨_, mkHid rfl⟩
        obtain ⟨v, HV⟩ : ∃ v, Hid (lossV F' = v) := ⟨_, mkHid rfl⟩
        rw [HR.out] at RT hrb
        rw [HU.out] at BY hrb hbd
        rw [HV.out] at LO hlb
        obtain ⟨r0, r1⟩ := hrb
        obtain ⟨v0, v1⟩ := hlb
        have hu : IntKind.i64.wrap (8000 * u) = 8000 * u := by rw [IntKind.wrap_i64]; omega
        have nr0 : ¬ r < 0 := by omega
        have nr1 : ¬ 8000 * u < r := by omega
        have nv0 : ¬ v < 0 := by omega
        have nv1 : ¬ 256 < v := by omega
        have hi3 : IntKind.i64.wrap ((i : Int) + 1) = (i : Int) + 1 := by rw [IntKind.wrap_i64]; omega
        have L5 := mkHid (fun p => L4.out.kept (wd_apart W4 p))
        clear hbd hl4 r0 r1 v0 v1
        cases sm with
        | false =>
          have ey : y = x := by have := hSM.out.2 rfl; have := HY.out; omega
          subst ey
          go_wp2_with (first | (go_at_call 14; refine (wd_call (RT.out _)).mono ?_; rintro e9 _ ⟨rfl, q, rfl⟩) | (go_at_call 16; refine (wd_call (BY.out _)).mono ?_; rintro e9 _ ⟨rfl, q, rfl⟩) | (go_at_call 20; refine (wd_call (LO.out _)).mono ?_; rintro e9 _ ⟨rfl, q, rfl⟩))
          go_roundg (200 - (i + 1))
          case measure => omega
          case rel => exact ⟨i + 1, y, true, ea, y, L', F', N', rfl, rfl, by go_num, by omega, by omega, rfl, mkHid (L5.out _)⟩
        | true =>
          by_cases hxe : e < x
          · have ey : y = x := by have := (hSM.out.1 rfl).1; have := HY.out; omega
            subst ey
            go_wp2_with (first | (go_at_call 14; refine (wd_call (RT.out _)).mono ?_; rintro e9 _ ⟨rfl, q, rfl⟩) | (go_at_call 16; refine (wd_call (BY.out _)).mono ?_; rintro e9 _ ⟨rfl, q, rfl⟩) | (go_at_call 20; refine (wd_call (LO.out _)).mono ?_; rintro e9 _ ⟨rfl, q, rfl⟩))
            go_roundg (200 - (i + 1))
            case measure => omega
            case rel => exact ⟨i + 1, y, true, ea, y, L', F', N', rfl, rfl, by go_num, by omega, by omega, rfl, mkHid (L5.out _)⟩
          · have ey : y = e := by have := (hSM.out.1 rfl).1; have := HY.out; omega
            subst ey
            go_wp2_with (first | (go_at_call 14; refine (wd_call (RT.out _)).mono ?_; rintro e9 _ ⟨rfl, q, rfl⟩) | (go_at_call 16; refine (wd_call (BY.out _)).mono ?_; rintro e9 _ ⟨rfl, q, rfl⟩) | (go_at_call 20; refine (wd_call (LO.out _)).mono ?_; rintro e9 _ ⟨rfl, q, rfl⟩))
            go_roundg (200 - (i + 1))
            case measure => omega
            case rel => exact ⟨i + 1, y, true, ea, y, L', F', N', rfl, rfl, by go_num, by omega, by omega, rfl, mkHid (L5.out _)⟩
      · have hk1 : (kk == 0) = false := by simp [hk]
        have hk2 : (kk != 0) = true := by simp [hk]
        have h9 := modH_in vv 9 (by omega)
        obtain ⟨n, HN⟩ : ∃ n : Nat, Hid (modH vv 9 = (n : Int)) := ⟨(modH vv 9).toNat, mkHid (by omega)⟩
        rw [HN.out] at h9
        have M9 := mkHid (mod_any vv 9 (by omega) (by omega) W2)
        rw [HN.out] at M9
        have LO := mkHid (lost_any L2.out.mt n (by omega))
        go_wp2_with fail
        refine M9.out.mono ?_
        rintro e9 w3 ⟨rfl, rfl⟩
        go_wp2_with fail
        refine LO.out.mono ?_
        rintro e9 w4 ⟨rfl, hm, ha⟩
        have L3 := mkHid (L2.out.lost hm ha)
        clear hm ha
        have hi3 : IntKind.i64.wrap ((i : Int) + 1) = (i : Int) + 1 := by rw [IntKind.wrap_i64]; omega
        clear L2 LO M9 X2 g0 g1 g2 gf
        go_wp2_with fail
        go_roundg (200 - (i + 1))
        case measure => omega
        case rel => exact ⟨i + 1, e, sm, ear, en, L, _, N, rfl, rfl, by go_num, by omega, by omega, rfl, L3⟩
    · by_cases h1 : i < len1
      · obtain rfl : i = 200 := by omega
        have h1' : (200 : Int) < len1 := by omega
        cases sm with
        | false =>
          go_wp2_with fail
          refine (wakes_any _).mono ?_
          rintro e9 w5 ⟨rfl, b5⟩
          go_wp2
          go_ret
          exact ⟨rfl, (HL.out.ap.below _ (Nat.le_refl _) (fun _ h => h)).trans (b5.mono HL.out.ap.size)⟩
        | true =>
          have FU := mkHid (full_mt HL.out.mt HL.out.bd)
          by_cases hf : T ≤ en - ear
          · rw [show decide (T ≤ en - ear) = true from decide_eq_true hf] at FU
            have HF := mkHid hf
            obtain ⟨ee, en1, en2⟩ := HL.out.some rfl
            subst ee
            clear hf
            have hl4 : L.length ≤ 200 := by have := HL.out.len; omega
            go_wp2_with fail
            refine FU.out.mono ?_
            rintro e9 w3 ⟨rfl, a3⟩
            have L3 := mkHid (HL.out.kept a3)
            have RT := mkHid (rate_mt L3.out.mt L3.out.bd (by omega))
            clear a3
            go_wp2_with fail
            refine RT.out.mono ?_
            rintro e9 w4 ⟨rfl, a4⟩
            have L4 := mkHid (L3.out.kept a4)
            have BY := mkHid (bytes_mt L4.out.mt)
            clear a4
            go_wp2_with fail
            refine BY.out.mono ?_
            rintro e9 w5 ⟨rfl, a5⟩
            have L5 := mkHid (L4.out.kept a5)
            have h9 := modH_in a2 1000 (by omega)
            obtain ⟨n, HN⟩ : ∃ n : Int, Hid (modH a2 1000 = n) := ⟨_, mkHid rfl⟩
            rw [HN.out] at h9
            have M9 := mkHid (mod_any a2 1000 (by omega) (by omega) w5)
            rw [HN.out] at M9
            have k1 : IntKind.i64.wrap (e - T) = e - T := by rw [IntKind.wrap_i64]; omega
            have k2 : IntKind.i64.wrap (e - T - n) = e - T - n := by rw [IntKind.wrap_i64]; omega
            clear a5
            go_wp2_with fail
            refine M9.out.mono ?_
            rintro e9 w6 ⟨rfl, rfl⟩
            have G := mkHid (got_mt L5.out.mt L5.out.bd (by omega) (x := e - T - n) (z := 1500) (by omega) (by omega) (by omega) (by omega))
            go_wp2_with fail
            refine G.out.mono ?_
            rintro e9 w7 ⟨rfl, L', N', hp, hm, hn, ha⟩
            have hxx : e - T - n ≤ e - T := by omega
            rw [late_same (by omega) L5.out.all hxx] at hp
            have hr := late_rate (ear := ear) (by omega) HF.out hxx hp
            have hz := sz_perm hp
            have M7 := mkHid hm
            have A7 := mkHid (L5.out.ap.trans ha (fun k _ hk => L5.out.own k hk))
            have D7 := mkHid (L5.out.bd.got (x := e - T - n) (by omega) (by omega))
            have RT2 := mkHid (rate_mt M7.out D7.out (by rw [hp.length_eq]; omega))
            rw [hr] at RT2
            clear hp hm hn ha hr G
            go_wp2_with fail
            refine RT2.out.mono ?_
            rintro e9 w8 ⟨rfl, a8⟩
            have A8 := mkHid (A7.out.trans a8 (fun _ _ h => h.elim))
            have BY2 := mkHid (bytes_mt (M7.out.kept a8 (fun _ _ h => h)))
            rw [hz] at BY2
            clear a8 hz
            go_wp2_with fail
            refine BY2.out.mono ?_
            rintro e9 w10 ⟨rfl, a10⟩
            have A10 := mkHid (A8.out.trans a10 (fun _ _ h => h.elim))
            clear a10
            go_wp2_with fail
            refine (wakes_any _).mono ?_
            rintro e9 w11 ⟨rfl, b5⟩
            go_wp2
            go_ret
            exact ⟨rfl, (A10.out.below _ (Nat.le_refl _) (fun _ h => h)).trans (b5.mono A10.out.size)⟩
          · rw [show decide (T ≤ en - ear) = false from decide_eq_false hf] at FU
            clear hf
            go_wp2_with fail
            refine FU.out.mono ?_
            rintro e9 w3 ⟨rfl, a3⟩
            have L3 := mkHid (HL.out.kept a3)
            clear a3
            go_wp2_with fail
            refine (wakes_any _).mono ?_
            rintro e9 w5 ⟨rfl, b5⟩
            go_wp2
            go_ret
            exact ⟨rfl, (L3.out.ap.below _ (Nat.le_refl _) (fun _ h => h)).trans (b5.mono L3.out.ap.size)⟩
      · obtain rfl : i = len1 := by omega
        cases sm with
        | false =>
          go_wp2_with fail
          refine (wakes_any _).mono ?_
          rintro e9 w5 ⟨rfl, b5⟩
          go_wp2
          go_ret
          exact ⟨rfl, (HL.out.ap.below _ (Nat.le_refl _) (fun _ h => h)).trans (b5.mono HL.out.ap.size)⟩
        | true =>
          have FU := mkHid (full_mt HL.out.mt HL.out.bd)
          by_cases hf : T ≤ en - ear
          · rw [show decide (T ≤ en - ear) = true from decide_eq_true hf] at FU
            have HF := mkHid hf
            obtain ⟨ee, en1, en2⟩ := HL.out.some rfl
            subst ee
            clear hf
            have hl4 : L.length ≤ 200 := by have := HL.out.len; omega
            go_wp2_with fail
            refine FU.out.mono ?_
            rintro e9 w3 ⟨rfl, a3⟩
            have L3 := mkHid (HL.out.kept a3)
            have RT := mkHid (rate_mt L3.out.mt L3.out.bd (by omega))
            clear a3
            go_wp2_with fail
            refine RT.out.mono ?_
            rintro e9 w4 ⟨rfl, a4⟩
            have L4 := mkHid (L3.out.kept a4)
            have BY := mkHid (bytes_mt L4.out.mt)
            clear a4
            go_wp2_with fail
            refine BY.out.mono ?_
            rintro e9 w5 ⟨rfl, a5⟩
            have L5 := mkHid (L4.out.kept a5)
            have h9 := modH_in a2 1000 (by omega)
            obtain ⟨n, HN⟩ : ∃ n : Int, Hid (modH a2 1000 = n) := ⟨_, mkHid rfl⟩
            rw [HN.out] at h9
            have M9 := mkHid (mod_any a2 1000 (by omega) (by omega) w5)
            rw [HN.out] at M9
            have k1 : IntKind.i64.wrap (e - T) = e - T := by rw [IntKind.wrap_i64]; omega
            have k2 : IntKind.i64.wrap (e - T - n) = e - T - n := by rw [IntKind.wrap_i64]; omega
            clear a5
            go_wp2_with fail
            refine M9.out.mono ?_
            rintro e9 w6 ⟨rfl, rfl⟩
            have G := mkHid (got_mt L5.out.mt L5.out.bd (by omega) (x := e - T - n) (z := 1500) (by omega) (by omega) (by omega) (by omega))
            go_wp2_with fail
            refine G.out.mono ?_
            rintro e9 w7 ⟨rfl, L', N', hp, hm, hn, ha⟩
            have hxx : e - T - n ≤ e - T := by omega
            rw [late_same (by omega) L5.out.all hxx] at hp
            have hr := late_rate (ear := ear) (by omega) HF.out hxx hp
            have hz := sz_perm hp
            have M7 := mkHid hm
            have A7 := mkHid (L5.out.ap.trans ha (fun k _ hk => L5.out.own k hk))
            have D7 := mkHid (L5.out.bd.got (x := e - T - n) (by omega) (by omega))
            have RT2 := mkHid (rate_mt M7.out D7.out (by rw [hp.length_eq]; omega))
            rw [hr] at RT2
            clear hp hm hn ha hr G
            go_wp2_with fail
            refine RT2.out.mono ?_
            rintro e9 w8 ⟨rfl, a8⟩
            have A8 := mkHid (A7.out.trans a8 (fun _ _ h => h.elim))
            have BY2 := mkHid (bytes_mt (M7.out.kept a8 (fun _ _ h => h)))
            rw [hz] at BY2
            clear a8 hz
            go_wp2_with fail
            refine BY2.out.mono ?_
            rintro e9 w10 ⟨rfl, a10⟩
            have A10 := mkHid (A8.out.trans a10 (fun _ _ h => h.elim))
            clear a10
            go_wp2_with fail
            refine (wakes_any _).mono ?_
            rintro e9 w11 ⟨rfl, b5⟩
            go_wp2
            go_ret
            exact ⟨rfl, (A10.out.below _ (Nat.le_refl _) (fun _ h => h)).trans (b5.mono A10.out.size)⟩
          · rw [show decide (T ≤ en - ear) = false from decide_eq_false hf] at FU
            clear hf
            go_wp2_with fail
            refine FU.out.mono ?_
            rintro e9 w3 ⟨rfl, a3⟩
            have L3 := mkHid (HL.out.kept a3)
            clear a3
            go_wp2_with fail
            refine (wakes_any _).mono ?_
            rintro e9 w5 ⟨rfl, b5⟩
            go_wp2
            go_ret
            exact ⟨rfl, (L3.out.ap.below _ (Nat.le_refl _) (fun _ h => h)).trans (b5.mono L3.out.ap.size)⟩

set_option maxRecDepth 100000 in
theorem lifted (os : Os) (started : os.Started) (H : Type) (enc : TypeId × Value → H) :
    ReturnsInHanded {} Try.checked os 4 .any (Rows.rateBoundsSpec.pre6 enc Try.prog Try.f4 Rows.rateBoundsRow.domain false) (Rows.rateBoundsSpec.post enc Try.prog Try.f4 false true false false) := by
  refine returnsInHanded_of_change (C := Try.checked) own started (by kernel_rfl) Try.func4
    (ChangeSpec.witness6 (enc := enc) (C := Try.checked) false ⟨#[], #[.int .i64 0, .slice none 0 0, .int .i64 0], []⟩ 8 (by kernel_rfl) (by kernel_rfl) (by kernel_rfl) (by kernel_rfl)) ?_
  intro W base args ds gs before hval0 hW hcnd _
  have hval : ∀ (j : Nat) t v, Try.f4.params[j]? = some t → args[j]? = some v → Value.okWide Try.prog W .any base t v := hval0
  have hW' := hW
  obtain ⟨p, q, hA0, hV, rfl, hfz, hnd⟩ := hW
  have hA : DataW.TrodAll enc Try.prog W 0 (fun _ => true) true Try.f4.params.toList args.toList ds p := hA0
  rw [Try.params4] at hA hval
  obtain ⟨v0, vs0, d0, ds0, p0, q0, hargs, rfl, rfl, h0, r0⟩ := trodAll_cons hA
  obtain ⟨v1, vs1, d1, ds1, p1, q1, rfl, rfl, rfl, h1, r1⟩ := trodAll_cons r0
  obtain ⟨v2, vs2, d2, ds2, p2, q2, rfl, rfl, rfl, h2, r2⟩ := trodAll_cons r1
  obtain ⟨rfl, rfl, rfl⟩ := trodAll_nil r2
  obtain rfl : args = #[v0, v1, v2] := by cases args; simp_all
  obtain ⟨rfl, rfl⟩ := trodVars_none hV
  obtain ⟨a0, rfl, rfl, rfl, w0⟩ := open_int Try.underlying2 (hval 0 2 v0 rfl rfl) h0
  obtain ⟨a1, len1, cap1, rfl⟩ := okWide_slice Try.underlying22 (hval 1 22 v1 rfl rfl)
  have k1 := h1
  have lt1 : ∀ x ∈ p1, x.block < W.heap.size := by obtain ⟨m, hm⟩ := k1; exact DataW.trod_lt m _ _ _ hm
  have w1 := open1 h1
  obtain ⟨a2, rfl, rfl, rfl, w2⟩ := open_int Try.underlying3 (hval 2 3 v2 rfl rfl) h2
  clear hA0 hval0
  refine (walk a0 a1 len1 cap1 a2 W w0 w1 w2).mono fun e W' ⟨he, bel⟩ => ?_
  subst he
  exact ⟨_, rfl, _, _, _, [], _, [], hW', trodAll_mk1 (shut_bool Try.underlying4 _), (trodAll_cons_mk (shut_int Try.underlying2 w0) (trodAll_cons_mk (Below.trod laidOut (by kernel_rfl) (of_decide_eq_true (by kernel_rfl)) k1 bel lt1) (trodAll_cons_mk (shut_int Try.underlying3 w2) trodAll_mk0))), rfl, bel.frame _, fun h => by cases h⟩

theorem over : Rows.rateBoundsRow.holds Try.pinned (OpenSpec.ofChange Rows.rateBoundsSpec) :=
  OpenClaim.holds_of_wide 4 Try.f4 rfl rfl rfl rfl rfl rfl rfl ⟨rfl, rfl, rfl, rfl, rfl⟩ rfl rfl rfl rfl rfl (by kernel_rfl) Try.func4 (by kernel_rfl)
    (of_decide_eq_true (by kernel_rfl)) (by unfold Func.isWrapper; first | (rw [if_pos (by decide +kernel)]; kernel_rfl) | (rw [if_neg (by decide +kernel)]; exact ⟨rfl, rfl⟩))
    (fun os started H enc _ => lifted os started H enc)
end Go.Proofs.Ytjeffjpenhhnnaa.rateBounds
namespace Go.Proofs.Ytjeffjpenhhnnaa
/-- The statement. -/
theorem rateBounds_holds : Rows.RateBoundsSaid := rateBounds.over
#print axioms rateBounds_holds
end Go.Proofs.Ytjeffjpenhhnnaa
