/-
  BasePlays: samples in any order, told to the base and to the list of all samples: both tell the same, whatever the width and the rows.
-/
import Derived.Test.YtnjghgbaffkafaaRows
import Derived.WalkKit
import Derived.ProofKit
import Derived.OpenShut
import Derived.ShutString
import Derived.ChangeOld
import Derived.Below
import Derived.Deep.Slices
import Derived.Test.YtnjghgbaffkafaaBaL
import Derived.Test.YtnjghgbaffkafaaBaJ
import Derived.Deep.LoopGhost
import Derived.Deep.RegionHeld3
namespace Go.Proofs.Ytnjghgbaffkafaa.basePlays
open Go.ChangeShapes Go.WideShapes Go.ChangeAt Go.RowKit
open Go.ChangeMaps (open_string shut_string)
set_option linter.unusedVariables false

theorem own : ownKnob Try.prog.godebug = none := by kernel_rfl
theorem laidOut : laidOutB Try.prog = true := by kernel_rfl

theorem open2 {H : Type} {enc : TypeId × Value → H} {W : World} {a : Option Addr} {len cap : Nat} {d : DataW H} {p : List MemPlace}
    (h : DataW.Trod enc Try.prog W 0 (fun _ => true) true 22 (.slice a len cap) d p) : SmpAt W a len := open_smp h
/-- What stands at the head of the loop. -/
structure Lp (w : World) (b c : Nat) (W : Int) (k j : Nat) (wr : World) (L : List Sp) (N Q : Int) : Prop where
  bs : Bs wr b W k L N Q
  rs : Rr b wr c W k L N Q
  len : L.length ≤ j
  ap : Apart (fun q => w.heap.size ≤ q) w wr
theorem addL_len (k : Nat) (N : Int) (L : List Sp) (n d : Int) : (addL k N L n d).length ≤ L.length + 1 := by
  unfold addL stay
  exact Nat.le_trans (List.length_filter_le _ _) (by simp)
set_option maxRecDepth 100000 in
set_option maxHeartbeats 8000000 in
theorem walk (a0 : Int) (a1 : Int) (a2 : Option Addr) (len2 cap2 : Nat) (w : World) (w0 : (Lit.int .i64 a0).wf = true) (w1 : (Lit.int .i64 a1).wf = true) (w2 : SmpAt w a2 len2) : Calls Try.prog 3 #[.int .i64 a0, .int .i64 a1, .slice a2 len2 cap2] w fun e w' => e = .returned (.bool true) ∧ Below w.heap.size w w' := by
  obtain ⟨hlen, V, U, hrow⟩ := w2
  have hlen' : (len2 : Int) ≤ 9223372036854775807 := by unfold maxLen at hlen; omega
  have ROW := mkHid hrow
  have WK := mkHid wakes_any
  clear w0 w1 hrow hlen
  by_cases hbad : bad a0 a1
  · have NA := mkHid (new_no a0 a1 hbad)
    have NB := mkHid (rnew_no a0 a1 hbad)
    clear hbad
    go_enter Try.func3, Try.ntmps3
    go_wp2_with fail
    refine (NA.out _).mono ?_
    rintro e y ⟨rfl, hy⟩
    subst y
    go_wp2_with fail
    refine (NB.out _).mono ?_
    rintro e y ⟨rfl, hy⟩
    subst y
    go_wp2_with fail
    go_loopg [11] 0 (fun kx i wr => i = .int .i64 0 ∧ wr = w)
    case atStart => exact ⟨rfl, rfl⟩
    case round =>
      obtain ⟨rfl, rfl⟩ := hrel
      by_cases h0 : 0 < len2
      · have h01 : (0 : Int) < len2 := by omega
        go_wp2_with fail
        refine (WK.out _).mono ?_
        rintro e w2 ⟨rfl, b2⟩
        go_wp2
        go_ret
        exact ⟨rfl, b2.belowZ⟩
      · have h01 : ¬ (0 : Int) < len2 := by omega
        go_wp2_with fail
        refine (WK.out _).mono ?_
        rintro e w2 ⟨rfl, b2⟩
        go_wp2
        go_ret
        exact ⟨rfl, b2.belowZ⟩
  · have hin : 1 ≤ a0 ∧ a0 ≤ 1125899906842624 ∧ 1 ≤ a1 ∧ a1 ≤ 64 := by unfold bad at hbad; omega
    clear hbad
    obtain ⟨k, rfl⟩ : ∃ k : Nat, a1 = (k : Int) := ⟨a1.toNat, by omega⟩
    obtain ⟨W1, W2, k1, k2⟩ := hin
    have k1 : 1 ≤ k := by omega
    have k2 : k ≤ 64 := by omega
    go_enter Try.func3, Try.ntmps3
    go_wp2_with fail
    refine (bs_new W1 W2 k1 k2 w).mono ?_
    rintro e x1 ⟨rfl, h1, b1⟩
    have hbc := b1.size
    have hb1 := h1.lt
    obtain ⟨b, HB⟩ : ∃ b, Hid (w.heap.size = b) := ⟨_, mkHid rfl⟩
    rw [HB.out] at h1 hb1 hbc ⊢
    have H1 := mkHid h1
    have A1 := mkHid b1.first
    clear h1 b1
    go_wp2_with fail
    refine (rnew_any b a0 k W1 W2 k1 k2 x1).mono ?_
    rintro e x2 ⟨rfl, h2, b2⟩
    obtain ⟨c, HC⟩ : ∃ c, Hid (x1.heap.size = c) := ⟨_, mkHid rfl⟩
    rw [HC.out] at h2 hb1 ⊢
    have L0 := mkHid (Lp.mk (j := 0) (H1.out.kept b2 (fun h => h)) h2 (Nat.zero_le _) (A1.out.same b2))
    have HBC := mkHid (show b < c from hb1)
    clear h2 b2 hb1 hbc A1 H1
    go_wp2_with fail
    go_loopg [11] len2 (fun kx i wr => ∃ j : Nat, i = .int .i64 j ∧ j ≤ len2 ∧ j ≤ 100 ∧ kx = len2 - j ∧ Hid (∃ L N Q, Lp w b c a0 k j wr L N Q))
    case atStart => exact ⟨0, rfl, Nat.zero_le _, Nat.zero_le _, rfl, mkHid ⟨[], 0, 0, L0.out⟩⟩
    case round =>
      obtain ⟨j, rfl, hj, hj1, hkx, HL⟩ := hrel
      obtain ⟨L, N, Q, HL⟩ := HL.out
      have HL := mkHid HL
      clear L0
      by_cases hlt : j < len2
      · have hlt1 : (j : Int) < len2 := by omega
        by_cases h2 : j < 100
        · have h21 : (j : Int) < 100 := by omega
          obtain ⟨g, off, rfl, hgb, hg⟩ : ∃ g off, a2 = some ⟨g, off, none⟩ ∧ g < w.heap.size ∧ ∀ i, i < len2 → w.cell? ⟨g, off + i * 2, none⟩ = some (.int .i64 (V i)) ∧ w.cell? ⟨g, off + i * 2 + 1, none⟩ = some (.int .i64 (U i)) ∧ In64 (V i) ∧ In64 (U i) := by
            rcases ROW.out with h | h
            · omega
            · exact h
          obtain ⟨c0, c1, -, -⟩ := hg j hlt
          obtain ⟨v, hv⟩ : ∃ v, V j = v := ⟨_, rfl⟩
          obtain ⟨u, hu⟩ : ∃ u, U j = u := ⟨_, rfl⟩
          rw [hv] at c0
          rw [hu] at c1
          have SS : Hid (∀ X, Apart (fun q => w.heap.size ≤ q) wr X → X.cell? ⟨g, off + j * 2, none⟩ = some (.int .i64 v) ∧ X.cell? ⟨g, off + j * 2 + 1, none⟩ = some (.int .i64 u)) := fun X hX =>
            ⟨((HL.out.ap.trans hX (fun _ _ h => h)).cell (p := ⟨g, off + j * 2, none⟩) hgb (by show ¬ w.heap.size ≤ g; omega)).trans c0, ((HL.out.ap.trans hX (fun _ _ h => h)).cell (p := ⟨g, off + j * 2 + 1, none⟩) hgb (by show ¬ w.heap.size ≤ g; omega)).trans c1⟩
          obtain ⟨s0, s1⟩ := SS.out wr (Apart.refl _ _)
          have e2 : IntKind.i64.wrap ((j : Int) + 1) = (j : Int) + 1 := by rw [IntKind.wrap_i64]; omega
          obtain ⟨n, hn⟩ : ∃ n, rwN a0 v = n := ⟨_, rfl⟩
          obtain ⟨z, hz⟩ : ∃ z, dlH u = z := ⟨_, rfl⟩
          obtain ⟨q, hq⟩ : ∃ q, quE k N L n z = q := ⟨_, rfl⟩
          obtain ⟨R, _, inv, _⟩ := HL.out.bs
          have hbw := HL.out.bs.lt
          have CB := mkHid (fun X (hX : Apart (fun q => q = c) wr X) => bs_add (HL.out.bs.kept hX (fun e => by have := HBC.out; omega)) v u n z q hn hz hq)
          have CC := mkHid (fun X (hX : Apart (fun q => q = b) wr X) => radd_any (HL.out.rs.kept hX (fun e => by have := HBC.out; omega) (fun _ h _ e => h e)) inv W1 W2 (Nat.lt_of_lt_of_le hbw hX.size) (by have := HL.out.len; omega) v u n z q hn hz hq)
          have UB := mkHid (show ∀ X Y : World, Apart (fun q => q = b) X Y → Apart (fun q => w.heap.size ≤ q) X Y from fun _ _ h => h.mono (fun i _ e => by have := HB.out; omega))
          have UC := mkHid (show ∀ X Y : World, Apart (fun q => q = c) X Y → Apart (fun q => w.heap.size ≤ q) X Y from fun _ _ h => h.mono (fun i _ e => by have := HB.out; have := HBC.out; omega))
          have hne : ¬ b = c := by have := HBC.out; omega
          have KB := mkHid (show ∀ X Y : World, Bs X b a0 k (addL k N L n z) (max N n) q → Apart (fun q => q = c) X Y → Bs Y b a0 k (addL k N L n z) (max N n) q from fun _ _ h a => h.kept a hne)
          have KC := mkHid (show ∀ X Y : World, Rr b X c a0 k (addL k N L n z) (max N n) q → Apart (fun q => q = b) X Y → Rr b Y c a0 k (addL k N L n z) (max N n) q from fun _ _ h a => h.kept a (fun e => hne e.symm) (fun _ h _ e => h e))
          clear hv hu hg c0 c1 hn hz hq hbw inv hne
          go_upto_region 8 with fail
          go_cut [76] (fun v wc => v = .bool false ∧ Hid (Bs wc b a0 k (addL k N L n z) (max N n) q) ∧ Hid (Rr b wc c a0 k (addL k N L n z) (max N n) q) ∧ Hid (Apart (fun q => w.heap.size ≤ q) wr wc))
          case first =>
            go_region_held3 (fun w' => w'.cell? ⟨g, off + j * 2, none⟩ = some (.int .i64 v) ∧ w'.cell? ⟨g, off + j * 2 + 1, none⟩ = some (.int .i64 u))
              (first | assumption | exact SS.out _ (Apart.refl _ _).drew | exact SS.out _ (by assumption))
              (first
                | (go_at_call 10; refine (CB.out _ AC1.out).mono ?_; rintro e w4 ⟨rfl, h4, a4⟩; have B4 := mkHid h4; have C4 := mkHid (KC.out _ _ C3.out a4); have A4 : Apart (fun q => w.heap.size ≤ q) wr w4 := (UC.out _ _ AC1.out).trans (UB.out _ _ a4) (fun _ _ h => h); clear h4 a4)
                | (go_at_call 11; refine (CC.out _ AB1.out).mono ?_; rintro e w4 ⟨rfl, h4, a4⟩; have C4 := mkHid h4; have B4 := mkHid (KB.out _ _ B3.out a4); have A4 : Apart (fun q => w.heap.size ≤ q) wr w4 := (UB.out _ _ AB1.out).trans (UC.out _ _ a4) (fun _ _ h => h); clear h4 a4)
                | (go_at_call 10; refine (CB.out _ ((Apart.refl _ wr).drew)).mono ?_; rintro e w3 ⟨rfl, h3, a3⟩; have B3 := mkHid h3; have AB1 := mkHid (((Apart.refl (fun q => q = b) wr).drew).trans a3 (fun _ _ h => h)); have A3 : Apart (fun q => w.heap.size ≤ q) wr w3 := UB.out _ _ AB1.out; clear h3 a3)
                | (go_at_call 11; refine (CC.out _ ((Apart.refl _ wr).drew)).mono ?_; rintro e w3 ⟨rfl, h3, a3⟩; have C3 := mkHid h3; have AC1 := mkHid (((Apart.refl (fun q => q = c) wr).drew).trans a3 (fun _ _ h => h)); have A3 : Apart (fun q => w.heap.size ≤ q) wr w3 := UC.out _ _ AC1.out; clear h3 a3))
            all_goals (try go_wp2)
            all_goals go_meet
            all_goals exact ⟨rfl, B4, C4, mkHid A4⟩
          case rest =>
            obtain ⟨rfl, B5, C5, A5⟩ := hcut
            obtain ⟨v5, HV5⟩ : ∃ x, Hid (wc = x) := ⟨_, mkHid rfl⟩
            rw [HV5.out] at B5 C5 A5 ⊢
            clear HV5 s0 s1 CB CC UB UC KB KC SS
            have LS := mkHid (bs_least B5.out)
            obtain ⟨m, hm⟩ : ∃ m, (lm (addL k N L n z)).1 = m := ⟨_, rfl⟩
            obtain ⟨o, ho⟩ : ∃ o, (lm (addL k N L n z)).2 = o := ⟨_, rfl⟩
            have HMO := mkHid (And.intro hm ho)
            rw [hm, ho] at LS
            clear hm ho
            go_wp2_with fail
            refine LS.out.mono ?_
            rintro e w6 ⟨rfl, a6⟩
            have B6 := mkHid (B5.out.kept a6 (fun h => h))
            have C6 := mkHid (C5.out.kept a6 (fun h => h) (fun _ _ _ h => h))
            have A6 := mkHid (A5.out.trans a6 (fun _ _ h => h.elim))
            have LR := mkHid (rleast_any C6.out (by have := addL_len k N L n z; have := HL.out.len; omega))
            rw [HMO.out.1, HMO.out.2] at LR
            clear a6 LS
            go_wp2_with fail
            refine LR.out.mono ?_
            rintro e y ⟨rfl, hy⟩
            subst y
            go_wp2_with (first
              | (go_at_call 14; refine (bs_queue B6.out).mono ?_; rintro e y ⟨rfl, hy⟩; subst y)
              | (go_at_call 15; refine (rqueue_any C6.out).mono ?_; rintro e y ⟨rfl, hy⟩; subst y))
            go_roundg (len2 - (j + 1))
            · exact ⟨j + 1, rfl, by omega, by omega, rfl, mkHid ⟨_, _, _, B6.out, C6.out, by have := addL_len k N L n z; have := HL.out.len; omega, HL.out.ap.trans A6.out (fun _ _ h => h)⟩⟩
            · omega
        · have h21 : ¬ (j : Int) < 100 := by omega
          go_wp2_with fail
          refine (WK.out _).mono ?_
          rintro e w2 ⟨rfl, b2⟩
          go_wp2
          go_ret
          exact ⟨rfl, (HL.out.ap.same b2).none.belowZ⟩
      · have hlt1 : ¬ (j : Int) < len2 := by omega
        go_wp2_with fail
        refine (WK.out _).mono ?_
        rintro e w2 ⟨rfl, b2⟩
        go_wp2
        go_ret
        exact ⟨rfl, (HL.out.ap.same b2).none.belowZ⟩

set_option maxRecDepth 100000 in
theorem lifted (os : Os) (started : os.Started) (H : Type) (enc : TypeId × Value → H) :
    ReturnsInHanded {} Try.checked os 3 .any (Rows.basePlaysSpec.pre6 enc Try.prog Try.f3 Rows.basePlaysRow.domain false) (Rows.basePlaysSpec.post enc Try.prog Try.f3 false true false false) := by
  refine returnsInHanded_of_change (C := Try.checked) own started (by kernel_rfl) Try.func3
    (ChangeSpec.witness6 (enc := enc) (C := Try.checked) false ⟨#[], #[.int .i64 0, .int .i64 0, .slice none 0 0], []⟩ 8 (by kernel_rfl) (by kernel_rfl) (by kernel_rfl) (by kernel_rfl)) ?_
  intro W base args ds gs before hval0 hW hcnd _
  have hval : ∀ (j : Nat) t v, Try.f3.params[j]? = some t → args[j]? = some v → Value.okWide Try.prog W .any base t v := hval0
  have hW' := hW
  obtain ⟨p, q, hA0, hV, rfl, hfz, hnd⟩ := hW
  have hA : DataW.TrodAll enc Try.prog W 0 (fun _ => true) true Try.f3.params.toList args.toList ds p := hA0
  rw [Try.params3] at hA hval
  obtain ⟨v0, vs0, d0, ds0, p0, q0, hargs, rfl, rfl, h0, r0⟩ := trodAll_cons hA
  obtain ⟨v1, vs1, d1, ds1, p1, q1, rfl, rfl, rfl, h1, r1⟩ := trodAll_cons r0
  obtain ⟨v2, vs2, d2, ds2, p2, q2, rfl, rfl, rfl, h2, r2⟩ := trodAll_cons r1
  obtain ⟨rfl, rfl, rfl⟩ := trodAll_nil r2
  obtain rfl : args = #[v0, v1, v2] := by cases args; simp_all
  obtain ⟨rfl, rfl⟩ := trodVars_none hV
  obtain ⟨a0, rfl, rfl, rfl, w0⟩ := open_int Try.underlying2 (hval 0 2 v0 rfl rfl) h0
  obtain ⟨a1, rfl, rfl, rfl, w1⟩ := open_int Try.underlying3 (hval 1 3 v1 rfl rfl) h1
  obtain ⟨a2, len2, cap2, rfl⟩ := okWide_slice Try.underlying22 (hval 2 22 v2 rfl rfl)
  have k2 := h2
  have lt2 : ∀ x ∈ p2, x.block < W.heap.size := by obtain ⟨m, hm⟩ := k2; exact DataW.trod_lt m _ _ _ hm
  have w2 := open2 h2
  clear hA0 hval0
  refine (walk a0 a1 a2 len2 cap2 W w0 w1 w2).mono fun e W' ⟨he, bel⟩ => ?_
  subst he
  exact ⟨_, rfl, _, _, _, [], _, [], hW', trodAll_mk1 (shut_bool Try.underlying4 _), (trodAll_cons_mk (shut_int Try.underlying2 w0) (trodAll_cons_mk (shut_int Try.underlying3 w1) (trodAll_cons_mk (Below.trod laidOut (by kernel_rfl) (of_decide_eq_true (by kernel_rfl)) k2 bel lt2) trodAll_mk0))), rfl, bel.frame _, fun h => by cases h⟩

theorem over : Rows.basePlaysRow.holds Try.pinned (OpenSpec.ofChange Rows.basePlaysSpec) :=
  OpenClaim.holds_of_wide 3 Try.f3 rfl rfl rfl rfl rfl rfl rfl ⟨rfl, rfl, rfl, rfl, rfl⟩ rfl rfl rfl rfl rfl (by kernel_rfl) Try.func3 (by kernel_rfl)
    (of_decide_eq_true (by kernel_rfl)) (by unfold Func.isWrapper; first | (rw [if_pos (by decide +kernel)]; kernel_rfl) | (rw [if_neg (by decide +kernel)]; exact ⟨rfl, rfl⟩))
    (fun os started H enc _ => lifted os started H enc)
end Go.Proofs.Ytnjghgbaffkafaa.basePlays
namespace Go.Proofs.Ytnjghgbaffkafaa
/-- The statement. -/
theorem basePlays_holds : Rows.BasePlaysSaid := basePlays.over
#print axioms basePlays_holds
end Go.Proofs.Ytnjghgbaffkafaa
