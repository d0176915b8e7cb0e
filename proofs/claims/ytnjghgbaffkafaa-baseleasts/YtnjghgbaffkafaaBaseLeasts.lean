/-
  BaseLeasts: of samples of one row the least one is the least of all.
-/
import Derived.Test.YtnjghgbaffkafaaRows
import Derived.WalkKit
import Derived.ProofKit
import Derived.OpenShut
import Derived.ShutString
import Derived.ChangeOld
import Derived.Below
import Derived.Deep.Slices
import Derived.Test.YtnjghgbaffkafaaBaI
import Derived.Deep.LoopGhost
namespace Go.Proofs.Ytnjghgbaffkafaa.baseLeasts
open Go.ChangeShapes Go.WideShapes Go.ChangeAt Go.RowKit
open Go.ChangeMaps (open_string shut_string)
set_option linter.unusedVariables false

theorem own : ownKnob Try.prog.godebug = none := by kernel_rfl
theorem laidOut : laidOutB Try.prog = true := by kernel_rfl

theorem open0 {H : Type} {enc : TypeId × Value → H} {W : World} {a : Option Addr} {len cap : Nat} {d : DataW H} {p : List MemPlace}
    (h : DataW.Trod enc Try.prog W 0 (fun _ => true) true 42 (.slice a len cap) d p) : NumAt W a len := open_num h
/-- What stands at the head of the loop. -/
structure Lp (w : World) (b : Nat) (k : Nat) (j : Nat) (m : Int) (L : List Sp) (wr : World) : Prop where
  row : ∀ s ∈ L, s.1 = 0
  least : lm L = (m, decide (0 < j))
  bs : ∃ Q, Bs wr b 1000 k L 0 Q
  ap : Apart (fun q => w.heap.size ≤ q) w wr
set_option maxRecDepth 100000 in
set_option maxHeartbeats 4000000 in
theorem walk (a0 : Option Addr) (len0 cap0 : Nat) (a1 : Int) (w : World) (w0 : NumAt w a0 len0) (w1 : (Lit.int .i64 a1).wf = true) : Calls Try.prog 7 #[.slice a0 len0 cap0, .int .i64 a1] w fun e w' => e = .returned (.bool true) ∧ Below w.heap.size w w' := by
  obtain ⟨hlen, V, hrow⟩ := w0
  have hlen' : (len0 : Int) ≤ 9223372036854775807 := by unfold maxLen at hlen; omega
  have ROW := mkHid hrow
  have MD := mkHid (mod_any a1 64 (by omega) (by omega) w)
  have hm := modH_in a1 64 (by omega)
  obtain ⟨md, HMD⟩ : ∃ md, Hid (modH a1 64 = md) := ⟨_, mkHid rfl⟩
  rw [HMD.out] at MD hm
  obtain ⟨k, hk⟩ : ∃ k : Nat, 1 + md = (k : Int) := ⟨(1 + md).toNat, by omega⟩
  have k1 : 1 ≤ k := by omega
  have k2 : k ≤ 64 := by omega
  have eT : IntKind.i64.wrap (1 + md) = (k : Int) := by rw [hk, IntKind.wrap_i64]; omega
  have WK := mkHid wakes_any
  clear w1 hrow hlen
  go_enter Try.func7, Try.ntmps7
  go_wp2_with fail
  refine MD.out.mono ?_
  rintro e y ⟨rfl, hy⟩
  subst y
  clear MD HMD hm
  go_wp2_with fail
  refine (bs_new (W := 1000) (by omega) (by omega) k1 k2 w).mono ?_
  rintro e x1 ⟨rfl, h1, b1⟩
  obtain ⟨b, HB⟩ : ∃ b, Hid (w.heap.size = b) := ⟨_, mkHid rfl⟩
  rw [HB.out] at h1 ⊢
  have L0 := mkHid (Lp.mk (k := k) (j := 0) (m := 0) (L := []) (by simp) rfl ⟨_, h1⟩ b1.first)
  clear h1 b1 eT hk
  go_wp2_with fail
  go_loopg [7, 8] len0 (fun kx l i wr => ∃ (j : Nat) (m : Int), l = .int .i64 m ∧ i = .int .i64 j ∧ j ≤ len0 ∧ kx = len0 - j ∧ Hid (∃ L, Lp w b k j m L wr))
  case atStart => exact ⟨0, 0, rfl, rfl, Nat.zero_le _, rfl, mkHid ⟨[], L0.out⟩⟩
  case round =>
    obtain ⟨j, m, rfl, rfl, hj, hkx, HL⟩ := hrel
    obtain ⟨L, HL⟩ := HL.out
    have HL := mkHid HL
    clear L0
    by_cases hlt : j < len0
    · have hlt1 : (j : Int) < len0 := by omega
      by_cases h2 : j < 200
      · have h21 : (j : Int) < 200 := by omega
        obtain ⟨g, off, rfl, hgb, hg⟩ : ∃ g off, a0 = some ⟨g, off, none⟩ ∧ g < w.heap.size ∧ ∀ i, i < len0 → w.cell? ⟨g, off + i, none⟩ = some (.int .i32 (V i)) ∧ In32 (V i) := by
          rcases ROW.out with h | h
          · omega
          · exact h
        obtain ⟨hc, hv⟩ := hg j hlt
        have hc2 : wr.cell? ⟨g, off + j, none⟩ = some (.int .i32 (V j)) := (HL.out.ap.cell (p := ⟨g, off + j, none⟩) hgb (by show ¬ w.heap.size ≤ g; omega)).trans hc
        obtain ⟨d, hd⟩ : ∃ d, V j = d := ⟨_, rfl⟩
        rw [hd] at hc2 hv
        obtain ⟨v1, v2⟩ := hv
        obtain ⟨Q, hbs⟩ := HL.out.bs
        have hbd : -1125899906842624 ≤ m ∧ m ≤ 1125899906842624 := by
          obtain ⟨R, _, hi, _⟩ := hbs
          have := hi.bound
          rw [HL.out.least] at this
          exact this
        have BS := mkHid hbs
        have LA := mkHid (lm_add HL.out.least 0 d)
        have AL := mkHid (addL_row0 k1 HL.out.row d)
        have e0 : (j : Int).tmod 1000 = j := by rw [Int.tmod_eq_emod_of_nonneg (by omega)]; omega
        have e1 : IntKind.i64.wrap (j : Int) = j := by rw [IntKind.wrap_i64]; omega
        have e2 : IntKind.i64.wrap ((j : Int) + 1) = (j : Int) + 1 := by rw [IntKind.wrap_i64]; omega
        have e3 : IntKind.i64.wrap d = d := by rw [IntKind.wrap_i64]; omega
        have e4 : IntKind.i64.wrap (d - m) = d - m := by rw [IntKind.wrap_i64]; omega
        clear hd hc hg hbs
        by_cases h0 : j = 0
        · subst h0
          have hc3 : wr.cell? ⟨g, off, none⟩ = some (.int .i32 d) := by simpa using hc2
          rw [if_pos (.inl (by simp))] at LA
          clear hc2 e0 e1 e2
          have C := mkHid (bs_add BS.out 0 d 0 d 0 (by decide) (by unfold dlH; omega) (by unfold quE; rw [if_pos (by omega), AL.out, LA.out]; simp only; omega))
          rw [AL.out, show max 0 0 = (0 : Int) from rfl] at C
          go_wp2_with fail
          refine C.out.mono ?_
          rintro e w2 ⟨rfl, h2, b2⟩
          have A2 := mkHid (HL.out.ap.later (Nat.le_of_eq HB.out) b2)
          have B2 := mkHid (bs_least h2)
          rw [LA.out] at B2
          have H2 := mkHid h2
          clear h2 b2 C
          go_wp2_with fail
          refine B2.out.mono ?_
          rintro e w3 ⟨rfl, b3⟩
          have A3 := mkHid (A2.out.same b3)
          have H3 := mkHid (H2.out.kept b3 (fun h => h))
          clear b3 B2 H2
          go_wp2_with fail
          go_roundg (len0 - 1)
          · refine ⟨1, d, rfl, rfl, by omega, rfl, mkHid ⟨L ++ [(0, d)], ⟨?_, ?_, ⟨_, H3.out⟩, A3.out⟩⟩⟩
            · intro s hs
              rcases List.mem_append.1 hs with hs | hs
              · exact HL.out.row s hs
              · simp at hs; rw [hs]
            · rw [LA.out, decide_eq_true (by omega)]
          · omega
        · have h01 : ¬ (j : Int) = 0 := by omega
          by_cases hnew : d < m
          · rw [if_pos (.inr hnew)] at LA
            have C := mkHid (bs_add BS.out j d 0 d 0 (by unfold rwN; omega) (by unfold dlH; omega) (by unfold quE; rw [if_pos (by omega), AL.out, LA.out]; simp only; omega))
            rw [AL.out, show max 0 0 = (0 : Int) from rfl] at C
            go_wp2_with fail
            refine C.out.mono ?_
            rintro e w2 ⟨rfl, h2, b2⟩
            have A2 := mkHid (HL.out.ap.later (Nat.le_of_eq HB.out) b2)
            have B2 := mkHid (bs_least h2)
            rw [LA.out] at B2
            have H2 := mkHid h2
            clear h2 b2 C
            go_wp2_with fail
            refine B2.out.mono ?_
            rintro e w3 ⟨rfl, b3⟩
            have A3 := mkHid (A2.out.same b3)
            have H3 := mkHid (H2.out.kept b3 (fun h => h))
            clear b3 B2 H2
            go_wp2_with fail
            go_roundg (len0 - (j + 1))
            · refine ⟨j + 1, d, rfl, rfl, by omega, rfl, mkHid ⟨L ++ [(0, d)], ⟨?_, ?_, ⟨_, H3.out⟩, A3.out⟩⟩⟩
              · intro s hs
                rcases List.mem_append.1 hs with hs | hs
                · exact HL.out.row s hs
                · simp at hs; rw [hs]
              · rw [LA.out, decide_eq_true (by omega)]
            · omega
          · rw [if_neg (by simp [hnew]; omega)] at LA
            have C := mkHid (bs_add BS.out j d 0 d (d - m) (by unfold rwN; omega) (by unfold dlH; omega) (by unfold quE; rw [if_pos (by omega), AL.out, LA.out]))
            rw [AL.out, show max 0 0 = (0 : Int) from rfl] at C
            go_wp2_with fail
            refine C.out.mono ?_
            rintro e w2 ⟨rfl, h2, b2⟩
            have A2 := mkHid (HL.out.ap.later (Nat.le_of_eq HB.out) b2)
            have B2 := mkHid (bs_least h2)
            rw [LA.out] at B2
            have H2 := mkHid h2
            clear h2 b2 C
            go_wp2_with fail
            refine B2.out.mono ?_
            rintro e w3 ⟨rfl, b3⟩
            have A3 := mkHid (A2.out.same b3)
            have H3 := mkHid (H2.out.kept b3 (fun h => h))
            clear b3 B2 H2
            go_wp2_with fail
            go_roundg (len0 - (j + 1))
            · refine ⟨j + 1, m, rfl, rfl, by omega, rfl, mkHid ⟨L ++ [(0, d)], ⟨?_, ?_, ⟨_, H3.out⟩, A3.out⟩⟩⟩
              · intro s hs
                rcases List.mem_append.1 hs with hs | hs
                · exact HL.out.row s hs
                · simp at hs; rw [hs]
              · rw [LA.out, decide_eq_true (by omega)]
            · omega
      · have h21 : ¬ (j : Int) < 200 := by omega
        go_wp2_with fail
        refine (WK.out _).mono ?_
        rintro e w2 ⟨rfl, b2⟩
        go_wp2
        go_ret
        exact ⟨rfl, (HL.out.ap.same b2).none.belowZ⟩
    · have hlt1 : ¬ (j : Int) < len0 := by omega
      go_wp2_with fail
      refine (WK.out _).mono ?_
      rintro e w2 ⟨rfl, b2⟩
      go_wp2
      go_ret
      exact ⟨rfl, (HL.out.ap.same b2).none.belowZ⟩

set_option maxRecDepth 100000 in
theorem lifted (os : Os) (started : os.Started) (H : Type) (enc : TypeId × Value → H) :
    ReturnsInHanded {} Try.checked os 7 .any (Rows.baseLeastsSpec.pre6 enc Try.prog Try.f7 Rows.baseLeastsRow.domain false) (Rows.baseLeastsSpec.post enc Try.prog Try.f7 false true false false) := by
  refine returnsInHanded_of_change (C := Try.checked) own started (by kernel_rfl) Try.func7
    (ChangeSpec.witness6 (enc := enc) (C := Try.checked) false ⟨#[], #[.slice none 0 0, .int .i64 0], []⟩ 8 (by kernel_rfl) (by kernel_rfl) (by kernel_rfl) (by kernel_rfl)) ?_
  intro W base args ds gs before hval0 hW hcnd _
  have hval : ∀ (j : Nat) t v, Try.f7.params[j]? = some t → args[j]? = some v → Value.okWide Try.prog W .any base t v := hval0
  have hW' := hW
  obtain ⟨p, q, hA0, hV, rfl, hfz, hnd⟩ := hW
  have hA : DataW.TrodAll enc Try.prog W 0 (fun _ => true) true Try.f7.params.toList args.toList ds p := hA0
  rw [Try.params7] at hA hval
  obtain ⟨v0, vs0, d0, ds0, p0, q0, hargs, rfl, rfl, h0, r0⟩ := trodAll_cons hA
  obtain ⟨v1, vs1, d1, ds1, p1, q1, rfl, rfl, rfl, h1, r1⟩ := trodAll_cons r0
  obtain ⟨rfl, rfl, rfl⟩ := trodAll_nil r1
  obtain rfl : args = #[v0, v1] := by cases args; simp_all
  obtain ⟨rfl, rfl⟩ := trodVars_none hV
  obtain ⟨a0, len0, cap0, rfl⟩ := okWide_slice Try.underlying42 (hval 0 42 v0 rfl rfl)
  have k0 := h0
  have lt0 : ∀ x ∈ p0, x.block < W.heap.size := by obtain ⟨m, hm⟩ := k0; exact DataW.trod_lt m _ _ _ hm
  have w0 := open0 h0
  obtain ⟨a1, rfl, rfl, rfl, w1⟩ := open_int Try.underlying3 (hval 1 3 v1 rfl rfl) h1
  clear hA0 hval0
  refine (walk a0 len0 cap0 a1 W w0 w1).mono fun e W' ⟨he, bel⟩ => ?_
  subst he
  exact ⟨_, rfl, _, _, _, [], _, [], hW', trodAll_mk1 (shut_bool Try.underlying4 _), (trodAll_cons_mk (Below.trod laidOut (by kernel_rfl) (of_decide_eq_true (by kernel_rfl)) k0 bel lt0) (trodAll_cons_mk (shut_int Try.underlying3 w1) trodAll_mk0)), rfl, bel.frame _, fun h => by cases h⟩

theorem over : Rows.baseLeastsRow.holds Try.pinned (OpenSpec.ofChange Rows.baseLeastsSpec) :=
  OpenClaim.holds_of_wide 7 Try.f7 rfl rfl rfl rfl rfl rfl rfl ⟨rfl, rfl, rfl, rfl, rfl⟩ rfl rfl rfl rfl rfl (by kernel_rfl) Try.func7 (by kernel_rfl)
    (of_decide_eq_true (by kernel_rfl)) (by unfold Func.isWrapper; first | (rw [if_pos (by decide +kernel)]; kernel_rfl) | (rw [if_neg (by decide +kernel)]; exact ⟨rfl, rfl⟩))
    (fun os started H enc _ => lifted os started H enc)
end Go.Proofs.Ytnjghgbaffkafaa.baseLeasts
namespace Go.Proofs.Ytnjghgbaffkafaa
/-- The statement. -/
theorem baseLeasts_holds : Rows.BaseLeastsSaid := baseLeasts.over
#print axioms baseLeasts_holds
end Go.Proofs.Ytnjghgbaffkafaa
