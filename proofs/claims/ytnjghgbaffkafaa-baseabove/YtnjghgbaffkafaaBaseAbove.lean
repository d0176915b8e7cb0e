/-
  BaseAbove: what is above the least is never below 0, and a constant that is added to all delays changes nothing.
-/
import Derived.Test.YtnjghgbaffkafaaRows
import Derived.WalkKit
import Derived.ProofKit
import Derived.OpenShut
import Derived.ShutString
import Derived.ChangeOld
import Derived.Below
import Derived.Deep.Slices
import Derived.Test.YtnjghgbaffkafaaBaJ
import Derived.Deep.LoopGhost
namespace Go.Proofs.Ytnjghgbaffkafaa.baseAbove
open Go.ChangeShapes Go.WideShapes Go.ChangeAt Go.RowKit
open Go.ChangeMaps (open_string shut_string)
set_option linter.unusedVariables false

theorem own : ownKnob Try.prog.godebug = none := by kernel_rfl
theorem laidOut : laidOutB Try.prog = true := by kernel_rfl

theorem open1 {H : Type} {enc : TypeId × Value → H} {W : World} {a : Option Addr} {len cap : Nat} {d : DataW H} {p : List MemPlace}
    (h : DataW.Trod enc Try.prog W 0 (fun _ => true) true 22 (.slice a len cap) d p) : SmpAt W a len := open_smp h
/-- What stands at the head of the loop. -/
structure Lp (w : World) (b c : Nat) (k : Nat) (D N : Int) (L : List Sp) (wr : World) : Prop where
  new : Newest N L
  bs : ∃ Q, Bs wr b 1000 k L N Q
  cs : ∃ Q, Bs wr c 1000 k (mapD D L) N Q
  ap : Apart (fun q => w.heap.size ≤ q) w wr
set_option maxRecDepth 100000 in
set_option maxHeartbeats 4000000 in
theorem walk (a0 : Int) (a1 : Option Addr) (len1 cap1 : Nat) (a2 : Int) (w : World) (w0 : (Lit.int .i64 a0).wf = true) (w1 : SmpAt w a1 len1) (w2 : (Lit.int .i64 a2).wf = true) : Calls Try.prog 4 #[.int .i64 a0, .slice a1 len1 cap1, .int .i64 a2] w fun e w' => e = .returned (.bool true) ∧ Below w.heap.size w w' := by
  obtain ⟨hlen, V, U, hrow⟩ := w1
  have hlen' : (len1 : Int) ≤ 9223372036854775807 := by unfold maxLen at hlen; omega
  have ROW := mkHid hrow
  have MD := mkHid (mod_any a0 64 (by omega) (by omega) w)
  have hm := modH_in a0 64 (by omega)
  obtain ⟨md, HMD⟩ : ∃ md, Hid (modH a0 64 = md) := ⟨_, mkHid rfl⟩
  rw [HMD.out] at MD hm
  obtain ⟨k, hk⟩ : ∃ k : Nat, 1 + md = (k : Int) := ⟨(1 + md).toNat, by omega⟩
  have k1 : 1 ≤ k := by omega
  have k2 : k ≤ 64 := by omega
  have eT : IntKind.i64.wrap (1 + md) = (k : Int) := by rw [hk, IntKind.wrap_i64]; omega
  have dl := Int.lt_tmod_of_pos a2 (show (0 : Int) < 1099511627776 by omega)
  have dh := Int.tmod_lt_of_pos a2 (show (0 : Int) < 1099511627776 by omega)
  obtain ⟨D, hD⟩ : ∃ D, a2.tmod 1099511627776 = D := ⟨_, rfl⟩
  rw [hD] at dl dh
  have eD : IntKind.i64.wrap D = D := by rw [IntKind.wrap_i64]; omega
  have WK := mkHid wakes_any
  clear w0 w2 hrow hlen
  go_enter Try.func4, Try.ntmps4
  go_wp2_with fail
  refine MD.out.mono ?_
  rintro e y ⟨rfl, hy⟩
  subst y
  clear MD HMD hm
  go_wp2_with fail
  refine (bs_new (W := 1000) (by omega) (by omega) k1 k2 w).mono ?_
  rintro e x1 ⟨rfl, h1, b1⟩
  have hbc := b1.size
  have hb1 := h1.lt
  obtain ⟨b, HB⟩ : ∃ b, Hid (w.heap.size = b) := ⟨_, mkHid rfl⟩
  rw [HB.out] at h1 hb1 hbc ⊢
  have H1 := mkHid h1
  have A1 := mkHid b1.first
  clear h1 b1
  go_wp2_with fail
  refine (bs_new (W := 1000) (by omega) (by omega) k1 k2 x1).mono ?_
  rintro e x2 ⟨rfl, h2, b2⟩
  obtain ⟨c, HC⟩ : ∃ c, Hid (x1.heap.size = c) := ⟨_, mkHid rfl⟩
  rw [HC.out] at h2 hb1 ⊢
  have L0 := mkHid (Lp.mk (D := D) (N := 0) (L := []) (.inl ⟨rfl, rfl⟩) ⟨_, H1.out.kept b2 (fun h => h)⟩ ⟨_, h2⟩ (A1.out.same b2))
  have HBC := mkHid (show b < c from hb1)
  have HWB := HB
  clear h2 b2 eT hk hb1 hbc A1 H1
  go_wp2_with fail
  clear hD eD
  go_loopg [13] len1 (fun kx i wr => ∃ j : Nat, i = .int .i64 j ∧ j ≤ len1 ∧ kx = len1 - j ∧ Hid (∃ N L, Lp w b c k D N L wr))
  case atStart => exact ⟨0, rfl, Nat.zero_le _, rfl, mkHid ⟨0, [], L0.out⟩⟩
  case round =>
    obtain ⟨j, rfl, hj, hkx, HL⟩ := hrel
    obtain ⟨N, L, HL⟩ := HL.out
    have HL := mkHid HL
    clear L0
    by_cases hlt : j < len1
    · have hlt1 : (j : Int) < len1 := by omega
      by_cases h2 : j < 100
      · have h21 : (j : Int) < 100 := by omega
        obtain ⟨g, off, rfl, hgb, hg⟩ : ∃ g off, a1 = some ⟨g, off, none⟩ ∧ g < w.heap.size ∧ ∀ i, i < len1 → w.cell? ⟨g, off + i * 2, none⟩ = some (.int .i64 (V i)) ∧ w.cell? ⟨g, off + i * 2 + 1, none⟩ = some (.int .i64 (U i)) ∧ In64 (V i) ∧ In64 (U i) := by
          rcases ROW.out with h | h
          · omega
          · exact h
        obtain ⟨c0, c1, v0, v1⟩ := hg j hlt
        have d0 : wr.cell? ⟨g, off + j * 2, none⟩ = some (.int .i64 (V j)) := (HL.out.ap.cell (p := ⟨g, off + j * 2, none⟩) hgb (by show ¬ w.heap.size ≤ g; omega)).trans c0
        have d1 : wr.cell? ⟨g, off + j * 2 + 1, none⟩ = some (.int .i64 (U j)) := (HL.out.ap.cell (p := ⟨g, off + j * 2 + 1, none⟩) hgb (by show ¬ w.heap.size ≤ g; omega)).trans c1
        obtain ⟨v, hv⟩ : ∃ v, V j = v := ⟨_, rfl⟩
        obtain ⟨u, hu⟩ : ∃ u, U j = u := ⟨_, rfl⟩
        rw [hv] at d0
        rw [hu] at d1
        have p0 := fun p => wd_cell d0 p
        have p1 := fun p => wd_cell d1 p
        have ul := Int.lt_tmod_of_pos u (show (0 : Int) < 1099511627776 by omega)
        have uh := Int.tmod_lt_of_pos u (show (0 : Int) < 1099511627776 by omega)
        obtain ⟨d, hd⟩ : ∃ d, u.tmod 1099511627776 = d := ⟨_, rfl⟩
        rw [hd] at ul uh
        have ed : IntKind.i64.wrap d = d := by rw [IntKind.wrap_i64]; omega
        have edD : IntKind.i64.wrap (d + D) = d + D := by rw [IntKind.wrap_i64]; omega
        have e2 : IntKind.i64.wrap ((j : Int) + 1) = (j : Int) + 1 := by rw [IntKind.wrap_i64]; omega
        have hx := modH_in v 1099511627776 (by omega)
        obtain ⟨x, HX⟩ : ∃ x, Hid (modH v 1099511627776 = x) := ⟨_, mkHid rfl⟩
        rw [HX.out] at hx
        have C18 : Hid (∀ p : Wn, Calls Try.prog 18 #[.int .i64 v, .int .i64 1099511627776] (wd wr p) fun e w' => e = .returned (.int .i64 x) ∧ Apart (fun _ => False) (wd wr p) w') := by
          intro p
          rw [← HX.out]
          exact (mod64_any v 1099511627776 (by omega) (by omega) (wd wr p)).mono (fun e w' ⟨h1, h2⟩ => ⟨h1, by rw [h2]; exact Apart.refl _ _⟩)
        clear hv hu hg c0 c1 v0 v1 d0 d1
        go_upto_region 10 with fail
        refine wp_region_wd (by kernel_rfl) (by kernel_rfl) ?_
        repeat (go_big_quiet_step ((go_at_call 18; exact wd_call (C18.out _))))
        refine wpQuiet_nil ?_
        rintro _ ⟨p, rfl⟩
        have A0 := mkHid (wd_apart wr p)
        obtain ⟨wq, HWQ⟩ : ∃ wq, Hid (wd wr p = wq) := ⟨_, mkHid rfl⟩
        rw [HWQ.out] at A0 ⊢
        clear p0 p1 C18 HWQ
        obtain ⟨Q1, hb⟩ := HL.out.bs
        obtain ⟨Q2, hc⟩ := HL.out.cs
        have hb := hb.kept A0.out (fun h => h)
        have HCq := mkHid (hc.kept A0.out (fun h => h))
        obtain ⟨n, hn⟩ : ∃ n, rwN 1000 x = n := ⟨_, rfl⟩
        have hn0 := rwN_in 1000 x (by omega)
        rw [hn] at hn0
        obtain ⟨q, hq⟩ : ∃ q, quE k N L n d = q := ⟨_, rfl⟩
        have hqm : quE k N (mapD D L) n (d + D) = q := by rw [quE_map]; exact hq
        have q0 : 0 ≤ q := by rw [← hq]; exact quE_ge _ _ _ _ _
        have C1 := mkHid (bs_add hb x d n d q hn (by unfold dlH; omega) hq)
        have NW := mkHid (HL.out.new.add (k := k) (d := d) k1 hn0.1)
        have QP := mkHid (fun h : 0 < q => by have := quE_pos (k := k) (N := N) (L := L) (n := n) (d := d) (by rw [hq]; exact h); rw [hq] at this; exact this)
        have HN := mkHid hn
        have HQ := mkHid hq
        have HQM := mkHid hqm
        clear hb hc hn hq hqm hn0
        go_wp2_with fail
        refine C1.out.mono ?_
        rintro e w2 ⟨rfl, h2b, b2⟩
        have A2 := mkHid ((HL.out.ap.same A0.out).later (Nat.le_of_eq HB.out) b2)
        have H2 := mkHid h2b
        have C2 := mkHid (bs_add (HCq.out.kept b2 (fun e => by have := HBC.out; omega)) x (d + D) n (d + D) q HN.out (by unfold dlH; omega) HQM.out)
        clear h2b b2 C1
        go_wp2_with fail
        refine C2.out.mono ?_
        rintro e w3 ⟨rfl, h3c, b3⟩
        have hbw := H2.out.lt
        have A3 := mkHid (A2.out.later (b := c) (by have := HB.out; have := HBC.out; omega) b3)
        have H3 := mkHid h3c
        have G3 := mkHid (H2.out.kept b3 (fun e => by have := HBC.out; omega))
        have C3 := mkHid (bs_queue G3.out)
        have C4 := mkHid (bs_least G3.out)
        obtain ⟨m, hm⟩ : ∃ m, (lm (addL k N L n d)).1 = m := ⟨_, rfl⟩
        have LS := mkHid (lm_some (ne_of_mem NW.out))
        rw [hm] at LS QP
        rw [LS.out] at C4
        have qb : q ≤ 2251799813685248 := by
          obtain ⟨R, _, hi, _⟩ := G3.out
          rw [← HQ.out]
          exact quE_le hi (by omega)
        have eq : IntKind.i64.wrap (d - q) = d - q := by rw [IntKind.wrap_i64]; omega
        have q1 : ¬ q < 0 := by omega
        clear hm h3c b3 C2 H2 hbw
        go_wp2_with fail
        refine C3.out.mono ?_
        rintro e y ⟨rfl, hy⟩
        subst y
        go_wp2_with fail
        refine C4.out.mono ?_
        rintro e w4 ⟨rfl, b4⟩
        have A4 := mkHid (A3.out.same b4)
        have G4 := mkHid (G3.out.kept b4 (fun h => h))
        have H4 := mkHid (H3.out.kept b4 (fun h => h))
        clear b4 C3 C4 H3 G3
        by_cases hq : 0 < q
        · have hqm := QP.out hq
          go_wp2_with fail
          go_roundg (len1 - (j + 1))
          · exact ⟨j + 1, rfl, by omega, rfl, mkHid ⟨_, _, ⟨.inr NW.out, ⟨_, G4.out⟩, ⟨_, by have := H4.out; rw [addL_map] at this; exact this⟩, A4.out⟩⟩⟩
          · omega
        · go_wp2_with fail
          go_roundg (len1 - (j + 1))
          · exact ⟨j + 1, rfl, by omega, rfl, mkHid ⟨_, _, ⟨.inr NW.out, ⟨_, G4.out⟩, ⟨_, by have := H4.out; rw [addL_map] at this; exact this⟩, A4.out⟩⟩⟩
          · omega
      · have h21 : ¬ (j : Int) < 100 := by omega
        go_wp2_with fail
        refine (WK.out _).mono ?_
        rintro e w2 ⟨rfl, b2⟩
        go_wp2
        go_ret
        exact ⟨rfl, (HL.out.ap.same b2).none.belowZ⟩
    · have hlt1 : ¬ (j : Int) < len1 := by omega
      go_wp2_with fail
      refine (WK.out _).mono ?_
      rintro e w2 ⟨rfl, b2⟩
      go_wp2
      go_ret
      exact ⟨rfl, (HL.out.ap.same b2).none.belowZ⟩

set_option maxRecDepth 100000 in
theorem lifted (os : Os) (started : os.Started) (H : Type) (enc : TypeId × Value → H) :
    ReturnsInHanded {} Try.checked os 4 .any (Rows.baseAboveSpec.pre6 enc Try.prog Try.f4 Rows.baseAboveRow.domain false) (Rows.baseAboveSpec.post enc Try.prog Try.f4 false true false false) := by
  refine returnsInHanded_of_change (C := Try.checked) own started (by kernel_rfl) Try.func4
    (ChangeSpec.witness6 (enc := enc) (C := Try.checked) false ⟨#[], #[.int .i64 0, .slice none 0 0, .int .i64 0], []⟩ 8 (by kernel_rfl) (by kernel_rfl) (by kernel_rfl) (by kernel_rfl)) ?_
  intro W base args ds gs before hval0 hW hcnd _
  have hval : ∀ (j : Nat) t v, Try.f4.params[j]? = some t → args[j]? = some v → Value.okWide Try.prog W .any base t v := hval0
  have hW' := hW
  obtain ⟨p, q, hA0, hV, rfl, hfz, hnd⟩ := hW
  have hA : DataW.TrodAll enc Try.prog W 0 (fun _ => true) true Try.f4.params.toList args.toList ds p := hA0
  rw [Try.params4] at hA hval
  obtain ⟨v0, vs0, d0, ds0, p0, q0, hargs, rfl, rfl, h0, r0⟩ := trodAll_cons hA
  obtain ⟨v1, vs1, d1, ds1, p1, q1, rfl, rfl, rfl, h1, r1⟩ := trodAll_cons r0
  obtain ⟨v2, vs2, d2, ds2, p2, q2, rfl, rfl, rfl, h2, r2⟩ := trodAll_cons r1
  obtain ⟨rfl, rfl, rfl⟩ := trodAll_nil r2
  obtain rfl : args = #[v0, v1, v2] := by cases args; simp_all
  obtain ⟨rfl, rfl⟩ := trodVars_none hV
  obtain ⟨a0, rfl, rfl, rfl, w0⟩ := open_int Try.underlying3 (hval 0 3 v0 rfl rfl) h0
  obtain ⟨a1, len1, cap1, rfl⟩ := okWide_slice Try.underlying22 (hval 1 22 v1 rfl rfl)
  have k1 := h1
  have lt1 : ∀ x ∈ p1, x.block < W.heap.size := by obtain ⟨m, hm⟩ := k1; exact DataW.trod_lt m _ _ _ hm
  have w1 := open1 h1
  obtain ⟨a2, rfl, rfl, rfl, w2⟩ := open_int Try.underlying2 (hval 2 2 v2 rfl rfl) h2
  clear hA0 hval0
  refine (walk a0 a1 len1 cap1 a2 W w0 w1 w2).mono fun e W' ⟨he, bel⟩ => ?_
  subst he
  exact ⟨_, rfl, _, _, _, [], _, [], hW', trodAll_mk1 (shut_bool Try.underlying4 _), (trodAll_cons_mk (shut_int Try.underlying3 w0) (trodAll_cons_mk (Below.trod laidOut (by kernel_rfl) (of_decide_eq_true (by kernel_rfl)) k1 bel lt1) (trodAll_cons_mk (shut_int Try.underlying2 w2) trodAll_mk0))), rfl, bel.frame _, fun h => by cases h⟩

theorem over : Rows.baseAboveRow.holds Try.pinned (OpenSpec.ofChange Rows.baseAboveSpec) :=
  OpenClaim.holds_of_wide 4 Try.f4 rfl rfl rfl rfl rfl rfl rfl ⟨rfl, rfl, rfl, rfl, rfl⟩ rfl rfl rfl rfl rfl (by kernel_rfl) Try.func4 (by kernel_rfl)
    (of_decide_eq_true (by kernel_rfl)) (by unfold Func.isWrapper; first | (rw [if_pos (by decide +kernel)]; kernel_rfl) | (rw [if_neg (by decide +kernel)]; exact ⟨rfl, rfl⟩))
    (fun os started H enc _ => lifted os started H enc)
end Go.Proofs.Ytnjghgbaffkafaa.baseAbove
namespace Go.Proofs.Ytnjghgbaffkafaa
/-- The statement. -/
theorem baseAbove_holds : Rows.BaseAboveSaid := baseAbove.over
#print axioms baseAbove_holds
end Go.Proofs.Ytnjghgbaffkafaa
