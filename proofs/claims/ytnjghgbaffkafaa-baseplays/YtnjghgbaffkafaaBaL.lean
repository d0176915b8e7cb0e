/-
  The reference's Add.
-/
import Derived.Test.YtnjghgbaffkafaaBaK
import Derived.Deep.RegionHeld3
namespace Go.Proofs.Ytnjghgbaffkafaa
open Go.RowKit

/-- An append, kept shut till its equation is met. -/
def appR (ats : Array TypeId) (ty : TypeId) (args : Array Value) : Sem Value := Builtin.append_ ats ty args
theorem app_shut {ats : Array TypeId} {ty : TypeId} {args : Array Value} : Builtin.append_ ats ty args = appR ats ty args := rfl
theorem app_run {ats : Array TypeId} {ty : TypeId} {args : Array Value} {w w' : World} {v : Value} (h : Sem.run Try.prog (Builtin.append_ ats ty args) w = .ok v w') : Sem.run Try.prog (appR ats ty args) w = .ok v w' := h
theorem nx_alloc {w : World} {g : Nat} {o o' : Obj} (h : w.heap[g]? = some o') : (w.alloc o).heap[g]? = some o' := ((Apart.refl (fun _ => False) w).alloc o).heap h (fun h => h)
theorem own_empty_at {w : World} {g : Nat} {e : TypeId} {size base : Nat} (h : w.heap[g]? = some (.cells #[] e (0, 0))) (hb : base ≤ g) : w.ownsRow base e size (.slice (some ⟨g, 0, none⟩) 0 0) 0 [] :=
  ⟨by simp, .inr ⟨g, 0, #[], rfl, hb, h, Nat.le_refl _, by unfold maxLen; omega, by simp, by simp⟩⟩
theorem grown_apart {w w' : World} {row : Option Nat} (h : w.grownBy w' row) : Apart (fun k => some k = row) w w' := ⟨h.os, h.tape, h.output, h.size, fun k hk hn => h.block k hk hn⟩
theorem src_at {w : World} {g : Nat} {n z : Int} (h : w.heap[g]? = some (.cells #[.int .i64 n, .int .i64 z] 55 (0, 0))) : SrcN w 2 (.slice (some ⟨g, 0, none⟩) 1 1) 1 (sE (n, z)) := by
  refine .inr ⟨_, 1, rfl, rfl, fun j u hj => ?_⟩
  rw [Addr.add_lit, Nat.zero_add, cell_of_row _ _ j _ 55 _ h]
  simpa [sE] using hj
theorem src_kept {w w' : World} {X : Nat → Prop} {size n : Nat} {v : Value} {xs : List Value} {N : Nat → Prop} (h : Lq N w size v n xs) (ha : Apart X w w') (hx : ∀ k, N k → ¬ X k) : SrcN w' size v n xs := (h.kept ha hx).src
theorem own_lt {w : World} {base : Nat} {e : TypeId} {size : Nat} {v : Value} {n : Nat} {xs : List Value} (h : w.ownsRow base e size v n xs) : ∀ k, v.ownBlock = some k → base ≤ k ∧ k < w.heap.size := by
  intro k hk
  rcases h.2 with ⟨rfl, _⟩ | ⟨g, cap, cur, rfl, hg, hh, _⟩
  · cases hk
  · have e : g = k := by simpa [Value.ownBlock] using hk
    subst e
    exact ⟨hg, lt_of_heap hh⟩
/-- A copy into a new row. -/
theorem copy_told {w : World} {g n cp : Nat} {ad : Option Addr} {L : List Sp} (hg : w.heap[g]? = some (.cells #[] 55 (0, 0))) (hS : SrcN w 2 (.slice ad n cp) n (sC L)) (hm : n ≤ 4096) :
    ∃ ad7 cp7 w7, Sem.run Try.prog (Builtin.append_ #[49, 49] 49 #[.slice (some ⟨g, 0, none⟩) 0 0, .slice ad n cp]) w = .ok (.slice ad7 n cp7) w7 ∧ w7.ownsRow g 55 2 (.slice ad7 n cp7) n (sC L) ∧ Apart (· = g) w w7 := by
  obtain ⟨i3, hi3, hz30, hz31, hz32⟩ := info55
  have hl := lt_of_heap hg
  obtain ⟨v7, w7, hr, own, gr, -⟩ := run_append_told (P := Try.prog) w g 49 49 55 i3 _ 2 16 Try.underlying49 hi3 hz30 hz31 hz32 rfl (by decide) _ 0 [] (own_empty_at hg (Nat.le_refl _)) _ n (sC L) hS (one_sC _) (by unfold maxLen; omega) (by omega) (by omega)
  rw [Nat.zero_add, List.nil_append] at own
  obtain ⟨ad7, cp7, rfl⟩ := ownsRow_slice own
  refine ⟨ad7, cp7, w7, hr, own, (grown_apart gr).mono (fun i hi e => ?_)⟩
  simp only [Value.ownBlock, Option.some.injEq] at e
  exact e
/-- One more. -/
theorem put_told {w : World} {B g n cp : Nat} {ad : Option Addr} {L : List Sp} {x z : Int} (own : w.ownsRow B 55 2 (.slice ad n cp) n (sC L)) (hB : B ≤ w.heap.size) (hb : w.heap[g]? = some (.cells #[.int .i64 x, .int .i64 z] 55 (0, 0))) (hm : n ≤ 4096) :
    ∃ ad7 cp7 w7, Sem.run Try.prog (Builtin.append_ #[49, 49] 49 #[.slice ad n cp, .slice (some ⟨g, 0, none⟩) 1 1]) w = .ok (.slice ad7 (n + 1) cp7) w7 ∧ w7.ownsRow B 55 2 (.slice ad7 (n + 1) cp7) (n + 1) (sC (L ++ [(x, z)])) ∧ Apart (B ≤ ·) w w7 := by
  obtain ⟨i3, hi3, hz30, hz31, hz32⟩ := info55
  obtain ⟨v7, w7, hr, own7, gr, -⟩ := run_append_told (P := Try.prog) w B 49 49 55 i3 _ 2 16 Try.underlying49 hi3 hz30 hz31 hz32 rfl (by decide) _ n (sC L) own _ 1 (sE (x, z)) (src_at hb) (one_sE (x, z)) (by unfold maxLen; omega) (by omega) hB
  obtain ⟨ad7, cp7, rfl⟩ := ownsRow_slice own7
  refine ⟨ad7, cp7, w7, hr, by rw [sC_app, sC_one]; exact own7, (grown_apart gr).mono (fun i hi e => (own_lt own _ e.symm).1)⟩
theorem three {v w : World} {c sb : Nat} {W : Int} {k : Nat} {lv : Value} {N : Int} {sm : Bool} {Q n z : Int} (ha : Apart (fun _ => False) v w) (hB : Rb v c W k lv N sm Q) (hS : v.heap[sb]? = some (.cells #[.int .i64 n, .int .i64 z] 55 (0, 0))) :
    w.cell? ⟨c, 2, none⟩ = some lv ∧ w.cell? ⟨sb, 0, none⟩ = some (.int .i64 n) ∧ w.cell? ⟨sb, 1, none⟩ = some (.int .i64 z) :=
  ⟨(cells6 (ha.heap hB (fun h => h))).2.2.1, (cells2 (ha.heap hS (fun h => h))).1, (cells2 (ha.heap hS (fun h => h))).2.1⟩
attribute [local go_sem ↓] app_shut
def hlB (a lo hi : Int) : Int := max lo (min a hi)
theorem held_all (a lo hi : Int) (hl : lo ≤ hi) (w : World) : Calls Try.prog 22 #[.int .i64 a, .int .i64 lo, .int .i64 hi] w fun e w' => e = .returned (.int .i64 (hlB a lo hi)) ∧ w' = w := held_any a lo hi hl w
set_option maxHeartbeats 8000000 in
set_option maxRecDepth 100000 in
theorem radd_any {b : Nat} {w : World} {c : Nat} {W : Int} {k : Nat} {L : List Sp} {N Q : Int} {R : Nat → Rw} (h : Rr b w c W k L N Q) (hi : Inv k R N L) (W1 : 1 ≤ W) (W2 : W ≤ 1125899906842624) (hb : b < w.heap.size) (hl : L.length ≤ 4095)
    (a d n z q : Int) (hn : rwN W a = n) (hz : dlH d = z) (hq : quE k N L n z = q) :
    Calls Try.prog 11 #[.pointer (some ⟨c, 0, none⟩), .int .i64 a, .int .i64 d] w fun e w' => e = .returned (.int .i64 q) ∧ Rr b w' c W k (addL k N L n z) (max N n) q ∧ Apart (fun k => k = c) w w' := by
  obtain ⟨lv, sm, h1, h2, hs⟩ := h
  have bn := rwN_in W a W1
  have bz := dlH_in d
  rw [hn] at bn
  rw [hz] at bz
  obtain ⟨x, hx⟩ : ∃ x, max 0 (min a 1125899906842624) = x := ⟨_, rfl⟩
  have hx0 : 0 ≤ x := by omega
  have hx1 : x ≤ 1125899906842624 := by omega
  have hd : x.tdiv W = n := by rw [← hn, ← hx]; unfold rwN; exact Int.tdiv_eq_ediv_of_nonneg (by omega)
  have hw : IntKind.i64.wrap n = n := by rw [IntKind.wrap_i64]; omega
  have w0 : ¬ W = 0 := by omega
  have wm : ¬ W = -1 := by omega
  have gx : hlB a 0 1125899906842624 = x := hx
  have gz : hlB d (-1125899906842624) 1125899906842624 = z := hz
  have k0 := hi.k0
  have k1 := hi.k1
  have m0 := hi.n0
  have m1 := hi.n1
  have HI := mkHid hi
  have HQ := mkHid hq
  have HS := mkHid hs
  have H1 := mkHid h1
  have H2 := mkHid h2
  have c0 := (cells6 h1).1
  clear hq hn hz hx h1 h2 hs hi
  go_enter Try.func11, Try.ntmps11
  go_upto_region 1 with fail
  go_cut [7] (fun v wc => v = .pointer (some ⟨w.heap.size, 0, none⟩) ∧ wc = (w.alloc (.cells #[.int .i64 n, .int .i64 z] 55)).drew)
  case first =>
    go_region_held3 (fun w' => w'.cell? ⟨c, 0, none⟩ = some (.int .i64 W)) (go_keep) (first | (go_at_call 22; refine (held_all _ _ _ (by omega) _).mono ?_; rintro e w3 ⟨rfl, rfl⟩))
    all_goals (try go_wp2)
    all_goals go_meet
    all_goals exact ⟨rfl, rfl⟩
  case rest =>
    obtain ⟨rfl, hwc⟩ := hcut
    have A1 := mkHid (show Apart (fun _ => False) w wc by rw [hwc]; exact ((Apart.refl _ _).alloc _).drew)
    have S1 := mkHid (show wc.heap[w.heap.size]? = some (.cells #[.int .i64 n, .int .i64 z] 55 (0, 0)) by rw [hwc]; exact heap_alloc_new w _)
    obtain ⟨sb, HSB⟩ : ∃ sb, Hid (w.heap.size = sb) := ⟨_, mkHid rfl⟩
    rw [HSB.out] at S1 ⊢
    have B1 := mkHid (H1.out.kept A1.out (fun h => h))
    have L1 := mkHid (H2.out.kept A1.out (fun _ _ h => h))
    have hcs : c < sb := by rw [← HSB.out]; exact lt_of_heap H1.out
    clear hwc c0 gx gz H1 H2 hd hw
    obtain ⟨v1, HV1⟩ : ∃ v, Hid (wc = v) := ⟨_, mkHid rfl⟩
    rw [HV1.out] at A1 S1 B1 L1 ⊢
    clear HV1
    have d0 := fun p => (cells2 (wd_heap S1.out p)).1
    have r3 := fun p => (cells6 (wd_heap B1.out p)).2.2.2.1
    have r4 := fun p => (cells6 (wd_heap B1.out p)).2.2.2.2.1
    obtain ⟨M, HM⟩ : ∃ M, Hid (max N n = M) := ⟨_, mkHid rfl⟩
    go_upto_region 2 with fail
    go_cut [36] (fun v wc => ∃ fl : Bool, v = .bool fl ∧ Hid ((fl = true → max N n = n) ∧ (fl = false → sm = true ∧ max N n = N)) ∧ Hid (Apart (fun _ => False) v1 wc))
    case first =>
      cases sm with
      | false =>
        refine wp_region_wd (by kernel_rfl) (by kernel_rfl) ?_
        repeat (go_big_quiet_step (fail))
        refine wpQuiet_nil ?_
        rintro _ ⟨p, rfl⟩
        have A2 := mkHid (wd_apart v1 p)
        obtain ⟨wq, HWQ⟩ : ∃ wq, Hid (wd v1 p = wq) := ⟨_, mkHid rfl⟩
        rw [HWQ.out] at A2 ⊢
        clear d0 r3 r4
        go_wp2_with fail
        go_meet
        exact ⟨true, rfl, mkHid ⟨fun _ => (by have := HS.out (by first | rfl | trivial); omega), fun h => by cases h⟩, A2⟩
      | true =>
        by_cases hlt : N < n
        · refine wp_region_wd (by kernel_rfl) (by kernel_rfl) ?_
          repeat (go_big_quiet_step (fail))
          refine wpQuiet_nil ?_
          rintro _ ⟨p, rfl⟩
          have A2 := mkHid (wd_apart v1 p)
          obtain ⟨wq, HWQ⟩ : ∃ wq, Hid (wd v1 p = wq) := ⟨_, mkHid rfl⟩
          rw [HWQ.out] at A2 ⊢
          clear d0 r3 r4
          go_wp2_with fail
          go_meet
          exact ⟨true, rfl, mkHid ⟨fun _ => (by omega), fun h => by cases h⟩, A2⟩
        · refine wp_region_wd (by kernel_rfl) (by kernel_rfl) ?_
          repeat (go_big_quiet_step (fail))
          refine wpQuiet_nil ?_
          rintro _ ⟨p, rfl⟩
          have A2 := mkHid (wd_apart v1 p)
          obtain ⟨wq, HWQ⟩ : ∃ wq, Hid (wd v1 p = wq) := ⟨_, mkHid rfl⟩
          rw [HWQ.out] at A2 ⊢
          clear d0 r3 r4
          go_wp2_with fail
          go_meet
          exact ⟨false, rfl, mkHid ⟨(fun h => by cases h), fun _ => ⟨(by first | rfl | trivial), by omega⟩⟩, A2⟩
    case rest =>
      obtain ⟨fl, rfl, FL, A2⟩ := hcut
      clear d0 r3 r4
      obtain ⟨v2, HV2⟩ : ∃ v, Hid (wc = v) := ⟨_, mkHid rfl⟩
      rw [HV2.out] at A2 ⊢
      clear HV2
      have B2 := mkHid (B1.out.kept A2.out (fun h => h))
      have S2 := mkHid (A2.out.heap S1.out (fun h => h))
      go_upto_if 36 with fail
      go_cut [] (fun wc => Hid (Rb wc c W k lv M true Q) ∧ Hid (Apart (fun k => k = c) v2 wc))
      case first =>
        obtain ⟨c0, c1, c2, c3, c4, c5, cf⟩ := cells6 B2.out
        clear c0 c1 c2 c5
        have d0 := (cells2 S2.out).1
        have H1 := mkHid (heap_setCell_same v2 c 3 _ 51 (.int .i64 n) B2.out)
        have H2 := mkHid (heap_setCell_same _ c 4 _ 51 (.bool true) H1.out)
        have cf1 := fun q => frozen_of H1.out q
        cases fl with
        | true =>
          go_wp2_with fail
          go_meet
          exact ⟨by rw [← HM.out, FL.out.1 (by first | rfl | trivial)]; exact H2, mkHid ((ap_set v2 c 3 _).trans (ap_set _ c 4 _) (fun _ _ h => h))⟩
        | false =>
          obtain ⟨e1, e2⟩ := FL.out.2 rfl
          subst e1
          go_wp2_with fail
          go_meet
          exact ⟨by rw [← HM.out, e2]; exact B2, mkHid (Apart.refl _ _)⟩
      case rest =>
        obtain ⟨B3, A3⟩ := hcut
        obtain ⟨v3, HV3⟩ : ∃ v, Hid (wc = v) := ⟨_, mkHid rfl⟩
        rw [HV3.out] at B3 A3 ⊢
        clear HV3
        have S3 := mkHid (A3.out.heap S2.out (fun e : sb = c => by omega))
        have L3 := mkHid ((L1.out.kept A2.out (fun _ _ h => h)).kept A3.out (fun g hg e => hg.2 e))
        obtain ⟨m, HMM⟩ : ∃ m, Hid (L.length = m) := ⟨_, mkHid rfl⟩
        rw [HMM.out] at L3 hl
        obtain ⟨la, lc, rfl⟩ := L3.out.slice
        have hm2 : m ≤ 4096 := by omega
        -- the worlds that the region passes through
        have AC := mkHid (show Apart (fun _ => False) v3 (v3.alloc (.cells #[] 55)).drew from ((Apart.refl (fun _ => False) v3).alloc _).drew)
        have AD := mkHid (show Apart (fun _ => False) v3 (v3.alloc (.cells #[.int .i64 n, .int .i64 z] 55)).drew from ((Apart.refl (fun _ => False) v3).alloc _).drew)
        have AA := mkHid (show Apart (fun _ => False) v3 ((v3.alloc (.cells #[] 55)).alloc (.cells #[.int .i64 n, .int .i64 z] 55)).drew from (((Apart.refl (fun _ => False) v3).alloc _).alloc _).drew)
        have AB := mkHid (show Apart (fun _ => False) v3 ((v3.alloc (.cells #[.int .i64 n, .int .i64 z] 55)).alloc (.cells #[] 55)).drew from (((Apart.refl (fun _ => False) v3).alloc _).alloc _).drew)
        have szE : (v3.alloc (.cells #[] 55)).heap.size = v3.heap.size + 1 := by simp
        have szP : (v3.alloc (.cells #[.int .i64 n, .int .i64 z] 55)).heap.size = v3.heap.size + 1 := by simp
        obtain ⟨adC, cpC, wC, rC, oC, aC⟩ := copy_told (cp := lc) (show (v3.alloc (.cells #[] 55)).drew.heap[v3.heap.size]? = some (.cells #[] 55 (0, 0)) from heap_alloc_new v3 _) (src_kept L3.out AC.out (fun _ _ h => h)) hm2
        obtain ⟨adA, cpA, wA, rA, oA, aA⟩ := copy_told (cp := lc) (show ((v3.alloc (.cells #[] 55)).alloc (.cells #[.int .i64 n, .int .i64 z] 55)).drew.heap[v3.heap.size]? = some (.cells #[] 55 (0, 0)) from nx_alloc (heap_alloc_new v3 _)) (src_kept L3.out AA.out (fun _ _ h => h)) hm2
        obtain ⟨adB, cpB, wB, rB, oB, aB⟩ := copy_told (cp := lc) (g := v3.heap.size + 1) (show ((v3.alloc (.cells #[.int .i64 n, .int .i64 z] 55)).alloc (.cells #[] 55)).drew.heap[v3.heap.size + 1]? = some (.cells #[] 55 (0, 0)) by
          have := heap_alloc_new (v3.alloc (.cells #[.int .i64 n, .int .i64 z] 55)) (.cells #[] 55)
          rw [szP] at this
          exact this) (src_kept L3.out AB.out (fun _ _ h => h)) hm2
        have bA := (show ((v3.alloc (.cells #[] 55)).alloc (.cells #[.int .i64 n, .int .i64 z] 55)).drew.heap[v3.heap.size + 1]? = some (.cells #[.int .i64 n, .int .i64 z] 55 (0, 0)) by
          have := heap_alloc_new (v3.alloc (.cells #[] 55)) (.cells #[.int .i64 n, .int .i64 z] 55)
          rw [szE] at this
          exact this)
        have bB := (show ((v3.alloc (.cells #[.int .i64 n, .int .i64 z] 55)).alloc (.cells #[] 55)).drew.heap[v3.heap.size]? = some (.cells #[.int .i64 n, .int .i64 z] 55 (0, 0)) from nx_alloc (heap_alloc_new v3 _))
        have szA := aA.size
        have szB := aB.size
        have szC := aC.size
        have qA : ((v3.alloc (.cells #[] 55)).alloc (.cells #[.int .i64 n, .int .i64 z] 55)).drew.heap.size = v3.heap.size + 2 := by show ((v3.alloc (.cells #[] 55)).alloc (.cells #[.int .i64 n, .int .i64 z] 55)).heap.size = _; simp
        have qB : ((v3.alloc (.cells #[.int .i64 n, .int .i64 z] 55)).alloc (.cells #[] 55)).drew.heap.size = v3.heap.size + 2 := by show ((v3.alloc (.cells #[.int .i64 n, .int .i64 z] 55)).alloc (.cells #[] 55)).heap.size = _; simp
        have qC : (v3.alloc (.cells #[] 55)).drew.heap.size = v3.heap.size + 1 := szE
        rw [qA] at szA
        rw [qB] at szB
        rw [qC] at szC
        have up : ∀ {W2 : World} {k : Nat}, v3.heap.size ≤ k → Apart (fun _ => False) v3 W2 → ∀ {W3 : World}, Apart (· = k) W2 W3 → Apart (v3.heap.size ≤ ·) v3 W3 := fun hk a1 _ a2 => (a1.mono (fun _ _ h => h.elim)).trans a2 (fun i _ e => by subst e; exact hk)
        have uA := up (Nat.le_refl _) AA.out aA
        have uB := up (Nat.le_succ _) AB.out aB
        have uC := up (Nat.le_refl _) AC.out aC
        clear up
        have oD := ownsRow_apart oC ((Apart.refl (fun _ => False) wC).alloc (.cells #[.int .i64 n, .int .i64 z] 55)) (fun _ _ h => h)
        have uD := uC.alloc (.cells #[.int .i64 n, .int .i64 z] 55)
        obtain ⟨adA2, cpA2, wA2, rA2, oA2, aA2⟩ := put_told oA (by omega) (aA.heap bA (by omega)) hm2
        obtain ⟨adB2, cpB2, wB2, rB2, oB2, aB2⟩ := put_told (ownsRow_base oB (Nat.le_succ v3.heap.size)) (by omega) (aB.heap bB (by omega)) hm2
        obtain ⟨adC2, cpC2, wC2, rC2, oC2, aC2⟩ := put_told (g := wC.heap.size) (x := n) (z := z) oD (by simp; omega) (heap_alloc_new wC _) hm2
        have FA := mkHid (And.intro (mkHid oA2) (mkHid (uA.trans aA2 (fun _ _ e => e)).none))
        have FB := mkHid (And.intro (mkHid oB2) (mkHid (uB.trans aB2 (fun _ _ e => e)).none))
        have FC := mkHid (And.intro (mkHid oC2) (mkHid (uD.trans aC2 (fun _ _ e => e)).none))
        obtain ⟨p1, p2, p3⟩ := three AA.out B3.out S3.out
        obtain ⟨q1, q2, q3⟩ := three AB.out B3.out S3.out
        obtain ⟨e1, e2, e3⟩ := three AC.out B3.out S3.out
        obtain ⟨d1, d2, d3⟩ := three AD.out B3.out S3.out
        obtain ⟨w1, w2, w3⟩ := three ((Apart.refl (fun _ => False) v3).drew) B3.out S3.out
        obtain ⟨f1, f2, f3⟩ := three uC.none B3.out S3.out
        clear oA oB oC oD aA aB aC bA bB uA uB uC uD aA2 aB2 aC2 oA2 oB2 oC2 szA szB szC qA qB qC szE szP
        replace rA := app_run rA
        replace rB := app_run rB
        replace rC := app_run rC
        replace rA2 := app_run rA2
        replace rB2 := app_run rB2
        replace rC2 := app_run rC2
        go_upto_region 5 with fail
        go_cut [9] (fun v wc => ∃ ad cp, v = .slice ad (m + 1) cp ∧ Hid (wc.ownsRow v3.heap.size 55 2 (.slice ad (m + 1) cp) (m + 1) (sC (L ++ [(n, z)]))) ∧ Hid (Apart (fun _ => False) v3 wc))
        case first =>
          go_region
          all_goals (try go_wp2)
          all_goals go_meet
          all_goals first
            | exact ⟨_, _, rfl, FA.out.1, FA.out.2⟩
            | exact ⟨_, _, rfl, FB.out.1, FB.out.2⟩
            | exact ⟨_, _, rfl, FC.out.1, FC.out.2⟩
        case rest =>
          obtain ⟨ad, cp, rfl, O4, A4⟩ := hcut
          obtain ⟨v4, HV4⟩ : ∃ v, Hid (wc = v) := ⟨_, mkHid rfl⟩
          rw [HV4.out] at O4 A4 ⊢
          have B4 := mkHid (B3.out.kept A4.out (fun h => h))
          have S4 := mkHid (A4.out.heap S3.out (fun h => h))
          clear HV4 p1 p2 p3 q1 q2 q3 e1 e2 e3 d1 d2 d3 w1 w2 w3 f1 f2 f3 rA rB rC rA2 rB2 rC2 FA FB FC AA AB AC AD L3 L1 B1 S1 S3 B2 S2
          obtain ⟨i55, hi55, hz0, hz1, hz2⟩ := info55
          obtain ⟨n1, HN1⟩ : ∃ k, Hid (m + 1 = k) := ⟨_, mkHid rfl⟩
          have hn1 : n1 ≤ 4096 := by have := HN1.out; omega
          have hn1i : (n1 : Int) ≤ 4096 := by omega
          obtain ⟨L2, HL2⟩ : ∃ l, Hid (L ++ [(n, z)] = l) := ⟨_, mkHid rfl⟩
          have hl2 : L2.length = n1 := by rw [← HL2.out, List.length_append, HMM.out, List.length_singleton]; exact HN1.out
          rw [HN1.out, HL2.out] at O4
          rw [HN1.out]
          have HL2N := mkHid hl2
          have Q4 := mkHid (lq_own O4.out)
          have J0 := mkHid (own_nil v4 v4.heap.size 55 2)
          have AP0 := mkHid (Apart.refl (fun _ => False) v4)
          obtain ⟨t, HT⟩ : ∃ t, Hid (M - k = t) := ⟨_, mkHid rfl⟩
          have ht : IntKind.i64.wrap (M - k) = t := by rw [HT.out, IntKind.wrap_i64]; have := HT.out; have := HM.out; omega
          have AW := mkHid ((((A1.out.zz A2.out).mono (Y := fun k => k = c) (fun _ _ h => h.elim)).trans A3.out (fun _ _ h => h)).trans A4.out (fun _ _ h => h.elim))
          have hsz := AW.out.size
          clear hl2 O4
          go_wp2_with fail
          go_loopg [8, 10] n1 (fun kx s8 s10 wr => ∃ i : Nat, s10 = .int .i64 i ∧ i ≤ n1 ∧ kx = n1 - i ∧ Hid (wr.ownsRow v4.heap.size 55 2 s8 (stay t (L2.take i)).length (sC (stay t (L2.take i)))) ∧ Hid (Apart (fun _ => False) v4 wr))
          case atStart => exact ⟨0, rfl, Nat.zero_le _, rfl, J0, AP0⟩
          case round =>
            clear J0 AP0
            obtain ⟨i, rfl, hi, hkx, HO, AP⟩ := hrel
            have hfl : (stay t (L2.take i)).length ≤ i := Nat.le_trans (List.length_filter_le _ _) (List.length_take_le _ _)
            obtain ⟨sa, sc, hsv⟩ := ownsRow_slice HO.out
            subst hsv
            have R8 := mkHid (B4.out.kept AP.out (fun h => h))
            by_cases hlt : i < n1
            · have hlt1 : (i : Int) < n1 := by omega
              obtain ⟨s, hs⟩ : ∃ s, L2[i]? = some s := ⟨_, List.getElem?_eq_getElem (by rw [HL2N.out]; exact hlt)⟩
              have hst : stay t (L2.take (i + 1)) = stay t (L2.take i) ++ if decide (t < s.1) then [s] else [] := by unfold stay; rw [List.take_add_one, hs, List.filter_append]; simp [List.filter_cons]
              obtain ⟨g, off, cc, e, hgw, hgc⟩ : ∃ g off cc, Value.slice ad n1 cp = .slice (some ⟨g, off, none⟩) n1 cc ∧ g < v4.heap.size ∧ ∀ j u, (sC L2)[j]? = some u → v4.cell? ⟨g, off + j, none⟩ = some u := by
                rcases Q4.out with ⟨_, h, _⟩ | ⟨g, off, cc, e, _, _, _, hgw, _, h⟩
                · omega
                · exact ⟨g, off, cc, e, hgw, h⟩
              cases e
              obtain ⟨p, r⟩ := s
              have d0 := hgc _ _ (sC_at hs).1
              have d1 := hgc _ _ (sC_at hs).2
              rw [← Nat.add_assoc] at d1
              simp only at d0 d1
              rw [← AP.out.cell (p := ⟨g, off + i * 2, none⟩) hgw (fun h => h)] at d0
              rw [← AP.out.cell (p := ⟨g, off + i * 2 + 1, none⟩) hgw (fun h => h)] at d1
              have D0 := mkHid d0
              have D1 := mkHid d1
              have f0 := fun y => wd_cell D0.out y
              have r1 := fun y => (cells6 (wd_heap R8.out y)).2.1
              have r3 := fun y => (cells6 (wd_heap R8.out y)).2.2.2.1
              have hw2 : IntKind.i64.wrap ((i : Int) + 1) = (i : Int) + 1 := by rw [IntKind.wrap_i64]; omega
              clear hs hgc d0 d1
              by_cases hin : t < p
              · rw [if_pos (decide_eq_true hin)] at hst
                have HST := mkHid hst
                clear hst
                go_upto_region 9 with fail
                refine wp_region_wd (by kernel_rfl) (by kernel_rfl) ?_
                repeat (go_big_quiet_step (fail))
                refine wpQuiet_nil ?_
                rintro _ ⟨y, rfl⟩
                have e0 := f0 y
                have e1 := wd_cell D1.out y
                have A9 := mkHid (AP.out.zz (wd_apart wr y))
                have O9 := mkHid (ownsRow_apart HO.out (wd_apart wr y) (fun _ _ h => h))
                obtain ⟨W9, HW9⟩ : ∃ x, Hid (wd wr y = x) := ⟨_, mkHid rfl⟩
                rw [HW9.out] at e0 e1 A9 O9 ⊢
                have hs9 := A9.out.size
                clear f0 r1 r3 D0 D1 R8 HO AP
                go_wp2_with (at_builtin; refine wpList_append_told _ rfl (.tmp 75) (.tmp 80) 49 rfl v4.heap.size 55 i55 _ 2 16 Try.underlying49 hi55 hz0 hz1 hz2 rfl (by decide) _ _ _ rfl (ownsRow_apart O9.out ((Apart.refl (fun _ => False) _).alloc _) (fun _ _ h => h)) _ 1 [.int .i64 p, .int .i64 r] rfl (src_new W9 _ 55 2 rfl) (one_sE (p, r)) (by unfold maxLen; omega) (by omega) (by simp; omega) ?_; intro v3 w3 hown hgr hx; have O3 := mkHid hown; have A3' := mkHid (((A9.out).alloc _).grown hgr (fun x hx e => absurd hx (Nat.not_lt.2 (O9.out.lt x e).1))); clear hown hgr hx; obtain ⟨ua, uc, hv⟩ := ownsRow_slice O3.out; subst hv)
                go_roundg (n1 - (i + 1))
                case measure => omega
                case rel => exact ⟨i + 1, by go_num, by omega, rfl, mkHid (by rw [HST.out, List.length_append, sC_app, sC_one]; exact O3.out), A3'⟩
              · rw [if_neg (show ¬ decide (t < p) = true from fun h => hin (of_decide_eq_true h)), List.append_nil] at hst
                go_upto_region 9 with fail
                refine wp_region_wd (by kernel_rfl) (by kernel_rfl) ?_
                repeat (go_big_quiet_step (fail))
                refine wpQuiet_nil ?_
                rintro _ ⟨y, rfl⟩
                have A9 := mkHid (AP.out.zz (wd_apart wr y))
                have O9 := mkHid (ownsRow_apart HO.out (wd_apart wr y) (fun _ _ h => h))
                clear f0 r1 r3 D0 D1
                have HST := mkHid hst
                clear hst
                go_wp2_with fail
                go_roundg (n1 - (i + 1))
                case measure => omega
                case rel => exact ⟨i + 1, by go_num, by omega, rfl, mkHid (by rw [HST.out]; exact O9.out), A9⟩
            · obtain rfl : i = n1 := by omega
              have hst : stay t (L2.take i) = addL k N L n z := by rw [← HL2N.out, List.take_length, ← HL2.out, ← HT.out, ← HM.out]; rfl
              rw [hst] at HO hfl
              rw [hst]
              obtain ⟨L5, HL5⟩ : ∃ l, Hid (addL k N L n z = l) := ⟨_, mkHid rfl⟩
              rw [HL5.out] at HO hfl ⊢
              clear hst
              obtain ⟨k3, HK3⟩ : ∃ k, Hid (L5.length = k) := ⟨_, mkHid rfl⟩
              rw [HK3.out] at HO hfl ⊢
              have hk3 : (k3 : Int) ≤ 4096 := by omega
              have hc4 : c < v4.heap.size := lt_of_heap B4.out
              have H6 := mkHid (heap_setCell_same wr c 2 _ 51 (.slice sa k3 sc) R8.out)
              have H7 := mkHid (show Rb ((wr.setCell ⟨c, 2, none⟩ (.slice sa k3 sc)).setCell ⟨c, 5, none⟩ (.int .i64 0)) c W k (.slice sa k3 sc) M true 0 from heap_setCell_same _ c 5 _ 51 (.int .i64 0) H6.out)
              have AS := mkHid ((ap_set wr c 2 (.slice sa k3 sc)).trans (ap_set _ c 5 (.int .i64 0)) (fun _ _ h => h))
              have S7 := mkHid (AS.out.heap (AP.out.heap S4.out (fun h => h)) (fun e : sb = c => by omega))
              have L7 := mkHid (((lq_own HO.out).kept AS.out (fun k hk e => by have := hk.1; have e : k = c := e; omega)).mono (M := fun g => g ≠ b ∧ g ≠ c) (fun k hk => ⟨by have := hk.1; omega, by have := hk.1; omega⟩))
              have A7 := mkHid ((AW.out.trans AP.out (fun _ _ h => h.elim)).trans AS.out (fun _ _ h => h))
              obtain ⟨c0, c1, c2, c3, c4, c5, cf⟩ := cells6 R8.out
              have cf1 := fun q => frozen_of H6.out q
              obtain ⟨w7, HW7⟩ : ∃ x, Hid ((wr.setCell ⟨c, 2, none⟩ (.slice sa k3 sc)).setCell ⟨c, 5, none⟩ (.int .i64 0) = x) := ⟨_, mkHid rfl⟩
              clear c0 c1 c3 c4
              go_upto_region 13 with fail
              rw [HW7.out] at H7 S7 L7 A7 ⊢
              have r1 := fun y => (cells6 (wd_heap H7.out y)).2.1
              have r3 := fun y => (cells6 (wd_heap H7.out y)).2.2.2.1
              have f0 := fun y => (cells2 (wd_heap S7.out y)).1
              clear c2 c5 cf cf1 H6 AS HO AP R8
              by_cases hin : t < n
              · have hin2 : max N n - k < n := by have := HT.out; have := HM.out; omega
                have hq : z - (lm L5).1 = q := by have := HQ.out; unfold quE at this; rw [if_pos hin2, HL5.out] at this; exact this
                have hbd : -1125899906842624 ≤ (lm L5).1 ∧ (lm L5).1 ≤ 1125899906842624 := by
                  have := (HI.out.add n z (n % k).toNat bn.1 bn.2 bz.1 bz.2 (Int.toNat_of_nonneg (Int.emod_nonneg _ (by omega))) hin2).bound
                  rw [show stay (max N n - k) (L ++ [(n, z)]) = L5 from HL5.out] at this
                  exact this
                refine wp_region_wd (by kernel_rfl) (by kernel_rfl) ?_
                repeat (go_big_quiet_step (fail))
                refine wpQuiet_nil ?_
                rintro _ ⟨y, rfl⟩
                have H9 := mkHid (H7.out.kept (wd_apart w7 y) (fun h => h))
                have L9 := mkHid (L7.out.kept (wd_apart w7 y) (fun _ _ h => h))
                have A9 := mkHid (A7.out.trans (wd_apart w7 y) (fun _ _ h => h.elim))
                have d1 := (cells2 (wd_heap S7.out y)).2.1
                obtain ⟨W9, HW9⟩ : ∃ x, Hid (wd w7 y = x) := ⟨_, mkHid rfl⟩
                rw [HW9.out] at H9 L9 A9 d1 ⊢
                have LS := mkHid (rleast_any (b := b) (L := L5) ⟨_, _, H9.out, (by rw [HK3.out]; exact L9.out), fun h => by cases h⟩ (by rw [HK3.out]; omega))
                obtain ⟨y0, hy0⟩ : ∃ y0, (lm L5).1 = y0 := ⟨_, rfl⟩
                rw [hy0] at LS hq hbd
                have hwz : IntKind.i64.wrap (z - y0) = q := by rw [hq, IntKind.wrap_i64]; omega
                have H10 := mkHid (show Rb (W9.setCell ⟨c, 5, none⟩ (.int .i64 q)) c W k (.slice sa k3 sc) M true q from heap_setCell_same _ c 5 _ 51 (.int .i64 q) H9.out)
                have AS := mkHid (ap_set W9 c 5 (.int .i64 q))
                obtain ⟨c0, c1, c2, c3, c4, c5, cf⟩ := cells6 H9.out
                have g5 := (cells6 H10.out).2.2.2.2.2.1
                clear c0 c1 c2 c3 c4 r1 r3 f0 hy0 hq
                go_wp2_with fail
                refine LS.out.mono ?_
                rintro e u ⟨rfl, hu⟩
                subst u
                go_wp2_with fail
                go_ret
                exact ⟨rfl, ⟨_, _, (by rw [HM.out]; exact H10.out), (by rw [HL5.out, HK3.out]; exact L9.out.kept AS.out (fun k hk e => hk.2 e)), fun h => by cases h⟩, A9.out.trans AS.out (fun _ _ h => h)⟩
              · have hin2 : ¬ max N n - k < n := by have := HT.out; have := HM.out; omega
                have hq : 0 = q := by have := HQ.out; unfold quE at this; rw [if_neg hin2] at this; exact this
                refine wp_region_wd (by kernel_rfl) (by kernel_rfl) ?_
                repeat (go_big_quiet_step (fail))
                refine wpQuiet_nil ?_
                rintro _ ⟨y, rfl⟩
                have H9 := mkHid (H7.out.kept (wd_apart w7 y) (fun h => h))
                have L9 := mkHid (L7.out.kept (wd_apart w7 y) (fun _ _ h => h))
                have A9 := mkHid (A7.out.trans (wd_apart w7 y) (fun _ _ h => h.elim))
                obtain ⟨W9, HW9⟩ : ∃ x, Hid (wd w7 y = x) := ⟨_, mkHid rfl⟩
                rw [HW9.out] at H9 L9 A9 ⊢
                have c5 := (cells6 H9.out).2.2.2.2.2.1
                clear r1 r3 f0
                go_wp2_with fail
                go_ret
                exact ⟨ret_i (by first | rfl | exact hq), ⟨_, _, (by rw [HM.out, ← hq]; exact H9.out), (by rw [HL5.out, HK3.out]; exact L9.out), fun h => by cases h⟩, A9.out⟩
end Go.Proofs.Ytnjghgbaffkafaa
