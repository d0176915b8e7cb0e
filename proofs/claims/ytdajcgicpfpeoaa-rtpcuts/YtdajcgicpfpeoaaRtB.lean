/-
  A header copied into new memory: the function.
-/
import Derived.Test.YtdajcgicpfpeoaaRtC
namespace Go.Proofs.Ytdajcgicpfpeoaa
open Go.RowKit

theorem own_empty (w : World) (base : Nat) (e : TypeId) (size : Nat) (hb : base ≤ w.heap.size) : (w.alloc (.cells #[] e)).ownsRow base e size (.slice (some ⟨w.heap.size, 0, none⟩) 0 0) 0 [] :=
  ⟨by simp, .inr ⟨w.heap.size, 0, #[], rfl, hb, heap_alloc_new _ _, Nat.le_refl _, by unfold maxLen; omega, by simp, by simp⟩⟩
theorem sa_bd {B : Nat} {w : World} {a : Option Addr} {n : Nat} {S : Nat → Int} (h : SA B w a n S) : ∀ i, i < n → 0 ≤ S i ∧ S i < 4294967296 := by
  intro i hi
  rcases h.2 with h0 | ⟨b, off, rfl, hb, hc⟩
  · omega
  · exact (hc i hi).2
theorem xa_bd {B : Nat} {w : World} {a : Option Addr} {n : Nat} {I : Nat → Int} {D : Nat → ByteArray} (h : XA B w a n I D) : ∀ i, i < n → (D i).size ≤ maxLen := by
  intro i hi
  rcases h.2 with h0 | ⟨b, off, rfl, hb, hc⟩
  · omega
  · exact (hc i hi).2.2
/-- The world ahead of the first append. -/
def cw0 (w : World) (mk : Bool) (ty sq tm ss : Int) (v5 v6 : Value) : World := (w.alloc (.cells #[.bool mk, .int .i64 ty, .int .i64 sq, .int .u32 tm, .int .u32 ss, v5, v6] 26)).alloc (.cells #[.bool false, .int .i64 0, .int .i64 0, .int .u32 0, .int .u32 0, .slice none 0 0, .slice none 0 0] 26)
theorem cw0_is (w : World) (mk : Bool) (ty sq tm ss : Int) (v5 v6 : Value) : (cw0 w mk ty sq tm ss v5 v6).heap.size = w.heap.size + 1 + 1 ∧ Hd (cw0 w mk ty sq tm ss v5 v6) w.heap.size mk ty sq tm ss v5 v6 ∧ Hd (cw0 w mk ty sq tm ss v5 v6) (w.heap.size + 1) false 0 0 0 0 (.slice none 0 0) (.slice none 0 0) ∧ Apart (fun _ => False) w (cw0 w mk ty sq tm ss v5 v6) := by
  refine ⟨by simp [cw0], ?_, ?_, ((Apart.refl _ _).alloc _).alloc _⟩
  · exact Hd.kept (w := w.alloc _) (X := fun _ => False) (heap_alloc_new _ _) ((Apart.refl _ _).alloc _) (fun h => h)
  · have := heap_alloc_new (w.alloc (.cells #[.bool mk, .int .i64 ty, .int .i64 sq, .int .u32 tm, .int .u32 ss, v5, v6] 26)) (.cells #[.bool false, .int .i64 0, .int .i64 0, .int .u32 0, .int .u32 0, .slice none 0 0, .slice none 0 0] 26)
    simp only [World.size_alloc] at this
    exact this
theorem ownsRow_apart2 {w w' : World} {X : Nat → Prop} {base : Nat} {e : TypeId} {size : Nat} {v : Value} {n : Nat} {xs : List Value} (h : w.ownsRow base e size v n xs) (ha : Apart X w w') (hx : ∀ k, v.ownBlock = some k → ¬ X k) : w'.ownsRow base e size v n xs := by
  refine ⟨h.1, ?_⟩
  rcases h.2 with hn | ⟨g, cap, cur, rfl, hg, hh, r⟩
  · exact .inl hn
  · exact .inr ⟨g, cap, cur, rfl, hg, ha.heap hh (hx g rfl), r⟩
/-- Behind the first append and its store, and the making of an empty list: what holds. -/
structure Cw (w0 w1 w2 : World) (bx : Nat) (mk : Bool) (ty sq tm ss : Int) (v5 v6 : Value) (ns : Nat) (S : Nat → Int) : Prop where
  ap : Apart (fun _ => False) w0 w2
  d : Hd w2 bx mk ty sq tm ss v5 v6
  y : Hd w2 (bx + 1) false 0 0 0 0 (.slice none 0 0) (.slice none 0 0)
  o : w2.ownsRow (bx + 1 + 1) 22 1 v5 ns (sCells S ns)
  n : w2.ownsRow w1.heap.size 47 2 (.slice (some ⟨w1.heap.size, 0, none⟩) 0 0) 0 []
  z : w2.heap.size = w1.heap.size + 1
  l : bx + 1 + 1 < w1.heap.size
  k : ∀ k, v5.ownBlock = some k → k < w1.heap.size
theorem cw_is {w0 W w1 : World} {bx : Nat} {mk : Bool} {ty sq tm ss : Int} {u5 v6 v5 : Value} {ns : Nat} {S : Nat → Int} (h0 : w0.heap.size = bx) (hl : bx + 1 + 1 < W.heap.size) (ap : Apart (fun _ => False) w0 W) (d : Hd W bx mk ty sq tm ss u5 v6)
    (y : Hd W (bx + 1) false 0 0 0 0 (.slice none 0 0) (.slice none 0 0)) (g : Apart (· = bx + 1 + 1) W w1) (o : w1.ownsRow (bx + 1 + 1) 22 1 v5 ns (sCells S ns)) :
    Cw w0 w1 ((w1.setCell ⟨bx, 5, none⟩ v5).alloc (.cells #[] 47)) bx mk ty sq tm ss v5 v6 ns S := by
  have g2 : Apart (fun _ => False) (w1.setCell ⟨bx, 5, none⟩ v5) ((w1.setCell ⟨bx, 5, none⟩ v5).alloc (.cells #[] 47)) := (Apart.refl _ _).alloc _
  have e : (w1.setCell ⟨bx, 5, none⟩ v5).heap.size = w1.heap.size := by simp
  have hz := g.size
  refine ⟨?_, ?_, ?_, ?_, ?_, ?_, by omega, fun k hk => (o.lt k hk).2⟩
  · exact ((ap.trans g (fun i hi e => by omega)).trans (ap_set w1 bx 5 v5) (fun i hi e => by omega)).trans g2 (fun _ _ h => h)
  · exact ((d.kept g (by omega)).set5 v5).kept g2 (fun h => h)
  · exact ((y.kept g (by omega)).kept (ap_set w1 bx 5 v5) (by omega)).kept g2 (fun h => h)
  · exact (ownsRow_setCell_below o (by simp; omega) _).alloc _
  · have := own_empty (w1.setCell ⟨bx, 5, none⟩ v5) w1.heap.size 47 2 (by rw [e]; exact Nat.le_refl _)
    rw [e] at this
    exact this
  · simp
set_option maxRecDepth 100000 in
set_option maxHeartbeats 400000 in
theorem copy_any (mk : Bool) (ty sq tm ss : Int) (sa ea : Option Addr) (ns sc ne ec : Nat) (S I : Nat → Int) (D : Nat → ByteArray) (w : World) (hs : SA w.heap.size w sa ns S) (hx : XA w.heap.size w ea ne I D) (h1 : ns ≤ 100) (h2 : ne ≤ 100) :
    Calls Try.prog 10 #[hdr mk ty sq tm ss (.slice sa ns sc) (.slice ea ne ec)] w fun e w' => ∃ sa' sc' ea' ec', e = .returned (hdr mk ty sq tm ss (.slice sa' ns sc') (.slice ea' ne ec')) ∧ SA w'.heap.size w' sa' ns S ∧ XA w'.heap.size w' ea' ne I D ∧ Below w.heap.size w w' := by
  obtain ⟨z0, d0, y0, p0⟩ := cw0_is w mk ty sq tm ss (.slice sa ns sc) (.slice ea ne ec)
  have HSB := mkHid (sa_bd hs)
  have HXB := mkHid (xa_bd hx)
  have a1 : Apart (fun _ => False) (cw0 w mk ty sq tm ss (.slice sa ns sc) (.slice ea ne ec)) ((cw0 w mk ty sq tm ss (.slice sa ns sc) (.slice ea ne ec)).alloc (.cells #[] 22)) := (Apart.refl _ _).alloc _
  have A1 := mkHid (p0.trans a1 (fun _ _ h => h))
  have D1 := mkHid (d0.kept a1 (fun h => h))
  have Y1 := mkHid (y0.kept a1 (fun h => h))
  have S1 := mkHid (sa_src (cap := sc) (hs.kept (A1.out.belowF _ (Nat.le_refl _))))
  have HXA := mkHid hx
  have O1 := own_empty (cw0 w mk ty sq tm ss (.slice sa ns sc) (.slice ea ne ec)) (w.heap.size + 1 + 1) 22 1 (by rw [z0]; exact Nat.le_refl _)
  rw [z0] at O1
  have O1 := mkHid O1
  have HZ1 := mkHid (show ((cw0 w mk ty sq tm ss (.slice sa ns sc) (.slice ea ne ec)).alloc (.cells #[] 22)).heap.size = w.heap.size + 1 + 1 + 1 by rw [World.size_alloc, z0])
  unfold cw0 at A1 D1 Y1 S1 O1 HZ1
  have n1 : 0 + ns ≤ maxLen := by unfold maxLen; omega
  have n2 : (0 + ns) * 4 ≤ 140737488355328 := by omega
  have n3 : 0 + ne ≤ maxLen := by unfold maxLen; omega
  have n4 : (0 + ne) * 24 ≤ 140737488355328 := by omega
  have N1 := mkHid n1
  have N2 := mkHid n2
  have N3 := mkHid n3
  have N4 := mkHid n4
  clear hs hx z0 d0 y0 p0 a1 n1 n2 n3 n4
  obtain ⟨i0, hi, hz0, hz1, hz2⟩ := info_parts info22
  obtain ⟨i1, hj, hy0, hy1, hy2⟩ := info_parts info47
  obtain ⟨bx, HBX⟩ : ∃ bx, Hid (w.heap.size = bx) := ⟨_, rfl⟩
  rw [HBX.out] at O1 HZ1 D1 Y1
  go_enter Try.func10, Try.ntmps10
  go_wp2_with (first
    | (at_builtin; rw [HBX.out]; refine wpList_append_onto _ rfl (.tmp 3) (.tmp 5) 23 rfl (bx + 1 + 1) 22 i0 (.int .u32 0) 1 4 Try.underlying23 hi hz0 hz1 hz2 rfl (by decide) (.slice (some ⟨bx + 1 + 1, 0, none⟩) 0 0) 0 [] rfl O1.out (.slice sa ns sc) ns (sCells S ns) rfl S1.out (sCells_one S ns) N1.out N2.out (by rw [HZ1.out]; omega) ?_; intro v1 w1 hown1 hgrow1; rw [Nat.zero_add, List.nil_append] at hown1; have G1 := mkHid (Apart.grown (X := (· = bx + 1 + 1)) (Apart.refl _ _) hgrow1 (fun k _ e => by simp [Value.ownBlock] at e; omega)); obtain ⟨sa1, sc1, hv1⟩ := ownsRow_slice hown1; subst hv1; have C1 := mkHid (cw_is HBX.out (by rw [HZ1.out]; omega) A1.out D1.out Y1.out G1.out hown1); have D2 := mkHid (D1.out.kept G1.out (by omega)); have hc5 := D2.out.cells.1.2.2.2.2.2.1; have hc6 := C1.out.d.cells.1.2.2.2.2.2.2; have hf5 := D2.out.cells.2.2.2.2.2.2.1; clear hown1 hgrow1)
    | (at_builtin; refine wpList_append_onto _ rfl (.tmp 8) (.tmp 10) 24 rfl w1.heap.size 47 i1 (.agg #[.int .i64 0, .string ⟨#[]⟩]) 2 24 Try.underlying24 hj hy0 hy1 hy2 rfl (by decide) (.slice (some ⟨w1.heap.size, 0, none⟩) 0 0) 0 [] rfl C1.out.n (.slice ea ne ec) ne (xC I D ne) rfl (xa_src (HXA.out.kept (C1.out.ap.belowF _ (Nat.le_refl _)))) (xC_one I D ne) N3.out N4.out (by rw [C1.out.z]; omega) ?_; intro v2 w2 hown2 hgrow2; rw [Nat.zero_add, List.nil_append] at hown2; have G2 := mkHid (Apart.grown (X := (· = w1.heap.size)) (Apart.refl _ _) hgrow2 (fun k _ e => by simp [Value.ownBlock] at e; omega)); obtain ⟨ea1, ec1, hv2⟩ := ownsRow_slice hown2; subst hv2; have O3 := mkHid hown2; have D3 := mkHid (C1.out.d.kept G2.out (by have := C1.out.l; omega)); have Y3 := mkHid (C1.out.y.kept G2.out (by have := C1.out.l; omega)); clear hown2 hgrow2 hc5 hc6 hf5; obtain ⟨⟨c0, c1, c2, c3, c4, c5, c6⟩, f0, f1, f2, f3, f4, f5, f6⟩ := D3.out.cells; obtain ⟨⟨e0, e1, e2, e3, e4, e5, e6⟩, k0, k1, k2, k3, k4, k5, k6⟩ := Y3.out.cells))
  rw [put7_eq]
  have ys := Y3.out.kept (ap_set w2 bx 6 (.slice ea1 ne ec1)) (by omega)
  obtain ⟨d4, a4⟩ := put7_is ys mk ty sq tm ss (.slice sa1 ns sc1) (.slice ea1 ne ec1)
  have a5 : Apart (fun j => j = bx ∨ j = bx + 1) w2 (put7 (w2.setCell ⟨bx, 6, none⟩ (.slice ea1 ne ec1)) (bx + 1) mk ty sq tm ss (.slice sa1 ns sc1) (.slice ea1 ne ec1)) :=
    ((ap_set w2 bx 6 (.slice ea1 ne ec1)).mono (fun _ _ h => .inl h)).trans a4 (fun _ _ h => .inr h)
  have hl := C1.out.l
  have o5 := ownsRow_apart (ownsRow_apart2 C1.out.o G2.out (fun k hk e => by have := C1.out.k k hk; omega)) a5 (fun k hk e => by omega)
  have o6 := ownsRow_apart O3.out a5 (fun k hk e => by omega)
  have n1 := N1.out
  have n3 := N3.out
  obtain ⟨_, _, q1, s5⟩ := own_sa o5 (Nat.le_refl _) (by omega) HSB.out
  obtain ⟨_, _, q2, s6⟩ := own_xa o6 (Nat.le_refl _) (by omega) HXB.out
  simp only [Value.slice.injEq] at q1 q2
  obtain ⟨rfl, -, rfl⟩ := q1
  obtain ⟨rfl, -, rfl⟩ := q2
  refine bodyPost_ret (res10 _ rfl d4) rfl ⟨_, _, _, _, rfl, s5, s6, ?_⟩
  exact (((C1.out.ap.trans (X := fun _ => False) G2.out (fun i hi e => by rw [HBX.out] at hi; omega)).trans a5 (fun i hi e => by rw [HBX.out] at hi; omega)).belowF _ (Nat.le_refl _))
end Go.Proofs.Ytdajcgicpfpeoaa
