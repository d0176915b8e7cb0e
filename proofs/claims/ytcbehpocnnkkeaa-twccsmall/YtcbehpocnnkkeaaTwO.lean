/-
  A report that came in: its fields, where its lists lie; what a world keeps of it.
-/
import Derived.Test.YtcbehpocnnkkeaaTwI
import Derived.Test.YtcbehpocnnkkeaaTwB
import Derived.ProofKit
import Derived.OpenShut
import Derived.Deep.Slices
namespace Go.Proofs.Ytcbehpocnnkkeaa
open Go.ChangeShapes Go.WideShapes Go.ChangeAt Go.RowKit

theorem co3 : Try.prog.cellsOf 3 = 1 := by kernel_rfl
theorem co22 : Try.prog.cellsOf 22 = 1 := by kernel_rfl
theorem co23 : Try.prog.cellsOf 23 = 1 := by kernel_rfl
theorem co25 : Try.prog.cellsOf 25 = 7 := by kernel_rfl
theorem open_ia {H : Type} {enc : TypeId × Value → H} {W : World} {v : Value} {fuel : Nat} {x : DataW H × List MemPlace}
    (h : DataW.trod enc Try.prog W 0 (fun _ => true) true fuel 23 [v] = some x) : ∃ (a : Option Addr) (cap : Nat) (l : List Int), v = .slice a l.length cap ∧ IA W.heap.size W a cap l := by
  rcases Go.Deep.open_slice1 Try.underlying23 co3 h with ⟨hcs, _⟩ | ⟨x, l, c, m, n, V, D, Pl, hcs, hb, hl, hm, hmm, _, hx⟩
  · simp at hcs
    exact ⟨none, 0, [], hcs, IA.nil _ _ _ _ (Nat.zero_le _)⟩
  · simp at hcs
    have each : ∀ i, i < l → ∃ q : Int, W.cell? (x.add i) = some (.int .i64 q) := by
      intro i hi
      obtain ⟨h1, h2⟩ := hx i (by simp at hmm; omega)
      obtain ⟨z, e, _, wf⟩ := DataW.trod_int Try.underlying3 h2
      simp at e
      rw [e] at h1
      exact ⟨z, h1⟩
    obtain ⟨q, hq⟩ := Go.Deep.choose_lt each
    refine ⟨some x, c, (List.range l).map q, by simpa using hcs, by simp; omega, by omega, ?_⟩
    by_cases h0 : l = 0
    · left; subst h0; rfl
    · right
      obtain ⟨b, off, spot⟩ := x
      have hspot : spot = none := by simpa [Addr.add] using World.cell?_spot (hq 0 (by omega))
      subst hspot
      have key : ∀ i, i < l → W.cell? ⟨b, off + i, none⟩ = some (.int .i64 (q i)) := by
        intro i hi
        have c0 := hq i hi
        rw [Addr.add_lit] at c0
        exact c0
      refine ⟨b, off, rfl, World.block_lt_of_cell? W _ (key 0 (by omega)), fun i p hi => ?_⟩
      have hl2 : i < l := by have := (List.getElem?_eq_some_iff.1 hi).1; simpa using this
      rw [List.getElem?_map, List.getElem?_range hl2] at hi
      simp at hi
      subst hi
      exact key i hl2
/-- What is known of a report that came in. -/
structure CIn (W : World) (r : Rp) (a : Option Addr) (c : Nat) (a' : Option Addr) (c' : Nat) : Prop where
  s0 : 0 ≤ r.sd
  s1 : r.sd < 4294967296
  t0 : 0 ≤ r.md
  t1 : r.md < 4294967296
  i : IA W.heap.size W a c r.st
  j : IA W.heap.size W a' c' r.dl
theorem open_twcc {H : Type} {enc : TypeId × Value → H} {W : World} {r : Reach} {b0 : Nat} {v : Value} {d : DataW H} {p : List MemPlace} (hv : Value.okWide Try.prog W r b0 25 v)
    (h : DataW.Trod enc Try.prog W 0 (fun _ => true) true 25 v d p) : ∃ r a c a' c', v = rv r a r.st.length c a' r.dl.length c' ∧ CIn W r a c a' c' := by
  obtain ⟨cs, rfl, hsz⟩ := okWide_struct Try.underlying25 hv
  rw [co25] at hsz
  obtain ⟨fuel, hf⟩ := h
  obtain ⟨xs, k, hk, hxy, _, hxl, hf⟩ := DataW.trod_struct Try.underlying25 hf
  obtain ⟨l⟩ := cs
  have hl : l.length = 7 := by simpa using hsz
  match xs, hxl, l, hl with
  | [y0, y1, y2, y3, y4, y5, y6], _, [v0, v1, v2, v3, v4, v5, v6], _ =>
    have g0 := hf 0 _ rfl
    have g1 := hf 1 _ rfl
    have g2 := hf 2 _ rfl
    have g3 := hf 3 _ rfl
    have g4 := hf 4 _ rfl
    have g5 := hf 5 _ rfl
    have g6 := hf 6 _ rfl
    simp [Value.cells, co3, co22, co23] at g0 g1 g2 g3 g4 g5 g6
    obtain ⟨z0, e0, _, w0⟩ := DataW.trod_int Try.underlying22 g0
    obtain ⟨z1, e1, _, w1⟩ := DataW.trod_int Try.underlying22 g1
    obtain ⟨z2, e2, _, _⟩ := DataW.trod_int Try.underlying3 g2
    obtain ⟨z3, e3, _, _⟩ := DataW.trod_int Try.underlying3 g3
    obtain ⟨z4, e4, _, _⟩ := DataW.trod_int Try.underlying3 g4
    obtain ⟨a5, c5, l5, e5, s5⟩ := open_ia g5
    obtain ⟨a6, c6, l6, e6, s6⟩ := open_ia g6
    simp at e0 e1 e2 e3 e4
    subst e0 e1 e2 e3 e4 e5 e6
    have b0 := bounds_u32 w0
    have b1 := bounds_u32 w1
    exact ⟨⟨z0, z1, z2, z3, z4, l5, l6⟩, a5, c5, a6, c6, rfl, by simp only; omega, by simp only; omega, by simp only; omega, by simp only; omega, s5, s6⟩
/-- What a world keeps of a report in a box. -/
structure Ck (w0 w : World) (bx : Nat) (r : Rp) (a : Option Addr) (c : Nat) (a' : Option Addr) (c' : Nat) : Prop where
  k : Apart (fun _ => False) w0 w
  d : Td w bx (.int .u32 r.sd) (.int .u32 r.md) (.int .i64 r.fi) (.int .i64 r.ba) (.int .i64 r.co) (.slice a r.st.length c) (.slice a' r.dl.length c')
  i : IA w.heap.size w a c r.st
  j : IA w.heap.size w a' c' r.dl
section
variable {w0 w w' : World} {bx : Nat} {r : Rp} {a : Option Addr} {c : Nat} {a' : Option Addr} {c' : Nat}
theorem Ck.next (h : Ck w0 w bx r a c a' c') (hb : Below w.heap.size w w') : Ck w0 w' bx r a c a' c' :=
  ⟨h.k.trans (below_apart hb) (fun _ _ h => h), h.d.kept (below_apart hb) (fun h => h), h.i.on hb, h.j.on hb⟩
theorem Ck.ap (h : Ck w0 w bx r a c a' c') (hb : Apart (fun _ => False) w w') : Ck w0 w' bx r a c a' c' := h.next hb.belowZ
end
/-- A report's box as an object. -/
abbrev bxO (r : Rp) (a : Option Addr) (n c : Nat) (a' : Option Addr) (n' c' : Nat) : Obj := .cells #[.int .u32 r.sd, .int .u32 r.md, .int .i64 r.fi, .int .i64 r.ba, .int .i64 r.co, .slice a n c, .slice a' n' c'] 25
theorem ck_new {w0 w : World} {r : Rp} {a : Option Addr} {c : Nat} {a' : Option Addr} {c' : Nat} (h : IA w.heap.size w a c r.st) (h' : IA w.heap.size w a' c' r.dl) (ha : Apart (fun _ => False) w0 w) : Ck w0 (w.alloc (bxO r a r.st.length c a' r.dl.length c')) w.heap.size r a c a' c' :=
  ⟨ha.alloc _, Td.box w _ _ _ _ _ _ _, h.on ((Apart.refl (fun _ => False) w).alloc _).belowZ, h'.on ((Apart.refl (fun _ => False) w).alloc _).belowZ⟩
theorem boxed (w : World) (o : Obj) : ∃ (bx : Nat) (W : World), Hid (w.heap.size = bx) ∧ Hid (w.alloc o = W) := ⟨_, _, rfl, rfl⟩
/-! ### The functions under names -/
theorem enc_at {r : Rp} {a : Option Addr} {c : Nat} {a' : Option Addr} {c' : Nat} {w : World} {S : ByteArray} {E : Int} (h : IA w.heap.size w a c r.st) (h' : IA w.heap.size w a' c' r.dl) (s0 : 0 ≤ r.sd) (s1 : r.sd < 4294967296) (t0 : 0 ≤ r.md) (t1 : r.md < 4294967296) (h1 : encS r = S) (h2 : encE r = E) :
    Calls Try.prog 11 #[rv r a r.st.length c a' r.dl.length c'] w fun e w' => e = .returned (.tuple #[.string S, .int .i64 E]) ∧ Below w.heap.size w w' := by
  subst h1 h2; exact enc_any r a c a' c' w h h' s0 s1 t0 t1
theorem dec_at (s : ByteArray) (hs : s.size ≤ 1000000) {r : Rp} {E : Int} (h1 : decR s = r) (h2 : decE s = E) (w : World) :
    Calls Try.prog 16 #[.string s] w (fun e w' => (∃ a c a' c', e = .returned (.tuple #[rv r a r.st.length c a' r.dl.length c', .int .i64 E]) ∧ IA w'.heap.size w' a c r.st ∧ IA w'.heap.size w' a' c' r.dl) ∧ Below w.heap.size w w') := by
  subst h1 h2; exact dec_any s hs w
end Go.Proofs.Ytcbehpocnnkkeaa
