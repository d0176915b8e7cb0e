/-
  A list that came in: its fields, where it lies; what a world keeps of it.
-/
import Derived.Test.YtmnpghelglohlaaNkB
import Derived.ProofKit
import Derived.OpenShut
import Derived.Deep.Slices
namespace Go.Proofs.Ytmnpghelglohlaa
open Go.ChangeShapes Go.WideShapes Go.ChangeAt Go.RowKit

theorem co3 : Try.prog.cellsOf 3 = 1 := by kernel_rfl
theorem co22 : Try.prog.cellsOf 22 = 1 := by kernel_rfl
theorem co23 : Try.prog.cellsOf 23 = 1 := by kernel_rfl
theorem co25 : Try.prog.cellsOf 25 = 3 := by kernel_rfl
theorem open_ia {H : Type} {enc : TypeId × Value → H} {W : World} {v : Value} {fuel : Nat} {x : DataW H × List MemPlace}
    (h : DataW.trod enc Try.prog W 0 (fun _ => true) true fuel 23 [v] = some x) : ∃ (a : Option Addr) (cap : Nat) (l : List Int), v = .slice a l.length cap ∧ IA W.heap.size W a cap l := by
  rcases Go.Deep.open_slice1 Try.underlying23 co3 h with ⟨hcs, _⟩ | ⟨x, l, c, m, n, V, D, Pl, hcs, hb, hl, hm, hmm, _, hx⟩
  · simp at hcs
    exact ⟨none, 0, [], hcs, IA.nil _ _ _ _ (Nat.zero_le _)⟩
  · simp at hcs
    have each : ∀ i, i < l → ∃ q : Int, W.cell? (x.add i) = some (.int .i64 q) := by
      intro i hi
      obtain ⟨h1, h2⟩ := hx i (by simp at hmm; omega)
      obtain ⟨z, e, _, wf⟩ := DataW.trod_int Try.underlying3 h2
      simp at e
      rw [e] at h1
      exact ⟨z, h1⟩
    obtain ⟨q, hq⟩ := Go.Deep.choose_lt each
    refine ⟨some x, c, (List.range l).map q, by simpa using hcs, by simp; omega, by omega, ?_⟩
    by_cases h0 : l = 0
    · left; subst h0; rfl
    · right
      obtain ⟨b, off, spot⟩ := x
      have hspot : spot = none := by simpa [Addr.add] using World.cell?_spot (hq 0 (by omega))
      subst hspot
      have key : ∀ i, i < l → W.cell? ⟨b, off + i, none⟩ = some (.int .i64 (q i)) := by
        intro i hi
        have c0 := hq i hi
        rw [Addr.add_lit] at c0
        exact c0
      refine ⟨b, off, rfl, World.block_lt_of_cell? W _ (key 0 (by omega)), fun i p hi => ?_⟩
      have hl2 : i < l := by have := (List.getElem?_eq_some_iff.1 hi).1; simpa using this
      rw [List.getElem?_map, List.getElem?_range hl2] at hi
      simp at hi
      subst hi
      exact key i hl2
/-- What is known of a list that came in. -/
structure CIn (W : World) (r : Nk) (a : Option Addr) (c : Nat) : Prop where
  s0 : 0 ≤ r.sd
  s1 : r.sd < 4294967296
  t0 : 0 ≤ r.md
  t1 : r.md < 4294967296
  i : IA W.heap.size W a c r.lo
theorem open_nack {H : Type} {enc : TypeId × Value → H} {W : World} {r : Reach} {b0 : Nat} {v : Value} {d : DataW H} {p : List MemPlace} (hv : Value.okWide Try.prog W r b0 25 v)
    (h : DataW.Trod enc Try.prog W 0 (fun _ => true) true 25 v d p) : ∃ r a c, v = nv r a r.lo.length c ∧ CIn W r a c := by
  obtain ⟨cs, rfl, hsz⟩ := okWide_struct Try.underlying25 hv
  rw [co25] at hsz
  obtain ⟨fuel, hf⟩ := h
  obtain ⟨xs, k, hk, hxy, _, hxl, hf⟩ := DataW.trod_struct Try.underlying25 hf
  obtain ⟨l⟩ := cs
  have hl : l.length = 3 := by simpa using hsz
  match xs, hxl, l, hl with
  | [y0, y1, y2], _, [v0, v1, v2], _ =>
    have g0 := hf 0 _ rfl
    have g1 := hf 1 _ rfl
    have g2 := hf 2 _ rfl
    simp [Value.cells, co22, co23] at g0 g1 g2
    obtain ⟨z0, e0, _, w0⟩ := DataW.trod_int Try.underlying22 g0
    obtain ⟨z1, e1, _, w1⟩ := DataW.trod_int Try.underlying22 g1
    obtain ⟨a2, c2, l2, e2, s2⟩ := open_ia g2
    simp at e0 e1 e2
    subst e0 e1 e2
    have b0 := bounds_u32 w0
    have b1 := bounds_u32 w1
    exact ⟨⟨z0, z1, l2⟩, a2, c2, rfl, by simp only; omega, by simp only; omega, by simp only; omega, by simp only; omega, s2⟩
/-- What a world keeps of a list in a box. -/
structure Ck (w0 w : World) (bx : Nat) (r : Nk) (a : Option Addr) (c : Nat) : Prop where
  k : Apart (fun _ => False) w0 w
  d : Td w bx (.int .u32 r.sd) (.int .u32 r.md) (.slice a r.lo.length c)
  i : IA w.heap.size w a c r.lo
section
variable {w0 w w' : World} {bx : Nat} {r : Nk} {a : Option Addr} {c : Nat}
theorem Ck.next (h : Ck w0 w bx r a c) (hb : Below w.heap.size w w') : Ck w0 w' bx r a c :=
  ⟨h.k.trans (below_apart hb) (fun _ _ h => h), h.d.kept (below_apart hb) (fun h => h), h.i.on hb⟩
theorem Ck.ap (h : Ck w0 w bx r a c) (hb : Apart (fun _ => False) w w') : Ck w0 w' bx r a c := h.next hb.belowZ
end
/-- A list's box as an object. -/
abbrev bxO (r : Nk) (a : Option Addr) (n c : Nat) : Obj := .cells #[.int .u32 r.sd, .int .u32 r.md, .slice a n c] 25
theorem ck_new {w0 w : World} {r : Nk} {a : Option Addr} {c : Nat} (h : IA w.heap.size w a c r.lo) (ha : Apart (fun _ => False) w0 w) : Ck w0 (w.alloc (bxO r a r.lo.length c)) w.heap.size r a c :=
  ⟨ha.alloc _, Td.box w _ _ _, h.on ((Apart.refl (fun _ => False) w).alloc _).belowZ⟩
theorem boxed (w : World) (o : Obj) : ∃ (bx : Nat) (W : World), Hid (w.heap.size = bx) ∧ Hid (w.alloc o = W) := ⟨_, _, rfl, rfl⟩
/-! ### The functions under names -/
theorem enc_at {r : Nk} {a : Option Addr} {c : Nat} {w : World} {S : ByteArray} {E : Int} (h : IA w.heap.size w a c r.lo) (s0 : 0 ≤ r.sd) (s1 : r.sd < 4294967296) (t0 : 0 ≤ r.md) (t1 : r.md < 4294967296) (h1 : encS r = S) (h2 : encE r = E) :
    Calls Try.prog 10 #[nv r a r.lo.length c] w fun e w' => e = .returned (.tuple #[.string S, .int .i64 E]) ∧ Below w.heap.size w w' := by
  subst h1 h2; exact enc_any r a c w h s0 s1 t0 t1
theorem dec_at (s : ByteArray) (hs : (s.size : Int) ≤ 9223372036854775807) {r : Nk} {E : Int} (h1 : decR s = r) (h2 : decE s = E) (w : World) :
    Calls Try.prog 13 #[.string s] w (fun e w' => (∃ a c, e = .returned (.tuple #[nv r a r.lo.length c, .int .i64 E]) ∧ IA w'.heap.size w' a c r.lo) ∧ Below w.heap.size w w') := by
  subst h1 h2; exact dec_any s hs w
theorem decR_none {s : ByteArray} (h : ¬ decE s = 0) : decR s = ⟨0, 0, []⟩ := by unfold decR; rw [if_neg h]
theorem decR_good {s : ByteArray} (h : decE s = 0) : isL (decR s).lo = true ∧ 0 ≤ (decR s).sd ∧ (decR s).sd < 4294967296 ∧ 0 ≤ (decR s).md ∧ (decR s).md < 4294967296 := by
  obtain ⟨-, -, -, h4, h5⟩ := decE_yes h
  have g1 := gv_lt s 0 32
  have g2 := gv_lt s 32 32
  rw [h5]
  exact ⟨h4, by simp only; omega, by simp only; omega, by simp only; omega, by simp only; omega⟩
end Go.Proofs.Ytmnpghelglohlaa
