/-
  Where a function that reads feedback stands; what it hands back.
-/
import Derived.Test.YtdhbakknplnnkaaGreatFdQ
import Derived.Test.YtdhbakknplnnkaaGreatRc3
import Derived.Test.YtdhbakknplnnkaaGreatNk3
namespace Go.Proofs.YtdhbakknplnnkaaGreat.Fd
open Go.RowKit Go.Proofs.YtdhbakknplnnkaaGreat.Nk

/-- Five cells of a report. -/
def RCell (w : World) (b o : Nat) (r : Rt) : Prop := w.cell? ⟨b, o, none⟩ = some (.int .i64 r.q) ∧ w.cell? ⟨b, o + 1, none⟩ = some (.bool r.g) ∧ w.cell? ⟨b, o + 2, none⟩ = some (.int .i64 r.t) ∧ w.cell? ⟨b, o + 3, none⟩ = some (.bool r.la) ∧ w.cell? ⟨b, o + 4, none⟩ = some (.bool r.ec)
/-- Reports, in a block below B. -/
def RA (B : Nat) (w : World) (a : Option Addr) (l : List Rt) : Prop :=
  l.length ≤ maxLen ∧ (l = [] ∨ ∃ b off, a = some ⟨b, off, none⟩ ∧ b < B ∧ ∀ i r, l[i]? = some r → RCell w b (off + i * 5) r)
theorem RA.kept {B : Nat} {w w' : World} {a : Option Addr} {l : List Rt} (h : RA B w a l) (hb : Below B w w') : RA B w' a l := by
  refine ⟨h.1, ?_⟩
  rcases h.2 with h0 | ⟨b, off, ha, hl, hc⟩
  · exact .inl h0
  · refine .inr ⟨b, off, ha, hl, fun i r hi => ?_⟩
    obtain ⟨c0, c1, c2, c3, c4⟩ := hc i r hi
    exact ⟨by rw [hb.cell (p := ⟨b, off + i * 5, none⟩) hl]; exact c0, by rw [hb.cell (p := ⟨b, off + i * 5 + 1, none⟩) hl]; exact c1, by rw [hb.cell (p := ⟨b, off + i * 5 + 2, none⟩) hl]; exact c2, by rw [hb.cell (p := ⟨b, off + i * 5 + 3, none⟩) hl]; exact c3, by rw [hb.cell (p := ⟨b, off + i * 5 + 4, none⟩) hl]; exact c4⟩
theorem RA.up {B B' : Nat} {w : World} {a : Option Addr} {l : List Rt} (h : RA B w a l) (hb : B ≤ B') : RA B' w a l := by
  refine ⟨h.1, ?_⟩
  rcases h.2 with h0 | ⟨b, off, ha, hl, hc⟩
  · exact .inl h0
  · exact .inr ⟨b, off, ha, by omega, hc⟩
theorem RA.nil (B : Nat) (w : World) (a : Option Addr) : RA B w a [] := ⟨Nat.zero_le _, .inl rfl⟩
theorem rC_get (l : List Rt) (i : Nat) (r : Rt) (h : l[i]? = some r) : (rC l)[i * 5]? = some (.int .i64 r.q) ∧ (rC l)[i * 5 + 1]? = some (.bool r.g) ∧ (rC l)[i * 5 + 2]? = some (.int .i64 r.t) ∧ (rC l)[i * 5 + 3]? = some (.bool r.la) ∧ (rC l)[i * 5 + 4]? = some (.bool r.ec) := by
  induction l generalizing i with
  | nil => simp at h
  | cons x l ih =>
    cases i with
    | zero => simp at h; subst h; exact ⟨rfl, rfl, rfl, rfl, rfl⟩
    | succ i =>
      rw [List.getElem?_cons_succ] at h
      have := ih i h
      rw [show (i + 1) * 5 = i * 5 + 5 by omega]
      exact this
/-- A row of one's own as a slice value that can be read. -/
theorem or_src {B : Nat} {w : World} {v : Value} {l : List Rt} (h : OR B w v l) : SrcN w 5 v l.length (rC l) := by
  rcases h.2 with ⟨rfl, hn⟩ | ⟨g, cap, cur, rfl, _, hg, hn, hc, _, ht⟩
  · obtain rfl := List.eq_nil_of_length_eq_zero hn
    exact .inl ⟨0, rfl, rfl, rfl⟩
  · refine .inr ⟨⟨g, 0, none⟩, cap, rfl, rC_len l, fun j u hj => ?_⟩
    rw [addr0, cell_of_row w g j cur 58 _ hg]
    rw [← ht, List.getElem?_take] at hj
    split at hj
    · rw [← Array.getElem?_toList]; exact hj
    · cases hj
theorem or_ra {B : Nat} {w : World} {v : Value} {l : List Rt} (h : OR B w v l) : ∃ a c, v = .slice a l.length c ∧ RA w.heap.size w a l := by
  rcases h.2 with ⟨rfl, hn⟩ | ⟨g, cap, cur, rfl, _, hg, hn, hc, _, ht⟩
  · obtain rfl := List.eq_nil_of_length_eq_zero hn
    exact ⟨none, 0, rfl, RA.nil _ _ _⟩
  · refine ⟨some ⟨g, 0, none⟩, cap, rfl, by omega, .inr ⟨g, 0, rfl, lt_of_heap hg, fun i r hi => ?_⟩⟩
    have hin : i < l.length := (List.getElem?_eq_some_iff.1 hi).1
    obtain ⟨h0, h1, h2, h3, h4⟩ := rC_get l i r hi
    have at5 : ∀ o u, o < l.length * 5 → (rC l)[o]? = some u → w.cell? ⟨g, 0 + o, none⟩ = some u := by
      intro o u ho hu
      rw [Nat.zero_add, cell_of_row w g o cur 58 _ hg]
      rw [← ht, List.getElem?_take, if_pos ho] at hu
      rw [← Array.getElem?_toList]; exact hu
    exact ⟨at5 _ _ (by omega) h0, at5 _ _ (by omega) h1, at5 _ _ (by omega) h2, at5 _ _ (by omega) h3, at5 _ _ (by omega) h4⟩
/-- What is told, as a value. -/
def fv (a : Option Addr) (n c : Nat) (a' : Option Addr) (n' c' : Nat) : Value := .agg #[.slice a n c, .slice a' n' c']
def RdPost (s : ByteArray) (near : Int) (w : World) (e : Ending) (w' : World) : Prop :=
  (∃ a c a' c', e = .returned (.tuple #[fv a (fdR s near).length c a' (fdA s near).length c', .int .i64 (fdE s near)]) ∧ RA w'.heap.size w' a (fdR s near) ∧ IA w'.heap.size w' a' c' (fdA s near)) ∧ Below w.heap.size w w'
/-- Two cells of what is told, in block fb. -/
def Bd (T : TypeId) (w : World) (fb : Nat) (vr va : Value) : Prop := w.heap[fb]? = some (.cells #[vr, va] T (0, 0))
/-- Where a function that reads feedback stands: its result in q, what is told in fb. -/
structure Vw (T : TypeId) (w wr : World) (q fb B : Nat) (a : Option Addr) (l : List Rc.Pt) (vr va : Value) (aR : List Rt) (aA : List Int) : Prop where
  r : Bd T wr q (.slice none 0 0) (.slice none 0 0)
  f : Bd T wr fb vr va
  oR : OR B wr vr aR
  oA : OI B wr va aA
  ne : ∀ k, vr.ownBlock = some k → ¬ va.ownBlock = some k
  p : Rc.PA fb wr a l
  k : Apart (fun _ => False) w wr
  z : w.heap.size ≤ q ∧ q < fb ∧ fb < B ∧ B ≤ wr.heap.size
section
variable {T : TypeId} {w wr w2 : World} {q fb B : Nat} {a : Option Addr} {l : List Rc.Pt} {vr va vr2 va2 : Value} {aR : List Rt} {aA : List Int}
theorem Vw.next (h : Vw T w wr q fb B a l vr va aR aA) (hb : Below wr.heap.size wr w2) : Vw T w w2 q fb B a l vr va aR aA :=
  ⟨(below_apart hb).heap h.r (fun h => h), (below_apart hb).heap h.f (fun h => h), h.oR.below hb, h.oA.below hb, h.ne, h.p.kept (hb.mono (by have := h.z.2.2; omega)), h.k.zz (below_apart hb), h.z.1, h.z.2.1, h.z.2.2.1, Nat.le_trans h.z.2.2.2 hb.size⟩
/-- Behind an append onto the reports and the store of the row. -/
theorem Vw.appR (h : Vw T w wr q fb B a l vr va aR aA) {n : Nat} {rs : List Rt} (hown : w2.ownsRow B 58 5 vr2 n (rC (aR ++ rs))) (hn : n = (aR ++ rs).length) (hg : wr.grownBy w2 vr.ownBlock) (hx : ∀ k, vr2.ownBlock = some k → vr.ownBlock = some k ∨ wr.heap.size ≤ k) : Vw T w (w2.setCell ⟨fb, 0, none⟩ vr2) q fb B a l vr2 va (aR ++ rs) aA := by
  have hz := h.z
  have hbl : Below B wr w2 := ⟨hg.os, hg.tape, hg.output, hg.size, fun k hk => hg.block k (by omega) (fun e => by have := (h.oR.lt k e.symm).1; omega)⟩
  have ha : Apart (B ≤ ·) wr w2 := ⟨hg.os, hg.tape, hg.output, hg.size, fun k _ hx => hbl.block k (by omega)⟩
  have hs := ap_set w2 fb 0 vr2
  have hbs : Below B w2 (w2.setCell ⟨fb, 0, none⟩ vr2) → True := fun _ => trivial
  refine ⟨hs.heap (ha.heap h.r (by omega)) (by omega), ?_, ?_, ?_, ?_, ?_, (h.k.trans ha (fun i hi e => by omega)).trans hs (fun i hi e => by omega), hz.1, hz.2.1, hz.2.2.1, by have := hg.size; simp; omega⟩
  · have := heap_setCell_same w2 fb 0 _ T vr2 (ha.heap h.f (by omega))
    exact this
  · subst hn
    exact OR.set hown (fun k hk e => by have := (hown.lt k hk).1; omega)
  · refine ownsRow_apart2 (ownsRow_apart2 (w := wr) (X := fun k => vr.ownBlock = some k) h.oA ⟨hg.os, hg.tape, hg.output, hg.size, fun k hk hx => hg.block k hk (fun e => hx e.symm)⟩ (fun k hk e => h.ne k e hk)) hs (fun k hk e => by have := (h.oA.lt k hk).1; omega)
  · intro k hk hk'
    rcases hx k hk with e | e
    · exact h.ne k e hk'
    · have := (h.oA.lt k hk').2; omega
  · exact (h.p.kept (hbl.mono (by omega))).kept (below_set (Nat.le_refl _))
end
end Go.Proofs.YtdhbakknplnnkaaGreat.Fd
