/-
  What stands while the reference's Hear goes on.
-/
import Derived.Test.YtdojphkibgfomaaHiRa
import Derived.Test.YtdojphkibgfomaaHiF
namespace Go.Proofs.Ytdojphkibgfomaa
open Go.RowKit Go.Maps

structure Hx (w0 : World) (qb rb ob : Nat) (T nx la : Int) (wr : World) (vg vl : Value) (ad : Option Addr) (cp : Nat) (ag : List Ak) (al : List Sn) (L : List Sn) : Prop where
  bx : wr.heap[ob]? = some (.cells #[vg, vl] 42 (0, 0))
  bq : wr.heap[qb]? = some (.cells #[.slice none 0 0, .slice none 0 0] 42 (0, 0))
  hb : wr.heap[rb]? = some (.cells #[.int .i64 T, .slice ad L.length cp, .int .i64 nx, .int .i64 la] 73 (0, 0))
  ow : wr.ownsRow (rb + 1) 56 3 (.slice ad L.length cp) L.length (sC L)
  og : wr.ownsRow (ob + 1) 58 6 vg ag.length (aC ag)
  ol : wr.ownsRow (ob + 1) 56 3 vl al.length (sC al)
  ok : Ok nx la L
  n1 : ∀ k, vg.ownBlock = some k → vl.ownBlock ≠ some k
  n2 : ∀ k, (Value.slice ad L.length cp).ownBlock = some k → k ≠ ob ∧ vg.ownBlock ≠ some k ∧ vl.ownBlock ≠ some k
  ap : Apart (· = rb) w0 wr
  l1 : rb < w0.heap.size
  l2 : w0.heap.size ≤ qb
  l3 : qb < ob
  n3 : ∀ k, (Value.slice ad L.length cp).ownBlock = some k → k ≠ qb
section
variable {w0 wr w2 : World} {qb rb ob : Nat} {T nx la : Int} {vg vl v2 : Value} {ad : Option Addr} {cp : Nat} {ag : List Ak} {al L : List Sn}
theorem Hx.on (h : Hx w0 qb rb ob T nx la wr vg vl ad cp ag al L) (a : Apart (fun _ => False) wr w2) : Hx w0 qb rb ob T nx la w2 vg vl ad cp ag al L :=
  ⟨a.heap h.bx (fun h => h), a.heap h.bq (fun h => h), a.heap h.hb (fun h => h), ownsRow_apart2 h.ow a (fun _ _ h => h), ownsRow_apart2 h.og a (fun _ _ h => h), ownsRow_apart2 h.ol a (fun _ _ h => h), h.ok, h.n1, h.n2, h.ap.trans a (fun _ _ h => h.elim), h.l1, h.l2, h.l3, h.n3⟩
theorem src_rowG {w : World} {g : Nat} {T : TypeId} {cs : List Value} {size : Nat} (h : w.heap[g]? = some (.cells cs.toArray T (0, 0))) (hs : cs.length = size) : SrcN w size (.slice (some ⟨g, 0, none⟩) 1 1) 1 cs := by
  refine .inr ⟨_, 1, rfl, by omega, fun j u hj => ?_⟩
  rw [Addr.add_lit, Nat.zero_add, cell_of_row _ _ j _ T _ h]
  simpa using hj
theorem Hx.got_told (h : Hx w0 qb rb ob T nx la wr vg vl ad cp ag al L) {b : Nat} {a : Ak} (hb : wr.heap[b]? = some (.cells (aE a).toArray 58 (0, 0))) (hm : ag.length ≤ 1000000) :
    ∃ v2 w3, Sem.run Try.prog (appR #[37, 37] 37 #[vg, .slice (some ⟨b, 0, none⟩) 1 1]) wr = .ok v2 w3 ∧ w3.heap[ob]? = some (.cells #[vg, vl] 42 (0, 0)) ∧ Hx w0 qb rb ob T nx la (w3.setCell ⟨ob, 0, none⟩ v2) v2 vl ad cp (ag ++ [a]) al L := by
  obtain ⟨i6, hi6, hz60, hz61, hz62⟩ := info58
  have hlt := lt_of_heap h.bx
  have hl1 := h.l1
  have hl2 := h.l2
  have hl3 := h.l3
  obtain ⟨v2, w3, hr, own, gr, hx⟩ := run_append_told (P := Try.prog) wr (ob + 1) 37 37 58 i6 _ 6 40 Try.underlying37 hi6 hz60 hz61 hz62 rfl (by decide) vg ag.length (aC ag) h.og _ 1 (aE a) (src_rowG hb rfl) (by intro u hu; exact one_aC [a] u (by rw [aC_one]; exact hu)) (by unfold maxLen; omega) (by omega) (by omega)
  have A := grown_apart gr
  have hgo : ∀ k, vg.ownBlock = some k → ob + 1 ≤ k := fun k e => (h.og.lt k e).1
  have b3 := A.heap h.bx (fun e => by have := hgo _ e; omega)
  have S := ap_set w3 ob 0 v2
  have hv2 : ∀ k, v2.ownBlock = some k → ob + 1 ≤ k := fun k e => (own.lt k e).1
  have AS : Apart (fun k => k = ob ∨ vg.ownBlock = some k) wr (w3.setCell ⟨ob, 0, none⟩ v2) := (A.mono (fun _ _ e => .inr e)).trans S (fun _ _ e => .inl e)
  refine ⟨v2, w3, hr, b3, heap_setCell_same w3 ob 0 _ 42 v2 b3, AS.heap h.bq ?_, AS.heap h.hb ?_, ownsRow_apart2 h.ow AS ?_, ?_, ownsRow_apart2 h.ol AS ?_, h.ok, ?_, ?_, h.ap.trans AS ?_, h.l1, h.l2, h.l3, h.n3⟩
  · rintro (e | e)
    · omega
    · have := hgo _ e; omega
  · rintro (e | e)
    · omega
    · have := hgo _ e; omega
  · intro k hk e
    obtain ⟨x1, x2, x3⟩ := h.n2 k hk
    rcases e with e | e
    · exact x1 e
    · exact x2 e
  · rw [aC_app, aC_one, List.length_append]
    exact ownsRow_apart2 own S (fun k hk e => by have := hv2 k hk; omega)
  · intro k hk e
    rcases e with e | e
    · have := (h.ol.lt k hk).1; omega
    · exact h.n1 k e hk
  · intro k hk e
    rcases hx k hk with y | y
    · exact h.n1 k y e
    · have := (h.ol.lt k e).2; omega
  · intro k hk
    obtain ⟨x1, x2, x3⟩ := h.n2 k hk
    refine ⟨x1, fun e => ?_, x3⟩
    rcases hx k e with y | y
    · exact x2 y
    · have := (h.ow.lt k hk).2; omega
  · intro i hi e
    rcases e with e | e
    · omega
    · have := hgo _ e; omega
theorem Hx.lost_told (h : Hx w0 qb rb ob T nx la wr vg vl ad cp ag al L) {b : Nat} {a : Sn} (hb : wr.heap[b]? = some (.cells (sE a).toArray 56 (0, 0))) (hm : al.length ≤ 1000000) :
    ∃ v2 w3, Sem.run Try.prog (appR #[38, 38] 38 #[vl, .slice (some ⟨b, 0, none⟩) 1 1]) wr = .ok v2 w3 ∧ w3.heap[ob]? = some (.cells #[vg, vl] 42 (0, 0)) ∧ Hx w0 qb rb ob T nx la (w3.setCell ⟨ob, 1, none⟩ v2) vg v2 ad cp ag (al ++ [a]) L := by
  obtain ⟨i3, hi3, hz30, hz31, hz32⟩ := info56
  have hlt := lt_of_heap h.bx
  have hl1 := h.l1
  have hl2 := h.l2
  have hl3 := h.l3
  obtain ⟨v2, w3, hr, own, gr, hx⟩ := run_append_told (P := Try.prog) wr (ob + 1) 38 38 56 i3 _ 3 24 Try.underlying38 hi3 hz30 hz31 hz32 rfl (by decide) vl al.length (sC al) h.ol _ 1 (sE a) (src_rowG hb rfl) (by intro u hu; exact one_sC [a] u (by rw [sC_one]; exact hu)) (by unfold maxLen; omega) (by omega) (by omega)
  have A := grown_apart gr
  have hgo : ∀ k, vl.ownBlock = some k → ob + 1 ≤ k := fun k e => (h.ol.lt k e).1
  have b3 := A.heap h.bx (fun e => by have := hgo _ e; omega)
  have S := ap_set w3 ob 1 v2
  have hv2 : ∀ k, v2.ownBlock = some k → ob + 1 ≤ k := fun k e => (own.lt k e).1
  have AS : Apart (fun k => k = ob ∨ vl.ownBlock = some k) wr (w3.setCell ⟨ob, 1, none⟩ v2) := (A.mono (fun _ _ e => .inr e)).trans S (fun _ _ e => .inl e)
  refine ⟨v2, w3, hr, b3, heap_setCell_same w3 ob 1 _ 42 v2 b3, AS.heap h.bq ?_, AS.heap h.hb ?_, ownsRow_apart2 h.ow AS ?_, ownsRow_apart2 h.og AS ?_, ?_, h.ok, ?_, ?_, h.ap.trans AS ?_, h.l1, h.l2, h.l3, h.n3⟩
  · rintro (e | e)
    · omega
    · have := hgo _ e; omega
  · rintro (e | e)
    · omega
    · have := hgo _ e; omega
  · intro k hk e
    obtain ⟨x1, x2, x3⟩ := h.n2 k hk
    rcases e with e | e
    · exact x1 e
    · exact x3 e
  · intro k hk e
    rcases e with e | e
    · have := (h.og.lt k hk).1; omega
    · exact h.n1 k hk e
  · rw [sC_app, sC_one, List.length_append]
    exact ownsRow_apart2 own S (fun k hk e => by have := hv2 k hk; omega)
  · intro k hk e
    rcases hx k e with y | y
    · exact h.n1 k hk y
    · have := (h.og.lt k hk).2; omega
  · intro k hk
    obtain ⟨x1, x2, x3⟩ := h.n2 k hk
    refine ⟨x1, x2, fun e => ?_⟩
    rcases hx k e with y | y
    · exact x3 y
    · have := (h.ow.lt k hk).2; omega
  · intro i hi e
    rcases e with e | e
    · omega
    · have := hgo _ e; omega
theorem Hx.fin (h : Hx w0 qb rb ob T nx la wr vg vl ad cp ag al L) (a : Apart (· = qb) wr w2) : Rf w2 rb T nx la L ∧ w2.ownsRow w0.heap.size 58 6 vg ag.length (aC ag) ∧ w2.ownsRow w0.heap.size 56 3 vl al.length (sC al) ∧ Apart (· = rb) w0 w2 := by
  have hl1 := h.l1
  have hl2 := h.l2
  have hl3 := h.l3
  refine ⟨⟨ad, cp, a.heap h.hb (by omega), ownsRow_apart2 h.ow a h.n3⟩, ownsRow_base (ownsRow_apart2 h.og a (fun k hk e => ?_)) (by omega), ownsRow_base (ownsRow_apart2 h.ol a (fun k hk e => ?_)) (by omega), h.ap.trans a (fun i hi e => by omega)⟩
  · have := (h.og.lt k hk).1; omega
  · have := (h.ol.lt k hk).1; omega
end
/-- All but the one at k. -/
theorem filter_cut {L : List Sn} (hr : Rise L) {k : Nat} {s : Sn} (hk : L[k]? = some s) : (L.filter fun u => u.1 != s.1) = L.take k ++ L.drop (k + 1) := by
  induction L generalizing k with
  | nil => simp at hk
  | cons a l ih =>
    have h2 := List.pairwise_cons.1 hr
    cases k with
    | zero =>
      obtain rfl : a = s := by simpa using hk
      simp only [List.take_zero, List.nil_append, Nat.zero_add, List.drop_succ_cons, List.drop_zero, List.filter_cons, bne_self_eq_false, Bool.false_eq_true, if_false]
      rw [List.filter_eq_self]
      intro u hu
      have := h2.1 u hu
      simp; omega
    | succ k =>
      have hk' : l[k]? = some s := by simpa using hk
      have := h2.1 s (List.mem_of_getElem? hk')
      have hne : (a.1 != s.1) = true := by simp; omega
      rw [List.filter_cons, hne, if_pos rfl, ih h2.2 hk']
      rfl
theorem fd_at {nx q : Int} {L : List Sn} (hr : Rise L) {k : Nat} {s : Sn} (hk : L[k]? = some s) (h : s.1 = nr nx q) : fd nx L q = some s := by
  unfold fd
  induction L generalizing k with
  | nil => simp at hk
  | cons a l ih =>
    have h2 := List.pairwise_cons.1 hr
    cases k with
    | zero =>
      obtain rfl : a = s := by simpa using hk
      rw [List.find?_cons, show (a.1 == nr nx q) = true by rw [h]; simp]
    | succ k =>
      have hk' : l[k]? = some s := by simpa using hk
      have := h2.1 s (List.mem_of_getElem? hk')
      rw [List.find?_cons, show (a.1 == nr nx q) = false by rw [← h]; simp; omega]
      exact ih h2.2 hk'
theorem fd_none {nx q : Int} {L : List Sn} {k : Nat} (hk : L.length ≤ k) (h : ∀ (j : Nat) (s : Sn), j < k → L[j]? = some s → ¬ s.1 = nr nx q) : fd nx L q = none := by
  unfold fd
  rw [List.find?_eq_none]
  intro s hs
  obtain ⟨j, hj⟩ := List.mem_iff_getElem?.1 hs
  have := h j s (by have := (List.getElem?_eq_some_iff.1 hj).1; omega) hj
  simpa using this
theorem hr_nil (nx : Int) : ∀ l : List Rp, hrG nx [] l = [] ∧ hrL nx [] l = [] ∧ hrR nx [] l = []
  | [] => ⟨rfl, rfl, rfl⟩
  | r :: rs => by
    have h := hr_nil nx rs
    have e : fd nx [] r.q = none := rfl
    refine ⟨?_, ?_, ?_⟩
    · simp only [hrG, e]; exact h.1
    · simp only [hrL, e]; exact h.2.1
    · simp only [hrR, e]; exact h.2.2
theorem SnA.take {w : World} {a : Option Addr} {l : List Sn} (h : SnA w a l) (k : Nat) : SnA w a (l.take k) := by
  intro i s hi
  have : l[i]? = some s := by
    rw [List.getElem?_take] at hi
    split at hi
    · exact hi
    · cases hi
  exact h i s this
theorem SnA.drop {w : World} {g : Nat} {l : List Sn} (h : SnA w (some ⟨g, 0, none⟩) l) (k : Nat) : SnA w (some ⟨g, k * 3, none⟩) (l.drop k) := by
  intro i s hi
  rw [List.getElem?_drop] at hi
  obtain ⟨b, off, e, hb, c⟩ := h (k + i) s hi
  obtain ⟨rfl, rfl⟩ : g = b ∧ 0 = off := by simpa using e
  exact ⟨g, k * 3, rfl, hb, by rw [show k * 3 + i * 3 = 0 + (k + i) * 3 by omega]; exact c⟩
end Go.Proofs.Ytdojphkibgfomaa
