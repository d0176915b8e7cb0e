/-
  One packet less; the rests of a list as Go cuts them.
-/
import Derived.Test.YtdojphkibgfomaaHiRb
namespace Go.Proofs.Ytdojphkibgfomaa
open Go.RowKit Go.Maps

theorem Hx.drop_told {w0 W : World} {qb rb ob : Nat} {T nx la : Int} {vg vl : Value} {ad : Option Addr} {cp : Nat} {ag : List Ak} {al L : List Sn} (h : Hx w0 qb rb ob T nx la W vg vl ad cp ag al L) {k : Nat} {s : Sn} (hk : L[k]? = some s) (v : Value)
    (hv : ∀ w', SnA w' ad L → SrcN w' 3 v (L.length - (k + 1)) (sC (L.drop (k + 1)))) :
    ∃ a7 c7 w7 v8 a8 c8 w8, Sem.run Try.prog (appR #[38, 38] 38 #[.slice (some ⟨W.heap.size, 0, none⟩) 0 0, .slice ad k cp]) (W.alloc (.cells #[] 56)).drew = .ok (.slice a7 k c7) w7 ∧
      Sem.run Try.prog (appR #[38, 38] 38 #[.slice a7 k c7, v]) w7 = .ok v8 w8 ∧ Apart (fun _ => False) W w7 ∧ Apart (fun _ => False) W w8 ∧
      v8 = .slice a8 (L.filter fun u => u.1 != s.1).length c8 ∧
      Hx w0 qb rb ob T nx la (w8.setCell ⟨rb, 1, none⟩ v8) vg vl a8 c8 ag al (L.filter fun u => u.1 != s.1) := by
  obtain ⟨i3, hi3, hz30, hz31, hz32⟩ := info56
  have hlt := lt_of_heap h.bx
  have hl1 := h.l1
  have hl2 := h.l2
  have hl3 := h.l3
  have hlen := h.ok.len
  have hkl : k < L.length := (List.getElem?_eq_some_iff.1 hk).1
  have hf := filter_cut h.ok.rise hk
  have SN := own_sna h.ow rfl
  have A2 : Apart (fun _ => False) W (W.alloc (.cells #[] 56)).drew := ((Apart.refl (fun _ => False) W).alloc _).drew
  obtain ⟨a7, c7, w7, r7, o7, a7'⟩ := copy_told (cp := cp) (n := k) (L := L.take k) (show (W.alloc (.cells #[] 56)).drew.heap[W.heap.size]? = some (.cells #[] 56 (0, 0)) from heap_alloc_new W _) ((SN.kept A2).take k) (by rw [List.length_take]; omega) (by omega)
  have A7 : Apart (fun _ => False) W w7 := (A2.trans a7' (fun i hi e => by omega))
  have s7 := a7'.size
  rw [show (W.alloc (.cells #[] 56)).drew.heap.size = W.heap.size + 1 by show (W.alloc (.cells #[] 56)).heap.size = _; simp] at s7
  obtain ⟨v8, w8, r8, o8, gr, -⟩ := run_append_told (P := Try.prog) w7 W.heap.size 38 38 56 i3 _ 3 24 Try.underlying38 hi3 hz30 hz31 hz32 rfl (by decide) _ k _ o7 v (L.length - (k + 1)) (sC (L.drop (k + 1))) (hv w7 (SN.kept A7)) (one_sC _) (by unfold maxLen; omega) (by omega) (by omega)
  have e8 : k + (L.length - (k + 1)) = (L.filter fun u => u.1 != s.1).length := by rw [hf, List.length_append, List.length_take, List.length_drop]; omega
  rw [← sC_app, ← hf, e8] at o8
  obtain ⟨a8, c8, rfl⟩ := ownsRow_slice o8
  have A8 : Apart (fun _ => False) W w8 := A7.trans (grown_apart gr) (fun i hi e => by have := (o7.lt i e).1; omega)
  have h8 := h.on A8
  have S := ap_set w8 rb 1 (.slice a8 (L.filter fun u => u.1 != s.1).length c8)
  have hb8 : ∀ j, (Value.slice a8 (L.filter fun u => u.1 != s.1).length c8).ownBlock = some j → W.heap.size ≤ j := fun j e => (o8.lt j e).1
  refine ⟨a7, c7, w7, _, a8, c8, w8, r7, r8, A7, A8, rfl, S.heap h8.bx (by omega), S.heap h8.bq (by omega), heap_setCell_same w8 rb 1 _ 73 _ h8.hb, ?_, ?_, ?_, h.ok.filter _, h.n1, ?_, h8.ap.trans S (fun _ _ e => e), h.l1, h.l2, h.l3, fun j hj => by have := hb8 j hj; omega⟩
  · exact ownsRow_base (ownsRow_apart2 o8 S (fun j hj e => by have := hb8 j hj; omega)) (by omega)
  · exact ownsRow_apart2 h8.og S (fun j hj e => by have := (h.og.lt j hj).1; omega)
  · exact ownsRow_apart2 h8.ol S (fun j hj e => by have := (h.ol.lt j hj).1; omega)
  · intro j hj
    have := hb8 j hj
    refine ⟨by omega, fun e => ?_, fun e => ?_⟩
    · have := (h.og.lt j e).2; omega
    · have := (h.ol.lt j e).2; omega
/-- The rest behind k, as Go cuts it. -/
theorem rest_some {g n cp k : Nat} {L : List Sn} (hn : L.length = n) (w' : World) (h : SnA w' (some ⟨g, 0, none⟩) L) : SrcN w' 3 (.slice (some ⟨g, (k + 1) * 3, none⟩) (n - (k + 1)) (cp - (k + 1))) (L.length - (k + 1)) (sC (L.drop (k + 1))) := by
  have := sna_src (c := cp - (k + 1)) (h.drop (k + 1))
  rw [List.length_drop] at this
  rw [hn] at this ⊢
  exact this
theorem rest_none {a : Option Addr} {n k c : Nat} {L : List Sn} (hn : L.length = n) (hk : n = k + 1) (w' : World) (ad : Option Addr) (_h : SnA w' ad L) : SrcN w' 3 (.slice a 0 c) (L.length - (k + 1)) (sC (L.drop (k + 1))) := by
  have hd : L.drop (k + 1) = [] := List.drop_eq_nil_of_le (by omega)
  have h0 : SnA w' a [] := fun i s hi => by simp at hi
  have := sna_src (c := c) h0
  rw [hd, show L.length - (k + 1) = 0 by omega]
  exact this
end Go.Proofs.Ytdojphkibgfomaa
