/-
  What Decode hands back is a header; of a header's own text it is that header.
-/
import Derived.Test.YtdajcgicpfpeoaaRtV
namespace Go.Proofs.Ytdajcgicpfpeoaa
open Go.RowKit

/-- Extensions that were read are ones that a header may have. -/
def AccOk (acc : Ex) : Prop := (∀ x ∈ acc, (1 ≤ x.1 ∧ x.1 ≤ 14) ∧ 1 ≤ x.2.size ∧ x.2.size ≤ 16) ∧ acc.Pairwise fun a b => a.1 ≠ b.1
theorem xrun_ok (s : ByteArray) (k p L : Nat) (acc : Ex) (h : AccOk acc) : AccOk (xrun s k p L acc).2 := by
  have none : AccOk [] := ⟨fun x hx => by simp at hx, List.Pairwise.nil⟩
  induction k generalizing p L acc with
  | zero => exact none
  | succ k ih =>
    rw [xrun]
    by_cases h0 : L = 0
    · rw [if_pos h0]; exact h
    · rw [if_neg h0]
      by_cases h1 : p + 8 ≤ 8 * s.size
      · rw [if_neg (fun x => x h1)]
        by_cases h2 : gv s p 4 = 0 ∧ gv s (p + 4) 4 = 0
        · rw [if_pos h2]; exact ih _ _ _ h
        · rw [if_neg h2]
          by_cases h3 : L - 1 < gv s (p + 4) 4 + 1 ∨ ¬ fresh acc (gv s p 4)
          · rw [if_pos h3]; exact none
          · rw [if_neg h3]
            by_cases h4 : p + 8 + 8 * (gv s (p + 4) 4 + 1) ≤ 8 * s.size
            · rw [if_neg (fun x => x h4)]
              have hf : fresh acc (gv s p 4) := Decidable.not_not.1 (fun x => h3 (.inr x))
              have hg := gv_lt s (p + 4) 4
              refine ih _ _ _ ⟨fun x hx => ?_, ?_⟩
              · rw [List.mem_append] at hx
                rcases hx with hx | hx
                · exact h.1 x hx
                · simp at hx; subst hx; exact ⟨hf.1, by rw [txS_size]; omega, by rw [txS_size]; omega⟩
              · rw [List.pairwise_append]
                refine ⟨h.2, by simp, fun a ha b hb => ?_⟩
                simp at hb; subst hb
                exact hf.2 a ha
            · rw [if_pos h4]; exact none
      · rw [if_pos h1]; exact none
theorem decX_ok (s : ByteArray) : AccOk (decX s) := by
  have none : AccOk [] := ⟨fun x hx => by simp at hx, List.Pairwise.nil⟩
  unfold decX
  by_cases h : gv s 3 1 = 1
  · rw [if_pos h]; exact xrun_ok _ _ _ _ _ none
  · rw [if_neg h]; exact none
/-- The numbers and data of a list. -/
def eI (l : Ex) (i : Nat) : Int := ((l.getD i (0, ⟨#[]⟩)).1 : Int)
def eD (l : Ex) (i : Nat) : ByteArray := (l.getD i (0, ⟨#[]⟩)).2
theorem eI_at {l : Ex} {i : Nat} (h : i < l.length) : eI l i = ((l[i]).1 : Int) ∧ eD l i = (l[i]).2 := by
  unfold eI eD
  rw [List.getD_eq_getElem?_getD, List.getElem?_eq_getElem h]
  exact ⟨rfl, rfl⟩
theorem ok_ext {l : Ex} (h : AccOk l) : ExtOk (eI l) (eD l) l.length := by
  intro i hi
  obtain ⟨e1, e2⟩ := eI_at hi
  have := h.1 l[i] (List.getElem_mem hi)
  refine ⟨by omega, by rw [e2]; exact this.2, fun j hj => ?_⟩
  obtain ⟨e3, _⟩ := eI_at (l := l) (i := j) (by omega)
  have := List.pairwise_iff_getElem.1 h.2 j i (by omega) hi hj
  omega
/-- No more than m numbers from 1 to m differ. -/
theorem pigeon (m : Nat) : ∀ l : List Nat, (∀ x ∈ l, 1 ≤ x ∧ x ≤ m) → l.Pairwise (· ≠ ·) → l.length ≤ m := by
  induction m with
  | zero =>
    intro l h _
    cases l with
    | nil => simp
    | cons a l => have := h a (by simp); omega
  | succ m ih =>
    intro l h hd
    have h1 := ih (l.filter fun x => decide (x ≤ m)) (fun x hx => by
      have := List.mem_filter.1 hx
      have h2 := h x this.1
      exact ⟨h2.1, by simpa using this.2⟩) (hd.filter _)
    have h2 : (l.filter fun x => !decide (x ≤ m)).length ≤ 1 := by
      have hp := hd.filter (fun x => !decide (x ≤ m))
      have ha : ∀ x ∈ l.filter (fun x => !decide (x ≤ m)), x = m + 1 := fun x hx => by
        have k := List.mem_filter.1 hx
        have := h x k.1
        have k2 : ¬ x ≤ m := by simpa using k.2
        omega
      generalize l.filter (fun x => !decide (x ≤ m)) = r at hp ha
      match r, hp, ha with
      | [], _, _ => simp
      | [a], _, _ => simp
      | a :: b :: r, hp, ha =>
        have e1 := ha a (by simp)
        have e2 := ha b (by simp)
        have := (List.pairwise_cons.1 hp).1 b (by simp)
        omega
    have h3 : l.length = (l.filter fun x => decide (x ≤ m)).length + (l.filter fun x => !decide (x ≤ m)).length := by
      clear h hd h1 h2 ih
      induction l with
      | nil => rfl
      | cons a l ih =>
        by_cases e : a ≤ m
        · simp only [List.filter_cons, decide_eq_true e, Bool.not_true, List.length_cons, if_true, ih]
          simp; omega
        · simp only [List.filter_cons, decide_eq_false e, Bool.not_false, List.length_cons, if_true, ih]
          simp; omega
    omega
theorem ok_len {l : Ex} (h : AccOk l) : l.length ≤ 14 := by
  have := pigeon 14 (l.map (·.1)) (fun x hx => by
    obtain ⟨y, hy, rfl⟩ := List.mem_map.1 hx
    exact (h.1 y hy).1) (List.pairwise_map.2 h.2)
  simpa using this
theorem xcells_xC (l : Ex) : xcells l = xC (eI l) (eD l) l.length := by
  have g : ∀ k, k ≤ l.length → xcells (l.take k) = xC (eI l) (eD l) k := by
    intro k hk
    induction k with
    | zero => rfl
    | succ k ih =>
      have hlt : k < l.length := by omega
      obtain ⟨e1, e2⟩ := eI_at hlt
      rw [List.take_succ_eq_append_getElem hlt, xcells_app, ih (by omega), xC, e1, e2]
  have := g l.length (Nat.le_refl _)
  rwa [List.take_length] at this
theorem srcV_cells (s : ByteArray) (n : Nat) : srcV s n = sCells (fun i => (gw s (96 + 32 * i) 32 : Int)) n := rfl
/-- What Decode hands back is a header. -/
theorem dec_good (s : ByteArray) : GoodH (gw s 9 7 : Int) (gw s 16 16 : Int) (gw s 32 32 : Int) (gw s 64 32 : Int) (gv s 4 4) (fun i => (gw s (96 + 32 * i) 32 : Int)) (decX s).length (eI (decX s)) (eD (decX s)) := by
  have h1 := gw_lt s 9 7
  have h2 := gw_lt s 16 16
  have h3 := gw_lt s 32 32
  have h4 := gw_lt s 64 32
  have h5 := gv_lt s 4 4
  exact ⟨by omega, by omega, by omega, by omega, by omega, by omega, by omega, by omega, fun i _ => by have := gw_lt s (96 + 32 * i) 32; omega, by omega, ok_len (decX_ok s), ok_ext (decX_ok s)⟩
theorem GoodH.b {ty sq tm ss : Int} {ns : Nat} {S : Nat → Int} {ne : Nat} {I : Nat → Int} {D : Nat → ByteArray} (g : GoodH ty sq tm ss ns S ne I D) : goodB ty sq ns ne I D = true := good_true ⟨g.y0, g.y1, g.q0, g.q1, g.hns, g.hne, g.hok⟩
theorem good_of {ty sq tm ss : Int} {ns : Nat} {S : Nat → Int} {ne : Nat} {I : Nat → Int} {D : Nat → ByteArray} (h : goodB ty sq ns ne I D = true) (t0 : 0 ≤ tm) (t1 : tm < 4294967296) (s0 : 0 ≤ ss) (s1 : ss < 4294967296) (hs : ∀ i, i < ns → 0 ≤ S i ∧ S i < 4294967296) : GoodH ty sq tm ss ns S ne I D := by
  obtain ⟨y0, y1, q0, q1, hns, hne, hok⟩ := good_parts h
  exact ⟨y0, y1, q0, q1, t0, t1, s0, s1, hs, hns, hne, hok⟩
/-- The size of a header's text. -/
theorem enc_len {mk : Bool} {ty sq tm ss : Int} {ns : Nat} {S : Nat → Int} {ne : Nat} {I : Nat → Int} {D : Nat → ByteArray} (g : GoodH ty sq tm ss ns S ne I D) :
    (encL mk ty sq tm ss ns S ne I D).length % 8 = 0 ∧ 8 * (packS (encL mk ty sq tm ss ns S ne I D)).size = (encL mk ty sq tm ss ns S ne I D).length ∧
    (packS (encL mk ty sq tm ss ns S ne I D)).size = (if ne = 0 then 12 + 4 * ns else 12 + 4 * ns + (4 + 4 * ((xlen D ne + 3) / 4))) ∧ (packS (encL mk ty sq tm ss ns S ne I D)).size ≤ 320 := by
  have hl := encL_len mk ty sq tm ss ns S ne I D g.hns g.hne g.hok
  have hx := xlen_le g.hok ne (Nat.le_refl _)
  have h1 := g.hns
  have h2 := g.hne
  rw [packS_size, hl]
  unfold roomX
  by_cases h0 : ne = 0
  · rw [if_pos h0, if_pos h0]; omega
  · rw [if_neg h0, if_neg h0]; omega
/-- The cells of exts, as they are read back. -/
theorem exl_cells (I : Nat → Int) (D : Nat → ByteArray) (n : Nat) (h : ∀ i, i < n → 0 ≤ I i) : xcells (exl I D n) = xC I D n := by
  induction n with
  | zero => rfl
  | succ n ih =>
    have := h n (by omega)
    rw [exl_next, xcells_app, ih (fun i hi => h i (by omega)), xC]
    simp only
    rw [Int.toNat_of_nonneg this]
theorem exl_len (I : Nat → Int) (D : Nat → ByteArray) (n : Nat) : (exl I D n).length = n := by simp [exl]
/-- A header's text, cut off at k bytes. -/
theorem pre_cut (L : List Bool) (k : Nat) (hk : k ≤ (packS L).size) : Pre ((packS L).extract 0 k) L ∧ ((packS L).extract 0 k).size = k := by
  have hsz : ((packS L).extract 0 k).size = k := by simp; omega
  refine ⟨fun p n h1 h2 => ?_, hsz⟩
  rw [← gv_pack]
  rw [hsz] at h2
  refine gv_same _ _ k (fun i hi => ?_) p n h2
  have e : ((packS L).extract 0 k).data.toList = (packS L).data.toList.take k := by simp [ByteArray.data_extract]
  rw [e, List.getD_eq_getElem?_getD, List.getD_eq_getElem?_getD, List.getElem?_take_of_lt hi]
end Go.Proofs.Ytdajcgicpfpeoaa
