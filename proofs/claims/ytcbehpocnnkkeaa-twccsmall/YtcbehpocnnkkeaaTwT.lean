/-
  A report whose packets are all alike: how it is put together, what its bits are.
-/
import Derived.Test.YtcbehpocnnkkeaaTwV
namespace Go.Proofs.Ytcbehpocnnkkeaa
open Go.RowKit

/-- The Deltas that stand beside i Status s. -/
def dsS (s : Int) (i : Nat) : List Int := if 0 < s then (List.range i).map (fun j => ((j % 200 : Nat) : Int)) else []
theorem dsS_add {s : Int} (h : 0 < s) (i : Nat) : dsS s (i + 1) = dsS s i ++ [((i % 200 : Nat) : Int)] := by
  unfold dsS; rw [if_pos h, if_pos h, List.range_succ, List.map_append]; rfl
theorem dsS_zero {s : Int} (h : ¬ 0 < s) (i : Nat) : dsS s i = [] := by unfold dsS; rw [if_neg h]
theorem dsS_nil (s : Int) : dsS s 0 = [] := by unfold dsS; split <;> rfl
theorem dsS_len (s : Int) (i : Nat) : (dsS s i).length ≤ i := by unfold dsS; split <;> simp
theorem rep_add (s : Int) (i : Nat) : List.replicate (i + 1) s = List.replicate i s ++ [s] := by
  rw [show [s] = List.replicate 1 s from rfl, List.replicate_append_replicate]
theorem cnt_rep (s : Int) (k : Nat) : cnt s (List.replicate k s) = k := by
  induction k with
  | zero => rfl
  | succ k ih => rw [List.replicate_succ, cnt, if_pos rfl, ih]
theorem alk_rep {k : Nat} (hk : 1 ≤ k) (s : Int) : alk (List.replicate k s) = k ∧ (List.replicate k s).getD 0 0 = s := by
  obtain ⟨j, rfl⟩ : ∃ j, k = j + 1 := ⟨k - 1, by omega⟩
  have e : (List.replicate (j + 1) s).getD 0 0 = s := by rw [List.replicate_succ]; rfl
  exact ⟨by unfold alk; rw [e, cnt_rep], e⟩
theorem sumL_rep (s : Int) (k : Nat) : sumL (List.replicate k s) = s * k := by
  induction k with
  | zero => simp [sumL]
  | succ k ih =>
    rw [List.replicate_succ, sumL, ih]
    have : s * ((k + 1 : Nat) : Int) = s * k + s := by rw [Int.natCast_add, Int.mul_add]; simp
    omega
theorem chB_rep {k : Nat} (hk : 1 ≤ k) {s : Int} : chB (List.replicate k s) = bitsOf 0 1 ++ bitsOf s.toNat 2 ++ bitsOf k 13 := by
  obtain ⟨a1, a2⟩ := alk_rep hk s
  have hkd : kind (List.replicate k s) = 0 := by unfold kind; rw [a1, List.length_replicate, if_pos (Nat.min_le_right _ _)]
  have hn : ckN (List.replicate k s) = k := by unfold ckN; rw [if_pos hkd, a1]
  rw [chB_cons (by rw [List.length_replicate]; omega), hn, List.drop_of_length_le (by rw [List.length_replicate]; exact Nat.le_refl _), chB_nil, List.append_nil]
  unfold ckB
  rw [if_pos hkd]
  unfold runB
  rw [a1, a2]
theorem mat_dsS {s : Int} (s0 : 0 ≤ s) (s2 : s ≤ 2) (k : Nat) : mat (List.replicate k s) (dsS s k) = true := by
  by_cases h : 0 < s
  · have key : ∀ l : List Int, (∀ x ∈ l, 0 ≤ x ∧ x < 200) → mat (List.replicate l.length s) l = true := by
      intro l
      induction l with
      | nil => intro _; rfl
      | cons x l ih =>
        intro hx
        obtain ⟨x0, x1⟩ := hx x List.mem_cons_self
        rw [List.length_cons, List.replicate_succ, mat, if_neg (by omega), ih (fun y hy => hx y (List.mem_cons_of_mem _ hy)), Bool.and_true]
        unfold dOk
        by_cases h1 : s = 1
        · rw [if_pos h1, decide_eq_true x0, decide_eq_true (by omega)]; rfl
        · rw [if_neg h1, if_pos (by omega), decide_eq_true (by omega), decide_eq_true (by omega)]; rfl
    have hl : (dsS s k).length = k := by unfold dsS; rw [if_pos h]; simp
    have := key (dsS s k) (by
      intro x hx
      unfold dsS at hx
      rw [if_pos h] at hx
      obtain ⟨j, _, rfl⟩ := List.mem_map.1 hx
      omega)
    rw [hl] at this
    exact this
  · obtain rfl : s = 0 := by omega
    rw [dsS_zero h]
    induction k with
    | zero => rfl
    | succ k ih => rw [List.replicate_succ, mat, if_pos rfl]; exact ih
theorem gv_byte (s : ByteArray) (q : Nat) (h : q < s.size) : gv s (8 * q) 8 = s[q].toNat := by
  rw [gv_piece s (8 * q) 8 (by omega), show 8 * q / 8 = q by omega, show 8 * q % 8 = 0 by omega, List.getD_eq_getElem?_getD, List.getElem?_eq_getElem (by simpa using h)]
  have e : (s.data.toList[q]'(by simpa using h)) = s[q] := rfl
  have := s[q].toNat_lt
  simp only [Option.getD_some, e, Nat.pow_zero, Nat.mul_one, Nat.sub_self, Nat.div_one]
  omega
theorem small_is {r : Rp} {k : Nat} {s : Int} (hk : 1 ≤ k) (h4 : k ≤ 4096) (s0 : 0 ≤ s) (s2 : s ≤ 2) (hst : r.st = List.replicate k s) (hg : goodR r = true) :
    ((packS (encL r)).size : Int) = (18 + s * k + 3) / 4 * 4 ∧ gv (packS (encL r)) 128 8 * 256 + gv (packS (encL r)) 136 8 = s.toNat * 8192 + k := by
  have hc : chB r.st = bitsOf 0 1 ++ bitsOf s.toNat 2 ++ bitsOf k 13 := by rw [hst]; exact chB_rep hk
  obtain ⟨z1, z2, z3, z4, z5, z6⟩ := enc_size hg
  constructor
  · have hs : sumL r.st = s * k := by rw [hst]; exact sumL_rep s k
    have hl : (chB r.st).length = 16 := by rw [hc]; simp
    rw [hs, hl] at z4
    obtain ⟨x, hx⟩ : ∃ x, s * (k : Int) = x := ⟨_, rfl⟩
    rw [hx] at z4 ⊢
    omega
  · obtain ⟨R, hR⟩ : ∃ R, encL r = hdB r ++ (bitsOf 0 1 ++ (bitsOf s.toNat 2 ++ (bitsOf k 13 ++ R))) := by
      refine ⟨dls r.st r.dl ++ bitsOf 0 ((32 - (bodyB r).length % 32) % 32), ?_⟩
      unfold encL
      rw [show bodyB r = hdB r ++ chB r.st ++ dls r.st r.dl from rfl, hc]
      simp only [List.append_assoc]
    have g1 := gv_mid (hdB r) (bitsOf s.toNat 2 ++ (bitsOf k 13 ++ R)) 0 1 128 (encL r) hR (by simp)
    have g2 := gv_mid (hdB r ++ bitsOf 0 1) (bitsOf k 13 ++ R) s.toNat 2 129 (encL r) (by rw [hR]; simp only [List.append_assoc]) (by simp)
    have g3 := gv_mid (hdB r ++ bitsOf 0 1 ++ bitsOf s.toNat 2) R k 13 131 (encL r) (by rw [hR]; simp only [List.append_assoc]) (by simp)
    have a1 := gv_add (packS (encL r)) 128 1 15
    have a2 := gv_add (packS (encL r)) 129 2 13
    have a3 := gv_add (packS (encL r)) 128 8 8
    simp only [Nat.reducePow, Nat.reduceAdd] at g1 g2 g3 a1 a2 a3
    omega
/-- Where the loop that puts it together stands: the report's box, the two rows. -/
structure Lw (w wr : World) (bx : Nat) (v0 v1 v2 v3 v4 : Value) (va : Option Addr) (n vc : Nat) (st : List Int) (da : Option Addr) (m dc : Nat) (dl : List Int) : Prop where
  o : Td wr bx v0 v1 v2 v3 v4 (.slice va n vc) (.slice da m dc)
  ow : wr.ownsRow (bx + 1) 3 1 (.slice va n vc) n (IC st)
  od : wr.ownsRow (bx + 1) 3 1 (.slice da m dc) m (IC dl)
  dj : ∀ k, (Value.slice va n vc).ownBlock = some k → ¬ (Value.slice da m dc).ownBlock = some k
  a : Apart (fun _ => False) w wr
  z : w.heap.size ≤ bx ∧ bx + 1 ≤ wr.heap.size
section
variable {w wr w2 : World} {bx : Nat} {v0 v1 v2 v3 v4 : Value} {va : Option Addr} {n vc : Nat} {st : List Int} {da : Option Addr} {m dc : Nat} {dl : List Int}
theorem Lw.alloc (h : Lw w wr bx v0 v1 v2 v3 v4 va n vc st da m dc dl) (u : Obj) : Lw w (wr.alloc u) bx v0 v1 v2 v3 v4 va n vc st da m dc dl := by
  have A := (Apart.refl (fun _ => False) wr).alloc u
  exact ⟨h.o.kept A (fun h => h), ownsRow_apart h.ow A (fun _ _ h => h), ownsRow_apart h.od A (fun _ _ h => h), h.dj, h.a.zz A, h.z.1, Nat.le_trans h.z.2 A.size⟩
theorem Lw.ia (h : Lw w wr bx v0 v1 v2 v3 v4 va n vc st da m dc dl) : st.length = n ∧ IA wr.heap.size wr va vc st := by
  obtain ⟨a, c, hv, hi⟩ := own_ia h.ow
  simp only [Value.slice.injEq] at hv
  obtain ⟨rfl, h1, rfl⟩ := hv
  exact ⟨h1.symm, hi⟩
theorem Lw.ja (h : Lw w wr bx v0 v1 v2 v3 v4 va n vc st da m dc dl) : dl.length = m ∧ IA wr.heap.size wr da dc dl := by
  obtain ⟨a, c, hv, hi⟩ := own_ia h.od
  simp only [Value.slice.injEq] at hv
  obtain ⟨rfl, h1, rfl⟩ := hv
  exact ⟨h1.symm, hi⟩
theorem Lw.nb5 (h : Lw w wr bx v0 v1 v2 v3 v4 va n vc st da m dc dl) (hg : wr.grownBy w2 (Value.slice va n vc).ownBlock) : Td w2 bx v0 v1 v2 v3 v4 (.slice va n vc) (.slice da m dc) :=
  h.o.kept (Apart.grown (X := fun j => (Value.slice va n vc).ownBlock = some j) (Apart.refl _ _) hg (fun _ _ e => e)) (fun e => by have := (h.ow.lt bx e).1; omega)
theorem Lw.nb6 (h : Lw w wr bx v0 v1 v2 v3 v4 va n vc st da m dc dl) (hg : wr.grownBy w2 (Value.slice da m dc).ownBlock) : Td w2 bx v0 v1 v2 v3 v4 (.slice va n vc) (.slice da m dc) :=
  h.o.kept (Apart.grown (X := fun j => (Value.slice da m dc).ownBlock = some j) (Apart.refl _ _) hg (fun _ _ e => e)) (fun e => by have := (h.od.lt bx e).1; omega)
theorem Lw.app5 {va3 : Option Addr} {n3 vc3 : Nat} {y : Int} (h : Lw w wr bx v0 v1 v2 v3 v4 va n vc st da m dc dl) (ho : w2.ownsRow (bx + 1) 3 1 (.slice va3 n3 vc3) n3 (IC st ++ [.int .i64 y])) (hg : wr.grownBy w2 (Value.slice va n vc).ownBlock)
    (hk : ∀ k, (Value.slice va3 n3 vc3).ownBlock = some k → (Value.slice va n vc).ownBlock = some k ∨ wr.heap.size ≤ k) :
    Lw w (w2.setCell ⟨bx, 5, none⟩ (.slice va3 n3 vc3)) bx v0 v1 v2 v3 v4 va3 n3 vc3 (st ++ [y]) da m dc dl := by
  obtain ⟨z0, z1⟩ := h.z
  have A : Apart (fun j => (Value.slice va n vc).ownBlock = some j) wr w2 := Apart.grown (Apart.refl _ _) hg (fun _ _ e => e)
  have L : ∀ j, (Value.slice va n vc).ownBlock = some j → bx + 1 ≤ j := fun j e => (h.ow.lt j e).1
  have S := ap_set w2 bx 5 (.slice va3 n3 vc3)
  have e : IC st ++ [.int .i64 y] = IC (st ++ [y]) := by rw [IC_app]; rfl
  rw [e] at ho
  refine ⟨(h.o.kept A (fun e => by have := L bx e; omega)).set5 _, ownsRow_apart ho S (by intro k hk e; omega), ?_, ?_, ?_, z0, ?_⟩
  · exact ownsRow_apart (ownsRow_apart2 h.od A (fun k hk e => h.dj k e hk)) S (by intro k hk e; omega)
  · intro k e1 e2
    rcases hk k e1 with e | e
    · exact h.dj k e e2
    · have := (h.od.lt k e2).2; omega
  · exact (h.a.trans A (fun i hi e => by have := L i e; omega)).trans S (fun i hi e => by omega)
  · have := A.size; simp; omega
theorem Lw.app6 {da3 : Option Addr} {m3 dc3 : Nat} {y : Int} (h : Lw w wr bx v0 v1 v2 v3 v4 va n vc st da m dc dl) (ho : w2.ownsRow (bx + 1) 3 1 (.slice da3 m3 dc3) m3 (IC dl ++ [.int .i64 y])) (hg : wr.grownBy w2 (Value.slice da m dc).ownBlock)
    (hk : ∀ k, (Value.slice da3 m3 dc3).ownBlock = some k → (Value.slice da m dc).ownBlock = some k ∨ wr.heap.size ≤ k) :
    Lw w (w2.setCell ⟨bx, 6, none⟩ (.slice da3 m3 dc3)) bx v0 v1 v2 v3 v4 va n vc st da3 m3 dc3 (dl ++ [y]) := by
  obtain ⟨z0, z1⟩ := h.z
  have A : Apart (fun j => (Value.slice da m dc).ownBlock = some j) wr w2 := Apart.grown (Apart.refl _ _) hg (fun _ _ e => e)
  have L : ∀ j, (Value.slice da m dc).ownBlock = some j → bx + 1 ≤ j := fun j e => (h.od.lt j e).1
  have S := ap_set w2 bx 6 (.slice da3 m3 dc3)
  have e : IC dl ++ [.int .i64 y] = IC (dl ++ [y]) := by rw [IC_app]; rfl
  rw [e] at ho
  refine ⟨(h.o.kept A (fun e => by have := L bx e; omega)).set6 _, ?_, ownsRow_apart ho S (by intro k hk e; omega), ?_, ?_, z0, ?_⟩
  · exact ownsRow_apart (ownsRow_apart2 h.ow A (fun k hk e => h.dj k hk e)) S (by intro k hk e; omega)
  · intro k e1 e2
    rcases hk k e2 with e | e
    · exact h.dj k e1 e
    · have := (h.ow.lt k e1).2; omega
  · exact (h.a.trans A (fun i hi e => by have := L i e; omega)).trans S (fun i hi e => by omega)
  · have := A.size; simp; omega
end
end Go.Proofs.Ytcbehpocnnkkeaa
