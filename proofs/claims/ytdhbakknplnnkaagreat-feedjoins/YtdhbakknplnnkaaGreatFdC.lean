/-
  Rows that are put together: three readings, boxed; reports that can be read.
-/
import Derived.Test.YtdhbakknplnnkaaGreatFdZ
import Derived.Test.YtdhbakknplnnkaaGreatRc5
namespace Go.Proofs.YtdhbakknplnnkaaGreat.Fd
open Go.RowKit Go.Proofs.YtdhbakknplnnkaaGreat.Nk

theorem ra_src {B : Nat} {w : World} {a : Option Addr} {l : List Rt} {cap : Nat} (h : RA B w a l) : SrcN w 5 (.slice a l.length cap) l.length (rC l) := by
  rcases h.2 with h0 | ⟨b, off, rfl, hb, hc⟩
  · subst h0
    cases a with
    | none => exact .inl ⟨cap, rfl, rfl, rfl⟩
    | some ad => exact .inr ⟨ad, cap, rfl, rfl, fun j u hj => by simp [rC] at hj⟩
  · refine .inr ⟨_, cap, rfl, by simp, fun j u hj => ?_⟩
    have hl : j < l.length * 5 := by have := (List.getElem?_eq_some_iff.1 hj).1; simpa using this
    have hi : j / 5 < l.length := by omega
    obtain ⟨c0, c1, c2, c3, c4⟩ := hc (j / 5) _ (List.getElem?_eq_getElem hi)
    obtain ⟨g0, g1, g2, g3, g4⟩ := rC_get l (j / 5) _ (List.getElem?_eq_getElem hi)
    rw [Addr.add_lit, ← hj]
    rcases (by omega : j = j / 5 * 5 ∨ j = j / 5 * 5 + 1 ∨ j = j / 5 * 5 + 2 ∨ j = j / 5 * 5 + 3 ∨ j = j / 5 * 5 + 4) with e | e | e | e | e
    · rw [e, c0, g0]
    · rw [e, ← Nat.add_assoc, c1, g1]
    · rw [e, ← Nat.add_assoc, c2, g2]
    · rw [e, ← Nat.add_assoc, c3, g3]
    · rw [e, ← Nat.add_assoc, c4, g4]
/-- Three readings, boxed. -/
structure Tri (w wr : World) (b1 b2 b3 : Nat) (a1 a1' a2 a2' a3 a3' : Option Addr) (c1 c1' c2 c2' c3 c3' : Nat) (R1 R2 R3 : List Rt) (A1 A2 A3 : List Int) : Prop where
  f : Fb 26 w wr b1 a1 c1 a1' c1' R1 A1
  g : Fb 26 w wr b2 a2 c2 a2' c2' R2 A2
  h : Fb 26 w wr b3 a3 c3 a3' c3' R3 A3
theorem Tri.next {w wr w2 : World} {b1 b2 b3 : Nat} {a1 a1' a2 a2' a3 a3' : Option Addr} {c1 c1' c2 c2' c3 c3' : Nat} {R1 R2 R3 : List Rt} {A1 A2 A3 : List Int} (t : Tri w wr b1 b2 b3 a1 a1' a2 a2' a3 a3' c1 c1' c2 c2' c3 c3' R1 R2 R3 A1 A2 A3) (hb : Below wr.heap.size wr w2) : Tri w w2 b1 b2 b3 a1 a1' a2 a2' a3 a3' c1 c1' c2 c2' c3 c3' R1 R2 R3 A1 A2 A3 :=
  ⟨t.f.next hb, t.g.next hb, t.h.next hb⟩
/-- What a walk asks of them. -/
theorem Tri.c {w wr : World} {b1 b2 b3 : Nat} {a1 a1' a2 a2' a3 a3' : Option Addr} {c1 c1' c2 c2' c3 c3' : Nat} {R1 R2 R3 : List Rt} {A1 A2 A3 : List Int} (t : Tri w wr b1 b2 b3 a1 a1' a2 a2' a3 a3' c1 c1' c2 c2' c3 c3' R1 R2 R3 A1 A2 A3) :
    (wr.cell? ⟨b1, 0, none⟩ = some (.slice a1 R1.length c1) ∧ wr.cell? ⟨b1, 1, none⟩ = some (.slice a1' A1.length c1')) ∧ (wr.cell? ⟨b2, 0, none⟩ = some (.slice a2 R2.length c2) ∧ wr.cell? ⟨b2, 1, none⟩ = some (.slice a2' A2.length c2')) ∧ (wr.cell? ⟨b3, 0, none⟩ = some (.slice a3 R3.length c3) ∧ wr.cell? ⟨b3, 1, none⟩ = some (.slice a3' A3.length c3')) :=
  ⟨(Fd.cells2 t.f.d).1, (Fd.cells2 t.g.d).1, (Fd.cells2 t.h.d).1⟩
theorem Tri.cc {w wr : World} {b1 b2 b3 : Nat} {a1 a1' a2 a2' a3 a3' : Option Addr} {c1 c1' c2 c2' c3 c3' : Nat} {R1 R2 R3 : List Rt} {A1 A2 A3 : List Int} (t : Tri w wr b1 b2 b3 a1 a1' a2 a2' a3 a3' c1 c1' c2 c2' c3 c3' R1 R2 R3 A1 A2 A3) {n1 n2 n3 m1 m2 m3 : Nat} (h1 : R1.length = n1) (h2 : R2.length = n2) (h3 : R3.length = n3) (k1 : A1.length = m1) (k2 : A2.length = m2) (k3 : A3.length = m3) :
    (wr.cell? ⟨b1, 0, none⟩ = some (.slice a1 n1 c1) ∧ wr.cell? ⟨b1, 1, none⟩ = some (.slice a1' m1 c1')) ∧ (wr.cell? ⟨b2, 0, none⟩ = some (.slice a2 n2 c2) ∧ wr.cell? ⟨b2, 1, none⟩ = some (.slice a2' m2 c2')) ∧ (wr.cell? ⟨b3, 0, none⟩ = some (.slice a3 n3 c3) ∧ wr.cell? ⟨b3, 1, none⟩ = some (.slice a3' m3 c3')) := by
  subst h1 h2 h3 k1 k2 k3; exact t.c
theorem ra_srcn {B n cap : Nat} {w : World} {a : Option Addr} {l : List Rt} (h : RA B w a l) (hn : l.length = n) : SrcN w 5 (.slice a n cap) n (rC l) := by subst hn; exact ra_src h
theorem ia_srcn {B n c : Nat} {w : World} {a : Option Addr} {l : List Int} (h : IA B w a c l) (hn : l.length = n) : SrcN w 1 (.slice a n c) n (IC l) := by subst hn; exact Fd.ia_src h
theorem reps_own {B n m cp : Nat} {w : World} {ad : Option Addr} {l k : List Rt} (h : w.ownsRow B 58 5 (.slice ad (n + m) cp) (n + m) (rC l ++ rC k)) (hn : l.length = n) (hm : k.length = m) : RA w.heap.size w ad (l ++ k) := by
  have en : (l ++ k).length = n + m := by rw [List.length_append, hn, hm]
  rw [← rC_app, ← en] at h
  obtain ⟨a, c, hv, hr⟩ := or_ra (l := l ++ k) h
  simp only [Value.slice.injEq] at hv
  obtain ⟨rfl, -, rfl⟩ := hv
  exact hr
theorem ints_own {B n m cp : Nat} {w : World} {ad : Option Addr} {l k : List Int} (h : w.ownsRow B 3 1 (.slice ad (n + m) cp) (n + m) (IC l ++ IC k)) (hn : l.length = n) (hm : k.length = m) : IA w.heap.size w ad cp (l ++ k) := by
  have en : (l ++ k).length = n + m := by rw [List.length_append, hn, hm]
  rw [← IC_app, ← en] at h
  obtain ⟨a, c, hv, hr⟩ := own_ia (l := l ++ k) h
  simp only [Value.slice.injEq] at hv
  obtain ⟨rfl, -, rfl⟩ := hv
  exact hr
/-- What a row of one's own that was empty leaves as it was. -/
theorem grow_e {B n c : Nat} {w w' : World} {o : Obj} (hg : (w.alloc o).grownBy w' (Value.slice (some ⟨w.heap.size, 0, none⟩) n c).ownBlock) (hB : B ≤ w.heap.size) : Below B w w' :=
  ((Below.refl B w).alloc hB o).trans ⟨hg.os, hg.tape, hg.output, hg.size, fun k hk => hg.block k (by simp; omega) (fun e => by simp [Value.ownBlock] at e; omega)⟩
/-- An append at a guarded step of a region that draws. -/
theorem step_append_want {P : Program} {w : World} {ops : Array Oper} {o : Oper} {a : Act} {K : Act → World → Prop} {Q : Exit → Act → World → Prop} {E : Prop} (hw : Region.wanted o (yielded ops a.tmps) = true) (s x : Operand) (t : TypeId)
    (ho : o.op = .call { callee := .builtin .append, args := #[s, x], argTypes := #[t, t] })
    (base : Nat) (e : TypeId) (i : TypeInfo) (z : Value) (size bytes : Nat) (ht : P.underlying t = some (.slice e)) (hi : P.info? e = some i) (hz : i.zero = some z)
    (hsize : i.size = size) (hby : i.bytes = bytes) (hzs : z.cells.size = size) (hsz : 0 < size)
    (v : Value) (n : Nat) (xs : List Value) (hs : a.eval s = v) (hown : w.ownsRow base e size v n xs)
    (u : Value) (m : Nat) (news : List Value) (hx : a.eval x = u) (hsrc : SrcN w size u m news) (h1 : ∀ u ∈ news, u.oneCell' = true)
    (h63 : n + m ≤ maxLen) (hbytes : (n + m) * bytes ≤ 140737488355328) (hbase : base ≤ w.heap.size)
    (h : ∀ v' w', w'.ownsRow base e size v' (n + m) (xs ++ news) → w.grownBy w' v.ownBlock → (∀ k, v'.ownBlock = some k → v.ownBlock = some k ∨ w.heap.size ≤ k) → K (a.put o.dst v') w') :
    if Region.wanted o (yielded ops a.tmps) = true then Oper.wp P o a w K Q else E := by
  rw [if_pos hw]
  exact wp_append_told w s x t ho base e i z size bytes ht hi hz hsize hby hzs hsz v n xs hs hown u m news hx hsrc h1 h63 hbytes hbase h
theorem parts_own {w : World} {base : Nat} {v : Value} {n m : Nat} {l k : List Rc.Pt} (h : w.ownsRow base 56 3 v (n + m) (Rc.pC l ++ Rc.pC k)) (hn : l.length = n) (hm : k.length = m) (hb : n + m ≤ 1000000) (hD : ∀ p ∈ l ++ k, p.d.size ≤ maxLen) : ∃ a c, v = .slice a (l ++ k).length c ∧ Rc.PA w.heap.size w a (l ++ k) := by
  have en : (l ++ k).length = n + m := by rw [List.length_append, hn, hm]
  rw [← Rc.pC_app, ← en] at h
  obtain ⟨a, c, hv, hpa, _⟩ := Rc.own_pa h (Nat.le_refl _) (by rw [en]; unfold maxLen; omega) hD
  exact ⟨a, c, hv, hpa⟩
end Go.Proofs.YtdhbakknplnnkaaGreat.Fd
