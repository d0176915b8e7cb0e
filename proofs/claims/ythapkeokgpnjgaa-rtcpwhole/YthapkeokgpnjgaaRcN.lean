/-
  Messages one behind the other; an append whose guard says yes.
-/
import Derived.Test.YthapkeokgpnjgaaRcV
import Derived.BigFrame
namespace Go.Proofs.Ythapkeokgpnjgaa
open Go.RowKit

theorem wpList_append_want {P : Program} (w : World) {ops : Array Oper} {rest : List Oper} {o : Oper} {a : Act} {Q : Exit → Act → World → Prop} (hgd : Region.wanted o (yielded ops a.tmps) = true) (s x : Operand) (t : TypeId)
    (ho : o.op = .call { callee := .builtin .append, args := #[s, x], argTypes := #[t, t] })
    (base : Nat) (e : TypeId) (i : TypeInfo) (z : Value) (size bytes : Nat) (ht : P.underlying t = some (.slice e)) (hi : P.info? e = some i) (hz : i.zero = some z)
    (hsize : i.size = size) (hby : i.bytes = bytes) (hzs : z.cells.size = size) (hsz : 0 < size)
    (v : Value) (n : Nat) (xs : List Value) (hs : a.eval s = v) (hown : w.ownsRow base e size v n xs)
    (u : Value) (m : Nat) (news : List Value) (hx : a.eval x = u) (hsrc : SrcN w size u m news) (h1 : ∀ u ∈ news, u.oneCell' = true)
    (h63 : n + m ≤ maxLen) (hbytes : (n + m) * bytes ≤ 140737488355328) (hbase : base ≤ w.heap.size)
    (h : ∀ v' w', w'.ownsRow base e size v' (n + m) (xs ++ news) → w.grownBy w' v.ownBlock → wpList P ops Q rest (a.put o.dst v') w') : wpList P ops Q (o :: rest) a w :=
  BigFrame.wpList_want hgd fun K hK => by
    obtain ⟨v', w', hr, h2, h3⟩ := run_append_onto (P := P) w base t o.type e i z size bytes ht hi hz hsize hby hzs hsz v n xs hown u m news hsrc h1 h63 hbytes hbase
    unfold Oper.wp execOp
    simp only [ho, resolve, invoke, builtin, Sem.run_bind, Sem.run_pure, Result.andThen_ok, List.map_toArray, List.map_cons, List.map_nil, hs, hx, hr]
    exact hK _ _ (h v' w' h2 h3)
theorem PA.sizes {B : Nat} {w : World} {a : Option Addr} {l : List Pt} (h : PA B w a l) : ∀ p ∈ l, p.d.size ≤ maxLen := by
  intro p hp
  obtain ⟨i, hi⟩ := List.getElem?_of_mem hp
  rcases h.2 with h0 | ⟨b, off, _, _, hc⟩
  · subst h0; cases hp
  · exact (hc i p hi).2.2.2
theorem fr_app (s t : ByteArray) : fr (s ++ t) 0 = fr s 0 ++ fr t 0 := by simp [fr]
theorem sE_nil : sE [] = 60 := by rw [sE_wrong (by rw [gE_short (by simp)]; decide), gE_short (by simp)]
theorem whole_has {s : ByteArray} (h : rE s = 0) : rL s ≠ [] ∧ sz (rL s) ≤ s.size ∧ s.size - sz (rL s) ≤ 255 := by
  obtain ⟨h1, h2, h3⟩ := rE_zero h
  obtain ⟨i1, i2, i3, i4⟩ := split_has _ (fr s 0) (Nat.le_refl _) h2
  rw [fr_len, Nat.sub_zero] at i2 i3
  rw [h3]
  exact ⟨i1, i2, i3⟩
/-- What two messages tell one behind the other. -/
theorem whole_both {s t : ByteArray} (h : rE s = 0) (ht : rE t = 0) (hz : sz (rL s) = s.size) (hm : s.size + t.size ≤ 65536) : rE (s ++ t) = 0 ∧ rL (s ++ t) = rL s ++ rL t := by
  obtain ⟨h1, h2, h3⟩ := rE_zero h
  obtain ⟨t1, t2, t3⟩ := rE_zero ht
  obtain ⟨i1, i2, i3, i4⟩ := split_has _ (fr s 0) (Nat.le_refl _) h2
  have hmem := sL_mem _ (fr s 0) (Nat.le_refl _)
  have hfl := fr_len s 0
  rw [h3] at hz
  have e1 := i4 (by omega)
  have hne : fr t 0 ≠ [] := by
    intro e
    rw [e, sE_nil] at t2
    exact absurd t2 (by decide)
  obtain ⟨m1, m2⟩ := mb_more (sL (fr s 0)) (allOk_iff.2 fun p hp => (hmem p hp).1) (fr t 0) hne
  rw [← e1, ← fr_app] at m1 m2
  have e : rE (s ++ t) = 0 := by
    unfold rE
    rw [ByteArray.size_append, if_neg (by omega), m1, t2]
  refine ⟨e, ?_⟩
  have e2 : rL (s ++ t) = sL (fr (s ++ t) 0) := by unfold rL; rw [if_pos e]
  rw [e2, m2, h3, t3]
end Go.Proofs.Ythapkeokgpnjgaa
