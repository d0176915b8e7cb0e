/-
  What messages tell that are joined; what other parts change.
-/
import Derived.Test.YtdhbakknplnnkaaGreatFdX
namespace Go.Proofs.YtdhbakknplnnkaaGreat.Fd
open Go.RowKit

theorem lsR_app (near : Int) (l k : List Rc.Pt) : lsR near (l ++ k) = lsR near l ++ lsR near k := by unfold lsR; rw [List.flatMap_append]
theorem lsA_app (l k : List Rc.Pt) : lsA (l ++ k) = lsA l ++ lsA k := by unfold lsA; rw [List.flatMap_append]
theorem lsK_app (l k : List Rc.Pt) : lsK (l ++ k) = (lsK l || lsK k) := by unfold lsK; rw [List.any_append]
theorem lsE_app (l k : List Rc.Pt) : lsE (l ++ k) = if lsE l = 0 then lsE k else lsE l := by
  induction l with
  | nil => rfl
  | cons p l ih =>
    rw [List.cons_append, lsE_cons, lsE_cons, ih]
    by_cases h : pE p = 0
    · simp [h]
    · simp [h]
/-- What is told of a list of parts, as one. -/
theorem fd_of {s : ByteArray} {near : Int} (h : Rc.rE s = 0) : fdE s near = if lsE (Rc.rL s) = 0 then (if lsK (Rc.rL s) = true then (if 4096 < (lsR (nrH near) (Rc.rL s)).length ∨ 4096 < (lsA (Rc.rL s)).length then 3 else 0) else 120) else lsE (Rc.rL s) := by
  unfold fdE; rw [if_pos h]
theorem fd_zero {s : ByteArray} {near : Int} (h : fdE s near = 0) : Rc.rE s = 0 ∧ lsE (Rc.rL s) = 0 ∧ lsK (Rc.rL s) = true ∧ (lsR (nrH near) (Rc.rL s)).length ≤ 4096 ∧ (lsA (Rc.rL s)).length ≤ 4096 := by
  unfold fdE at h
  split at h
  · rename_i h0
    split at h
    · rename_i h1
      split at h
      · rename_i h2
        split at h
        · simp at h
        · rename_i h3
          exact ⟨h0, h1, h2, by omega, by omega⟩
      · simp at h
    · contradiction
  · contradiction
theorem fd_lists {s : ByteArray} {near : Int} (h : fdE s near = 0) : fdR s near = lsR (nrH near) (Rc.rL s) ∧ fdA s near = lsA (Rc.rL s) := by
  unfold fdR fdA; rw [if_pos h, if_pos h]; exact ⟨rfl, rfl⟩
/-- Two messages joined tell what both tell. -/
theorem join_reads {s t : ByteArray} {near : Int} (hs : fdE s near = 0) (ht : fdE t near = 0) (hk : Rc.jE (Rc.rL s ++ Rc.rL t) = 0)
    (h1 : (fdR s near).length + (fdR t near).length ≤ 4096) (h2 : (fdA s near).length + (fdA t near).length ≤ 4096) :
    fdE (Rc.jS (Rc.rL s ++ Rc.rL t)) near = 0 ∧ fdR (Rc.jS (Rc.rL s ++ Rc.rL t)) near = fdR s near ++ fdR t near ∧ fdA (Rc.jS (Rc.rL s ++ Rc.rL t)) near = fdA s near ++ fdA t near := by
  obtain ⟨b0, b1⟩ := Rc.back hk
  obtain ⟨s0, s1, s2, s3, s4⟩ := fd_zero hs
  obtain ⟨t0, t1, t2, t3, t4⟩ := fd_zero ht
  obtain ⟨s5, s6⟩ := fd_lists hs
  obtain ⟨t5, t6⟩ := fd_lists ht
  rw [s5, t5] at h1
  rw [s6, t6] at h2
  have he : fdE (Rc.jS (Rc.rL s ++ Rc.rL t)) near = 0 := by
    rw [fd_of b0, b1, lsE_app, if_pos s1, if_pos t1, lsK_app, s2, Bool.true_or, if_pos rfl, lsR_app, lsA_app, List.length_append, List.length_append, if_neg (by omega)]
  obtain ⟨u1, u2⟩ := fd_lists he
  exact ⟨he, by rw [u1, b1, lsR_app, s5, t5], by rw [u2, b1, lsA_app, s6, t6]⟩
/-- Parts of another type tell nothing. -/
theorem o_tells {o : Rc.Pt} (h : ¬ o.t = 205) (near : Int) : pE o = 0 ∧ pR near o = [] ∧ pA o = [] ∧ pK o = false := by
  obtain ⟨c, t, d⟩ := o
  exact p_other h
theorem o_alone {o : Rc.Pt} (h : ¬ o.t = 205) (hk : Rc.jE [o, o] = 0) (near : Int) : fdE (Rc.jS [o, o]) near = 120 := by
  obtain ⟨b0, b1⟩ := Rc.back hk
  obtain ⟨h1, h2, h3, h4⟩ := o_tells h near
  rw [fd_of b0, b1]
  simp [h1, h4, lsE, lsK]
theorem o_among {o : Rc.Pt} (h : ¬ o.t = 205) {s : ByteArray} (hs : Rc.rE s = 0) (hk : Rc.jE (o :: Rc.rL s ++ [o]) = 0) (near : Int) :
    fdE (Rc.jS (o :: Rc.rL s ++ [o])) near = fdE s near ∧ fdR (Rc.jS (o :: Rc.rL s ++ [o])) near = fdR s near ∧ fdA (Rc.jS (o :: Rc.rL s ++ [o])) near = fdA s near := by
  obtain ⟨b0, b1⟩ := Rc.back hk
  have e1 : lsE (o :: Rc.rL s ++ [o]) = lsE (Rc.rL s) := by
    obtain ⟨h1, _, _, _⟩ := o_tells h near
    rw [List.cons_append, lsE_cons, if_pos h1, lsE_app, lsE_cons, if_pos h1]
    show (if lsE (Rc.rL s) = 0 then 0 else lsE (Rc.rL s)) = _
    split <;> simp_all
  have e2 : lsR (nrH near) (o :: Rc.rL s ++ [o]) = lsR (nrH near) (Rc.rL s) := by
    obtain ⟨_, h2, _, _⟩ := o_tells h (nrH near)
    rw [List.cons_append, lsR_cons, lsR_app, lsR_cons, h2]
    simp [lsR]
  have e3 : lsA (o :: Rc.rL s ++ [o]) = lsA (Rc.rL s) := by
    obtain ⟨_, _, h3, _⟩ := o_tells h near
    rw [List.cons_append, lsA_cons, lsA_app, lsA_cons, h3]
    simp [lsA]
  have e4 : lsK (o :: Rc.rL s ++ [o]) = lsK (Rc.rL s) := by
    obtain ⟨_, _, _, h4⟩ := o_tells h near
    rw [List.cons_append, lsK_cons, lsK_app, lsK_cons, h4]
    simp [lsK]
  have he : fdE (Rc.jS (o :: Rc.rL s ++ [o])) near = fdE s near := by
    rw [fd_of b0, fd_of hs, b1, e1, e2, e3, e4]
  refine ⟨he, ?_, ?_⟩
  · unfold fdR; rw [he, b1, e2]
  · unfold fdA; rw [he, b1, e3]
end Go.Proofs.YtdhbakknplnnkaaGreat.Fd
