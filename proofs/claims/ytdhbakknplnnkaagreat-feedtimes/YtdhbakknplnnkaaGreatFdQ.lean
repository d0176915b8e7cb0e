/-
  What a message tells, part by part, as plain numbers.
-/
import Derived.Test.YtdhbakknplnnkaaGreatFdF
import Derived.Test.YtdhbakknplnnkaaGreatTw1
import Derived.Test.YtdhbakknplnnkaaGreatRc3
namespace Go.Proofs.YtdhbakknplnnkaaGreat.Fd
open Go.RowKit

theorem mat_fits (st : List Int) : ∀ dl : List Int, (∀ s ∈ st, 0 ≤ s) → Tw.mat st dl = true → fits st dl = true := by
  induction st with
  | nil => intro dl _ _; rfl
  | cons s st ih =>
    intro dl h0 h
    have hs := h0 s (List.mem_cons_self ..)
    have ht : ∀ x ∈ st, 0 ≤ x := fun x hx => h0 x (List.mem_cons_of_mem _ hx)
    unfold Tw.mat at h
    by_cases hz : s = 0
    · rw [if_pos hz] at h
      rw [fits_no (by omega)]
      exact ih dl ht h
    · rw [if_neg hz] at h
      cases dl with
      | nil => cases h
      | cons d dr =>
        simp only [Bool.and_eq_true] at h
        rw [fits_yes (by omega)]
        exact ih dr ht h.2
theorem r1L_len (a f : Int) (l : List Cc.Mt) : ∀ i, (r1L a f i l).length = l.length := by
  induction l with
  | nil => intro i; rfl
  | cons m l ih => intro i; simp [r1L, ih]
theorem firstL_len (a : Int) (l : List Cc.Bk) (h : l.all Cc.bkOk = true) : (firstL a l).length ≤ 4096 * l.length := by
  induction l with
  | nil => exact Nat.zero_le _
  | cons k l ih =>
    simp only [List.all_cons, Bool.and_eq_true] at h
    have h1 := (Cc.bkOk_iff.1 h.1).2.1
    have h2 := ih h.2
    unfold firstL at h2 ⊢
    rw [List.flatMap_cons, List.length_append, r1L_len, List.length_cons]
    omega
/-- The error of a part. -/
def pE (p : Rc.Pt) : Int := if p.t = 205 then (if p.c = 11 then Cc.decE p.d else if p.c = 15 then Tw.decE p.d else if p.c = 1 then Nk.decE p.d else 0) else 0
/-- Is it of a kind? -/
def pK (p : Rc.Pt) : Bool := decide (p.t = 205) && (decide (p.c = 11) || (decide (p.c = 15) || decide (p.c = 1)))
/-- What it tells. -/
def pR (near : Int) (p : Rc.Pt) : List Rt := if p.t = 205 then (if p.c = 11 then firstL (Un.frV (Cc.decSt p.d) near) (Cc.decL p.d) else if p.c = 15 then secondL near (Tw.decR p.d) else []) else []
def pA (p : Rc.Pt) : List Int := if p.t = 205 ∧ p.c = 1 then (Nk.decR p.d).lo else []
def lsE : List Rc.Pt → Int
  | [] => 0
  | p :: l => if pE p = 0 then lsE l else pE p
def lsR (near : Int) (l : List Rc.Pt) : List Rt := l.flatMap (pR near)
def lsA (l : List Rc.Pt) : List Int := l.flatMap pA
def lsK (l : List Rc.Pt) : Bool := l.any pK
/-- near, held. -/
def nrH (near : Int) : Int := Un.clV near 0 1125899906842624
def fdE (s : ByteArray) (near : Int) : Int :=
  if Rc.rE s = 0 then (if lsE (Rc.rL s) = 0 then (if lsK (Rc.rL s) = true then (if 4096 < (lsR (nrH near) (Rc.rL s)).length ∨ 4096 < (lsA (Rc.rL s)).length then 3 else 0) else 120) else lsE (Rc.rL s)) else Rc.rE s
def fdR (s : ByteArray) (near : Int) : List Rt := if fdE s near = 0 then lsR (nrH near) (Rc.rL s) else []
def fdA (s : ByteArray) (near : Int) : List Int := if fdE s near = 0 then lsA (Rc.rL s) else []
theorem pR_len (near : Int) (p : Rc.Pt) : (pR near p).length ≤ 65536 := by
  unfold pR
  split
  · split
    · have h1 := Cc.decL_bd p.d
      have h2 := firstL_len (Un.frV (Cc.decSt p.d) near) (Cc.decL p.d) h1.2.1
      omega
    · split
      · unfold secondL
        by_cases h : Tw.decE p.d = 0
        · have hg := (Tw.goodR_iff.1 (Tw.dec_good h).1)
          rw [secL_len _ _ _ _ _ (mat_fits _ _ (fun s hs => (Tw.mat_012 hg.2.2.2.2 s hs).1) hg.2.2.2.2)]
          omega
        · unfold Tw.decR
          rw [if_neg h]
          exact Nat.zero_le _
      · exact Nat.zero_le _
  · exact Nat.zero_le _
theorem pA_len (p : Rc.Pt) : (pA p).length ≤ 4096 := by
  unfold pA
  split
  · unfold Nk.decR
    split
    · rename_i h
      exact ((Nk.isL_iff _).1 (Nk.decE_yes h).2.2.2.1).2.1
    · exact Nat.zero_le _
  · exact Nat.zero_le _
theorem lsR_len (near : Int) (l : List Rc.Pt) : (lsR near l).length ≤ 65536 * l.length := by
  induction l with
  | nil => exact Nat.zero_le _
  | cons p l ih =>
    have := pR_len near p
    unfold lsR at ih ⊢
    rw [List.flatMap_cons, List.length_append, List.length_cons]; omega
theorem lsA_len (l : List Rc.Pt) : (lsA l).length ≤ 4096 * l.length := by
  induction l with
  | nil => exact Nat.zero_le _
  | cons p l ih =>
    have := pA_len p
    unfold lsA at ih ⊢
    rw [List.flatMap_cons, List.length_append, List.length_cons]; omega
end Go.Proofs.YtdhbakknplnnkaaGreat.Fd
