/-
  Samples of one size at one distance.
-/
import Derived.Test.YtjeffjpenhhnnaaRaAa
namespace Go.Proofs.Ytjeffjpenhhnnaa
open Go.RowKit

def smp (g s : Int) (j : Nat) : Sm := ((j : Int) * g, s)
def stA (g s : Int) (k i : Nat) : List Sm := (List.range' (i - k) (i - (i - k))).map (smp g s)
theorem smp_in (g s : Int) (hg : 0 < g) (k i j : Nat) : inW (g * k) ((i : Int) * g) (smp g s j) = decide (i < j + k) := by
  unfold inW smp
  apply decide_eq_decide.2
  have e : (i : Int) * g - g * k = ((i : Int) - k) * g := by rw [Int.sub_mul, Int.mul_comm g]
  rw [e]
  constructor
  · intro h
    have := Int.lt_of_mul_lt_mul_right h (Int.le_of_lt hg)
    omega
  · intro h
    exact Int.mul_lt_mul_of_pos_right (by omega) hg
theorem stA_zero (g s : Int) (k : Nat) : stA g s k 0 = [] := by unfold stA; simp
theorem stA_len (g s : Int) (k i : Nat) : (stA g s k i).length ≤ k := by unfold stA; rw [List.length_map, List.length_range']; omega
theorem stA_step (g s : Int) (hg : 0 < g) (k i : Nat) (hk : 1 ≤ k) : (stA g s k i ++ [smp g s i]).filter (inW (g * k) ((i : Int) * g)) = stA g s k (i + 1) := by
  have e : stA g s k i ++ [smp g s i] = (List.range' (i - k) (i - (i - k) + 1)).map (smp g s) := by
    unfold stA
    rw [List.range'_1_concat, List.map_append, show i - k + (i - (i - k)) = i by omega]
    rfl
  rw [e]
  unfold stA
  have all : ∀ m n : Nat, i < m + k → ((List.range' m n).map (smp g s)).filter (inW (g * k) ((i : Int) * g)) = (List.range' m n).map (smp g s) := by
    intro m n hm
    rw [List.filter_eq_self]
    intro p hp
    obtain ⟨j, hj, rfl⟩ := List.mem_map.1 hp
    rw [List.mem_range'_1] at hj
    rw [smp_in g s hg]
    exact decide_eq_true (by omega)
  by_cases h : i < k
  · rw [show i - k = 0 by omega, show i + 1 - k = 0 by omega, all 0 _ (by omega)]
    rfl
  · rw [show i - (i - k) + 1 = k + 1 by omega, List.range'_succ, List.map_cons, List.filter_cons_of_neg (by rw [smp_in g s hg]; simp; omega), all _ _ (by omega), show i + 1 - k = i - k + 1 by omega, show i + 1 - (i - k + 1) = k by omega]
theorem sz_smp (g s : Int) (l : List Nat) : sz (l.map (smp g s)) = (l.length : Int) * s := by
  induction l with
  | nil => simp [sz]
  | cons a l ih => rw [List.map_cons, sz_cons, ih, List.length_cons]; show s + _ = _; rw [Int.natCast_add, Int.add_mul]; omega
theorem sz_stA (g s : Int) (k : Nat) : sz (stA g s k (2 * k + 1)) = (k : Int) * s := by
  unfold stA
  rw [sz_smp, List.length_range', show 2 * k + 1 - (2 * k + 1 - k) = k by omega]
def eaS (i : Nat) : Int := if i = 0 then 1125899906842624 else 0
def enS (g : Int) (i : Nat) : Int := if i = 0 then -1125899906842624 else ((i : Int) - 1) * g
theorem eaS_step (g : Int) (i : Nat) (h0 : 0 ≤ (i : Int) * g) (h1 : (i : Int) * g ≤ 1125899906842624) : min (eaS i) ((i : Int) * g) = eaS (i + 1) := by
  unfold eaS
  by_cases h : i = 0
  · subst h
    rw [if_pos rfl, if_neg (by omega)]
    simp
    omega
  · rw [if_neg h, if_neg (by omega)]
    omega
theorem enS_step (g : Int) (i : Nat) (hg : 0 < g) (h0 : 0 ≤ (i : Int) * g) : max (enS g i) ((i : Int) * g) = enS g (i + 1) := by
  unfold enS
  rw [show ((i + 1 : Nat) : Int) - 1 = (i : Int) by omega]
  by_cases h : i = 0
  · subst h
    rw [if_pos rfl, if_neg (by omega)]
    simp
    omega
  · rw [if_neg h, if_neg (by omega), Int.sub_mul]
    omega
end Go.Proofs.Ytjeffjpenhhnnaa
