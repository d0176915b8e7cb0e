/-
  Lists of packets of one size and one time; a number held below another one.
-/
import Derived.Test.YtdojphkibgfomaaHiV
namespace Go.Proofs.Ytdojphkibgfomaa
open Go.RowKit Go.Maps

theorem mod_any (k n : Int) (n1 : 1 ≤ n) (n2 : n ≤ 4294967296) (w : World) :
    Calls Try.prog 27 #[.int .i64 k, .int .i64 n] w fun e w' => e = .returned (.int .i64 (k % n)) ∧ w' = w := by
  have t := tm_bd k n (by omega)
  have e := tm_mod k n (by omega)
  have hne : ¬ n = 0 := by omega
  have h0 := Int.emod_nonneg k hne
  have h1 := Int.emod_lt_of_pos k (show 0 < n by omega)
  go_enter Try.func27, Try.ntmps27
  go_wp2
  go_ret
  exact ⟨by first | rfl | exact ret_i e, rfl⟩
/-- Packets numbered from 0 on, all of size z, all sent at t. -/
def LF (z t : Int) : Nat → List Sn
  | 0 => []
  | k + 1 => LF z t k ++ [((k : Int), z, t)]
theorem LF_len (z t : Int) (k : Nat) : (LF z t k).length = k := by
  induction k with
  | zero => rfl
  | succ k ih => show (LF z t k ++ [((k : Int), z, t)]).length = _; rw [List.length_append, ih]; rfl
theorem LF_fl (z t : Int) (k : Nat) : fl (LF z t k) = k * z := by
  induction k with
  | zero => simp [LF, fl_nil]
  | succ k ih =>
    show fl (LF z t k ++ [((k : Int), z, t)]) = _
    rw [fl_end, ih]
    simp only [Int.natCast_add, Int.natCast_one, Int.add_mul, Int.one_mul]
theorem LF_mem (z t : Int) (k : Nat) (s : Sn) : s ∈ LF z t k ↔ ∃ i : Nat, i < k ∧ s = ((i : Int), z, t) := by
  induction k with
  | zero => simp [LF]
  | succ k ih =>
    show s ∈ LF z t k ++ [((k : Int), z, t)] ↔ _
    rw [List.mem_append, ih, List.mem_singleton]
    constructor
    · rintro (⟨i, h, e⟩ | e)
      · exact ⟨i, by omega, e⟩
      · exact ⟨k, by omega, e⟩
    · rintro ⟨i, h, e⟩
      by_cases hi : i < k
      · exact .inl ⟨i, hi, e⟩
      · obtain rfl : i = k := by omega
        exact .inr e
end Go.Proofs.Ytdojphkibgfomaa
