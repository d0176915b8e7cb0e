/-
  The sums of lists: sat.Sum's and the reference's are the sum of all, held; two lists that hold the same are found alike. Conditions: the lists' cells are known, and for the reference that the list has at most 2^31 numbers.
-/
import Derived.Test.YtjahpfdpdkhedaaMul
import Derived.Deep.QuietTactic
import Derived.BigQuiet
namespace Go.Proofs.Ytjahpfdpdkhedaa
open Go.RowKit

def rup (zs : List Int) (k : Nat) : Int := ssum zs k / 4294967296
def rlow (zs : List Int) (k : Nat) : Int := ssum zs k % 4294967296
theorem rlow_bd (zs : List Int) (k : Nat) : 0 ≤ rlow zs k ∧ rlow zs k < 4294967296 := by unfold rlow; omega
theorem rup_bd (zs : List Int) (hz : I64s zs) (k : Nat) (hk : k ≤ zs.length) (hm : zs.length ≤ 2147483648) : -4611686018427387904 ≤ rup zs k ∧ rup zs k ≤ 4611686018427387904 := by
  have := ssum_bd zs hz k hk
  unfold rup; omega

set_option maxHeartbeats 400000 in
theorem rsum_any (b off n cap : Nat) (zs : List Int) (w : World) (hn : n ≤ 2147483648) (hl : zs.length = n) (hz : I64s zs) (hc : ∀ i, i < n → w.cell? ⟨b, off + i, none⟩ = some (.int .i64 (zs.getD i 0))) :
    Calls Try.prog 23 #[.slice (some ⟨b, off, none⟩) n cap] w fun e w' => e = .returned (.int .i64 (satH zs.sum)) ∧ w' = w := by
  have hs0 : rup zs 0 = 0 ∧ rlow zs 0 = 0 := by simp [rup, rlow, ssum_zero]
  go_enter Try.func23, Try.ntmps23
  go_wp2
  go_loop [3, 4, 5] (fun u l i => ∃ k : Nat, k ≤ n ∧ i = .int .i64 k ∧ u = .int .i64 (rup zs k) ∧ l = .int .i64 (rlow zs k)) (fun _ _ i => n - (intOf i).toNat)
  case atStart => exact ⟨0, Nat.zero_le _, rfl, by rw [hs0.1], by rw [hs0.2]⟩
  case round =>
    obtain ⟨k, hk, rfl, rfl, rfl⟩ := hrel
    clear hs0
    obtain ⟨l1, l2⟩ := rlow_bd zs k
    obtain ⟨u1, u2⟩ := rup_bd zs hz k (by omega) (by omega)
    by_cases hlt : k < n
    · have hcx := hc k hlt
      have hzb := getD_bd zs hz k
      clear hc
      have HS : Hid (rup zs (k + 1) = rup zs k + zs.getD k 0 / 4294967296 + (rlow zs k + (zs.getD k 0 - zs.getD k 0 / 4294967296 * 4294967296)) / 4294967296 ∧ rlow zs (k + 1) = (rlow zs k + (zs.getD k 0 - zs.getD k 0 / 4294967296 * 4294967296)) % 4294967296) := by
        unfold rup rlow; rw [ssum_succ zs k (by omega)]; exact ⟨by omega, by omega⟩
      generalize zs.getD k 0 = z at *
      obtain ⟨z1, z2⟩ := hzb
      go_wp2
      go_round
      case rel => exact ⟨k + 1, by omega, by go_num, by rw [HS.out.1], by rw [HS.out.2, i64_and32]⟩
      case measure => simp [intOf]; omega
    · clear hc
      have hk' : k = n := by omega
      have HE : Hid (zs.sum = rup zs k * 4294967296 + rlow zs k) := by
        have e : ssum zs k = zs.sum := by unfold ssum; rw [List.take_of_length_le (by omega)]
        rw [← e]; unfold rup rlow; show _ = _; omega
      clear hk'
      go_wp2
      · go_ret; exact ⟨ret_int (by rw [HE.out]; exact satH_top _ (by omega)), rfl⟩
      · go_ret; exact ⟨ret_int (by rw [HE.out]; exact satH_bot _ (by omega)), rfl⟩
      · go_ret; exact ⟨ret_int (by rw [HE.out]; exact (satH_in _ (by omega) (by omega)).symm), rfl⟩

set_option maxHeartbeats 400000 in
theorem longs_any (b off b' off' n cap cap' : Nat) (zs : List Int) (w : World) (hn : n ≤ 2147483648) (hc : ∀ i, i < n → w.cell? ⟨b, off + i, none⟩ = some (.int .i64 (zs.getD i 0))) (hc' : ∀ i, i < n → w.cell? ⟨b', off' + i, none⟩ = some (.int .i64 (zs.getD i 0))) :
    Calls Try.prog 24 #[.slice (some ⟨b, off, none⟩) n cap, .slice (some ⟨b', off', none⟩) n cap'] w fun e w' => e = .returned (.bool true) ∧ Below w.heap.size w w' := by
  go_enter Try.func24, Try.ntmps24
  go_wp2
  go_loopw [5] (fun i wr => ∃ k nq : Nat, k ≤ n ∧ i = .int .i64 k ∧ wr = w.drewN nq) (fun i _ => n - (intOf i).toNat)
  case atStart => exact ⟨0, 0, Nat.zero_le _, rfl, rfl⟩
  case round =>
    obtain ⟨k, nq, hk, rfl, rfl⟩ := hrel
    by_cases hlt : k < n
    · have hcx := hc k hlt
      have hcx' := hc' k hlt
      clear hc hc'
      go_wp2
      go_quiet (fail)
      go_wp2
      go_roundw
      case rel => exact ⟨k + 1, _, by omega, by go_num, rfl⟩
      case measure => simp [intOf]; omega
    · clear hc hc'
      go_wp2
      go_ret
      exact ⟨rfl, below_drewN (Below.refl _ _) _⟩

set_option maxHeartbeats 400000 in
theorem sum_empty (a : Option Addr) (cap : Nat) (w : World) :
    Calls Try.prog 25 #[.slice a 0 cap] w fun e w' => e = .returned (.agg #[.int .i64 0, .int .u64 0]) ∧ Below w.heap.size w w' := by
  go_enter Try.func25, Try.ntmps25
  go_wp2
  go_rounds 1
  go_returns
  exact ⟨rfl, by go_grown⟩
theorem sumL_empty (a : Option Addr) (cap : Nat) (w : World) :
    Calls Try.prog 22 #[.slice a 0 cap] w fun e w' => e = .returned (.int .i64 0) ∧ Below w.heap.size w w' := by
  go_enter Try.func22, Try.ntmps22
  go_wp2_with fail
  refine (sum_empty a cap w).mono ?_
  rintro e w1 ⟨rfl, hb1⟩
  go_wp2_with fail
  refine (carry hb1 (held_any 0 0 (by decide) (by decide) _)).mono ?_
  rintro e w2 ⟨rfl, hb2⟩
  go_wp2
  go_ret
  exact ⟨rfl, hb2⟩
theorem rsum_empty (a : Option Addr) (cap : Nat) (w : World) :
    Calls Try.prog 23 #[.slice a 0 cap] w fun e w' => e = .returned (.int .i64 0) ∧ w' = w := by
  go_enter Try.func23, Try.ntmps23
  go_wp2
  go_rounds 1
  go_ret
  exact ⟨rfl, rfl⟩
theorem longs_empty (a a' : Option Addr) (cap cap' : Nat) (w : World) :
    Calls Try.prog 24 #[.slice a 0 cap, .slice a' 0 cap'] w fun e w' => e = .returned (.bool true) ∧ w' = w := by
  go_enter Try.func24, Try.ntmps24
  go_wp2
  go_rounds 1
  go_ret
  exact ⟨rfl, rfl⟩
end Go.Proofs.Ytjahpfdpdkhedaa
