/-
  Where a sample belongs: the search, and what is asked at each place.
-/
import Derived.Test.YtjeffjpenhhnnaaRaM
import Derived.Deep.LoopGhost
namespace Go.Proofs.Ytjeffjpenhhnnaa
open Go.RowKit

set_option maxHeartbeats 400000 in
theorem later_any (ba sb g off n cap : Nat) (x y : Int) (i : Nat) (hi : i < n) {w : World} (c0 : w.cell? ⟨ba, 0, none⟩ = some (.slice (some ⟨g, off, none⟩) n cap)) (c1 : w.cell? ⟨g, off + i * 2, none⟩ = some (.int .i64 y))
    (c2 : w.cell? ⟨sb, 0, none⟩ = some (.int .i64 x)) :
    Calls Try.prog 35 #[.int .i64 i, .pointer (some ⟨ba, 0, none⟩), .pointer (some ⟨sb, 0, none⟩)] w fun e w' => e = .returned (.bool (decide (x < y))) ∧ Apart (fun _ => False) w w' := by
  have hi' : (i : Int) < n := by omega
  have hi0 : (0 : Int) ≤ i := by omega
  go_enter Try.func35, Try.ntmps35
  go_upto_region 1 with fail
  go_quiet (fail)
  go_wp2
  go_ret
  exact ⟨rfl, (Apart.refl _ w).drewN _⟩

/-- The first place of which p holds. -/
def SrP (p : Nat → Bool) (n : Nat) (w : World) (e : Ending) (w' : World) : Prop :=
  ∃ k : Nat, e = .returned (.int .i64 (k : Int)) ∧ k ≤ n ∧ (∀ t, t < k → p t = false) ∧ (∀ t, k ≤ t → t < n → p t = true) ∧ Apart (fun _ => False) w w'
set_option maxHeartbeats 4000000 in
set_option maxRecDepth 100000 in
theorem search_any (n : Nat) (hn : n ≤ 1000000) (p : Nat → Bool) (v1 v2 : Value) (w : World)
    (hf : ∀ W, Apart (fun _ => False) w W → ∀ i : Nat, i < n → Calls Try.prog 35 #[.int .i64 i, v1, v2] W fun e w' => e = .returned (.bool (p i)) ∧ Apart (fun _ => False) W w')
    (hm : ∀ a b, a ≤ b → b < n → p a = true → p b = true) :
    Calls Try.prog 34 #[.int .i64 n, .func (.func 35) #[] #[v1, v2]] w (SrP p n w) := by
  have HF := mkHid hf
  have HM := mkHid hm
  clear hf hm
  go_enter Try.func34, Try.ntmps34
  go_wp2
  go_loopg [5, 6] n (fun kx s5 s6 wr => ∃ (lo hi : Nat), s5 = .int .i64 lo ∧ s6 = .int .i64 hi ∧ lo ≤ hi ∧ hi ≤ n ∧ hi - lo ≤ kx ∧ Apart (fun _ => False) w wr ∧ Hid ((∀ t, t < lo → p t = false) ∧ (∀ t, hi ≤ t → t < n → p t = true)))
  case atStart => exact ⟨0, n, rfl, rfl, Nat.zero_le _, Nat.le_refl _, by omega, Apart.refl _ _, mkHid ⟨fun t ht => absurd ht (Nat.not_lt_zero _), fun t h1 h2 => by omega⟩⟩
  case round =>
    obtain ⟨lo, hi, rfl, rfl, hlh, hin, hg, ha, I⟩ := hrel
    have HA := mkHid ha
    clear ha
    by_cases hlt : lo < hi
    · have hlt' : (lo : Int) < hi := by omega
      have hc := mkHid (HF.out wr HA.out ((lo + hi) / 2) (by omega))
      have e1 : (((lo + hi) / 2 : Nat) : Int) = ((lo : Int) + (hi : Int)) / 2 := by omega
      rw [e1] at hc
      cases hp : p ((lo + hi) / 2) <;> rw [hp] at hc
      · have HP := mkHid hp
        clear hp
        go_wp2_with fail
        refine (hc.out).mono ?_
        rintro e w1 ⟨rfl, a1⟩
        have A1 := mkHid (HA.out.zz a1)
        clear a1
        go_wp2
        go_roundg (hi - ((lo + hi) / 2 + 1))
        case measure => omega
        case rel =>
          refine ⟨(lo + hi) / 2 + 1, hi, by go_num, rfl, by omega, hin, Nat.le_refl _, A1.out, mkHid ⟨fun t ht => ?_, I.out.2⟩⟩
          cases h : p t with
          | false => rfl
          | true => have := HM.out t ((lo + hi) / 2) (by omega) (by omega) h; rw [HP.out] at this; cases this
      · have HP := mkHid hp
        clear hp
        go_wp2_with fail
        refine (hc.out).mono ?_
        rintro e w1 ⟨rfl, a1⟩
        have A1 := mkHid (HA.out.zz a1)
        clear a1
        go_wp2
        go_roundg ((lo + hi) / 2 - lo)
        case measure => omega
        case rel =>
          exact ⟨lo, (lo + hi) / 2, rfl, by go_num, by omega, by omega, Nat.le_refl _, A1.out, mkHid ⟨I.out.1, fun t ht htn => HM.out ((lo + hi) / 2) t ht htn HP.out⟩⟩
    · obtain rfl : hi = lo := by omega
      go_wp2
      go_ret
      exact ⟨hi, rfl, hin, I.out.1, I.out.2, HA.out⟩
end Go.Proofs.Ytjeffjpenhhnnaa
