/-
  Bounds of the rate; a sample that comes too late.
-/
import Derived.Test.YtjeffjpenhhnnaaRaAc
namespace Go.Proofs.Ytjeffjpenhhnnaa
open Go.RowKit

theorem wd_self (w : World) : w = wd w (fun _ => (w.drawn, #[])) := by simp [wd]
theorem rtV_bd {T ear en : Int} {L : List Sm} (hT : 1000 ≤ T) (h0 : 0 ≤ sz L) (h1 : sz L ≤ 1000000000) : 0 ≤ rtV T ear en L ∧ rtV T ear en L ≤ 8000 * sz L := by
  unfold rtV
  have hs : 1000 ≤ spn T ear en := by unfold spn; omega
  rw [mdV_d _ _ _ (by omega)]
  have h2 : 0 ≤ sz L * 8000000 / spn T ear en := Int.ediv_nonneg (by omega) (by omega)
  have h3 : sz L * 8000000 / spn T ear en ≤ 8000 * sz L := by
    have h4 : sz L * 8000000 / spn T ear en * spn T ear en ≤ sz L * 8000000 := Int.ediv_mul_le _ (by omega)
    have h5 := Int.mul_le_mul_of_nonneg_left hs h2
    omega
  rw [satH_in _ (by omega) (by omega)]
  exact ⟨h2, h3⟩
/-- All that is in the list counts. -/
def All (T en : Int) (L : List Sm) : Prop := ∀ s ∈ L, en - T < s.1
theorem all_got {T en : Int} {L L' : List Sm} {x z : Int} (h : L'.Perm (stF T en L x z)) : All T (max en x) L' := by
  intro s hs
  have := h.mem_iff.1 hs
  unfold stF at this
  exact of_decide_eq_true (List.mem_filter.1 this).2
theorem late_same {T en : Int} {L : List Sm} {x z : Int} (hT : 1 ≤ T) (h : All T en L) (hx : x ≤ en - T) : stF T en L x z = L := by
  unfold stF
  rw [show max en x = en by omega, List.filter_append, (List.filter_eq_self (p := inW T en)).2 (fun s hs => decide_eq_true (h s hs)), List.filter_cons_of_neg (by unfold inW; simp; omega)]
  simp
theorem late_rate {T ear en : Int} {L L' : List Sm} {x : Int} (hT : 1 ≤ T) (hf : T ≤ en - ear) (hx : x ≤ en - T) (hp : L'.Perm L) : rtV T (min ear x) (max en x) L' = rtV T ear en L := by
  rw [rtV_perm hp]
  unfold rtV
  rw [show spn T (min ear x) (max en x) = spn T ear en by unfold spn; omega]
end Go.Proofs.Ytjeffjpenhhnnaa
