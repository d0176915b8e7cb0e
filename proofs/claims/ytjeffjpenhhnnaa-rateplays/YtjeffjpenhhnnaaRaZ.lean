/-
  What the laws ask of a meter; its waking.
-/
import Derived.Test.YtjeffjpenhhnnaaRaY
import Derived.Test.YtjeffjpenhhnnaaUnP
namespace Go.Proofs.Ytjeffjpenhhnnaa
open Go.RowKit

/-- What Rate answers. -/
def rtV (win ear en : Int) (L : List Sm) : Int := mdV (sz L) 8000000 (spn win ear en) 1
theorem rtV_perm {win ear en : Int} {L M : List Sm} (h : L.Perm M) : rtV win ear en L = rtV win ear en M := by unfold rtV; rw [sz_perm h]
theorem stF_perm {win en : Int} {L M : List Sm} (h : L.Perm M) (x z : Int) : (stF win en L x z).Perm (stF win en M x z) := by
  unfold stF
  exact (h.append_right _).filter _
theorem stF_len (win en : Int) (L : List Sm) (x z : Int) : (stF win en L x z).length ≤ L.length + 1 := by
  unfold stF
  exact Nat.le_trans (List.length_filter_le _ _) (by rw [List.length_append]; exact Nat.le_refl _)
/-- Times within their bounds. -/
def Bd (win ear en : Int) : Prop := 1 ≤ win ∧ win ≤ 1125899906842624 ∧ -1125899906842624 ≤ ear ∧ ear ≤ 1125899906842624 ∧ -1125899906842624 ≤ en ∧ en ≤ 1125899906842624
theorem Bd.got {win ear en x : Int} (h : Bd win ear en) (x1 : -1125899906842624 ≤ x) (x2 : x ≤ 1125899906842624) : Bd win (min ear x) (max en x) := by unfold Bd at *; omega
theorem bd_new {win : Int} (h1 : 1 ≤ win) (h2 : win ≤ 1125899906842624) : Bd win 1125899906842624 (-1125899906842624) := by unfold Bd; omega
section
variable {N : Nat → Prop} {w : World} {b : Nat} {win ear en : Int} {L : List Sm} {F : List Bool}
theorem rate_mt (h : Mt N w b win ear en L F) (hb : Bd win ear en) (hl : L.length ≤ 4096) : Calls Try.prog 14 #[.pointer (some ⟨b, 0, none⟩)] w fun e w' => e = .returned (.int .i64 (rtV win ear en L)) ∧ Apart (fun _ => False) w w' := by
  obtain ⟨qv, k, hx⟩ := h.bx
  obtain ⟨h1, h2, h3, h4, h5, h6⟩ := hb
  have := sz_bd h.fit
  exact rate_of hx h3 h4 h5 h6 (by omega) (by omega) h1 h2
theorem bytes_mt (h : Mt N w b win ear en L F) : Calls Try.prog 16 #[.pointer (some ⟨b, 0, none⟩)] w fun e w' => e = .returned (.int .i64 (sz L)) ∧ Apart (fun _ => False) w w' := by
  obtain ⟨qv, k, hx⟩ := h.bx
  exact bytes_any hx
theorem full_mt (h : Mt N w b win ear en L F) (hb : Bd win ear en) : Calls Try.prog 18 #[.pointer (some ⟨b, 0, none⟩)] w fun e w' => e = .returned (.bool (decide (win ≤ en - ear))) ∧ Apart (fun _ => False) w w' := by
  obtain ⟨qv, k, hx⟩ := h.bx
  obtain ⟨h1, h2, h3, h4, h5, h6⟩ := hb
  exact full_any hx h3 h4 h5 h6
theorem loss_mt (h : Mt N w b win ear en L F) : Calls Try.prog 20 #[.pointer (some ⟨b, 0, none⟩)] w fun e w' => e = .returned (.int .i64 (lossV F)) ∧ Apart (fun _ => False) w w' := by
  obtain ⟨qv, k, hx⟩ := h.bx
  exact loss_any hx h.le
theorem got_mt (h : Mt N w b win ear en L F) (hb : Bd win ear en) (hl : L.length ≤ 4095) {x z : Int} (z0 : 0 ≤ z) (z1 : z ≤ 1500) (x1 : -1125899906842624 ≤ x) (x2 : x ≤ 1125899906842624) :
    Calls Try.prog 10 #[.pointer (some ⟨b, 0, none⟩), .int .i64 x, .int .i64 z] w (GtP N b win ear en L F x z w) :=
  got_any h hb.1 hb.2.1 hb.2.2.2.2.1 hb.2.2.2.2.2 hl x z z0 z1 x1 x2
end
theorem new_mt (T : Int) (h1 : 1 ≤ T) (h2 : T ≤ 1125899906842624) (w : World) :
    Calls Try.prog 8 #[.int .i64 T] w fun e w' => (∃ b, e = .returned (.tuple #[.pointer (some ⟨b, 0, none⟩), .int .i64 0]) ∧ Mt (fun k => k = b) w' b T 1125899906842624 (-1125899906842624) [] [] ∧ b = w.heap.size) ∧ Apart (fun _ => False) w w' :=
  (new_any T h1 h2 w).mono fun _ _ ⟨⟨b, e, h, hb⟩, ha⟩ => ⟨⟨b, e, mt_new h, hb⟩, ha⟩

theorem wk_rt (L : List Sm) (h : sz L = 2000) : rtV 100000 (min (min 1125899906842624 0) 10000) (max (max (-1125899906842624) 0) 10000) L = 1600000 := by
  unfold rtV
  rw [h, show spn 100000 (min (min 1125899906842624 0) 10000) (max (max (-1125899906842624) 0) 10000) = 10000 by unfold spn; omega, mdV_d _ _ _ (by omega), satH_in _ (by omega) (by omega)]
  omega
theorem wk_st : stF 100000 (max (-1125899906842624) 0) (stF 100000 (-1125899906842624) [] 0 1000) 10000 1000 = [(0, 1000), (10000, 1000)] := by
  have e1 : (max (-1125899906842624) 0 : Int) = 0 := by omega
  have e2 : (max 0 10000 : Int) = 10000 := by omega
  unfold stF inW
  rw [e1, e2]
  rfl
theorem wk_lo : lossV (ftF 2 true (ftF 1 false (ftF 1 false []))) = 128 := by decide
set_option maxHeartbeats 400000 in
theorem wakes_any (w : World) : Calls Try.prog 22 #[] w fun e w' => e = .returned (.bool true) ∧ Below w.heap.size w w' := by
  have C0 := mkHid (new_mt 100000 (by omega) (by omega) w)
  go_enter Try.func22, Try.ntmps22
  go_wp2_with fail
  refine C0.out.mono ?_
  rintro e w1 ⟨⟨b, rfl, hm, hb⟩, ha⟩
  have HB := mkHid hb
  have A1 := mkHid (ha.mono (Y := fun k => w.heap.size ≤ k) (fun _ _ h => h.elim))
  have M1 := mkHid hm
  have D1 := mkHid (bd_new (win := 100000) (by omega) (by omega))
  have C1 := mkHid (got_mt hm D1.out (Nat.zero_le _) (x := 0) (z := 1000) (by omega) (by omega) (by omega) (by omega))
  clear hb ha hm
  go_wp2_with fail
  refine C1.out.mono ?_
  rintro e w2 ⟨rfl, L2, N2, hp2, hm2, hn2, ha2⟩
  have D2 := mkHid (D1.out.got (x := 0) (by omega) (by omega))
  have P2 := mkHid hp2
  have hN2 := mkHid (show ∀ k, N2 k → w.heap.size ≤ k from fun k hk => by
    rcases hn2 k hk with h | h
    · have := HB.out; omega
    · have := A1.out.size; omega)
  have A2 := mkHid (A1.out.trans ha2 (fun k _ h => by have := HB.out; omega))
  have hl2 := P2.out.length_eq
  have hl2' := stF_len 100000 (-1125899906842624) [] 0 1000
  have M2 := mkHid hm2
  have C2 := mkHid (got_mt hm2 D2.out (by rw [hl2]; exact Nat.le_trans hl2' (by simp)) (x := 10000) (z := 1000) (by omega) (by omega) (by omega) (by omega))
  clear hp2 hm2 hn2 ha2 hl2 hl2'
  go_wp2_with fail
  refine C2.out.mono ?_
  rintro e w3 ⟨rfl, L3, N3, hp3, hm3, hn3, ha3⟩
  have D3 := mkHid (D2.out.got (x := 10000) (by omega) (by omega))
  have P3 := mkHid (hp3.trans (stF_perm P2.out 10000 1000))
  have hN3 := mkHid (show ∀ k, N3 k → w.heap.size ≤ k from fun k hk => by
    rcases hn3 k hk with h | h
    · exact hN2.out k h
    · have := A2.out.size; omega)
  have A3 := mkHid (A2.out.trans ha3 (fun k _ h => hN2.out k h))
  have C3 := mkHid (lost_any hm3 2 (by omega))
  clear hp3 hm3 hn3 ha3
  go_wp2_with fail
  refine C3.out.mono ?_
  rintro e w4 ⟨rfl, hm4, ha4⟩
  have A4 := mkHid (A3.out.trans ha4 (fun k _ e => by have := HB.out; omega))
  have R := mkHid (rate_mt hm4 D3.out (by rw [P3.out.length_eq, wk_st]; decide))
  rw [wk_rt L3 (by rw [sz_perm P3.out, wk_st]; rfl)] at R
  have M4 := mkHid hm4
  clear hm4 ha4
  go_wp2_with fail
  refine R.out.mono ?_
  rintro e w5 ⟨rfl, ha5⟩
  have Y := mkHid (bytes_mt (M4.out.kept ha5 (fun _ _ h => h)))
  rw [show sz L3 = 2000 by rw [sz_perm P3.out, wk_st]; rfl] at Y
  have A5 := mkHid (A4.out.trans ha5 (fun _ _ h => h.elim))
  have M5 := mkHid (M4.out.kept ha5 (fun _ _ h => h))
  clear ha5
  go_wp2_with fail
  refine Y.out.mono ?_
  rintro e w6 ⟨rfl, ha6⟩
  have FU := mkHid (full_mt (M5.out.kept ha6 (fun _ _ h => h)) D3.out)
  rw [show decide ((100000 : Int) ≤ (max (max (-1125899906842624) 0) 10000) - (min (min 1125899906842624 0) 10000)) = false from decide_eq_false (by omega)] at FU
  have A6 := mkHid (A5.out.trans ha6 (fun _ _ h => h.elim))
  have M6 := mkHid (M5.out.kept ha6 (fun _ _ h => h))
  clear ha6
  go_wp2_with fail
  refine FU.out.mono ?_
  rintro e w7 ⟨rfl, ha7⟩
  have LO := mkHid (loss_mt (M6.out.kept ha7 (fun _ _ h => h)))
  rw [wk_lo] at LO
  have A7 := mkHid (A6.out.trans ha7 (fun _ _ h => h.elim))
  clear ha7
  go_wp2_with fail
  refine LO.out.mono ?_
  rintro e w8 ⟨rfl, ha8⟩
  have A8 := mkHid (A7.out.trans ha8 (fun _ _ h => h.elim))
  clear ha8
  go_wp2
  go_ret
  exact ⟨rfl, A8.out.below _ (Nat.le_refl _) (fun _ h => h)⟩
end Go.Proofs.Ytjeffjpenhhnnaa
