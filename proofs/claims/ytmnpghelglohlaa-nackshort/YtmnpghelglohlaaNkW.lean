/-
  What putEntry does.
-/
import Derived.Test.YtmnpghelglohlaaNkT
namespace Go.Proofs.Ytmnpghelglohlaa
open Go.RowKit

theorem ia_tch {b : Nat} {v v' : Value} {w w' : World} {L : List Bool} {a : Option Addr} {c : Nat} {l : List Int} (h : IA b w a c l) (t : Tch b v v' w w') (hw : Wr 67 w b v L) : IA b w' a c l := h.kept (t.below hw b (Nat.le_refl _))
set_option maxRecDepth 100000 in
set_option maxHeartbeats 1000000 in
theorem putentry_any (b : Nat) (v : Value) (L : List Bool) (a : Option Addr) (c : Nat) (x : Int) (t : List Int) (hr : Ri (x :: t)) (hm : t.length < 4096) (hl : L.length + 32 ≤ 524288) (w : World) (h : Wr 67 w b v L) (hi : IA b w a c (x :: t)) :
    Calls Try.prog 19 #[.pointer (some ⟨b, 0, none⟩), .slice a (x :: t).length c] w fun e w' => (∃ a' c', e = .returned (.slice a' (t.drop (tkN x t)).length c') ∧ IA b w' a' c' (t.drop (tkN x t))) ∧ ∃ v', Wr 67 w' b v' (L ++ (bitsOf x.toNat 16 ++ bitsOf (msk x 0 t) 16)) ∧ Tch b v v' w w' := by
  obtain ⟨x0, x1, hu⟩ := hr
  obtain ⟨bs, off, x', rfl, _, hx, c0⟩ := hi.at 0 (by simp)
  obtain rfl : x = x' := by simpa using hx
  rw [Nat.add_zero] at c0
  have HI := mkHid hi
  have HL := mkHid hl
  have H := mkHid h
  have HMS := mkHid (msk_lt x t 0 (by decide))
  have hk := tkN_le x t
  have hc := hi.1
  have hcm := hi.2.1
  have IT := mkHid (hi.tail 1 (by simp at hc; omega))
  rw [List.drop_succ_cons, List.drop_zero] at IT
  have MO := mkHid (maskof_any b w _ _ x x0 x1 t hu IT.out)
  obtain ⟨n, HN⟩ : ∃ n, Hid (t.length = n) := ⟨_, rfl⟩
  obtain ⟨m, HM⟩ : ∃ m, Hid ((x :: t).length = m) := ⟨_, rfl⟩
  obtain ⟨k, HK⟩ : ∃ k, Hid (tkN x t = k) := ⟨_, rfl⟩
  obtain ⟨M, HMM⟩ : ∃ M, Hid (msk x 0 t = M) := ⟨_, rfl⟩
  rw [HK.out, HMM.out, HN.out] at MO
  rw [HK.out, HN.out] at hk
  rw [HMM.out] at HMS
  rw [HM.out] at hc ⊢
  rw [HK.out, HMM.out]
  have hmn : m - 1 = n := by have := HM.out; have := HN.out; simp at *; omega
  have hm1 : (1 : Int) ≤ m := by have := HM.out; simp at *; omega
  have hm2 : (m : Int) ≤ 9223372036854775807 := by unfold maxLen at hcm; omega
  have hm3 : (m : Int) ≤ c := by omega
  have hk1 : (1 : Int) + k ≤ m := by omega
  have hk0 : (0 : Int) ≤ 1 + k := by omega
  have HW := mkHid (fun v1 w1 (h1 : Wr 67 w1 b v1 L) => put_fit b v1 L x 16 x.toNat 16 (by omega) rfl (by omega) (by omega) (by have := HL.out; omega) w1 h1)
  have HW2 := mkHid (fun v1 w1 (h1 : Wr 67 w1 b v1 (L ++ bitsOf x.toNat 16)) => put_fit b v1 _ (M : Int) 16 M 16 rfl rfl (by have := HMS.out; omega) (by omega) (by have := HL.out; simp; omega) w1 h1)
  have hw : IntKind.u32.wrap x = x := by rw [IntKind.wrap_u32]; omega
  have hmk : m - (1 + k) = n - k := by omega
  clear h hi hl hu hm hx hcm
  by_cases hc1 : c = 1
  · subst hc1
    obtain rfl : m = 1 := by omega
    obtain rfl : n = 0 := by omega
    obtain rfl : k = 0 := by omega
    rw [if_pos rfl] at IT MO
    obtain rfl := List.eq_nil_of_length_eq_zero HN.out
    clear hc hmn hm1 hm2 hm3 hk hk1 hk0 hmk
    go_enter Try.func19, Try.ntmps19
    go_wp2_with fail
    refine (MO.out).mono ?_
    rintro e w1 ⟨rfl, rfl⟩
    go_wp2_with fail
    refine (HW.out v _ H.out).mono ?_
    rintro e w2 ⟨rfl, v2, h2, t2⟩
    have H2 := mkHid h2
    have T2 := mkHid t2
    have I2 := mkHid (ia_tch HI.out t2 H.out)
    clear h2 t2 c0
    go_wp2_with fail
    refine (HW2.out v2 _ H2.out).mono ?_
    rintro e w3 ⟨rfl, v3, h3, t3⟩
    have H3 := mkHid h3
    have T3 := mkHid (T2.out.trans t3)
    have I3 := mkHid (ia_tch I2.out t3 H2.out)
    clear h3 t3
    go_wp2
    go_ret
    refine ⟨⟨_, _, rfl, IA.nil _ _ _ _ (Nat.zero_le _)⟩, v3, ?_, T3.out⟩
    have := H3.out
    rwa [List.append_assoc] at this
  · rw [if_neg hc1] at MO
    go_enter Try.func19, Try.ntmps19
    go_wp2_with fail
    refine (MO.out).mono ?_
    rintro e w1 ⟨rfl, rfl⟩
    go_wp2_with fail
    refine (HW.out v _ H.out).mono ?_
    rintro e w2 ⟨rfl, v2, h2, t2⟩
    have H2 := mkHid h2
    have T2 := mkHid t2
    have I2 := mkHid (ia_tch HI.out t2 H.out)
    clear h2 t2 c0
    go_wp2_with fail
    refine (HW2.out v2 _ H2.out).mono ?_
    rintro e w3 ⟨rfl, v3, h3, t3⟩
    have H3 := mkHid (show Wr 67 w3 b v3 (L ++ (bitsOf x.toNat 16 ++ bitsOf M 16)) by rwa [List.append_assoc] at h3)
    have T3 := mkHid (T2.out.trans t3)
    have I3 := mkHid (ia_tch I2.out t3 H2.out)
    have ID := mkHid (I3.out.tail (1 + k) (by omega))
    rw [show (x :: t).drop (1 + k) = t.drop k by rw [Nat.add_comm, List.drop_succ_cons]] at ID
    clear h3 t3
    go_wp2
    all_goals go_ret
    · have q := ID.out
      have e : c = 1 + k := by assumption
      rw [if_pos e, e, Nat.sub_self] at q
      exact ⟨⟨_, _, by rw [HN.out]; rfl, q⟩, v3, H3.out, T3.out⟩
    · have q := ID.out
      have e : ¬ c = 1 + k := by assumption
      rw [if_neg e] at q
      exact ⟨⟨_, _, by rw [HN.out]; rfl, q⟩, v3, H3.out, T3.out⟩
end Go.Proofs.Ytmnpghelglohlaa
