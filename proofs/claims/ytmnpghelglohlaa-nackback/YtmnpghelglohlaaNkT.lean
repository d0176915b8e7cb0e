/-
  What maskOf hands back.
-/
import Derived.Test.YtmnpghelglohlaaNkI
namespace Go.Proofs.Ytmnpghelglohlaa
open Go.RowKit

theorem frame29 (a : Act) (hs : a.tmps.size = 29) (hd : a.defers = []) : ∃ u : Nat → Value, (∀ i, a.tmps.getD i undef = u i) ∧ a = { tmps := #[u 0, u 1, u 2, u 3, u 4, u 5, u 6, u 7, u 8, u 9, u 10, u 11, u 12, u 13, u 14, u 15, u 16, u 17, u 18, u 19, u 20, u 21, u 22, u 23, u 24, u 25, u 26, u 27, u 28], defers := [] } := frame_of a 29 hs hd
theorem or_bit32 (m : Nat) (hm : m < 65536) (i : Int) (i0 : 0 ≤ i) (i1 : i < 16) : bits .or .u32 (m : Int) (2 ^ i.toNat % 4294967296) = ((m ||| 2 ^ i.toNat : Nat) : Int) := by
  have h := Nat.pow_lt_pow_right (a := 2) (by decide) (show i.toNat < 16 by omega)
  have e : (2 : Int) ^ i.toNat = ((2 ^ i.toNat : Nat) : Int) := by simp
  rw [e]
  generalize 2 ^ i.toNat = p at *
  rw [show (p : Int) % 4294967296 = (p : Int) by omega, u32_or_nat _ _ (by omega) (by omega)]
set_option maxRecDepth 100000 in
set_option maxHeartbeats 1000000 in
theorem maskof_any (B : Nat) (w : World) (a : Option Addr) (c : Nat) (x : Int) (x0 : 0 ≤ x) (x1 : x < 65536) (l : List Int) (hu : Up x x l) (h : IA B w a c l) :
    Calls Try.prog 37 #[.int .i64 x, .slice a l.length c] w fun e w' => e = .returned (.tuple #[.int .u32 (msk x 0 l : Int), .int .i64 (tkN x l : Int)]) ∧ w' = w := by
  have m1 := h.len
  obtain ⟨n, HN⟩ : ∃ n, Hid (l.length = n) := ⟨_, rfl⟩
  obtain ⟨M, HM⟩ : ∃ M, Hid (msk x 0 l = M) := ⟨_, rfl⟩
  obtain ⟨T, HT⟩ : ∃ T, Hid (tkN x l = T) := ⟨_, rfl⟩
  have HU := mkHid hu
  have HI := mkHid h
  rw [HN.out] at m1 ⊢
  rw [HM.out, HT.out]
  clear hu h
  go_enter Try.func37, Try.ntmps37
  go_wp2
  refine wp_scope_label 0 (fun a' w' => ∃ (k m : Nat) (la : Int), (a'.tmps.size = 29 ∧ a'.defers = [] ∧ a'.tmps.getD 0 undef = .int .i64 x ∧ a'.tmps.getD 1 undef = .slice a n c ∧ a'.tmps.getD 4 undef = .int .u32 (m : Int) ∧ a'.tmps.getD 5 undef = .int .i64 (k : Int)) ∧ k ≤ n ∧ m < 65536 ∧ Up x la (l.drop k) ∧ msk x m (l.drop k) = M ∧ k + tkN x (l.drop k) = T ∧ w' = w) (fun a' _ => n - (intOf (a'.tmps.getD 5 undef)).toNat) rfl ?_ ?_
  · intro Q' hh
    have HH := mkHid hh
    clear hh
    go_wp2
    go_step3
    refine ‹∀ a w, Code.wp _ _ _ a w → _› _ _ (HH.out _ _ ?_)
    exact ⟨0, 0, x, ⟨rfl, rfl, rfl, rfl, rfl, rfl⟩, Nat.zero_le _, by decide, HU.out, HM.out, by rw [Nat.zero_add]; exact HT.out, rfl⟩
  · rintro a' w' ⟨k, m, la, ⟨z, d, e0, e1, e4, e5⟩, hk, hm, hup, hms, htk, rfl⟩
    obtain ⟨u, hu, ha⟩ := frame29 a' z d
    rw [hu] at e0 e1 e4 e5
    rw [e0, e1, e4, e5] at ha
    clear z d hu e0 e1 e4 e5
    subst ha
    have HUP := mkHid hup
    have HMS := mkHid hms
    have HTK := mkHid htk
    have HMB := mkHid hm
    clear hup hms htk hm
    by_cases hlt : k < n
    · obtain ⟨b', off', v, rfl, _, hv, cv⟩ := HI.out.at k (by rw [HN.out]; exact hlt)
      have HV := mkHid (drop_at hv)
      have k0 : (0 : Int) ≤ k := by omega
      have k1 : (k : Int) < n := by omega
      have hkn : ((k : Int) == (n : Int)) = false := by simp; omega
      have hup := HUP.out
      rw [HV.out] at hup
      obtain ⟨⟨v0, v1, v2, v3⟩, v4⟩ := hup
      have BO := mkHid (bitof_any x v x0 x1 v0 v1)
      obtain ⟨i, HDV⟩ : ∃ i : Int, Hid ((v - x) % 65536 = i + 1) := ⟨(v - x) % 65536 - 1, by unfold Hid; omega⟩
      have e0 : i + 1 - 1 = i := by omega
      rw [HDV.out, e0] at BO
      rw [HDV.out] at v2
      have i0 : 0 ≤ i := by omega
      have HU4 := mkHid v4
      have HV2 := mkHid v2
      clear v0 v1 v2 v3 v4 hv e0
      by_cases h16 : (16 : Int) ≤ i
      · go_wp2_with fail
        refine (BO.out _).mono ?_
        rintro e w1 ⟨rfl, rfl⟩
        go_wp2
        simp only [Exit.jump]
        go_ret2
        have e1 := HMS.out
        have e2 := HTK.out
        rw [HV.out, msk, HDV.out, if_neg (by omega)] at e1
        rw [HV.out, tkN, HDV.out, if_neg (by omega), Nat.add_zero] at e2
        subst e1 e2
        exact ⟨rfl, rfl⟩
      · go_wp2_with fail
        refine (BO.out _).mono ?_
        rintro e w1 ⟨rfl, rfl⟩
        go_wp2
        go_step3
        rw [or_bit32 m HMB.out i i0 (by omega)]
        have e3 : ((v - x) % 65536 - 1).toNat = i.toNat := by rw [HDV.out]; omega
        refine ⟨rfl, ⟨k + 1, m ||| 2 ^ i.toNat, v, ⟨rfl, rfl, rfl, rfl, rfl, rfl⟩, by omega, ?_, HU4.out, ?_, ?_, rfl⟩, ?_⟩
        · exact Nat.or_lt_two_pow (n := 16) HMB.out (Nat.pow_lt_pow_right (by decide) (by omega))
        · have e1 := HMS.out
          rw [HV.out, msk, e3, HDV.out, if_pos (by omega)] at e1
          exact e1
        · have e2 := HTK.out
          rw [HV.out, tkN, HDV.out, if_pos (by omega)] at e2
          omega
        · simp [intOf]; omega
    · obtain rfl : k = n := by omega
      go_wp2
      simp only [Exit.jump]
      go_ret2
      have e1 := HMS.out
      have e2 := HTK.out
      rw [← HN.out, List.drop_length] at e1 e2
      simp only [msk, tkN, Nat.add_zero] at e1 e2
      subst e1 e2
      exact ⟨by rw [HN.out]; rfl, rfl⟩
end Go.Proofs.Ytmnpghelglohlaa
