/-
  What the reference's functions of layer 5 hand back for every input.
-/
import Derived.Test.YtdojphkibgfomaaWrA
namespace Go.Proofs.Ytdojphkibgfomaa
open Go.RowKit

theorem rmod_any (n m : Int) (m1 : 0 < m) (m2 : m ≤ 4294967296) (w : World) :
    Calls Try.prog 41 #[.int .i64 n, .int .i64 m] w fun e w' => e = .returned (.int .i64 (n % m)) ∧ w' = w := by
  have k := tm_bd n m m1
  have e := tm_mod n m m1
  have hne : ¬ m = 0 := by omega
  have h0 := Int.emod_nonneg n hne
  have h1 := Int.emod_lt_of_pos n m1
  go_enter Try.func41, Try.ntmps41
  go_wp2
  go_ret
  exact ⟨by first | rfl | exact ret_i e, rfl⟩
theorem rcrop_any (n b : Int) (b1 : 1 ≤ b) (b2 : b ≤ 32) (w : World) :
    Calls Try.prog 30 #[.int .i64 n, .int .i64 b] w fun e w' => e = .returned (.int .i64 (n % (2 * hf b))) ∧ w' = w := by
  have k := hf_bd b b1 b2
  have C := mkHid (rmod_any n (2 * hf b) (by omega) (by omega))
  have e := sh0 b b1 b2
  generalize n % (2 * hf b) = c at *
  generalize 2 * hf b = m at *
  go_enter Try.func30, Try.ntmps30
  go_wp2_with fail
  refine (C.out _).mono ?_
  rintro e w1 ⟨rfl, rfl⟩
  go_wp2
  go_ret
  exact ⟨rfl, rfl⟩
theorem rcrop_no (n b : Int) (h : b < 1 ∨ 32 < b) (w : World) :
    Calls Try.prog 30 #[.int .i64 n, .int .i64 b] w fun e w' => e = .returned (.int .i64 0) ∧ w' = w := by
  rcases h with h | h
  · go_enter Try.func30, Try.ntmps30
    go_wp2
    go_ret
    exact ⟨rfl, rfl⟩
  · go_enter Try.func30, Try.ntmps30
    go_wp2
    go_ret
    exact ⟨rfl, rfl⟩
theorem rnear_no (l v b : Int) (h : b < 1 ∨ 32 < b) (w : World) :
    Calls Try.prog 33 #[.int .i64 l, .int .i64 v, .int .i64 b] w fun e w' => e = .returned (.int .i64 l) ∧ w' = w := by
  rcases h with h | h
  · go_enter Try.func33, Try.ntmps33
    go_wp2
    go_ret
    exact ⟨rfl, rfl⟩
  · go_enter Try.func33, Try.ntmps33
    go_wp2
    go_ret
    exact ⟨rfl, rfl⟩
set_option maxHeartbeats 400000 in
theorem rnear_in (l v b m h p q u : Int) (b1 : 1 ≤ b) (b2 : b ≤ 32) (l1 : -1152921504606846976 < l) (l2 : l < 1152921504606846976) (s : wrap64 (2 ^ b.toNat) = m) (m1 : m ≤ 2 * h) (m2 : 2 * h ≤ m) (h1 : 1 ≤ h) (h2 : h ≤ 2147483648)
    (ep : v.tmod m = p) (p1 : -m < p) (p2 : p < m) (eq : l.tmod m = q) (q1 : -m < q) (q2 : q < m) (u0 : 0 ≤ u) (u1 : u < m)
    (C : Hid (∀ w, Calls Try.prog 41 #[.int .i64 (p - q), .int .i64 m] w fun e w' => e = .returned (.int .i64 u) ∧ w' = w)) (w : World) :
    Calls Try.prog 33 #[.int .i64 l, .int .i64 v, .int .i64 b] w fun e w' => e = .returned (.int .i64 (if u ≤ h then l + u else l + u - m)) ∧ Below w.heap.size w w' := by
  have hne : ¬ m = 0 := by omega
  have e2 : m.tdiv 2 = h := by rw [show m = h * 2 by omega]; exact Int.mul_tdiv_cancel _ (by decide)
  have e3 : m / 2 = h := by omega
  by_cases hu : u ≤ h
  · rw [if_pos hu]
    go_enter Try.func33, Try.ntmps33
    go_wp2
    try rw [s]
    go_quiet ((go_at_call 41; exact Calls.quiet_of_same (C.out _)))
    go_wp2
    go_ret
    exact ⟨rfl, below_drewN (Below.refl _ _) _⟩
  · rw [if_neg hu]
    have hv : h < u := by omega
    clear hu
    go_enter Try.func33, Try.ntmps33
    go_wp2
    try rw [s]
    go_quiet ((go_at_call 41; exact Calls.quiet_of_same (C.out _)))
    go_wp2
    go_ret
    exact ⟨rfl, below_drewN (Below.refl _ _) _⟩
set_option maxHeartbeats 400000 in
theorem rnear_lo (l v b m h p q u : Int) (b1 : 1 ≤ b) (b2 : b ≤ 32) (l1 : l ≤ -1152921504606846976) (s : wrap64 (2 ^ b.toNat) = m) (m1 : m ≤ 2 * h) (m2 : 2 * h ≤ m) (h1 : 1 ≤ h) (h2 : h ≤ 2147483648)
    (ep : v.tmod m = p) (p1 : -m < p) (p2 : p < m) (eq : (-1152921504606846976 : Int).tmod m = q) (q1 : -m < q) (q2 : q < m) (u0 : 0 ≤ u) (u1 : u < m)
    (C : Hid (∀ w, Calls Try.prog 41 #[.int .i64 (p - q), .int .i64 m] w fun e w' => e = .returned (.int .i64 u) ∧ w' = w)) (w : World) :
    Calls Try.prog 33 #[.int .i64 l, .int .i64 v, .int .i64 b] w fun e w' => e = .returned (.int .i64 (if u ≤ h then (-1152921504606846976 : Int) + u else (-1152921504606846976 : Int) + u - m)) ∧ Below w.heap.size w w' := by
  have hne : ¬ m = 0 := by omega
  have e2 : m.tdiv 2 = h := by rw [show m = h * 2 by omega]; exact Int.mul_tdiv_cancel _ (by decide)
  have e3 : m / 2 = h := by omega
  by_cases hu : u ≤ h
  · rw [if_pos hu]
    go_enter Try.func33, Try.ntmps33
    go_wp2
    try rw [s]
    go_quiet ((go_at_call 41; exact Calls.quiet_of_same (C.out _)))
    go_wp2
    go_ret
    exact ⟨rfl, below_drewN (Below.refl _ _) _⟩
  · rw [if_neg hu]
    have hv : h < u := by omega
    clear hu
    go_enter Try.func33, Try.ntmps33
    go_wp2
    try rw [s]
    go_quiet ((go_at_call 41; exact Calls.quiet_of_same (C.out _)))
    go_wp2
    go_ret
    exact ⟨rfl, below_drewN (Below.refl _ _) _⟩
set_option maxHeartbeats 400000 in
theorem rnear_hi (l v b m h p q u : Int) (b1 : 1 ≤ b) (b2 : b ≤ 32) (l1 : 1152921504606846976 < l) (s : wrap64 (2 ^ b.toNat) = m) (m1 : m ≤ 2 * h) (m2 : 2 * h ≤ m) (h1 : 1 ≤ h) (h2 : h ≤ 2147483648)
    (ep : v.tmod m = p) (p1 : -m < p) (p2 : p < m) (eq : (1152921504606846976 : Int).tmod m = q) (q1 : -m < q) (q2 : q < m) (u0 : 0 ≤ u) (u1 : u < m)
    (C : Hid (∀ w, Calls Try.prog 41 #[.int .i64 (p - q), .int .i64 m] w fun e w' => e = .returned (.int .i64 u) ∧ w' = w)) (w : World) :
    Calls Try.prog 33 #[.int .i64 l, .int .i64 v, .int .i64 b] w fun e w' => e = .returned (.int .i64 (if u ≤ h then (1152921504606846976 : Int) + u else (1152921504606846976 : Int) + u - m)) ∧ Below w.heap.size w w' := by
  have hne : ¬ m = 0 := by omega
  have e2 : m.tdiv 2 = h := by rw [show m = h * 2 by omega]; exact Int.mul_tdiv_cancel _ (by decide)
  have e3 : m / 2 = h := by omega
  by_cases hu : u ≤ h
  · rw [if_pos hu]
    go_enter Try.func33, Try.ntmps33
    go_wp2
    try rw [s]
    go_quiet ((go_at_call 41; exact Calls.quiet_of_same (C.out _)))
    go_wp2
    go_ret
    exact ⟨rfl, below_drewN (Below.refl _ _) _⟩
  · rw [if_neg hu]
    have hv : h < u := by omega
    clear hu
    go_enter Try.func33, Try.ntmps33
    go_wp2
    try rw [s]
    go_quiet ((go_at_call 41; exact Calls.quiet_of_same (C.out _)))
    go_wp2
    go_ret
    exact ⟨rfl, below_drewN (Below.refl _ _) _⟩
set_option maxHeartbeats 400000 in
theorem rnear_pt (v b m h p q u : Int) (b1 : 1 ≤ b) (b2 : b ≤ 32) (s : wrap64 (2 ^ b.toNat) = m) (m1 : m ≤ 2 * h) (m2 : 2 * h ≤ m) (h1 : 1 ≤ h) (h2 : h ≤ 2147483648)
    (ep : v.tmod m = p) (p1 : -m < p) (p2 : p < m) (eq : (1152921504606846976 : Int).tmod m = q) (q1 : -m < q) (q2 : q < m) (u0 : 0 ≤ u) (u1 : u < m)
    (C : Hid (∀ w, Calls Try.prog 41 #[.int .i64 (p - q), .int .i64 m] w fun e w' => e = .returned (.int .i64 u) ∧ w' = w)) (w : World) :
    Calls Try.prog 33 #[.int .i64 1152921504606846976, .int .i64 v, .int .i64 b] w fun e w' => e = .returned (.int .i64 (if u ≤ h then (1152921504606846976 : Int) + u else (1152921504606846976 : Int) + u - m)) ∧ Below w.heap.size w w' := by
  have hne : ¬ m = 0 := by omega
  have e2 : m.tdiv 2 = h := by rw [show m = h * 2 by omega]; exact Int.mul_tdiv_cancel _ (by decide)
  have e3 : m / 2 = h := by omega
  by_cases hu : u ≤ h
  · rw [if_pos hu]
    go_enter Try.func33, Try.ntmps33
    go_wp2
    try rw [s]
    go_quiet ((go_at_call 41; exact Calls.quiet_of_same (C.out _)))
    go_wp2
    go_ret
    exact ⟨rfl, below_drewN (Below.refl _ _) _⟩
  · rw [if_neg hu]
    have hv : h < u := by omega
    clear hu
    go_enter Try.func33, Try.ntmps33
    go_wp2
    try rw [s]
    go_quiet ((go_at_call 41; exact Calls.quiet_of_same (C.out _)))
    go_wp2
    go_ret
    exact ⟨rfl, below_drewN (Below.refl _ _) _⟩
theorem rnear_any (l v b : Int) (b1 : 1 ≤ b) (b2 : b ≤ 32) (w : World) :
    Calls Try.prog 33 #[.int .i64 l, .int .i64 v, .int .i64 b] w fun e w' => e = .returned (.int .i64 (nV (hf b) (clV l) v)) ∧ Below w.heap.size w w' := by
  have k := hf_bd b b1 b2
  have s := sh0 b b1 b2
  have hm : 0 < 2 * hf b := by omega
  have C := mkHid (rmod_any (v.tmod (2 * hf b) - (clV l).tmod (2 * hf b)) (2 * hf b) (by omega) (by omega))
  rw [tm_sub v (clV l) (2 * hf b) hm] at C
  have t1 := tm_bd v (2 * hf b) hm
  have t2 := tm_bd (clV l) (2 * hf b) hm
  unfold nV
  have u0 := Int.emod_nonneg (v - clV l) (show 2 * hf b ≠ 0 by omega)
  have u1 := Int.emod_lt_of_pos (v - clV l) hm
  by_cases g1 : l ≤ -1152921504606846976
  · have e : clV l = -1152921504606846976 := by unfold clV; split <;> (try split) <;> omega
    rw [e] at C t2 u0 u1 ⊢
    exact rnear_lo l v b _ _ _ _ _ b1 b2 g1 s (by omega) (by omega) k.1 k.2 rfl t1.1 t1.2 rfl t2.1 t2.2 u0 u1 C w
  by_cases g2 : 1152921504606846976 < l
  · have e : clV l = 1152921504606846976 := by unfold clV; split <;> (try split) <;> omega
    rw [e] at C t2 u0 u1 ⊢
    exact rnear_hi l v b _ _ _ _ _ b1 b2 g2 s (by omega) (by omega) k.1 k.2 rfl t1.1 t1.2 rfl t2.1 t2.2 u0 u1 C w
  by_cases g3 : l = 1152921504606846976
  · subst g3
    have e : clV 1152921504606846976 = 1152921504606846976 := by decide
    rw [e] at C t2 u0 u1 ⊢
    exact rnear_pt v b _ _ _ _ _ b1 b2 s (by omega) (by omega) k.1 k.2 rfl t1.1 t1.2 rfl t2.1 t2.2 u0 u1 C w
  have e : clV l = l := by unfold clV; split <;> (try split) <;> omega
  rw [e] at C t2 u0 u1 ⊢
  exact rnear_in l v b _ _ _ _ _ b1 b2 (by omega) (by omega) s (by omega) (by omega) k.1 k.2 rfl t1.1 t1.2 rfl t2.1 t2.2 u0 u1 C w

end Go.Proofs.Ytdojphkibgfomaa
