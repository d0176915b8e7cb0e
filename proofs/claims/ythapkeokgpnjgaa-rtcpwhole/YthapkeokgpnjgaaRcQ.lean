/-
  Parts that were joined are split as they were; what parts that were split have.
-/
import Derived.Test.YthapkeokgpnjgaaRcK
namespace Go.Proofs.Ythapkeokgpnjgaa
open Go.RowKit

theorem bn_cons (x : UInt8) (r : List UInt8) (i : Nat) : bn (x :: r) (i + 1) = bn r i := by simp [bn]
theorem bn_zero (x : UInt8) (r : List UInt8) : bn (x :: r) 0 = x.toNat := rfl
/-- The first part of bytes that begin with one. -/
theorem pb_first {p : Pt} (h : p.ok = true) (t : List UInt8) : gE (pb p ++ t) = 0 ∧ gP (pb p ++ t) = p ∧ nx (pb p ++ t) = t := by
  obtain ⟨o0, o1, o2, o3, o4, o5⟩ := Pt.ok_iff.1 h
  obtain ⟨pc, pt, d⟩ := p
  simp only at *
  obtain ⟨c, rfl⟩ : ∃ c : Nat, pc = c := ⟨pc.toNat, by omega⟩
  obtain ⟨k, rfl⟩ : ∃ k : Nat, pt = k := ⟨pt.toNat, by omega⟩
  have e : pb ⟨c, k, d⟩ ++ t = UInt8.ofNat (128 + c) :: UInt8.ofNat k :: UInt8.ofNat (d.size / 4 / 256) :: UInt8.ofNat (d.size / 4) :: (d.data.toList ++ t) := rfl
  have hl : (pb ⟨c, k, d⟩ ++ t).length = 4 + d.size + t.length := by simp
  rw [e] at hl ⊢
  obtain ⟨r, hr⟩ : ∃ r, r = UInt8.ofNat (128 + c) :: UInt8.ofNat k :: UInt8.ofNat (d.size / 4 / 256) :: UInt8.ofNat (d.size / 4) :: (d.data.toList ++ t) := ⟨_, rfl⟩
  have b0 : bn r 0 = 128 + c := by rw [hr, bn_zero, UInt8.toNat_ofNat']; omega
  have b1 : bn r 1 = k := by rw [hr, bn_cons, bn_zero, UInt8.toNat_ofNat']; omega
  have b2 : bn r 2 = d.size / 4 / 256 := by rw [hr, bn_cons, bn_cons, bn_zero, UInt8.toNat_ofNat']; omega
  have b3 : bn r 3 = d.size / 4 % 256 := by rw [hr, bn_cons, bn_cons, bn_cons, bn_zero, UInt8.toNat_ofNat']
  have hn : hN r = d.size := by unfold hN; rw [b2, b3]; omega
  have hp : ¬ hP r = true := by unfold hP; rw [b0]; simp; omega
  have hd : hD r = 0 := by unfold hD; rw [if_neg hp]
  have h4 : r.drop 4 = d.data.toList ++ t := by rw [hr]; rfl
  rw [← hr] at hl ⊢
  refine ⟨gE_is (by rw [hl, hn]; omega) (by omega) (by omega) (by omega) (fun h => absurd h hp), ?_, ?_⟩
  · unfold gP
    rw [b0, b1, hn, hd, Nat.sub_zero, h4, List.take_left' (toList_len d)]
    congr 1
    omega
  · unfold nx
    rw [hn, ← List.drop_drop, h4, List.drop_left' (toList_len d)]
/-- Parts that are followed by something. -/
theorem mb_more (l : List Pt) (h : allOk l = true) (t : List UInt8) (ht : t ≠ []) : sE (mb l ++ t) = sE t ∧ sL (mb l ++ t) = l ++ sL t := by
  induction l with
  | nil => exact ⟨rfl, rfl⟩
  | cons p l ih =>
    have h1 := allOk_iff.1 h
    obtain ⟨i1, i2⟩ := ih (allOk_iff.2 fun q hq => h1 q (by simp [hq]))
    obtain ⟨f1, f2, f3⟩ := pb_first (h1 p (by simp)) (mb l ++ t)
    have e : mb (p :: l) ++ t = pb p ++ (mb l ++ t) := by simp [mb]
    have hn : ¬ nx (pb p ++ (mb l ++ t)) = [] := by rw [f3]; simp [ht]
    rw [e, sE_more f1 hn, sL_more f1 hn, f2, f3, i1, i2]
    exact ⟨rfl, rfl⟩
theorem pb_one {p : Pt} (h : p.ok = true) : sE (pb p) = 0 ∧ sL (pb p) = [p] := by
  obtain ⟨f1, f2, f3⟩ := pb_first h []
  rw [List.append_nil] at f1 f2 f3
  exact ⟨sE_last f1 f3, by rw [sL_last f1 f3, f2]⟩
theorem mb_all (l : List Pt) (hl : l ≠ []) (h : allOk l = true) : sE (mb l) = 0 ∧ sL (mb l) = l := by
  have h1 := allOk_iff.1 h
  obtain ⟨k, p, rfl⟩ : ∃ k p, l = k ++ [p] := ⟨l.dropLast, l.getLast hl, (List.dropLast_concat_getLast hl).symm⟩
  obtain ⟨g1, g2⟩ := pb_one (h1 p (by simp))
  have e : mb (k ++ [p]) = mb k ++ pb p := by rw [mb_app]; simp [mb]
  obtain ⟨m1, m2⟩ := mb_more k (allOk_iff.2 fun q hq => h1 q (by simp [hq])) (pb p) (by simp [pb, ph])
  rw [e, m1, m2, g1, g2]
  exact ⟨rfl, rfl⟩
theorem jE_zero {l : List Pt} (h : jE l = 0) : l ≠ [] ∧ allOk l = true ∧ sz l ≤ 65536 := by
  unfold jE at h
  by_cases h1 : l = [] ∨ allOk l = false
  · rw [if_pos h1] at h; exact absurd h (by decide)
  rw [if_neg h1] at h
  by_cases h2 : 65536 < sz l
  · rw [if_pos h2] at h; exact absurd h (by decide)
  refine ⟨fun e => h1 (.inl e), ?_, by omega⟩
  cases e : allOk l with
  | true => rfl
  | false => exact absurd (.inr e) h1
theorem jE_is {l : List Pt} (h1 : l ≠ []) (h2 : allOk l = true) (h3 : sz l ≤ 65536) : jE l = 0 := by
  unfold jE
  rw [if_neg (by rintro (h | h); exact h1 h; rw [h2] at h; cases h), if_neg (by omega)]
theorem jS_is {l : List Pt} (h : jE l = 0) : jS l = bA l := by unfold jS; rw [if_pos h]
theorem fr_bA (l : List Pt) : fr (bA l) 0 = mb l := by simp [fr, bA]
theorem fr_self (s : ByteArray) : fr s 0 = s.data.toList := rfl
/-- Split of Join. -/
theorem back {l : List Pt} (h : jE l = 0) : rE (jS l) = 0 ∧ rL (jS l) = l := by
  obtain ⟨h1, h2, h3⟩ := jE_zero h
  obtain ⟨m1, m2⟩ := mb_all l h1 h2
  have e : rE (jS l) = 0 := by
    unfold rE
    rw [jS_is h, bA_size, if_neg (by omega), fr_bA, m1]
  refine ⟨e, ?_⟩
  unfold rL
  rw [if_pos e, jS_is h, fr_bA, m2]
/-- A part that is not padded stands as its bytes. -/
theorem pb_gP {r : List UInt8} (h : gE r = 0) (hd : hD r = 0) : r = pb (gP r) ++ nx r := by
  have hz := gE_zero h
  have hs := gP_size h
  have hnp : ¬ hP r = true := by
    intro hp
    have := hz.2.2.2.2 hp
    unfold hD at hd
    rw [if_pos hp] at hd
    omega
  have hp2 : ¬ bn r 0 / 32 % 2 = 1 := by unfold hP at hnp; simpa using hnp
  obtain ⟨a, b, c, d, tl, rfl⟩ : ∃ a b c d tl, r = a :: b :: c :: d :: tl := by
    match r, hz.1 with
    | a :: b :: c :: d :: tl, _ => exact ⟨a, b, c, d, tl, rfl⟩
    | [], h => simp at h
    | [_], h => simp at h; omega
    | [_, _], h => simp at h; omega
    | [_, _, _], h => simp at h; omega
  have la := a.toNat_lt
  have lc := c.toNat_lt
  have ld := d.toNat_lt
  have hn : hN (a :: b :: c :: d :: tl) = 4 * (256 * c.toNat + d.toNat) := rfl
  have b0 : bn (a :: b :: c :: d :: tl) 0 = a.toNat := rfl
  rw [hd, Nat.sub_zero] at hs
  have hm := hz.2.1
  rw [b0] at hm hp2
  have e1 : (gP (a :: b :: c :: d :: tl)).c.toNat = a.toNat % 32 := by show ((a.toNat % 32 : Nat) : Int).toNat = _; omega
  have e2 : (gP (a :: b :: c :: d :: tl)).t.toNat = b.toNat := by show ((b.toNat : Nat) : Int).toNat = _; omega
  have e3 : (gP (a :: b :: c :: d :: tl)).d.data.toList = tl.take (hN (a :: b :: c :: d :: tl)) := by
    unfold gP
    simp only [hd, Nat.sub_zero]
    simp
  unfold pb ph nx
  rw [e1, e2, hs, e3, hn]
  have u1 : UInt8.ofNat (128 + a.toNat % 32) = a := by
    rw [show 128 + a.toNat % 32 = a.toNat by omega]; simp
  have u2 : UInt8.ofNat (4 * (256 * c.toNat + d.toNat) / 4 / 256) = c := by
    rw [show 4 * (256 * c.toNat + d.toNat) / 4 / 256 = c.toNat by omega]; simp
  have u3 : UInt8.ofNat (4 * (256 * c.toNat + d.toNat) / 4) = d := by
    apply UInt8.toNat_inj.1
    rw [UInt8.toNat_ofNat']; omega
  rw [u1, u2, u3]
  have e4 : (a :: b :: c :: d :: tl).drop (4 + 4 * (256 * c.toNat + d.toNat)) = tl.drop (4 * (256 * c.toNat + d.toNat)) := by
    rw [← List.drop_drop]; rfl
  rw [e4]
  simp
/-- What parts that were split have. -/
theorem split_has (n : Nat) : ∀ r : List UInt8, r.length ≤ n → sE r = 0 → sL r ≠ [] ∧ sz (sL r) ≤ r.length ∧ r.length - sz (sL r) ≤ 255 ∧ (sz (sL r) = r.length → r = mb (sL r)) := by
  induction n with
  | zero =>
    intro r hr h
    have : gE r = 60 := gE_short (by omega)
    rw [sE_wrong (by rw [this]; decide), this] at h
    exact absurd h (by decide)
  | succ n ih =>
    intro r hr h
    by_cases hg : gE r = 0
    · have hz := gE_zero hg
      have hs := gP_size hg
      have hd := hD_le hg
      have hlen : (nx r).length = r.length - (4 + hN r) := by simp [nx]
      have hk : hD r ≤ 255 := by
        unfold hD hK
        have := bn_lt r (3 + hN r)
        split <;> omega
      by_cases hx : nx r = []
      · rw [sL_last hg hx]
        have h0 : r.length = 4 + hN r := by rw [hx] at hlen; simp at hlen; omega
        have hz1 : sz [gP r] = 4 + (hN r - hD r) := by simp [sz, hs]
        rw [hz1]
        refine ⟨by simp, by omega, by omega, fun e => ?_⟩
        have := pb_gP hg (by omega)
        rw [hx, List.append_nil] at this
        conv => lhs; rw [this]
        simp [mb]
      · rw [sL_more hg hx]
        rw [sE_more hg hx] at h
        have hd0 : hD r = 0 := by
          unfold hD
          by_cases hp : hP r = true
          · have := (hz.2.2.2.2 hp).1
            have : (nx r).length = 0 := by omega
            exact absurd (List.eq_nil_of_length_eq_zero this) hx
          · rw [if_neg hp]
        obtain ⟨i1, i2, i3, i4⟩ := ih (nx r) (by omega) h
        have hz1 : sz (gP r :: sL (nx r)) = 4 + hN r + sz (sL (nx r)) := by simp [sz, hs, hd0]
        rw [hz1]
        refine ⟨by simp, by omega, by omega, fun e => ?_⟩
        have := pb_gP hg hd0
        conv => lhs; rw [this]
        rw [mb, ← i4 (by omega)]
    · rw [sE_wrong hg] at h; exact absurd h hg
theorem rE_zero {s : ByteArray} (h : rE s = 0) : s.size ≤ 65536 ∧ sE (fr s 0) = 0 ∧ rL s = sL (fr s 0) := by
  have h0 := h
  unfold rE at h
  by_cases h1 : 65536 < s.size
  · rw [if_pos h1] at h; exact absurd h (by decide)
  rw [if_neg h1] at h
  exact ⟨by omega, h, by unfold rL; rw [if_pos h0]⟩
/-- What was split is joined. -/
theorem again {s : ByteArray} (h : rE s = 0) : jE (rL s) = 0 ∧ (jS (rL s)).size ≤ s.size ∧ sz (rL s) ≤ s.size := by
  obtain ⟨h1, h2, h3⟩ := rE_zero h
  obtain ⟨i1, i2, i3, i4⟩ := split_has _ (fr s 0) (Nat.le_refl _) h2
  have hm := sL_mem _ (fr s 0) (Nat.le_refl _)
  rw [fr_len, Nat.sub_zero] at i2
  rw [h3]
  have hj := jE_is i1 (allOk_iff.2 fun p hp => (hm p hp).1) (by omega)
  exact ⟨hj, by rw [jS_is hj, bA_size]; exact i2, i2⟩
end Go.Proofs.Ythapkeokgpnjgaa
