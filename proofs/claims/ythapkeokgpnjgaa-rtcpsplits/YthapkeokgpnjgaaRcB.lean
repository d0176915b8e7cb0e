/-
  What the reader's bits are in bytes; a body without what pads it.
-/
import Derived.Test.YthapkeokgpnjgaaRcL
import Derived.Test.YthapkeokgpnjgaaRcS
namespace Go.Proofs.Ythapkeokgpnjgaa
open Go.RowKit

/-- The bytes of a text from place q on. -/
def fr (s : ByteArray) (q : Nat) : List UInt8 := s.data.toList.drop q
theorem fr_len (s : ByteArray) (q : Nat) : (fr s q).length = s.size - q := by simp [fr]
theorem gv_bn (s : ByteArray) (q i p k : Nat) (hp : p / 8 = q + i) (h : p % 8 + k ≤ 8) : gv s p k = bn (fr s q) i * 2 ^ (p % 8) % 256 / 2 ^ (8 - k) := by
  rw [gv_piece s p k h, fr, bn_drop, hp]; rfl
theorem fr_bits (s : ByteArray) (q : Nat) (h : 4 ≤ (fr s q).length) :
    gw s (8 * q) 2 = bn (fr s q) 0 / 64 ∧ gw s (8 * q + 2) 1 = bn (fr s q) 0 / 32 % 2 ∧ gw s (8 * q + 2 + 1) 5 = bn (fr s q) 0 % 32 ∧ gw s (8 * q + 2 + 1 + 5) 8 = bn (fr s q) 1 ∧ gw s (8 * q + 2 + 1 + 5 + 8) 16 = 256 * bn (fr s q) 2 + bn (fr s q) 3 := by
  rw [fr_len] at h
  have b0 := bn_lt (fr s q) 0
  have b1 := bn_lt (fr s q) 1
  have b2 := bn_lt (fr s q) 2
  have b3 := bn_lt (fr s q) 3
  rw [gw_in (by omega), gw_in (by omega), gw_in (by omega), gw_in (by omega), gw_in (by omega)]
  refine ⟨?_, ?_, ?_, ?_, ?_⟩
  · rw [gv_bn s q 0 _ _ (by omega) (by omega), show 8 * q % 8 = 0 by omega]; omega
  · rw [gv_bn s q 0 _ _ (by omega) (by omega), show (8 * q + 2) % 8 = 2 by omega]; omega
  · rw [gv_bn s q 0 _ _ (by omega) (by omega), show (8 * q + 2 + 1) % 8 = 3 by omega]; omega
  · rw [gv_bn s q 1 _ _ (by omega) (by omega), show (8 * q + 2 + 1 + 5) % 8 = 0 by omega]; omega
  · have := gv_add s (8 * q + 2 + 1 + 5 + 8) 8 8
    rw [show (8 : Nat) + 8 = 16 from rfl] at this
    rw [this, gv_bn s q 2 _ _ (by omega) (by omega), gv_bn s q 3 _ _ (by omega) (by omega), show (8 * q + 2 + 1 + 5 + 8) % 8 = 0 by omega, show (8 * q + 2 + 1 + 5 + 8 + 8) % 8 = 0 by omega]
    omega
theorem txS_bytes (s : ByteArray) (q m : Nat) (h : q + m ≤ s.size) : txS s (8 * q) m = ⟨((fr s q).take m).toArray⟩ := by
  unfold txS
  congr 2
  apply List.ext_getElem?
  intro i
  by_cases hi : i < m
  · have hl : i < (fr s q).length := by rw [fr_len]; omega
    rw [List.getElem?_map, List.getElem?_range hi, List.getElem?_take_of_lt hi, List.getElem?_eq_getElem hl]
    simp only [Option.map_some, Option.some.injEq]
    rw [gw_in (by omega), gv_bn s q i _ _ (by omega) (by omega), show (8 * q + 8 * i) % 8 = 0 by omega]
    have e : bn (fr s q) i = ((fr s q)[i]).toNat := by unfold bn; rw [List.getD_eq_getElem?_getD, List.getElem?_eq_getElem hl]; rfl
    rw [e]
    have := ((fr s q)[i]).toNat_lt
    rw [show ((fr s q)[i]).toNat * 2 ^ 0 % 256 / 2 ^ (8 - 8) = ((fr s q)[i]).toNat by omega]
    simp
  · rw [List.getElem?_eq_none (by simp; omega), List.getElem?_eq_none (by simp; omega)]
/-- The last byte of a body. -/
theorem last_byte (d : ByteArray) (h : 0 < d.size) : ((d[d.size - 1]'(by omega)).toNat) = bn d.data.toList (d.size - 1) := by
  unfold bn
  rw [List.getD_eq_getElem?_getD, List.getElem?_eq_getElem (by show d.size - 1 < d.size; omega)]
  rfl
set_option maxRecDepth 100000 in
theorem bared_empty (d : ByteArray) (h : d.size = 0) (w : World) : Calls Try.prog 33 #[.string d] w fun e w' => e = thrown 91 ∧ w' = w := by
  obtain rfl : d = ⟨#[]⟩ := by
    obtain ⟨⟨l⟩⟩ := d
    have : l = [] := List.eq_nil_of_length_eq_zero h
    rw [this]
  go_enter Try.func33, Try.ntmps33
  go_wp2
  exact ⟨rfl, rfl, rfl⟩
set_option maxRecDepth 100000 in
theorem bared_some (d : ByteArray) (h : 0 < d.size) (hs : d.size ≤ 1000000) (k : Nat) (hk : bn d.data.toList (d.size - 1) = k) (w : World) :
    Calls Try.prog 33 #[.string d] w fun e w' => (((4 ≤ k ∧ k ≤ d.size ∧ k % 4 = 0) ∧ e = .returned (.string (d.extract 0 (d.size - k)))) ∨ (¬ (4 ≤ k ∧ k ≤ d.size ∧ k % 4 = 0) ∧ e = thrown 91)) ∧ w' = w := by
  have hlb := last_byte d h
  rw [hk] at hlb
  have hk1 : (k : Int) < 256 := by have := bn_lt d.data.toList (d.size - 1); omega
  have he : d.toList.isEmpty = false := by
    cases hh : d.toList.isEmpty with
    | false => rfl
    | true =>
      have h2 : d.toList = [] := by simpa using hh
      have h3 : d.toList.length = d.size := by rw [ByteArray.toList_eq]; rfl
      rw [h2] at h3
      simp at h3
      omega
  have K1 := mkHid (within_any k 4 d.size)
  have hd : (d.size : Int) ≤ 1000000 := by omega
  by_cases h1 : 4 ≤ k ∧ k ≤ d.size
  · rw [inR_yes (by omega) (by omega)] at K1
    have h1' : (k : Int) ≤ d.size := by omega
    by_cases h2 : k % 4 = 0
    · have h2' : (k : Int) % 4 = 0 := by omega
      clear hk
      go_enter Try.func33, Try.ntmps33
      go_wp2_with fail
      refine (K1.out _).mono ?_
      rintro e w1 ⟨rfl, rfl⟩
      go_wp2
      go_ret
      exact ⟨.inl ⟨⟨h1.1, h1.2, h2⟩, rfl⟩, rfl⟩
    · have h2' : ¬ (k : Int) % 4 = 0 := by omega
      clear hk
      go_enter Try.func33, Try.ntmps33
      go_wp2_with fail
      refine (K1.out _).mono ?_
      rintro e w1 ⟨rfl, rfl⟩
      go_wp2
      exact ⟨rfl, .inr ⟨by omega, rfl⟩, rfl⟩
  · rw [inR_no (by omega)] at K1
    clear hk
    go_enter Try.func33, Try.ntmps33
    go_wp2_with fail
    refine (K1.out _).mono ?_
    rintro e w1 ⟨rfl, rfl⟩
    go_wp2
    exact ⟨rfl, .inr ⟨by omega, rfl⟩, rfl⟩
end Go.Proofs.Ythapkeokgpnjgaa
