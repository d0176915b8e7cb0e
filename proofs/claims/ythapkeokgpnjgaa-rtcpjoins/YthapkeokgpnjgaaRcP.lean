/-
  Messages as plain lists of bytes: what a part is, its bytes, and what the parts of a list of bytes are, or what is wrong first.
-/
import Derived.Test.YthapkeokgpnjgaaBiP
namespace Go.Proofs.Ythapkeokgpnjgaa

/-- A part: its count, its type, its body. -/
structure Pt where
  c : Int
  t : Int
  d : ByteArray
/-- May it be? -/
def Pt.ok (p : Pt) : Bool := decide (0 ≤ p.c ∧ p.c ≤ 31 ∧ 192 ≤ p.t ∧ p.t ≤ 223 ∧ p.d.size ≤ 262140 ∧ p.d.size % 4 = 0)
theorem Pt.ok_iff {p : Pt} : p.ok = true ↔ 0 ≤ p.c ∧ p.c ≤ 31 ∧ 192 ≤ p.t ∧ p.t ≤ 223 ∧ p.d.size ≤ 262140 ∧ p.d.size % 4 = 0 := by simp [Pt.ok]
/-- A byte of a list. -/
def bn (r : List UInt8) (i : Nat) : Nat := (r.getD i 0).toNat
theorem bn_lt (r : List UInt8) (i : Nat) : bn r i < 256 := (r.getD i 0).toNat_lt
theorem bn_drop (r : List UInt8) (q i : Nat) : bn (r.drop q) i = bn r (q + i) := by simp [bn, List.getD_eq_getElem?_getD]
/-- The bytes of a part. -/
def ph (p : Pt) : List UInt8 := [UInt8.ofNat (128 + p.c.toNat), UInt8.ofNat p.t.toNat, UInt8.ofNat (p.d.size / 4 / 256), UInt8.ofNat (p.d.size / 4)]
def pb (p : Pt) : List UInt8 := ph p ++ p.d.data.toList
theorem toList_len (d : ByteArray) : d.data.toList.length = d.size := rfl
@[simp] theorem pb_len (p : Pt) : (pb p).length = 4 + p.d.size := by simp [pb, ph]; omega
/-- The bytes of parts, one behind the other; how many they are. -/
def mb : List Pt → List UInt8
  | [] => []
  | p :: l => pb p ++ mb l
def sz : List Pt → Nat
  | [] => 0
  | p :: l => (4 + p.d.size) + sz l
theorem mb_len (l : List Pt) : (mb l).length = sz l := by induction l with | nil => rfl | cons p l ih => simp [mb, sz, ih]
theorem mb_app (l k : List Pt) : mb (l ++ k) = mb l ++ mb k := by induction l with | nil => rfl | cons p l ih => simp [mb, ih]
theorem sz_app (l k : List Pt) : sz (l ++ k) = sz l + sz k := by induction l with | nil => simp [sz] | cons p l ih => simp [sz, ih]; omega
theorem sz_take (l : List Pt) (i : Nat) : sz (l.take i) ≤ sz l := by
  have := sz_app (l.take i) (l.drop i)
  rw [List.take_append_drop] at this; omega
theorem take_next {l : List Pt} {i : Nat} {p : Pt} (h : l[i]? = some p) : l.take (i + 1) = l.take i ++ [p] := by
  obtain ⟨hi, e⟩ := List.getElem?_eq_some_iff.1 h
  rw [List.take_succ_eq_append_getElem hi, e]
theorem sz_next {l : List Pt} {i : Nat} {p : Pt} (h : l[i]? = some p) : sz (l.take (i + 1)) = sz (l.take i) + (4 + p.d.size) := by
  rw [take_next h, sz_app]; rfl
theorem sz_len (l : List Pt) : 4 * l.length ≤ sz l := by induction l with | nil => simp [sz] | cons p l ih => simp [sz]; omega

/-! ### Reading -/
/-- How many bytes the first part's body has. -/
def hN (r : List UInt8) : Nat := 4 * (256 * bn r 2 + bn r 3)
/-- Is the first part padded? -/
def hP (r : List UInt8) : Bool := bn r 0 / 32 % 2 == 1
/-- Its last byte. -/
def hK (r : List UInt8) : Nat := bn r (3 + hN r)
/-- Can its padding not be? -/
def hW (r : List UInt8) : Prop := 4 + hN r < r.length ∨ hN r = 0 ∨ hK r < 4 ∨ hK r % 4 ≠ 0 ∨ hN r < hK r
/-- What is wrong with the first part; 0: nothing. -/
def gE (r : List UInt8) : Int :=
  if r.length < 4 then 60 else if r.length < 4 + hN r then 60 else if bn r 0 / 64 ≠ 2 then 70 else if bn r 1 < 192 ∨ 223 < bn r 1 then 81
  else if hP r = true ∧ (4 + hN r < r.length ∨ hN r = 0 ∨ hK r < 4 ∨ hK r % 4 ≠ 0 ∨ hN r < hK r) then 91 else 0
/-- How many bytes pad it. -/
def hD (r : List UInt8) : Nat := if hP r = true then hK r else 0
/-- The first part. -/
def gP (r : List UInt8) : Pt := ⟨((bn r 0 % 32 : Nat) : Int), (bn r 1 : Nat), ⟨((r.drop 4).take (hN r - hD r)).toArray⟩⟩
/-- What is behind it. -/
def nx (r : List UInt8) : List UInt8 := r.drop (4 + hN r)
/-- What is wrong first; the parts ahead of it: of at most so many parts. -/
def sF : Nat → List UInt8 → Int
  | 0, _ => 60
  | n + 1, r => if gE r = 0 then (if nx r = [] then 0 else sF n (nx r)) else gE r
def sG : Nat → List UInt8 → List Pt
  | 0, _ => []
  | n + 1, r => if gE r = 0 then (if nx r = [] then [gP r] else gP r :: sG n (nx r)) else []
theorem nx_less {r : List UInt8} (h : ¬ nx r = []) : (nx r).length < r.length := by
  have : 0 < (nx r).length := List.length_pos_iff.2 h
  simp only [nx, List.length_drop] at this ⊢
  omega
theorem sF_same (n : Nat) : ∀ (m : Nat) (r : List UInt8), r.length < n → r.length < m → sF n r = sF m r := by
  induction n with
  | zero => intro m r h; omega
  | succ n ih =>
    intro m r h h2
    cases m with
    | zero => omega
    | succ m =>
      rw [sF, sF]
      by_cases h3 : gE r = 0
      · rw [if_pos h3, if_pos h3]
        by_cases h4 : nx r = []
        · rw [if_pos h4, if_pos h4]
        · have := nx_less h4
          rw [if_neg h4, if_neg h4, ih m (nx r) (by omega) (by omega)]
      · rw [if_neg h3, if_neg h3]
theorem sG_same (n : Nat) : ∀ (m : Nat) (r : List UInt8), r.length < n → r.length < m → sG n r = sG m r := by
  induction n with
  | zero => intro m r h; omega
  | succ n ih =>
    intro m r h h2
    cases m with
    | zero => omega
    | succ m =>
      rw [sG, sG]
      by_cases h3 : gE r = 0
      · rw [if_pos h3, if_pos h3]
        by_cases h4 : nx r = []
        · rw [if_pos h4, if_pos h4]
        · have := nx_less h4
          rw [if_neg h4, if_neg h4, ih m (nx r) (by omega) (by omega)]
      · rw [if_neg h3, if_neg h3]
def sE (r : List UInt8) : Int := sF (r.length + 1) r
def sL (r : List UInt8) : List Pt := sG (r.length + 1) r
theorem sE_wrong {r : List UInt8} (h : ¬ gE r = 0) : sE r = gE r := by rw [sE, sF, if_neg h]
theorem sE_last {r : List UInt8} (h : gE r = 0) (h2 : nx r = []) : sE r = 0 := by rw [sE, sF, if_pos h, if_pos h2]
theorem sE_more {r : List UInt8} (h : gE r = 0) (h2 : ¬ nx r = []) : sE r = sE (nx r) := by
  have := nx_less h2
  rw [sE, sF, if_pos h, if_neg h2, sE]
  exact sF_same _ _ _ (by omega) (by omega)
theorem sL_wrong {r : List UInt8} (h : ¬ gE r = 0) : sL r = [] := by rw [sL, sG, if_neg h]
theorem sL_last {r : List UInt8} (h : gE r = 0) (h2 : nx r = []) : sL r = [gP r] := by rw [sL, sG, if_pos h, if_pos h2]
theorem sL_more {r : List UInt8} (h : gE r = 0) (h2 : ¬ nx r = []) : sL r = gP r :: sL (nx r) := by
  have := nx_less h2
  rw [sL, sG, if_pos h, if_neg h2, sL]
  exact congrArg _ (sG_same _ _ _ (by omega) (by omega))
/-- What a first part that can be is. -/
theorem gE_zero {r : List UInt8} (h : gE r = 0) : 4 + hN r ≤ r.length ∧ bn r 0 / 64 = 2 ∧ 192 ≤ bn r 1 ∧ bn r 1 ≤ 223 ∧ (hP r = true → r.length = 4 + hN r ∧ 4 ≤ hK r ∧ hK r % 4 = 0 ∧ hK r ≤ hN r) := by
  unfold gE at h
  by_cases h1 : r.length < 4
  · rw [if_pos h1] at h; exact absurd h (by decide)
  rw [if_neg h1] at h
  by_cases h2 : r.length < 4 + hN r
  · rw [if_pos h2] at h; exact absurd h (by decide)
  rw [if_neg h2] at h
  by_cases h3 : bn r 0 / 64 ≠ 2
  · rw [if_pos h3] at h; exact absurd h (by decide)
  rw [if_neg h3] at h
  by_cases h4 : bn r 1 < 192 ∨ 223 < bn r 1
  · rw [if_pos h4] at h; exact absurd h (by decide)
  rw [if_neg h4] at h
  by_cases h5 : hP r = true ∧ (4 + hN r < r.length ∨ hN r = 0 ∨ hK r < 4 ∨ hK r % 4 ≠ 0 ∨ hN r < hK r)
  · rw [if_pos h5] at h; exact absurd h (by decide)
  refine ⟨by omega, by omega, by omega, by omega, fun hp => ?_⟩
  have : ¬ (4 + hN r < r.length ∨ hN r = 0 ∨ hK r < 4 ∨ hK r % 4 ≠ 0 ∨ hN r < hK r) := fun hw => h5 ⟨hp, hw⟩
  omega
theorem gE_is {r : List UInt8} (h1 : 4 + hN r ≤ r.length) (h2 : bn r 0 / 64 = 2) (h3 : 192 ≤ bn r 1) (h4 : bn r 1 ≤ 223) (h5 : hP r = true → r.length = 4 + hN r ∧ 4 ≤ hK r ∧ hK r % 4 = 0 ∧ hK r ≤ hN r) : gE r = 0 := by
  unfold gE
  rw [if_neg (by omega), if_neg (by omega), if_neg (by omega), if_neg (by omega), if_neg]
  rintro ⟨hp, hw⟩
  have := h5 hp
  omega
theorem hD_le {r : List UInt8} (h : gE r = 0) : hD r ≤ hN r ∧ hD r % 4 = 0 := by
  have := (gE_zero h).2.2.2.2
  unfold hD
  by_cases hp : hP r = true
  · rw [if_pos hp]; have := this hp; omega
  · rw [if_neg hp]; omega
theorem ba_size (l : List UInt8) : (⟨l.toArray⟩ : ByteArray).size = l.length := by show l.toArray.size = _; simp
theorem gP_size {r : List UInt8} (h : gE r = 0) : (gP r).d.size = hN r - hD r := by
  have := (gE_zero h).1
  show (⟨((r.drop 4).take (hN r - hD r)).toArray⟩ : ByteArray).size = _
  rw [ba_size]; simp; omega
theorem gP_ok {r : List UInt8} (h : gE r = 0) : (gP r).ok = true := by
  have h1 := gE_zero h
  have h2 := hD_le h
  have h3 := gP_size h
  have h4 : hN r = 4 * (256 * bn r 2 + bn r 3) := rfl
  have := bn_lt r 2
  have := bn_lt r 3
  rw [Pt.ok_iff]
  refine ⟨by simp [gP]; omega, by simp [gP]; omega, by simp [gP]; omega, by simp [gP]; omega, by omega, by omega⟩
end Go.Proofs.Ythapkeokgpnjgaa
