/-
  The bytes of one entry.
-/
import Derived.Test.YtmnpghelglohlaaNkP
namespace Go.Proofs.Ytmnpghelglohlaa

/-- The bits of bytes. -/
def bitsL : List UInt8 → List Bool
  | [] => []
  | x :: r => bitsOf x.toNat 8 ++ bitsL r
@[simp] theorem bitsL_len (r : List UInt8) : (bitsL r).length = 8 * r.length := by induction r with | nil => rfl | cons x r ih => simp [bitsL, ih]; omega
theorem bitsL_app (r k : List UInt8) : bitsL (r ++ k) = bitsL r ++ bitsL k := by induction r with | nil => rfl | cons x r ih => simp [bitsL, ih]
theorem pk_bits (r : List UInt8) : pk (bitsL r) = r.map UInt8.toNat := by
  apply List.ext_getElem?
  intro j
  by_cases hj : j < r.length
  · rw [pk_get _ _ (by simp; omega), List.getElem?_map, List.getElem?_eq_getElem hj]
    have e : bitsL r = bitsL (r.take j) ++ (bitsOf r[j].toNat 8 ++ bitsL (r.drop (j + 1))) := by
      conv => lhs; rw [← List.take_append_drop j r, bitsL_app, List.drop_eq_getElem_cons hj]
      rfl
    have h := val_mid (bitsL (r.take j)) (bitsL (r.drop (j + 1))) r[j].toNat 8
    have el : (bitsL (r.take j)).length = 8 * j := by simp; omega
    rw [← e, el] at h
    unfold bv
    rw [h]
    have := r[j].toNat_lt
    simp only [Option.map_some, Option.some.injEq]
    omega
  · rw [List.getElem?_eq_none (by simp; omega), List.getElem?_eq_none (by simp; omega)]
theorem pack_bits (r : List UInt8) : packS (bitsL r) = ⟨r.toArray⟩ := by
  unfold packS
  rw [pk_bits, List.map_map]
  have : (UInt8.ofNat ∘ UInt8.toNat) = id := by funext x; simp
  rw [this, List.map_id]
theorem bits_byte (n : Nat) : bitsOf (UInt8.ofNat n).toNat 8 = bitsOf n 8 := by
  rw [UInt8.toNat_ofNat']
  exact bitsOf_mod n 8 8 (Nat.le_refl _)
theorem bits16 (n : Nat) : bitsOf n 16 = bitsL [UInt8.ofNat (n / 256), UInt8.ofNat (n % 256)] := by
  have h := bitsOf_split n 8 8
  simp only [bitsL, bits_byte, List.append_nil]
  rw [show bitsOf n 16 = bitsOf n (8 + 8) from rfl, h]
  have h2 := bitsOf_mod n 8 8 (Nat.le_refl _)
  rw [← h2]
/-- The bytes of one entry, behind the senders 1 and 2. -/
def mkL (F M : Nat) : List UInt8 := [0, 0, 0, 1, 0, 0, 0, 2, UInt8.ofNat (F / 256), UInt8.ofNat (F % 256), UInt8.ofNat (M / 256), UInt8.ofNat (M % 256)]
def mkS (F M : Nat) : ByteArray := ⟨(mkL F M).toArray⟩
theorem mkS_is (F M : Nat) (hM : M < 65536) : packS (nkB ⟨1, 2, (F : Int) :: tl (F : Int) M 0 16⟩) = mkS F M := by
  unfold mkS
  rw [← pack_bits]
  congr 1
  unfold nkB
  rw [tl_enL _ _ hM]
  have e1 : bitsOf (1 : Int).toNat 32 = bitsL [0, 0, 0, 1] := by decide
  have e2 : bitsOf (2 : Int).toNat 32 = bitsL [0, 0, 0, 2] := by decide
  simp only [enB, Int.toNat_natCast, List.append_nil]
  rw [e1, e2, bits16, bits16, ← bitsL_app, ← bitsL_app, ← bitsL_app]
  rfl
end Go.Proofs.Ytmnpghelglohlaa
