/-
  Bits as plain numbers: what stands in so many places of a row of bits, read as a number; bytes of a list of bits; what a piece of a byte is.
-/
import Derived.Below
namespace Go.Proofs.Ytmnpghelglohlaa

/-- The number that n bits from place p on make, the highest first. -/
def val (f : Nat → Nat) (p : Nat) : Nat → Nat
  | 0 => 0
  | n + 1 => 2 * val f p n + f (p + n)

theorem val_lt (f : Nat → Nat) (h : ∀ i, f i < 2) (p n : Nat) : val f p n < 2 ^ n := by
  induction n with
  | zero => simp [val]
  | succ n ih => have := h (p + n); rw [val, Nat.pow_succ]; omega

theorem val_add (f : Nat → Nat) (p n k : Nat) : val f p (n + k) = val f p n * 2 ^ k + val f (p + n) k := by
  induction k with
  | zero => simp [val]
  | succ k ih => rw [← Nat.add_assoc, val, ih, val, Nat.pow_succ, Nat.add_assoc p n k, Nat.mul_add, ← Nat.mul_assoc, Nat.mul_comm 2, Nat.mul_assoc, Nat.mul_comm 2 (2 ^ k)]; omega

theorem val_congr (f g : Nat → Nat) (p q n : Nat) (h : ∀ i, i < n → f (p + i) = g (q + i)) : val f p n = val g q n := by
  induction n with
  | zero => rfl
  | succ n ih => rw [val, val, ih fun i hi => h i (by omega), h n (by omega)]

theorem val_zero (f : Nat → Nat) (p n : Nat) (h : ∀ i, i < n → f (p + i) = 0) : val f p n = 0 := by
  induction n with
  | zero => rfl
  | succ n ih => rw [val, ih fun i hi => h i (by omega), h n (by omega)]

/-- A bit of eight. -/
theorem val_bit (f : Nat → Nat) (h : ∀ i, f i < 2) (p i : Nat) (hi : i < 8) : val f p 8 / 2 ^ (7 - i) % 2 = f (p + i) := by
  have e : val f p 8 = val f p (i + 1) * 2 ^ (7 - i) + val f (p + (i + 1)) (7 - i) := by
    rw [← val_add]; congr 1; omega
  have l := val_lt f h (p + (i + 1)) (7 - i)
  rw [e, Nat.mul_comm, Nat.mul_add_div (Nat.two_pow_pos _), Nat.div_eq_of_lt l, val]
  have := h (p + i); omega

/-- A bit of a text. -/
def bt (s : ByteArray) (i : Nat) : Nat := (s.data.toList.getD (i / 8) 0).toNat / 2 ^ (7 - i % 8) % 2
theorem bt_lt (s : ByteArray) (i : Nat) : bt s i < 2 := Nat.mod_lt _ (by decide)
/-- So many bits of a text from a place on, as a number. -/
def gv (s : ByteArray) (p n : Nat) : Nat := val (bt s) p n
theorem gv_lt (s : ByteArray) (p n : Nat) : gv s p n < 2 ^ n := val_lt _ (bt_lt s) _ _
theorem gv_add (s : ByteArray) (p n k : Nat) : gv s p (n + k) = gv s p n * 2 ^ k + gv s (p + n) k := val_add _ _ _ _

/-- Within a byte. -/
theorem val_byte (B f k : Nat) (h : f + k ≤ 8) : val (fun i => B / 2 ^ (7 - i) % 2) f k = B * 2 ^ f % 256 / 2 ^ (8 - k) := by
  have g : ∀ n, n ≤ k → val (fun i => B / 2 ^ (7 - i) % 2) f n = B / 2 ^ (8 - f - n) % 2 ^ n := by
    intro n hn
    induction n with
    | zero => simp [val, Nat.mod_one]
    | succ n ih =>
      rw [val, ih (by omega)]
      have e1 : 8 - f - n = (8 - f - (n + 1)) + 1 := by omega
      have e2 : 7 - (f + n) = 8 - f - (n + 1) := by omega
      simp only [e2]
      rw [e1, Nat.pow_succ, ← Nat.div_div_eq_div_mul, Nat.pow_succ 2 n, Nat.mul_comm (2 ^ n) 2, Nat.mod_mul]
      omega
  rw [g _ (Nat.le_refl _)]
  have e3 : (256 : Nat) = 2 ^ (8 - f) * 2 ^ f := by
    rw [← Nat.pow_add]
    have : 8 - f + f = 8 := by omega
    rw [this]
  rw [e3, Nat.mul_mod_mul_right]
  have e4 : 8 - k = (8 - f - k) + f := by omega
  rw [e4, Nat.pow_add, Nat.mul_comm (2 ^ (8 - f - k)), ← Nat.div_div_eq_div_mul, Nat.mul_div_cancel _ (Nat.two_pow_pos _)]
  have e5 : 2 ^ (8 - f) = 2 ^ (8 - f - k) * 2 ^ k := by rw [← Nat.pow_add]; congr 1; omega
  rw [e5, Nat.mod_mul_right_div_self]

theorem gv_piece (s : ByteArray) (p k : Nat) (h : p % 8 + k ≤ 8) :
    gv s p k = (s.data.toList.getD (p / 8) 0).toNat * 2 ^ (p % 8) % 256 / 2 ^ (8 - k) := by
  rw [← val_byte _ (p % 8) k h]
  refine val_congr _ _ _ _ _ fun i hi => ?_
  have e1 : (p + i) / 8 = p / 8 := by omega
  have e2 : (p + i) % 8 = p % 8 + i := by omega
  simp only [bt, e1, e2]

/-! ### Lists of bits -/
def lb (l : List Bool) (i : Nat) : Nat := (l.getD i false).toNat
theorem lb_lt (l : List Bool) (i : Nat) : lb l i < 2 := by unfold lb; cases l.getD i false <;> decide
/-- The lower n bits of c, the highest first. -/
def bitsOf (c : Nat) : Nat → List Bool
  | 0 => []
  | n + 1 => (c / 2 ^ n % 2 == 1) :: bitsOf c n
@[simp] theorem bitsOf_len (c n : Nat) : (bitsOf c n).length = n := by induction n with | zero => rfl | succ n ih => simp [bitsOf, ih]
theorem bitsOf_split (c k m : Nat) : bitsOf c (k + m) = bitsOf (c / 2 ^ m) k ++ bitsOf c m := by
  induction k with
  | zero => simp [bitsOf]
  | succ k ih =>
    have e : k + 1 + m = (k + m) + 1 := by omega
    rw [e, bitsOf, ih, bitsOf, Nat.div_div_eq_div_mul, ← Nat.pow_add, Nat.add_comm m k]; rfl
theorem bitsOf_zero (n : Nat) : bitsOf 0 n = List.replicate n false := by induction n with | zero => rfl | succ n ih => simp [bitsOf, ih, List.replicate_succ]
theorem bitsOf_mod (c k n : Nat) (h : n ≤ k) : bitsOf (c % 2 ^ k) n = bitsOf c n := by
  induction n with
  | zero => rfl
  | succ n ih =>
    rw [bitsOf, bitsOf, ih (by omega)]
    congr 2
    have e : k = n + (k - n) := by omega
    rw [e, Nat.pow_add, Nat.mod_mul_right_div_self]
    obtain ⟨j, hj⟩ : ∃ j, k - n = 1 + j := ⟨k - n - 1, by omega⟩
    rw [hj, Nat.pow_add, Nat.pow_one, Nat.mod_mul_right_mod]

theorem lb_app_left (l r : List Bool) (i : Nat) (h : i < l.length) : lb (l ++ r) i = lb l i := by
  unfold lb; rw [List.getD_eq_getElem?_getD, List.getD_eq_getElem?_getD, List.getElem?_append_left h]
theorem lb_app_right (l r : List Bool) (i : Nat) : lb (l ++ r) (l.length + i) = lb r i := by
  unfold lb; rw [List.getD_eq_getElem?_getD, List.getD_eq_getElem?_getD, List.getElem?_append_right (by omega)]; congr 3; omega
theorem lb_out (l : List Bool) (i : Nat) (h : l.length ≤ i) : lb l i = 0 := by
  unfold lb; rw [List.getD_eq_getElem?_getD, List.getElem?_eq_none h]; rfl
theorem lb_bits (c n i : Nat) (h : i < n) : lb (bitsOf c n) i = c / 2 ^ (n - 1 - i) % 2 := by
  induction n generalizing i with
  | zero => omega
  | succ n ih =>
    cases i with
    | zero =>
      simp only [bitsOf, lb, List.getD_cons_zero]
      have : c / 2 ^ n % 2 < 2 := Nat.mod_lt _ (by decide)
      have e : n + 1 - 1 - 0 = n := by omega
      rw [e]
      rcases (by omega : c / 2 ^ n % 2 = 0 ∨ c / 2 ^ n % 2 = 1) with h | h <;> simp [h]
    | succ i =>
      have := ih i (by omega)
      simp only [bitsOf, lb, List.getD_cons_succ] at this ⊢
      rw [this]; congr 3; omega
theorem val_bits (c k : Nat) : val (lb (bitsOf c k)) 0 k = c % 2 ^ k := by
  have g : ∀ n, n ≤ k → val (lb (bitsOf c k)) 0 n = c / 2 ^ (k - n) % 2 ^ n := by
    intro n hn
    induction n with
    | zero => simp [val, Nat.mod_one]
    | succ n ih =>
      rw [val, ih (by omega), Nat.zero_add, lb_bits c k n (by omega)]
      have e1 : k - n = (k - (n + 1)) + 1 := by omega
      have e2 : k - 1 - n = k - (n + 1) := by omega
      rw [e2, e1, Nat.pow_succ, ← Nat.div_div_eq_div_mul, Nat.pow_succ 2 n, Nat.mul_comm (2 ^ n) 2, Nat.mod_mul]
      omega
  have := g k (Nat.le_refl _)
  simpa using this
/-- Bits that stand within a list. -/
theorem val_mid (l r : List Bool) (c k : Nat) : val (lb (l ++ (bitsOf c k ++ r))) l.length k = c % 2 ^ k := by
  rw [← val_bits c k]
  refine val_congr _ _ _ _ _ fun i hi => ?_
  rw [lb_app_right, lb_app_left _ _ _ (by simpa using hi), Nat.zero_add]

/-- A byte of a list of bits. -/
def bv (l : List Bool) (j : Nat) : Nat := val (lb l) (8 * j) 8
theorem bv_lt (l : List Bool) (j : Nat) : bv l j < 256 := val_lt _ (lb_lt l) _ _
/-- The bytes of a list of bits. -/
def pk (l : List Bool) : List Nat := (List.range ((l.length + 7) / 8)).map (bv l)
@[simp] theorem pk_len (l : List Bool) : (pk l).length = (l.length + 7) / 8 := by simp [pk]
theorem pk_lt (l : List Bool) : ∀ x ∈ pk l, x < 256 := by
  intro x hx
  simp only [pk, List.mem_map] at hx
  obtain ⟨j, _, rfl⟩ := hx
  exact bv_lt l j
def packS (l : List Bool) : ByteArray := ⟨((pk l).map UInt8.ofNat).toArray⟩
theorem packS_size (l : List Bool) : (packS l).size = (l.length + 7) / 8 := by
  show (((pk l).map UInt8.ofNat).toArray).size = _
  simp
theorem bt_pack (l : List Bool) (i : Nat) : bt (packS l) i = lb l i := by
  have e : (packS l).data.toList = (pk l).map UInt8.ofNat := rfl
  unfold bt
  rw [e, List.getD_eq_getElem?_getD, List.getElem?_map, pk, List.getElem?_map]
  by_cases h : i / 8 < (l.length + 7) / 8
  · rw [List.getElem?_range h]
    simp only [Option.map_some, Option.getD_some]
    have hb := bv_lt l (i / 8)
    rw [UInt8.toNat_ofNat_of_lt' (by simpa using hb), bv, val_bit _ (lb_lt l) _ _ (by omega)]
    congr 1; omega
  · rw [List.getElem?_eq_none (by simpa using h), lb_out l i (by omega)]
    simp
theorem gv_pack (l : List Bool) (p n : Nat) : gv (packS l) p n = val (lb l) p n := val_congr _ _ _ _ _ fun _ _ => bt_pack l _

theorem or_add (a b k : Nat) (h : b < 2 ^ k) : a * 2 ^ k ||| b = a * 2 ^ k + b := by
  rw [← Nat.shiftLeft_eq, ← Nat.shiftLeft_add_eq_or_of_lt h]

/-- The last byte, when some bits more are laid behind what it has. -/
theorem bv_more (l : List Bool) (c k : Nat) (h : l.length % 8 + k ≤ 8) :
    bv (l ++ bitsOf c k) (l.length / 8) = (bv l (l.length / 8) ||| c % 2 ^ k * 2 ^ (8 - k) / 2 ^ (l.length % 8)) := by
  have hl : l.length = 8 * (l.length / 8) + l.length % 8 := by omega
  generalize hq : l.length / 8 = q at *
  generalize hf : l.length % 8 = f at *
  have e1 : (8 : Nat) = f + (k + (8 - f - k)) := by omega
  have v1 : bv (l ++ bitsOf c k) q = val (lb l) (8 * q) f * 2 ^ (8 - f) + c % 2 ^ k * 2 ^ (8 - f - k) := by
    have e2 : bv (l ++ bitsOf c k) q = val (lb (l ++ bitsOf c k)) (8 * q) (f + (k + (8 - f - k))) := by unfold bv; rw [← e1]
    rw [e2, val_add, val_add (lb (l ++ bitsOf c k)) (8 * q + f) k]
    have e3 : val (lb (l ++ bitsOf c k)) (8 * q) f = val (lb l) (8 * q) f := val_congr _ _ _ _ _ fun i hi => lb_app_left _ _ _ (by omega)
    have e4 : val (lb (l ++ bitsOf c k)) (8 * q + f) k = c % 2 ^ k := by
      rw [← hl]; have := val_mid l [] c k; rwa [List.append_nil] at this
    have e5 : val (lb (l ++ bitsOf c k)) (8 * q + f + k) (8 - f - k) = 0 := val_zero _ _ _ fun i hi => lb_out _ _ (by simp; omega)
    rw [e3, e4, e5]
    have e6 : k + (8 - f - k) = 8 - f := by omega
    rw [e6, Nat.add_zero]
  have v2 : bv l q = val (lb l) (8 * q) f * 2 ^ (8 - f) := by
    have e2 : bv l q = val (lb l) (8 * q) (f + (8 - f)) := by unfold bv; congr 1; omega
    rw [e2, val_add, val_zero (lb l) (8 * q + f) (8 - f) fun i hi => lb_out _ _ (by omega), Nat.add_zero]
  have v3 : c % 2 ^ k * 2 ^ (8 - k) / 2 ^ f = c % 2 ^ k * 2 ^ (8 - f - k) := by
    have e7 : 8 - k = (8 - f - k) + f := by omega
    rw [e7, Nat.pow_add, ← Nat.mul_assoc, Nat.mul_div_cancel _ (Nat.two_pow_pos _)]
  have hlt : c % 2 ^ k * 2 ^ (8 - f - k) < 2 ^ (8 - f) := by
    have e8 : 8 - f = k + (8 - f - k) := by omega
    rw [e8, Nat.pow_add]
    have e9 : k + (8 - f - k) - k = 8 - f - k := by omega
    rw [e9]
    exact Nat.mul_lt_mul_of_pos_right (Nat.mod_lt _ (Nat.two_pow_pos _)) (Nat.two_pow_pos _)
  rw [v1, v2, v3, or_add _ _ _ hlt]

theorem pk_get (l : List Bool) (j : Nat) (h : j < (l.length + 7) / 8) : (pk l)[j]? = some (bv l j) := by
  rw [pk, List.getElem?_map, List.getElem?_range h]; rfl
theorem pk_end (l : List Bool) (h : l.length % 8 = 0) : bv l (l.length / 8) = 0 := val_zero _ _ _ fun i _ => lb_out _ _ (by omega)
/-- All bytes, when some bits more are laid within the last one. -/
theorem pk_more (l : List Bool) (c k : Nat) (hk : 0 < k) (h : l.length % 8 + k ≤ 8) (hf : l.length % 8 ≠ 0) :
    pk (l ++ bitsOf c k) = (pk l).set (l.length / 8) (bv l (l.length / 8) ||| c % 2 ^ k * 2 ^ (8 - k) / 2 ^ (l.length % 8)) := by
  apply List.ext_getElem?
  intro j
  rw [List.getElem?_set, pk_len]
  by_cases hj : j < (l.length + 7) / 8
  · rw [pk_get _ _ (by simp; omega)]
    by_cases e : l.length / 8 = j
    · rw [if_pos e, if_pos (by omega), ← e, bv_more l c k h]
    · rw [if_neg e, pk_get _ _ hj]
      exact congrArg some (val_congr _ _ _ _ _ fun i hi => lb_app_left _ _ _ (by omega))
  · rw [if_neg (by omega), List.getElem?_eq_none (by simp; omega), List.getElem?_eq_none (by simp; omega)]
/-- All bytes, when a new one is begun. -/
theorem pk_new (l : List Bool) (c k : Nat) (hk : 0 < k) (h : k ≤ 8) (hf : l.length % 8 = 0) :
    pk (l ++ bitsOf c k) = (pk l ++ [0]).set (l.length / 8) (0 ||| c % 2 ^ k * 2 ^ (8 - k) / 2 ^ (l.length % 8)) := by
  apply List.ext_getElem?
  intro j
  rw [List.getElem?_set, List.length_append, pk_len]
  by_cases hj : j < (l.length + 7) / 8 + 1
  · rw [pk_get _ _ (by simp; omega)]
    by_cases e : l.length / 8 = j
    · rw [if_pos e, if_pos (by simp; omega), ← e, bv_more l c k (by omega), pk_end l hf]
    · rw [if_neg e, List.getElem?_append_left (by simp; omega), pk_get _ _ (by omega)]
      exact congrArg some (val_congr _ _ _ _ _ fun i hi => lb_app_left _ _ _ (by omega))
  · rw [if_neg (by omega), List.getElem?_eq_none (by simp; omega), List.getElem?_eq_none (by simp; omega)]

end Go.Proofs.Ytmnpghelglohlaa
