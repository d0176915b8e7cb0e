/-
  Bits as plain numbers: what stands in so many places of a row of bits, read as a number; bytes of a list of bits; what a piece of a byte is.
-/
import Derived.Below
import Derived.Test.YtdhbakknplnnkaaGreatRows
import Derived.WalkKit
import Derived.WalkSpells
import Derived.WalkLawsBesides
import Derived.Handy
import Derived.BigQuiet
import Derived.ScopeJumps
import Derived.WalkMore
import Derived.Laws.IdiomStrings
import Derived.BigRegion
import Derived.Deep.DeepCutAuto
import Derived.Deep.CutBlock
import Derived.Laws.MakeOwn
import Derived.Deep.RegionHeld3
namespace Go.Proofs.YtdhbakknplnnkaaGreat.Tw

/-- The number that n bits from place p on make, the highest first. -/
def val (f : Nat → Nat) (p : Nat) : Nat → Nat
  | 0 => 0
  | n + 1 => 2 * val f p n + f (p + n)

theorem val_lt (f : Nat → Nat) (h : ∀ i, f i < 2) (p n : Nat) : val f p n < 2 ^ n := by
  induction n with
  | zero => simp [val]
  | succ n ih => have := h (p + n); rw [val, Nat.pow_succ]; omega

theorem val_add (f : Nat → Nat) (p n k : Nat) : val f p (n + k) = val f p n * 2 ^ k + val f (p + n) k := by
  induction k with
  | zero => simp [val]
  | succ k ih => rw [← Nat.add_assoc, val, ih, val, Nat.pow_succ, Nat.add_assoc p n k, Nat.mul_add, ← Nat.mul_assoc, Nat.mul_comm 2, Nat.mul_assoc, Nat.mul_comm 2 (2 ^ k)]; omega

theorem val_congr (f g : Nat → Nat) (p q n : Nat) (h : ∀ i, i < n → f (p + i) = g (q + i)) : val f p n = val g q n := by
  induction n with
  | zero => rfl
  | succ n ih => rw [val, val, ih fun i hi => h i (by omega), h n (by omega)]

theorem val_zero (f : Nat → Nat) (p n : Nat) (h : ∀ i, i < n → f (p + i) = 0) : val f p n = 0 := by
  induction n with
  | zero => rfl
  | succ n ih => rw [val, ih fun i hi => h i (by omega), h n (by omega)]

/-- A bit of eight. -/
theorem val_bit (f : Nat → Nat) (h : ∀ i, f i < 2) (p i : Nat) (hi : i < 8) : val f p 8 / 2 ^ (7 - i) % 2 = f (p + i) := by
  have e : val f p 8 = val f p (i + 1) * 2 ^ (7 - i) + val f (p + (i + 1)) (7 - i) := by
    rw [← val_add]; congr 1; omega
  have l := val_lt f h (p + (i + 1)) (7 - i)
  rw [e, Nat.mul_comm, Nat.mul_add_div (Nat.two_pow_pos _), Nat.div_eq_of_lt l, val]
  have := h (p + i); omega

/-- A bit of a text. -/
def bt (s : ByteArray) (i : Nat) : Nat := (s.data.toList.getD (i / 8) 0).toNat / 2 ^ (7 - i % 8) % 2
theorem bt_lt (s : ByteArray) (i : Nat) : bt s i < 2 := Nat.mod_lt _ (by decide)
/-- So many bits of a text from a place on, as a number. -/
def gv (s : ByteArray) (p n : Nat) : Nat := val (bt s) p n
theorem gv_lt (s : ByteArray) (p n : Nat) : gv s p n < 2 ^ n := val_lt _ (bt_lt s) _ _
theorem gv_add (s : ByteArray) (p n k : Nat) : gv s p (n + k) = gv s p n * 2 ^ k + gv s (p + n) k := val_add _ _ _ _

/-- Within a byte. -/
theorem val_byte (B f k : Nat) (h : f + k ≤ 8) : val (fun i => B / 2 ^ (7 - i) % 2) f k = B * 2 ^ f % 256 / 2 ^ (8 - k) := by
  have g : ∀ n, n ≤ k → val (fun i => B / 2 ^ (7 - i) % 2) f n = B / 2 ^ (8 - f - n) % 2 ^ n := by
    intro n hn
    induction n with
    | zero => simp [val, Nat.mod_one]
    | succ n ih =>
      rw [val, ih (by omega)]
      have e1 : 8 - f - n = (8 - f - (n + 1)) + 1 := by omega
      have e2 : 7 - (f + n) = 8 - f - (n + 1) := by omega
      simp only [e2]
      rw [e1, Nat.pow_succ, ← Nat.div_div_eq_div_mul, Nat.pow_succ 2 n, Nat.mul_comm (2 ^ n) 2, Nat.mod_mul]
      omega
  rw [g _ (Nat.le_refl _)]
  have e3 : (256 : Nat) = 2 ^ (8 - f) * 2 ^ f := by
    rw [← Nat.pow_add]
    have : 8 - f + f = 8 := by omega
    rw [this]
  rw [e3, Nat.mul_mod_mul_right]
  have e4 : 8 - k = (8 - f - k) + f := by omega
  rw [e4, Nat.pow_add, Nat.mul_comm (2 ^ (8 - f - k)), ← Nat.div_div_eq_div_mul, Nat.mul_div_cancel _ (Nat.two_pow_pos _)]
  have e5 : 2 ^ (8 - f) = 2 ^ (8 - f - k) * 2 ^ k := by rw [← Nat.pow_add]; congr 1; omega
  rw [e5, Nat.mod_mul_right_div_self]

theorem gv_piece (s : ByteArray) (p k : Nat) (h : p % 8 + k ≤ 8) :
    gv s p k = (s.data.toList.getD (p / 8) 0).toNat * 2 ^ (p % 8) % 256 / 2 ^ (8 - k) := by
  rw [← val_byte _ (p % 8) k h]
  refine val_congr _ _ _ _ _ fun i hi => ?_
  have e1 : (p + i) / 8 = p / 8 := by omega
  have e2 : (p + i) % 8 = p % 8 + i := by omega
  simp only [bt, e1, e2]

/-! ### Lists of bits -/
def lb (l : List Bool) (i : Nat) : Nat := (l.getD i false).toNat
theorem lb_lt (l : List Bool) (i : Nat) : lb l i < 2 := by unfold lb; cases l.getD i false <;> decide
/-- The lower n bits of c, the highest first. -/
def bitsOf (c : Nat) : Nat → List Bool
  | 0 => []
  | n + 1 => (c / 2 ^ n % 2 == 1) :: bitsOf c n
@[simp] theorem bitsOf_len (c n : Nat) : (bitsOf c n).length = n := by induction n with | zero => rfl | succ n ih => simp [bitsOf, ih]
theorem bitsOf_split (c k m : Nat) : bitsOf c (k + m) = bitsOf (c / 2 ^ m) k ++ bitsOf c m := by
  induction k with
  | zero => simp [bitsOf]
  | succ k ih =>
    have e : k + 1 + m = (k + m) + 1 := by omega
    rw [e, bitsOf, ih, bitsOf, Nat.div_div_eq_div_mul, ← Nat.pow_add, Nat.add_comm m k]; rfl
theorem bitsOf_zero (n : Nat) : bitsOf 0 n = List.replicate n false := by induction n with | zero => rfl | succ n ih => simp [bitsOf, ih, List.replicate_succ]
theorem bitsOf_mod (c k n : Nat) (h : n ≤ k) : bitsOf (c % 2 ^ k) n = bitsOf c n := by
  induction n with
  | zero => rfl
  | succ n ih =>
    rw [bitsOf, bitsOf, ih (by omega)]
    congr 2
    have e : k = n + (k - n) := by omega
    rw [e, Nat.pow_add, Nat.mod_mul_right_div_self]
    obtain ⟨j, hj⟩ : ∃ j, k - n = 1 + j := ⟨k - n - 1, by omega⟩
    rw [hj, Nat.pow_add, Nat.pow_one, Nat.mod_mul_right_mod]

theorem lb_app_left (l r : List Bool) (i : Nat) (h : i < l.length) : lb (l ++ r) i = lb l i := by
  unfold lb; rw [List.getD_eq_getElem?_getD, List.getD_eq_getElem?_getD, List.getElem?_append_left h]
theorem lb_app_right (l r : List Bool) (i : Nat) : lb (l ++ r) (l.length + i) = lb r i := by
  unfold lb; rw [List.getD_eq_getElem?_getD, List.getD_eq_getElem?_getD, List.getElem?_append_right (by omega)]; congr 3; omega
theorem lb_out (l : List Bool) (i : Nat) (h : l.length ≤ i) : lb l i = 0 := by
  unfold lb; rw [List.getD_eq_getElem?_getD, List.getElem?_eq_none h]; rfl
theorem lb_bits (c n i : Nat) (h : i < n) : lb (bitsOf c n) i = c / 2 ^ (n - 1 - i) % 2 := by
  induction n generalizing i with
  | zero => omega
  | succ n ih =>
    cases i with
    | zero =>
      simp only [bitsOf, lb, List.getD_cons_zero]
      have : c / 2 ^ n % 2 < 2 := Nat.mod_lt _ (by decide)
      have e : n + 1 - 1 - 0 = n := by omega
      rw [e]
      rcases (by omega : c / 2 ^ n % 2 = 0 ∨ c / 2 ^ n % 2 = 1) with h | h <;> simp [h]
    | succ i =>
      have := ih i (by omega)
      simp only [bitsOf, lb, List.getD_cons_succ] at this ⊢
      rw [this]; congr 3; omega
theorem val_bits (c k : Nat) : val (lb (bitsOf c k)) 0 k = c % 2 ^ k := by
  have g : ∀ n, n ≤ k → val (lb (bitsOf c k)) 0 n = c / 2 ^ (k - n) % 2 ^ n := by
    intro n hn
    induction n with
    | zero => simp [val, Nat.mod_one]
    | succ n ih =>
      rw [val, ih (by omega), Nat.zero_add, lb_bits c k n (by omega)]
      have e1 : k - n = (k - (n + 1)) + 1 := by omega
      have e2 : k - 1 - n = k - (n + 1) := by omega
      rw [e2, e1, Nat.pow_succ, ← Nat.div_div_eq_div_mul, Nat.pow_succ 2 n, Nat.mul_comm (2 ^ n) 2, Nat.mod_mul]
      omega
  have := g k (Nat.le_refl _)
  simpa using this
/-- Bits that stand within a list. -/
theorem val_mid (l r : List Bool) (c k : Nat) : val (lb (l ++ (bitsOf c k ++ r))) l.length k = c % 2 ^ k := by
  rw [← val_bits c k]
  refine val_congr _ _ _ _ _ fun i hi => ?_
  rw [lb_app_right, lb_app_left _ _ _ (by simpa using hi), Nat.zero_add]

/-- A byte of a list of bits. -/
def bv (l : List Bool) (j : Nat) : Nat := val (lb l) (8 * j) 8
theorem bv_lt (l : List Bool) (j : Nat) : bv l j < 256 := val_lt _ (lb_lt l) _ _
/-- The bytes of a list of bits. -/
def pk (l : List Bool) : List Nat := (List.range ((l.length + 7) / 8)).map (bv l)
@[simp] theorem pk_len (l : List Bool) : (pk l).length = (l.length + 7) / 8 := by simp [pk]
theorem pk_lt (l : List Bool) : ∀ x ∈ pk l, x < 256 := by
  intro x hx
  simp only [pk, List.mem_map] at hx
  obtain ⟨j, _, rfl⟩ := hx
  exact bv_lt l j
def packS (l : List Bool) : ByteArray := ⟨((pk l).map UInt8.ofNat).toArray⟩
theorem packS_size (l : List Bool) : (packS l).size = (l.length + 7) / 8 := by
  show (((pk l).map UInt8.ofNat).toArray).size = _
  simp
theorem bt_pack (l : List Bool) (i : Nat) : bt (packS l) i = lb l i := by
  have e : (packS l).data.toList = (pk l).map UInt8.ofNat := rfl
  unfold bt
  rw [e, List.getD_eq_getElem?_getD, List.getElem?_map, pk, List.getElem?_map]
  by_cases h : i / 8 < (l.length + 7) / 8
  · rw [List.getElem?_range h]
    simp only [Option.map_some, Option.getD_some]
    have hb := bv_lt l (i / 8)
    rw [UInt8.toNat_ofNat_of_lt' (by simpa using hb), bv, val_bit _ (lb_lt l) _ _ (by omega)]
    congr 1; omega
  · rw [List.getElem?_eq_none (by simpa using h), lb_out l i (by omega)]
    simp
theorem gv_pack (l : List Bool) (p n : Nat) : gv (packS l) p n = val (lb l) p n := val_congr _ _ _ _ _ fun _ _ => bt_pack l _

theorem or_add (a b k : Nat) (h : b < 2 ^ k) : a * 2 ^ k ||| b = a * 2 ^ k + b := by
  rw [← Nat.shiftLeft_eq, ← Nat.shiftLeft_add_eq_or_of_lt h]

/-- The last byte, when some bits more are laid behind what it has. -/
theorem bv_more (l : List Bool) (c k : Nat) (h : l.length % 8 + k ≤ 8) :
    bv (l ++ bitsOf c k) (l.length / 8) = (bv l (l.length / 8) ||| c % 2 ^ k * 2 ^ (8 - k) / 2 ^ (l.length % 8)) := by
  have hl : l.length = 8 * (l.length / 8) + l.length % 8 := by omega
  generalize hq : l.length / 8 = q at *
  generalize hf : l.length % 8 = f at *
  have e1 : (8 : Nat) = f + (k + (8 - f - k)) := by omega
  have v1 : bv (l ++ bitsOf c k) q = val (lb l) (8 * q) f * 2 ^ (8 - f) + c % 2 ^ k * 2 ^ (8 - f - k) := by
    have e2 : bv (l ++ bitsOf c k) q = val (lb (l ++ bitsOf c k)) (8 * q) (f + (k + (8 - f - k))) := by unfold bv; rw [← e1]
    rw [e2, val_add, val_add (lb (l ++ bitsOf c k)) (8 * q + f) k]
    have e3 : val (lb (l ++ bitsOf c k)) (8 * q) f = val (lb l) (8 * q) f := val_congr _ _ _ _ _ fun i hi => lb_app_left _ _ _ (by omega)
    have e4 : val (lb (l ++ bitsOf c k)) (8 * q + f) k = c % 2 ^ k := by
      rw [← hl]; have := val_mid l [] c k; rwa [List.append_nil] at this
    have e5 : val (lb (l ++ bitsOf c k)) (8 * q + f + k) (8 - f - k) = 0 := val_zero _ _ _ fun i hi => lb_out _ _ (by simp; omega)
    rw [e3, e4, e5]
    have e6 : k + (8 - f - k) = 8 - f := by omega
    rw [e6, Nat.add_zero]
  have v2 : bv l q = val (lb l) (8 * q) f * 2 ^ (8 - f) := by
    have e2 : bv l q = val (lb l) (8 * q) (f + (8 - f)) := by unfold bv; congr 1; omega
    rw [e2, val_add, val_zero (lb l) (8 * q + f) (8 - f) fun i hi => lb_out _ _ (by omega), Nat.add_zero]
  have v3 : c % 2 ^ k * 2 ^ (8 - k) / 2 ^ f = c % 2 ^ k * 2 ^ (8 - f - k) := by
    have e7 : 8 - k = (8 - f - k) + f := by omega
    rw [e7, Nat.pow_add, ← Nat.mul_assoc, Nat.mul_div_cancel _ (Nat.two_pow_pos _)]
  have hlt : c % 2 ^ k * 2 ^ (8 - f - k) < 2 ^ (8 - f) := by
    have e8 : 8 - f = k + (8 - f - k) := by omega
    rw [e8, Nat.pow_add]
    have e9 : k + (8 - f - k) - k = 8 - f - k := by omega
    rw [e9]
    exact Nat.mul_lt_mul_of_pos_right (Nat.mod_lt _ (Nat.two_pow_pos _)) (Nat.two_pow_pos _)
  rw [v1, v2, v3, or_add _ _ _ hlt]

theorem pk_get (l : List Bool) (j : Nat) (h : j < (l.length + 7) / 8) : (pk l)[j]? = some (bv l j) := by
  rw [pk, List.getElem?_map, List.getElem?_range h]; rfl
theorem pk_end (l : List Bool) (h : l.length % 8 = 0) : bv l (l.length / 8) = 0 := val_zero _ _ _ fun i _ => lb_out _ _ (by omega)
/-- All bytes, when some bits more are laid within the last one. -/
theorem pk_more (l : List Bool) (c k : Nat) (hk : 0 < k) (h : l.length % 8 + k ≤ 8) (hf : l.length % 8 ≠ 0) :
    pk (l ++ bitsOf c k) = (pk l).set (l.length / 8) (bv l (l.length / 8) ||| c % 2 ^ k * 2 ^ (8 - k) / 2 ^ (l.length % 8)) := by
  apply List.ext_getElem?
  intro j
  rw [List.getElem?_set, pk_len]
  by_cases hj : j < (l.length + 7) / 8
  · rw [pk_get _ _ (by simp; omega)]
    by_cases e : l.length / 8 = j
    · rw [if_pos e, if_pos (by omega), ← e, bv_more l c k h]
    · rw [if_neg e, pk_get _ _ hj]
      exact congrArg some (val_congr _ _ _ _ _ fun i hi => lb_app_left _ _ _ (by omega))
  · rw [if_neg (by omega), List.getElem?_eq_none (by simp; omega), List.getElem?_eq_none (by simp; omega)]
/-- All bytes, when a new one is begun. -/
theorem pk_new (l : List Bool) (c k : Nat) (hk : 0 < k) (h : k ≤ 8) (hf : l.length % 8 = 0) :
    pk (l ++ bitsOf c k) = (pk l ++ [0]).set (l.length / 8) (0 ||| c % 2 ^ k * 2 ^ (8 - k) / 2 ^ (l.length % 8)) := by
  apply List.ext_getElem?
  intro j
  rw [List.getElem?_set, List.length_append, pk_len]
  by_cases hj : j < (l.length + 7) / 8 + 1
  · rw [pk_get _ _ (by simp; omega)]
    by_cases e : l.length / 8 = j
    · rw [if_pos e, if_pos (by simp; omega), ← e, bv_more l c k (by omega), pk_end l hf]
    · rw [if_neg e, List.getElem?_append_left (by simp; omega), pk_get _ _ (by omega)]
      exact congrArg some (val_congr _ _ _ _ _ fun i hi => lb_app_left _ _ _ (by omega))
  · rw [if_neg (by omega), List.getElem?_eq_none (by simp; omega), List.getElem?_eq_none (by simp; omega)]

end Go.Proofs.YtdhbakknplnnkaaGreat.Tw
namespace Go.Proofs.YtdhbakknplnnkaaGreat.Tw
open Go.RowKit

theorem mkHid {p : Prop} (h : p) : Hid p := h
theorem ret_i {k : IntKind} {a b : Int} (h : a = b) : Ending.returned (.int k a) = .returned (.int k b) := by rw [h]
theorem ret_b {p q : Bool} (h : p = q) : Ending.returned (.bool p) = .returned (.bool q) := by rw [h]
theorem setCell_drewN (w : World) (a : Addr) (v : Value) (n : Nat) : (w.drewN n).setCell a v = (w.setCell a v).drewN n := rfl

/-- A scope whose run comes to one label, and jumps back to it: what holds at the label, and a measure that every pass lowers. -/
theorem wp_scope_label {P : Program} {a : Act} {w : World} {Q : Exit → Act → World → Prop} {c tail : Code} (l : Nat) (J : Act → World → Prop) (μ : Act → World → Nat) (hf : findLabel c l = some (.seq .skip tail))
    (first : ∀ Q' : Exit → Act → World → Prop, (∀ a w, J a w → tail.wp P Q' a w) → c.wp P Q' a w)
    (pass : ∀ a w, J a w → tail.wp P (Exit.jump l (fun a' w' => J a' w' ∧ μ a' w' < μ a w) Q) a w) : (Code.scope c).wp P Q a w :=
  wp_scope_jumps l J μ hf (first _ fun a w h => Code.wp_mono (fun e a' w' hq => by cases e <;> first | exact ⟨hq.1, hq.2.1⟩ | exact hq) (pass a w h)) (fun a w h => wp_seq (wp_skip (pass a w h)))

theorem list_of (l : List Value) : l = (List.range l.length).map (fun i => l.getD i undef) := by
  apply List.ext_getElem?
  intro i
  by_cases h : i < l.length
  · rw [List.getElem?_map, List.getElem?_range h, List.getElem?_eq_getElem h]
    simp [List.getD_eq_getElem?_getD, List.getElem?_eq_getElem h]
  · rw [List.getElem?_eq_none (by omega), List.getElem?_eq_none (by simp; omega)]
/-- A frame of so many slots, written out slot by slot. -/
theorem frame_of (a : Act) (n : Nat) (hs : a.tmps.size = n) (hd : a.defers = []) : ∃ u : Nat → Value, (∀ i, a.tmps.getD i undef = u i) ∧ a = { tmps := ((List.range n).map u).toArray, defers := [] } := by
  refine ⟨fun i => a.tmps.getD i undef, fun _ => rfl, ?_⟩
  obtain ⟨tmps, defers⟩ := a
  obtain ⟨l⟩ := tmps
  simp only at hs hd
  subst hd
  have e := list_of l
  have hl : l.length = n := by simpa using hs
  rw [hl] at e
  have e2 : ∀ i, (l.toArray).getD i undef = l.getD i undef := by
    intro i
    simp [Array.getD_eq_getD_getElem?, List.getD_eq_getElem?_getD]
  simp only [e2]
  rw [← e]

/-- All blocks but those of X are as they were. -/
structure Apart (X : Nat → Prop) (w w' : World) : Prop where
  os : w'.os = w.os
  tape : w'.tape = w.tape
  output : w'.output = w.output
  size : w.heap.size ≤ w'.heap.size
  block : ∀ k, k < w.heap.size → ¬ X k → w'.heap[k]? = w.heap[k]?

theorem Apart.refl (X : Nat → Prop) (w : World) : Apart X w w := ⟨rfl, rfl, rfl, Nat.le_refl _, fun _ _ _ => rfl⟩
theorem Apart.trans {X Y : Nat → Prop} {a b c : World} (h : Apart X a b) (k : Apart Y b c) (hY : ∀ i, i < a.heap.size → Y i → X i) : Apart X a c :=
  ⟨k.os.trans h.os, k.tape.trans h.tape, k.output.trans h.output, Nat.le_trans h.size k.size, fun i hi hx => (k.block i (Nat.lt_of_lt_of_le hi h.size) (fun hy => hx (hY i hi hy))).trans (h.block i hi hx)⟩
theorem Apart.mono {X Y : Nat → Prop} {a b : World} (h : Apart X a b) (hY : ∀ i, i < a.heap.size → X i → Y i) : Apart Y a b :=
  ⟨h.os, h.tape, h.output, h.size, fun i hi hy => h.block i hi fun hx => hy (hY i hi hx)⟩
theorem Apart.drewN {X : Nat → Prop} {a b : World} (h : Apart X a b) (n : Nat) : Apart X a (b.drewN n) := ⟨h.os, h.tape, h.output, h.size, h.block⟩
theorem Apart.drew {X : Nat → Prop} {a b : World} (h : Apart X a b) : Apart X a b.drew := ⟨h.os, h.tape, h.output, h.size, h.block⟩
theorem Apart.alloc {X : Nat → Prop} {a b : World} (h : Apart X a b) (o : Obj) : Apart X a (b.alloc o) :=
  h.trans (Y := fun _ => False) ⟨rfl, rfl, rfl, by simp, fun k hk _ => Below.heap_alloc b o k hk⟩ (fun _ _ h => h.elim)
theorem Apart.setCell {X : Nat → Prop} {a b : World} (h : Apart X a b) {p : Addr} (hp : p.block < a.heap.size → X p.block) (u : Value) : Apart X a (b.setCell p u) :=
  h.trans (Y := fun k => k = p.block) ⟨rfl, rfl, rfl, by simp, fun k _ hk => Below.heap_setCell b p u k hk⟩ (fun i hi e => by subst e; exact hp hi)
theorem Apart.grown {X : Nat → Prop} {a b c : World} {row : Option Nat} (h : Apart X a b) (hg : b.grownBy c row) (hr : ∀ k, k < a.heap.size → row = some k → X k) : Apart X a c :=
  h.trans (Y := fun k => some k = row) ⟨hg.os, hg.tape, hg.output, hg.size, fun k hk hn => hg.block k hk hn⟩ (fun i hi e => hr i hi e.symm)
theorem Apart.below {X : Nat → Prop} {w w' : World} (h : Apart X w w') (B : Nat) (hB : B ≤ w.heap.size) (hX : ∀ k, X k → B ≤ k) : Below B w w' :=
  ⟨h.os, h.tape, h.output, h.size, fun k hk => h.block k (by omega) fun hx => by have := hX k hx; omega⟩
theorem lt_of_heap {w : World} {b : Nat} {o : Obj} (h : w.heap[b]? = some o) : b < w.heap.size := (Array.getElem?_eq_some_iff.1 h).1
theorem Apart.heap {X : Nat → Prop} {w w' : World} (h : Apart X w w') {b : Nat} {o : Obj} (hb : w.heap[b]? = some o) (hx : ¬ X b) : w'.heap[b]? = some o :=
  (h.block b (lt_of_heap hb) hx).trans hb

/-- Three cells of a block: what the walk asks of them. -/
theorem cells3 {w : World} {b : Nat} {v0 v1 v2 : Value} {T : TypeId} (h : w.heap[b]? = some (.cells #[v0, v1, v2] T (0, 0))) :
    w.cell? ⟨b, 0, none⟩ = some v0 ∧ w.cell? ⟨b, 1, none⟩ = some v1 ∧ w.cell? ⟨b, 2, none⟩ = some v2 ∧ (w.frozen? ⟨b, 0, none⟩ = false ∧ w.frozen? ⟨b, 1, none⟩ = false ∧ w.frozen? ⟨b, 2, none⟩ = false) :=
  ⟨cell_of_row w b 0 _ T _ h, cell_of_row w b 1 _ T _ h, cell_of_row w b 2 _ T _ h, frozen_of_row w b 0 _ T h, frozen_of_row w b 1 _ T h, frozen_of_row w b 2 _ T h⟩
theorem cells2 {w : World} {b : Nat} {v0 v1 : Value} {T : TypeId} (h : w.heap[b]? = some (.cells #[v0, v1] T (0, 0))) :
    w.cell? ⟨b, 0, none⟩ = some v0 ∧ w.cell? ⟨b, 1, none⟩ = some v1 ∧ (w.frozen? ⟨b, 0, none⟩ = false ∧ w.frozen? ⟨b, 1, none⟩ = false) :=
  ⟨cell_of_row w b 0 _ T _ h, cell_of_row w b 1 _ T _ h, frozen_of_row w b 0 _ T h, frozen_of_row w b 1 _ T h⟩

/-- A reader of s in block b: at a place, or bad. -/
def Rd (T : TypeId) (w : World) (b : Nat) (s : ByteArray) : Option Nat → Prop
  | some p => w.heap[b]? = some (.cells #[.string s, .int .i64 (p : Int), .bool false] T (0, 0)) ∧ p ≤ 8 * s.size
  | none => ∃ (s' : ByteArray) (p : Int), w.heap[b]? = some (.cells #[.string s', .int .i64 p, .bool true] T (0, 0))
theorem Rd.heap {T : TypeId} {w : World} {b : Nat} {s : ByteArray} {st : Option Nat} (h : Rd T w b s st) : b < w.heap.size := by
  cases st with
  | none => obtain ⟨s', p, h⟩ := h; exact lt_of_heap h
  | some p => exact lt_of_heap h.1
theorem Rd.kept {T : TypeId} {w w' : World} {b : Nat} {s : ByteArray} {st : Option Nat} {X : Nat → Prop} (h : Rd T w b s st) (ha : Apart X w w') (hx : ¬ X b) : Rd T w' b s st := by
  cases st with
  | none => obtain ⟨s', p, h⟩ := h; exact ⟨s', p, ha.heap h hx⟩
  | some p => exact ⟨ha.heap h.1 hx, h.2⟩
/-- What Get answers, and where it is then. -/
def gval (s : ByteArray) (st : Option Nat) (n : Int) : Int :=
  match st with
  | some p => if 0 ≤ n ∧ n ≤ 32 ∧ (p : Int) + n ≤ 8 * s.size then (gv s p n.toNat : Int) else 0
  | none => 0
def gnext (s : ByteArray) (st : Option Nat) (n : Int) : Option Nat :=
  match st with
  | some p => if 0 ≤ n ∧ n ≤ 32 ∧ (p : Int) + n ≤ 8 * s.size then some (p + n.toNat) else none
  | none => none
def gleft (s : ByteArray) (st : Option Nat) : Int :=
  match st with
  | some p => 8 * s.size - p
  | none => 0
def gbad (st : Option Nat) : Bool := st.isNone

end Go.Proofs.YtdhbakknplnnkaaGreat.Tw
namespace Go.Proofs.YtdhbakknplnnkaaGreat.Tw
open Go.RowKit

theorem taken_yes (n : Int) (h0 : 0 ≤ n) (h1 : n ≤ 32) (w : World) :
    Calls Tryz.prog 76 #[.int .i64 n] w fun e w' => e = .returned (.bool true) ∧ w' = w := by
  go_enter Tryz.func76, Tryz.ntmps76
  go_wp2
  go_ret
  exact ⟨rfl, rfl⟩
theorem taken_no (n : Int) (h : n < 0 ∨ 32 < n) (w : World) :
    Calls Tryz.prog 76 #[.int .i64 n] w fun e w' => e = .returned (.bool false) ∧ w' = w := by
  rcases h with h | h
  · go_enter Tryz.func76, Tryz.ntmps76
    go_wp2
    go_ret
    exact ⟨rfl, rfl⟩
  · have h2 : ¬ n ≤ 32 := by omega
    go_enter Tryz.func76, Tryz.ntmps76
    go_wp2
    go_ret
    exact ⟨ret_b (by simp), rfl⟩
theorem bad_nil (w : World) : Calls Tryz.prog 72 #[.pointer none] w fun e w' => e = .returned (.bool true) ∧ w' = w := by
  go_enter Tryz.func72, Tryz.ntmps72
  go_wp2
  go_ret
  exact ⟨rfl, rfl⟩
theorem bad_any (b : Nat) (s : ByteArray) (st : Option Nat) (w : World) (h : Rd 143 w b s st) :
    Calls Tryz.prog 72 #[.pointer (some ⟨b, 0, none⟩)] w fun e w' => e = .returned (.bool (gbad st)) ∧ w' = w := by
  cases st with
  | none =>
    obtain ⟨s', p, h⟩ := h
    obtain ⟨c0, c1, c2, f0, f1, f2⟩ := cells3 h
    clear h
    go_enter Tryz.func72, Tryz.ntmps72
    go_wp2
    go_ret
    exact ⟨rfl, rfl⟩
  | some p =>
    obtain ⟨c0, c1, c2, f0, f1, f2⟩ := cells3 h.1
    clear h
    go_enter Tryz.func72, Tryz.ntmps72
    go_wp2
    go_ret
    exact ⟨rfl, rfl⟩
theorem left_any (b : Nat) (s : ByteArray) (hs : s.size ≤ 1000000) (st : Option Nat) (w : World) (h : Rd 143 w b s st) :
    Calls Tryz.prog 56 #[.pointer (some ⟨b, 0, none⟩)] w fun e w' => e = .returned (.int .i64 (gleft s st)) ∧ ∃ n, w' = w.drewN n := by
  have B := mkHid (bad_any b s st w h)
  cases st with
  | none =>
    clear h
    go_enter Tryz.func56, Tryz.ntmps56
    go_wp2_with fail
    refine (B.out).mono ?_
    rintro e w1 ⟨rfl, rfl⟩
    unfold gbad
    go_wp2
    go_ret
    exact ⟨rfl, 0, rfl⟩
  | some p =>
    obtain ⟨c0, c1, c2, f0, f1, f2⟩ := cells3 h.1
    have hp := h.2
    clear h
    go_enter Tryz.func56, Tryz.ntmps56
    go_wp2_with fail
    refine (B.out).mono ?_
    rintro e w1 ⟨rfl, rfl⟩
    unfold gbad
    go_wp2
    go_quiet (fail)
    go_wp2
    go_ret
    exact ⟨ret_i (by show (s.size : Int) * 8 - p = 8 * s.size - p; omega), _, rfl⟩
theorem piece_any (b from_ k : Int) (w : World) (h0 : 0 ≤ from_) (h1 : 1 ≤ k) (h2 : from_ + k ≤ 8) :
    Calls Tryz.prog 77 #[.int .u8 b, .int .i64 from_, .int .i64 k] w fun e w' => e = .returned (.int .u8 (b * 2 ^ from_.toNat % 256 / 2 ^ (8 - k).toNat)) ∧ w' = w := by
  go_enter Tryz.func77, Tryz.ntmps77
  go_wp2
  go_ret
  exact ⟨rfl, rfl⟩

theorem drew_rd {T : TypeId} {w : World} {b : Nat} {s : ByteArray} {st : Option Nat} (n : Nat) (h : Rd T w b s st) : Rd T (w.drewN n) b s st := by
  cases st with
  | none => exact h
  | some p => exact h
theorem bad_end {w : World} {b : Nat} {s s' : ByteArray} {p : Int} {x y : Value} (h : w.heap[b]? = some (.cells #[x, .int .i64 p, y] 143 (0, 0))) (n : Nat) :
    Rd 143 ((((w.drewN n).setCell ⟨b, 0, none⟩ (.string s')).setCell ⟨b, 1, none⟩ (.int .i64 0)).setCell ⟨b, 2, none⟩ (.bool true)) b s none ∧
    Apart (· = b) w ((((w.drewN n).setCell ⟨b, 0, none⟩ (.string s')).setCell ⟨b, 1, none⟩ (.int .i64 0)).setCell ⟨b, 2, none⟩ (.bool true)) := by
  have h0 : (w.drewN n).heap[b]? = some (.cells #[x, .int .i64 p, y] 143 (0, 0)) := h
  have h1 := heap_setCell_same _ b 0 _ 143 (.string s') h0
  have h2 := heap_setCell_same _ b 1 _ 143 (.int .i64 0) h1
  have h3 := heap_setCell_same _ b 2 _ 143 (.bool true) h2
  refine ⟨⟨s', 0, ?_⟩, ?_⟩
  · rw [h3]; rfl
  · exact Apart.setCell (Apart.setCell (Apart.setCell ((Apart.refl (· = b) w).drewN n) (p := ⟨b, 0, none⟩) (fun _ => rfl) _) (p := ⟨b, 1, none⟩) (fun _ => rfl) _) (p := ⟨b, 2, none⟩) (fun _ => rfl) _

theorem adv_end {T : TypeId} {w : World} {b : Nat} {s : ByteArray} {P k : Nat} (h : Rd T w b s (some P)) (hk : P + k ≤ 8 * s.size) (n : Nat) :
    Rd T ((w.drewN n).setCell ⟨b, 1, none⟩ (.int .i64 ((P : Int) + (k : Int)))) b s (some (P + k)) ∧ Apart (· = b) w ((w.drewN n).setCell ⟨b, 1, none⟩ (.int .i64 ((P : Int) + (k : Int)))) := by
  have h0 : (w.drewN n).heap[b]? = some (.cells #[.string s, .int .i64 (P : Int), .bool false] T (0, 0)) := h.1
  have h1 := heap_setCell_same _ b 1 _ T (.int .i64 ((P : Int) + (k : Int))) h0
  refine ⟨⟨?_, hk⟩, ?_⟩
  · rw [h1]; simp
  · exact Apart.setCell ((Apart.refl (· = b) w).drewN n) (p := ⟨b, 1, none⟩) (fun _ => rfl) _
theorem or_step (s : ByteArray) (p r k q f P : Nat) (hP : p + r = P) (hq : P / 8 = q) (hf : P % 8 = f) (hk : f + k ≤ 8) (hn : r + k ≤ 32) (hlt : q < s.size) :
    bits .or .u32 ((gv s p r : Int) * 2 ^ k % 4294967296) ((s[q].toNat : Int) * 2 ^ f % 256 / 2 ^ (8 - k) % 4294967296) = (gv s p (r + k) : Int) := by
  have g1 := gv_lt s p r
  have g2 := gv_lt s P k
  have e0 : gv s P k = s[q].toNat * 2 ^ f % 256 / 2 ^ (8 - k) := by
    rw [gv_piece s P k (by omega), hq, hf]
    congr 4
    rw [List.getD_eq_getElem?_getD, List.getElem?_eq_getElem (by simpa using hlt)]
    rfl
  have e1 : ((s[q].toNat : Int) * 2 ^ f % 256 / 2 ^ (8 - k)) = (gv s P k : Int) := by rw [e0]; simp
  have p1 : gv s p r * 2 ^ k < 2 ^ (r + k) := by rw [Nat.pow_add]; exact Nat.mul_lt_mul_of_pos_right g1 (Nat.two_pow_pos _)
  have p2 : 2 ^ (r + k) ≤ 2 ^ 32 := Nat.pow_le_pow_right (by decide) hn
  have p3 : 2 ^ k ≤ 2 ^ 32 := Nat.pow_le_pow_right (by decide) (by omega)
  have e2 : ((gv s p r : Int) * 2 ^ k % 4294967296) = ((gv s p r * 2 ^ k : Nat) : Int) := by
    have : ((gv s p r : Int) * 2 ^ k) = ((gv s p r * 2 ^ k : Nat) : Int) := by simp
    rw [this]; omega
  have e3 : (gv s P k : Int) % 4294967296 = (gv s P k : Nat) := by omega
  rw [e1, e2, e3, u32_or_nat _ _ (by omega) (by omega), or_add _ _ _ g2, gv_add, hP]
theorem get_none (b : Nat) (s : ByteArray) (n : Int) (w : World) (h : Rd 143 w b s none) :
    Calls Tryz.prog 58 #[.pointer (some ⟨b, 0, none⟩), .int .i64 n] w fun e w' => e = .returned (.int .u32 0) ∧ w' = w := by
  have B := mkHid (bad_any b s none w h)
  clear h
  go_enter Tryz.func58, Tryz.ntmps58
  go_wp2
  go_step3
  go_wp2_with fail
  refine (B.out).mono ?_
  rintro e w1 ⟨rfl, rfl⟩
  unfold gbad
  go_wp2
  rw [Exit.noGoto_ret]
  go_ret
  exact ⟨rfl, rfl⟩
theorem get_nil (n : Int) (w : World) :
    Calls Tryz.prog 58 #[.pointer none, .int .i64 n] w fun e w' => e = .returned (.int .u32 0) ∧ w' = w := by
  have B := mkHid (bad_nil w)
  go_enter Tryz.func58, Tryz.ntmps58
  go_wp2
  go_step3
  go_wp2_with fail
  refine (B.out).mono ?_
  rintro e w1 ⟨rfl, rfl⟩
  go_wp2
  rw [Exit.noGoto_ret]
  go_ret
  exact ⟨rfl, rfl⟩
theorem get_wrong (b : Nat) (s : ByteArray) (p : Nat) (n : Int) (hn : n < 0 ∨ 32 < n) (w : World) (h : Rd 143 w b s (some p)) :
    Calls Tryz.prog 58 #[.pointer (some ⟨b, 0, none⟩), .int .i64 n] w fun e w' => e = .returned (.int .u32 0) ∧ Rd 143 w' b s none ∧ Apart (· = b) w w' := by
  have B := mkHid (bad_any b s (some p) w h)
  have T := mkHid (taken_no n hn)
  have H := mkHid h.1
  obtain ⟨c0, c1, c2, f0, f1, f2⟩ := cells3 h.1
  clear h hn
  go_enter Tryz.func58, Tryz.ntmps58
  go_wp2
  go_step3
  go_wp2_with fail
  refine (B.out).mono ?_
  rintro e w1 ⟨rfl, rfl⟩
  unfold gbad
  go_wp2_with fail
  refine (T.out _).mono ?_
  rintro e w1 ⟨rfl, rfl⟩
  go_wp2
  rw [Exit.noGoto_ret]
  go_ret
  exact ⟨rfl, bad_end H.out 0⟩
theorem get_many (b : Nat) (s : ByteArray) (hs : s.size ≤ 1000000) (p : Nat) (n : Int) (h0 : 0 ≤ n) (h1 : n ≤ 32) (h2 : 8 * (s.size : Int) < p + n) (w : World) (h : Rd 143 w b s (some p)) :
    Calls Tryz.prog 58 #[.pointer (some ⟨b, 0, none⟩), .int .i64 n] w fun e w' => e = .returned (.int .u32 0) ∧ Rd 143 w' b s none ∧ Apart (· = b) w w' := by
  have B := mkHid (bad_any b s (some p) w h)
  have T := mkHid (taken_yes n h0 h1)
  have L := mkHid (left_any b s hs (some p) w h)
  have hl : gleft s (some p) < n := by show 8 * (s.size : Int) - p < n; omega
  generalize gleft s (some p) = g at *
  have H := mkHid h.1
  obtain ⟨c0, c1, c2, f0, f1, f2⟩ := cells3 h.1
  clear h
  go_enter Tryz.func58, Tryz.ntmps58
  go_wp2
  go_step3
  go_wp2_with fail
  refine (B.out).mono ?_
  rintro e w1 ⟨rfl, rfl⟩
  unfold gbad
  go_wp2_with fail
  refine (T.out _).mono ?_
  rintro e w1 ⟨rfl, rfl⟩
  go_wp2_with fail
  refine (L.out).mono ?_
  rintro e w1 ⟨rfl, nd, rfl⟩
  go_wp2
  rw [Exit.noGoto_ret]
  go_ret
  exact ⟨rfl, bad_end H.out nd⟩
theorem frame63 (a : Act) (hs : a.tmps.size = 63) (hd : a.defers = []) : ∃ u : Nat → Value, (∀ i, a.tmps.getD i undef = u i) ∧ a = { tmps := #[u 0, u 1, u 2, u 3, u 4, u 5, u 6, u 7, u 8, u 9, u 10, u 11, u 12, u 13, u 14, u 15, u 16, u 17, u 18, u 19, u 20, u 21, u 22, u 23, u 24, u 25, u 26, u 27, u 28, u 29, u 30, u 31, u 32, u 33, u 34, u 35, u 36, u 37, u 38, u 39, u 40, u 41, u 42, u 43, u 44, u 45, u 46, u 47, u 48, u 49, u 50, u 51, u 52, u 53, u 54, u 55, u 56, u 57, u 58, u 59, u 60, u 61, u 62], defers := [] } := frame_of a 63 hs hd
set_option maxRecDepth 100000 in
theorem get_ok (b : Nat) (s : ByteArray) (hs : s.size ≤ 1000000) (p n : Nat) (h1 : n ≤ 32) (h2 : p + n ≤ 8 * s.size) (w : World) (h : Rd 143 w b s (some p)) :
    Calls Tryz.prog 58 #[.pointer (some ⟨b, 0, none⟩), .int .i64 n] w fun e w' => e = .returned (.int .u32 (gv s p n)) ∧ Rd 143 w' b s (some (p + n)) ∧ Apart (· = b) w w' := by
  have B := mkHid (bad_any b s (some p) w h)
  have T := mkHid (taken_yes n (by omega) (by omega))
  have L := mkHid (left_any b s hs (some p) w h)
  have hl : (n : Int) ≤ gleft s (some p) := by show (n : Int) ≤ 8 * (s.size : Int) - p; omega
  generalize gleft s (some p) = g at *
  have H := mkHid h
  clear h
  go_enter Tryz.func58, Tryz.ntmps58
  go_wp2
  refine wp_scope_label 0 (fun a' w' => ∃ (m r : Nat), (a'.tmps.size = 63 ∧ a'.defers = [] ∧ a'.tmps.getD 0 undef = .pointer (some { block := b, off := 0 }) ∧ a'.tmps.getD 1 undef = .int .i64 (m : Int) ∧ a'.tmps.getD 2 undef = undef ∧ a'.tmps.getD 3 undef = undef ∧ a'.tmps.getD 4 undef = .int .u32 0 ∧ a'.tmps.getD 5 undef = .int .u32 (gv s p r : Int)) ∧ m + r = n ∧ Rd 143 w' b s (some (p + r)) ∧ Apart (· = b) w w') (fun a' _ => (intOf (a'.tmps.getD 1 undef)).toNat) rfl ?_ ?_
  · intro Q' hh
    have HH := mkHid hh
    clear hh
    go_wp2_with fail
    refine (B.out).mono ?_
    rintro e w1 ⟨rfl, rfl⟩
    unfold gbad
    go_wp2_with fail
    refine (T.out _).mono ?_
    rintro e w1 ⟨rfl, rfl⟩
    go_wp2_with fail
    refine (L.out).mono ?_
    rintro e w1 ⟨rfl, nd, rfl⟩
    go_wp2
    go_step3
    refine ‹∀ a w, Code.wp _ _ _ a w → _› _ _ (HH.out _ _ ?_)
    exact ⟨n, 0, ⟨rfl, rfl, rfl, rfl, rfl, rfl, rfl, rfl⟩, by omega, drew_rd nd H.out, (Apart.refl _ _).drewN nd⟩
  · clear B T L H
    rintro a' w' ⟨m, r, ⟨z, d, e0, e1, e2, e3, e4, e5⟩, hm, hr, hap⟩
    obtain ⟨u, hu, ha⟩ := frame63 a' z d
    rw [hu] at e0 e1 e2 e3 e4 e5
    rw [e0, e1, e2, e3, e4, e5] at ha
    clear z d hu e0 e1 e2 e3 e4 e5
    subst ha
    obtain ⟨P, HP⟩ : ∃ P, Hid (p + r = P) := ⟨_, rfl⟩
    rw [HP.out] at hr
    obtain ⟨c0, c1, c2, f0, f1, f2⟩ := cells3 hr.1
    have HR := mkHid hr
    have HA := mkHid hap
    clear hr hap
    have hP : P + m ≤ 8 * s.size := by have := HP.out; omega
    by_cases hm0 : m = 0
    · subst hm0
      obtain rfl : r = n := by omega
      go_wp2
      simp only [Exit.jump]
      go_ret
      have hr := HR.out
      rw [← HP.out] at hr
      exact ⟨rfl, hr, HA.out⟩
    · have hq1 : P / 8 < s.size := by omega
      have hf1 : P % 8 < 8 := by omega
      obtain ⟨q, Hq⟩ : ∃ q, Hid (P / 8 = q) := ⟨_, rfl⟩
      obtain ⟨f, Hf⟩ : ∃ f, Hid (P % 8 = f) := ⟨_, rfl⟩
      have hq : (P : Int) / 8 = (q : Nat) := by have := Hq.out; omega
      have hf : (P : Int) % 8 = (f : Nat) := by have := Hf.out; omega
      rw [Hq.out] at hq1
      rw [Hf.out] at hf1
      by_cases hk : m ≤ 8 - f
      · go_wp2
        have PC := mkHid (fun w => piece_any (s[q].toNat) f m w (by omega) (by omega) (by omega))
        go_quiet ((go_at_call 77; exact Calls.quiet_of_same (PC.out _)))
        go_wp2
        rw [or_step s p r m q f P HP.out Hq.out Hf.out (by omega) (by omega) hq1]
        go_step3
        obtain ⟨k1, k2⟩ := adv_end HR.out (k := m) (by omega) nq
        refine ⟨rfl, ⟨0, r + m, ⟨rfl, rfl, rfl, rfl, rfl, rfl, rfl, rfl⟩, by omega, ?_, HA.out.trans k2 (fun _ _ h => h)⟩, ?_⟩
        · have : p + (r + m) = P + m := by have := HP.out; omega
          rw [this]; exact k1
        · simp [intOf]; omega
      · obtain ⟨k, hk1⟩ : ∃ k : Nat, f + k = 8 := ⟨8 - f, by omega⟩
        obtain ⟨m', rfl⟩ : ∃ m', m = m' + k := ⟨m - k, by omega⟩
        have hk2 : (8 : Int) - f = k := by omega
        have hk3 : (k : Int) < ((m' + k : Nat) : Int) := by omega
        go_wp2
        have PC := mkHid (fun w => piece_any (s[q].toNat) f k w (by omega) (by omega) (by omega))
        go_quiet ((go_at_call 77; exact Calls.quiet_of_same (PC.out _)))
        go_wp2
        rw [or_step s p r k q f P HP.out Hq.out Hf.out (by omega) (by omega) hq1]
        go_step3
        obtain ⟨k1, k2⟩ := adv_end HR.out (k := k) (by omega) nq
        refine ⟨rfl, ⟨m', r + k, ⟨rfl, rfl, rfl, rfl, rfl, rfl, rfl, rfl⟩, by omega, ?_, HA.out.trans k2 (fun _ _ h => h)⟩, ?_⟩
        · have : p + (r + k) = P + k := by have := HP.out; omega
          rw [this]; exact k1
        · simp [intOf]; omega
/-- Get, whatever it is asked. -/
theorem get_any (b : Nat) (s : ByteArray) (hs : s.size ≤ 1000000) (st : Option Nat) (n : Int) (w : World) (h : Rd 143 w b s st) :
    Calls Tryz.prog 58 #[.pointer (some ⟨b, 0, none⟩), .int .i64 n] w fun e w' => e = .returned (.int .u32 (gval s st n)) ∧ Rd 143 w' b s (gnext s st n) ∧ Apart (· = b) w w' := by
  cases st with
  | none => exact (get_none b s n w h).mono fun e w' ⟨h1, h2⟩ => ⟨h1, by subst h2; exact h, by subst h2; exact Apart.refl _ _⟩
  | some p =>
    simp only [gval, gnext]
    by_cases hc : 0 ≤ n ∧ n ≤ 32 ∧ (p : Int) + n ≤ 8 * s.size
    · rw [if_pos hc, if_pos hc]
      obtain ⟨m, rfl⟩ : ∃ m : Nat, n = m := ⟨n.toNat, by omega⟩
      exact get_ok b s hs p m (by omega) (by omega) w h
    · rw [if_neg hc, if_neg hc]
      by_cases h1 : n < 0 ∨ 32 < n
      · exact get_wrong b s p n h1 w h
      · exact get_many b s hs p n (by omega) (by omega) (by omega) w h
theorem read_any (s : ByteArray) (w : World) :
    Calls Tryz.prog 54 #[.string s] w fun e w' => e = .returned (.pointer (some ⟨w.heap.size, 0, none⟩)) ∧ Rd 143 w' w.heap.size s (some 0) ∧ Apart (fun _ => False) w w' ∧ w'.heap.size = w.heap.size + 1 := by
  go_enter Tryz.func54, Tryz.ntmps54
  go_wp2
  go_ret
  exact ⟨rfl, ⟨heap_alloc_new _ _, Nat.zero_le _⟩, (Apart.refl _ _).alloc _, by simp⟩
end Go.Proofs.YtdhbakknplnnkaaGreat.Tw
namespace Go.Proofs.YtdhbakknplnnkaaGreat.Tw
open Go.RowKit

section
variable {P : Program} (w : World)
/-- An append onto a row of the call's own: the new row is the old one, or a new block. -/
theorem run_append_own2 (base : Nat) (t ty e : TypeId) (i : TypeInfo) (z : Value) (size bytes : Nat) (ht : P.underlying t = some (.slice e)) (hi : P.info? e = some i) (hz : i.zero = some z)
    (hsize : i.size = size) (hby : i.bytes = bytes) (hzs : z.cells.size = size) (hsz : 0 < size)
    (v : Value) (n : Nat) (xs : List Value) (hown : w.ownsRow base e size v n xs)
    (a : Addr) (m c : Nat) (news : List Value) (hl : news.length = m * size) (hnews : ∀ j u, news[j]? = some u → w.cell? (a.add j) = some u) (h1 : ∀ u ∈ news, u.oneCell' = true)
    (h63 : n + m ≤ maxLen) (hbytes : (n + m) * bytes ≤ 140737488355328) (hbase : base ≤ w.heap.size) :
    ∃ v' w', (Builtin.append_ #[t, t] ty #[v, .slice (some a) m c]).run P w = .ok v' w' ∧ w'.ownsRow base e size v' (n + m) (xs ++ news) ∧ w.grownBy w' v.ownBlock ∧
      (∀ k, v'.ownBlock = some k → v.ownBlock = some k ∨ w.heap.size ≤ k) := by
  have down : ∀ {w' : World} {v' : Value}, w'.ownsRow w.heap.size e size v' (n + m) (xs ++ news) → w'.ownsRow base e size v' (n + m) (xs ++ news) := by
    intro w' v' h
    refine ⟨h.1, ?_⟩
    rcases h.2 with hn | ⟨g, cap, cur, hv, hg, r⟩
    · exact .inl hn
    · exact .inr ⟨g, cap, cur, hv, by omega, r⟩
  rcases hown.2 with ⟨rfl, rfl⟩ | ⟨g, cap, cur, rfl, hb, hg, hnc, hcm, hcs, htake⟩
  · obtain ⟨v', w', r1, r2, r3, _⟩ := run_append_own (P := P) w w.heap.size t ty e i z size bytes ht hi hz hsize hby hzs hsz (.slice none 0 0) 0 xs ⟨hown.1, .inl ⟨rfl, rfl⟩⟩ a m c news hl hnews h1 h63 hbytes (Nat.le_refl _)
    exact ⟨v', w', r1, down r2, r3, fun k hk => .inr (r2.lt k hk).1⟩
  · by_cases hr : n + m ≤ cap
    · obtain ⟨w', r1, r2, r3⟩ := run_append_fits (P := P) w base t ty e i size ht hi hsize g n cap xs hown a m c news hl hnews h1 hr
      exact ⟨_, w', r1, r2, r3, fun k hk => .inl hk⟩
    · obtain ⟨v', w', r1, r2, r3⟩ := run_append_arg_grows (P := P) w t ty e i z size bytes ht hi hz hsize hby hzs hsz ⟨g, 0, none⟩ n cap xs hown.1 (fun j u hu => hown.cells (g := g) rfl j u hu) a m c news hl hnews (by omega) h63 hbytes
      exact ⟨v', w', r1, down r2, ⟨r3.os, r3.tape, r3.output, r3.size, fun k hk _ => r3.block k hk (by simp)⟩, fun k hk => .inr (r2.lt k hk).1⟩
theorem wpList_append_own2 {ops : Array Oper} {rest : List Oper} {o : Oper} {a : Act} {Q : Exit → Act → World → Prop} (hgd : o.guard = none) (s x : Operand) (t : TypeId)
    (ho : o.op = .call { callee := .builtin .append, args := #[s, x], argTypes := #[t, t] })
    (base : Nat) (e : TypeId) (i : TypeInfo) (z : Value) (size bytes : Nat) (ht : P.underlying t = some (.slice e)) (hi : P.info? e = some i) (hz : i.zero = some z)
    (hsize : i.size = size) (hby : i.bytes = bytes) (hzs : z.cells.size = size) (hsz : 0 < size)
    (v : Value) (n : Nat) (xs : List Value) (hs : a.eval s = v) (hown : w.ownsRow base e size v n xs)
    (ad : Addr) (m c : Nat) (news : List Value) (hx : a.eval x = .slice (some ad) m c) (hl : news.length = m * size) (hnews : ∀ j u, news[j]? = some u → w.cell? (ad.add j) = some u) (h1 : ∀ u ∈ news, u.oneCell' = true)
    (h63 : n + m ≤ maxLen) (hbytes : (n + m) * bytes ≤ 140737488355328) (hbase : base ≤ w.heap.size)
    (h : ∀ v' w', w'.ownsRow base e size v' (n + m) (xs ++ news) → w.grownBy w' v.ownBlock → (∀ k, v'.ownBlock = some k → v.ownBlock = some k ∨ w.heap.size ≤ k) → wpList P ops Q rest (a.put o.dst v') w') : wpList P ops Q (o :: rest) a w :=
  wpList_plain hgd fun _ hK => by
    obtain ⟨v', w', hrun, h2, h3, h4⟩ := run_append_own2 (P := P) w base t o.type e i z size bytes ht hi hz hsize hby hzs hsz v n xs hown ad m c news hl hnews h1 h63 hbytes hbase
    unfold Oper.wp execOp
    simp only [ho, resolve, invoke, builtin, Sem.run_bind, Sem.run_pure, Result.andThen_ok, List.map_toArray, List.map_cons, List.map_nil, hs, hx, hrun]
    exact hK _ _ (h v' w' h2 h3 h4)
end

def vb (x : Nat) : Value := .int .u8 (x : Int)
/-- A writer in block b whose text is v; it has written the bits l. -/
structure Wr (T : TypeId) (w : World) (b : Nat) (v : Value) (l : List Bool) : Prop where
  head : w.heap[b]? = some (.cells #[v, .int .i64 (l.length : Int)] T (0, 0))
  own : w.ownsRow (b + 1) 5 1 v ((l.length + 7) / 8) ((pk l).map vb)
  most : l.length ≤ 524288
/-- A writer whose last byte stands, with bits to spare. -/
structure Mid (T : TypeId) (w : World) (b g cap : Nat) (l : List Bool) (xs : List Nat) : Prop where
  head : w.heap[b]? = some (.cells #[.slice (some ⟨g, 0, none⟩) (l.length / 8 + 1) cap, .int .i64 (l.length : Int)] T (0, 0))
  own : w.ownsRow (b + 1) 5 1 (.slice (some ⟨g, 0, none⟩) (l.length / 8 + 1) cap) (l.length / 8 + 1) (xs.map vb)
  last : xs[l.length / 8]? = some (bv l (l.length / 8))
  next : ∀ c k, 0 < k → l.length % 8 + k ≤ 8 → pk (l ++ bitsOf c k) = xs.set (l.length / 8) (bv l (l.length / 8) ||| c % 2 ^ k * 2 ^ (8 - k) / 2 ^ (l.length % 8))
/-- From w to w' only block b, the row of v, and new ones have turned; the row of v' is v's or new. -/
structure Tch (b : Nat) (v v' : Value) (w w' : World) : Prop where
  ap : Apart (fun k => k = b ∨ v.ownBlock = some k) w w'
  own : ∀ k, v'.ownBlock = some k → v.ownBlock = some k ∨ w.heap.size ≤ k
theorem Tch.refl (b : Nat) (v : Value) (w : World) : Tch b v v w w := ⟨Apart.refl _ _, fun _ h => .inl h⟩
theorem Tch.trans {b : Nat} {v v' v'' : Value} {w w' w'' : World} (h : Tch b v v' w w') (k : Tch b v' v'' w' w'') : Tch b v v'' w w'' := by
  refine ⟨h.ap.trans k.ap ?_, ?_⟩
  · rintro i hi (rfl | e)
    · exact .inl rfl
    · rcases h.own i e with e | e
      · exact .inr e
      · omega
  · intro i e
    rcases k.own i e with e | e
    · exact h.own i e
    · have := h.ap.size; exact .inr (by omega)
theorem Wr.lt {T : TypeId} {w : World} {b : Nat} {v : Value} {l : List Bool} (h : Wr T w b v l) : b < w.heap.size := lt_of_heap h.head
theorem Wr.ownlt {T : TypeId} {w : World} {b : Nat} {v : Value} {l : List Bool} (h : Wr T w b v l) : ∀ k, v.ownBlock = some k → b < k ∧ k < w.heap.size := fun k hk => by
  have := h.own.lt k hk; exact ⟨by omega, this.2⟩
theorem Wr.kept {T : TypeId} {w w' : World} {b : Nat} {v : Value} {l : List Bool} {X : Nat → Prop} (h : Wr T w b v l) (ha : Apart X w w') (hb : ¬ X b) (hv : ∀ k, v.ownBlock = some k → ¬ X k) : Wr T w' b v l := by
  refine ⟨ha.heap h.head hb, ⟨h.own.1, ?_⟩, h.most⟩
  rcases h.own.2 with hn | ⟨g, cap, cur, rfl, hg, hh, r⟩
  · exact .inl hn
  · exact .inr ⟨g, cap, cur, rfl, hg, ha.heap hh (hv g rfl), r⟩

/-- Where the last byte has bits to spare. -/
theorem Wr.mid {T : TypeId} {w : World} {b : Nat} {v : Value} {l : List Bool} (h : Wr T w b v l) (hf : l.length % 8 ≠ 0) : ∃ g cap, v = .slice (some ⟨g, 0, none⟩) (l.length / 8 + 1) cap ∧ Mid T w b g cap l (pk l) := by
  have e : (l.length + 7) / 8 = l.length / 8 + 1 := by omega
  have hd := h.head
  have ho := h.own
  rw [e] at ho
  rcases ho.2 with ⟨_, hn⟩ | ⟨g, cap, cur, rfl, _⟩
  · omega
  · exact ⟨g, cap, rfl, hd, ho, pk_get l _ (by omega), fun c k hk hs => pk_more l c k hk hs hf⟩
/-- Behind the append of a byte. -/
theorem Wr.grown {T : TypeId} {w w1 : World} {b : Nat} {v v1 : Value} {l : List Bool} (h : Wr T w b v l) (hf : l.length % 8 = 0) (o : Obj)
    (ho : w1.ownsRow (b + 1) 5 1 v1 ((l.length + 7) / 8 + 1) ((pk l).map vb ++ [.int .u8 0])) (hg : (w.alloc o).grownBy w1 v.ownBlock) (hn : ∀ k, v1.ownBlock = some k → v.ownBlock = some k ∨ (w.alloc o).heap.size ≤ k) :
    (w1.heap[b]? = some (.cells #[v, .int .i64 (l.length : Int)] T (0, 0))) ∧ ∃ g cap, v1 = .slice (some ⟨g, 0, none⟩) (l.length / 8 + 1) cap ∧ Mid T (w1.setCell ⟨b, 0, none⟩ v1) b g cap l (pk l ++ [0]) ∧ Tch b v v1 w (w1.setCell ⟨b, 0, none⟩ v1) := by
  have hlt := h.lt
  have h1 : w1.heap[b]? = some (.cells #[v, .int .i64 (l.length : Int)] T (0, 0)) := by
    rw [hg.block b (by simp; omega) (fun e => by have := h.ownlt b e.symm; omega), Below.heap_alloc _ _ _ hlt]
    exact h.head
  refine ⟨h1, ?_⟩
  have e : (l.length + 7) / 8 + 1 = l.length / 8 + 1 := by omega
  rw [e] at ho
  have ha : Apart (fun k => k = b ∨ v.ownBlock = some k) w (w1.setCell ⟨b, 0, none⟩ v1) :=
    Apart.setCell (Apart.grown ((Apart.refl _ w).alloc o) hg (fun k _ e => .inr e)) (p := ⟨b, 0, none⟩) (fun _ => .inl rfl) _
  have hs := heap_setCell_same w1 b 0 _ T v1 h1
  have ho2 : (w1.setCell ⟨b, 0, none⟩ v1).ownsRow (b + 1) 5 1 v1 (l.length / 8 + 1) ((pk l).map vb ++ [.int .u8 0]) := ownsRow_setCell_below ho (by simp) _
  have hm : ((pk l).map vb ++ [.int .u8 0]) = (pk l ++ [0]).map vb := by simp [vb]
  rw [hm] at ho2
  rcases ho.2 with ⟨_, hx⟩ | ⟨g, cap, cur, rfl, hgb, hgg, _⟩
  · omega
  · refine ⟨g, cap, rfl, ⟨?_, ho2, ?_, fun c k hk hs => ?_⟩, ha, fun k hk => ?_⟩
    · rw [hs]; rfl
    · rw [List.getElem?_append_right (by simp; omega), pk_end l hf]
      have : l.length / 8 - (pk l).length = 0 := by simp; omega
      rw [this]; rfl
    · rw [pk_new l c k hk (by omega) hf, pk_end l hf]
    · rcases hn k hk with e | e
      · exact .inl e
      · simp at e; exact .inr (by omega)
theorem Mid.lt {T : TypeId} {w : World} {b g cap : Nat} {l : List Bool} {xs : List Nat} (h : Mid T w b g cap l xs) : b < g ∧ g < w.heap.size := by
  have := h.own.lt g rfl; omega
/-- Behind the store of the last byte and of the size. -/
theorem Mid.done {T : TypeId} {w : World} {b g cap : Nat} {l : List Bool} {xs : List Nat} (h : Mid T w b g cap l xs) (c k : Nat) (hk : 0 < k) (hs : l.length % 8 + k ≤ 8) (hm : l.length + k ≤ 524288)
    (x y : Int) (hx : x = ((bv l (l.length / 8) ||| c % 2 ^ k * 2 ^ (8 - k) / 2 ^ (l.length % 8) : Nat) : Int)) (hy : y = (l.length : Int) + k) :
    Wr T (((w.setCell ⟨g, l.length / 8, none⟩ (.int .u8 x)).drew).setCell ⟨b, 1, none⟩ (.int .i64 y)) b (.slice (some ⟨g, 0, none⟩) (l.length / 8 + 1) cap) (l ++ bitsOf c k) ∧
    Tch b (.slice (some ⟨g, 0, none⟩) (l.length / 8 + 1) cap) (.slice (some ⟨g, 0, none⟩) (l.length / 8 + 1) cap) w (((w.setCell ⟨g, l.length / 8, none⟩ (.int .u8 x)).drew).setCell ⟨b, 1, none⟩ (.int .i64 y)) := by
  obtain ⟨hbg, hg⟩ := h.lt
  have h1 : ((w.setCell ⟨g, l.length / 8, none⟩ (.int .u8 x)).drew).heap[b]? = some (.cells #[.slice (some ⟨g, 0, none⟩) (l.length / 8 + 1) cap, .int .i64 (l.length : Int)] T (0, 0)) := by
    show (w.setCell ⟨g, l.length / 8, none⟩ (.int .u8 x)).heap[b]? = _
    rw [Below.heap_setCell _ _ _ _ (by simp; omega)]; exact h.head
  have h2 := heap_setCell_same _ b 1 _ T (.int .i64 y) h1
  have o1 : ((w.setCell ⟨g, l.length / 8, none⟩ (.int .u8 x)).drew).ownsRow (b + 1) 5 1 (.slice (some ⟨g, 0, none⟩) (l.length / 8 + 1) cap) (l.length / 8 + 1) ((xs.map vb).set (l.length / 8) (.int .u8 x)) := (h.own.stored (l.length / 8) (.int .u8 x)).1
  have o2 := ownsRow_setCell_below o1 (a := ⟨b, 1, none⟩) (by simp) (.int .i64 y)
  have e1 : (xs.map vb).set (l.length / 8) (.int .u8 x) = (pk (l ++ bitsOf c k)).map vb := by
    rw [h.next c k hk hs, List.map_set, hx]; rfl
  rw [e1] at o2
  refine ⟨⟨?_, ?_, ?_⟩, ?_, fun k hk => .inl hk⟩
  · rw [h2, hy]; simp
  · have e2 : ((l ++ bitsOf c k).length + 7) / 8 = l.length / 8 + 1 := by simp; omega
    rw [e2]; exact o2
  · simp; omega
  · exact Apart.setCell (Apart.drew (Apart.setCell (Apart.refl _ w) (p := ⟨g, l.length / 8, none⟩) (fun _ => .inr rfl) _)) (p := ⟨b, 1, none⟩) (fun _ => .inl rfl) _
theorem or_byte (B y k f : Nat) (hB : B < 256) (hk : k ≤ 8) :
    bits .or .u8 (B : Int) (IntKind.u64.wrap ((y : Int) * 2 ^ (8 - k)) % 256 / 2 ^ f) = ((B ||| y % 2 ^ k * 2 ^ (8 - k) / 2 ^ f : Nat) : Int) := by
  have e1 : (256 : Nat) = 2 ^ k * 2 ^ (8 - k) := by
    rw [← Nat.pow_add]
    have : k + (8 - k) = 8 := by omega
    rw [this]
  have e2 : IntKind.u64.wrap ((y : Int) * 2 ^ (8 - k)) % 256 = ((y % 2 ^ k * 2 ^ (8 - k) : Nat) : Int) := by
    rw [← Nat.mul_mod_mul_right, ← e1, IntKind.wrap_u64, Int.emod_emod_of_dvd _ (by decide)]
    simp
  have l1 : y % 2 ^ k * 2 ^ (8 - k) / 2 ^ f < 256 := by
    have : y % 2 ^ k * 2 ^ (8 - k) < 256 := by
      rw [e1]
      have e3 : 2 ^ k * 2 ^ (8 - k) = 256 := e1.symm
      exact Nat.mul_lt_mul_of_pos_right (Nat.mod_lt _ (Nat.two_pow_pos _)) (Nat.two_pow_pos _)
    exact Nat.lt_of_le_of_lt (Nat.div_le_self _ _) this
  rw [e2]
  have e4 : ((y % 2 ^ k * 2 ^ (8 - k) : Nat) : Int) / 2 ^ f = ((y % 2 ^ k * 2 ^ (8 - k) / 2 ^ f : Nat) : Int) := by simp
  rw [e4, u8_or_nat _ _ hB l1]
end Go.Proofs.YtdhbakknplnnkaaGreat.Tw
namespace Go.Proofs.YtdhbakknplnnkaaGreat.Tw
open Go.RowKit

theorem info5 : (Tryz.prog.info? 5).map (fun i => (i.zero, i.size, i.bytes)) = some (some (.int .u8 0), 1, 1) := by kernel_rfl
theorem frame74 (a : Act) (hs : a.tmps.size = 74) (hd : a.defers = []) : ∃ u : Nat → Value, (∀ i, a.tmps.getD i undef = u i) ∧ a = { tmps := #[u 0, u 1, u 2, u 3, u 4, u 5, u 6, u 7, u 8, u 9, u 10, u 11, u 12, u 13, u 14, u 15, u 16, u 17, u 18, u 19, u 20, u 21, u 22, u 23, u 24, u 25, u 26, u 27, u 28, u 29, u 30, u 31, u 32, u 33, u 34, u 35, u 36, u 37, u 38, u 39, u 40, u 41, u 42, u 43, u 44, u 45, u 46, u 47, u 48, u 49, u 50, u 51, u 52, u 53, u 54, u 55, u 56, u 57, u 58, u 59, u 60, u 61, u 62, u 63, u 64, u 65, u 66, u 67, u 68, u 69, u 70, u 71, u 72, u 73], defers := [] } := frame_of a 74 hs hd
end Go.Proofs.YtdhbakknplnnkaaGreat.Tw
namespace Go.Proofs.YtdhbakknplnnkaaGreat.Tw
open Go.RowKit

/-- What Put lays behind l. -/
def putS (l : List Bool) (x : Nat) (n : Int) : List Bool := if 0 ≤ n ∧ n ≤ 32 ∧ (l.length : Int) + n ≤ 524288 then l ++ bitsOf x n.toNat else l
/-- What Align lays behind l. -/
def alignS (l : List Bool) (n : Int) : List Bool := if 1 ≤ n ∧ n ≤ 64 ∧ (l.length : Int) + (n - l.length % n) % n ≤ 524288 then l ++ bitsOf 0 ((n - l.length % n) % n).toNat else l
/-- The bytes of a writer's row as a string. -/
theorem Wr.conv {T : TypeId} {w : World} {b : Nat} {v : Value} {l : List Bool} (h : Wr T w b v l) : (convert 82 9 v).run Tryz.prog w = .ok (.string (packS l)) w := by
  have hu : Tryz.prog.underlying 82 = some (.slice 5) := Tryz.underlying82
  have h5 : Tryz.prog.underlying 5 = some (.int .u8) := Tryz.underlying5
  have h9 : Tryz.prog.underlying 9 = some .string := Tryz.underlying9
  have ho := h.own
  have hlen : ((pk l).map UInt8.ofNat).length = (l.length + 7) / 8 := by simp
  rcases ho.2 with ⟨rfl, hn⟩ | ⟨g, cap, cur, rfl, hg, hh, r⟩
  · rw [run_convert_bytes_string w 82 9 5 none 0 0 hu h5 h9]
    have e : packS l = ⟨#[]⟩ := by
      have : pk l = [] := List.eq_nil_of_length_eq_zero (by rw [pk_len]; omega)
      unfold packS; rw [this]; rfl
    rw [e]; rfl
  · have := run_convert_bytes_back (P := Tryz.prog) w 82 9 5 ⟨g, 0, none⟩ cap ((pk l).map UInt8.ofNat) hu h5 h9 (fun j hj => by
      have hj' : j < (l.length + 7) / 8 := by rw [hlen] at hj; exact hj
      rw [Addr.add_lit, Nat.zero_add, ho.cellAt j (by omega), List.getElem?_map, pk_get l j hj']
      have hb := bv_lt l j
      have e : ((pk l).map UInt8.ofNat)[j] = UInt8.ofNat (bv l j) := by simp [pk]
      rw [e, UInt8.toNat_ofNat_of_lt' (by simpa using hb)]; rfl)
    rw [hlen] at this
    exact this
end Go.Proofs.YtdhbakknplnnkaaGreat.Tw
namespace Go.Proofs.YtdhbakknplnnkaaGreat.Tw
open Go.RowKit

theorem or_bit (B f : Nat) (c : Nat) (hB : B < 256) (hf : f < 8) (hc : c < 2) :
    bits .or .u8 (B : Int) ((c : Int) * 2 ^ (7 - f) % 256) = ((B ||| c % 2 ^ 1 * 2 ^ (8 - 1) / 2 ^ f : Nat) : Int) := by
  have e1 : c % 2 ^ 1 = c := by omega
  have e2 : c * 2 ^ (8 - 1) / 2 ^ f = c * 2 ^ (7 - f) := by
    have : 8 - 1 = (7 - f) + f := by omega
    rw [this, Nat.pow_add, ← Nat.mul_assoc, Nat.mul_div_cancel _ (Nat.two_pow_pos _)]
  have l1 : c * 2 ^ (7 - f) < 256 := by
    have : 2 ^ (7 - f) ≤ 2 ^ 7 := Nat.pow_le_pow_right (by decide) (by omega)
    have h2 : c * 2 ^ (7 - f) ≤ 1 * 2 ^ (7 - f) := Nat.mul_le_mul_right _ (by omega)
    omega
  have e3 : ((c : Int) * 2 ^ (7 - f) % 256) = ((c * 2 ^ (7 - f) : Nat) : Int) := by
    have : ((c : Int) * 2 ^ (7 - f)) = ((c * 2 ^ (7 - f) : Nat) : Int) := by simp
    rw [this]; omega
  rw [e1, e2, e3, u8_or_nat _ _ hB l1]
set_option maxRecDepth 100000 in
set_option maxHeartbeats 1000000 in
theorem bit_any (b : Nat) (v : Value) (l : List Bool) (c : Nat) (hc : c < 2) (h2 : l.length + 1 ≤ 524288) (w : World) (h : Wr 120 w b v l) :
    Calls Tryz.prog 53 #[.pointer (some ⟨b, 0, none⟩), .int .u8 (c : Int)] w fun e w' => e = .returned (.tuple #[]) ∧ ∃ v', Wr 120 w' b v' (l ++ bitsOf c 1) ∧ Tch b v v' w w' := by
  obtain ⟨c0, c1, f0, f1⟩ := cells2 h.head
  have hbl := h.lt
  have HR := mkHid h
  clear h
  obtain ⟨q, Hq⟩ : ∃ q, Hid (l.length / 8 = q) := ⟨_, rfl⟩
  obtain ⟨f, Hf⟩ : ∃ f, Hid (l.length % 8 = f) := ⟨_, rfl⟩
  obtain ⟨L, HL⟩ : ∃ L, Hid (l.length = L) := ⟨_, rfl⟩
  rw [HL.out] at Hq Hf c1
  rw [HL.out] at h2
  have hq : (L : Int) / 8 = (q : Nat) := by have := Hq.out; omega
  have hf : (L : Int) % 8 = (f : Nat) := by have := Hf.out; omega
  have hf1 : f < 8 := by have := Hf.out; omega
  go_enter Tryz.func53, Tryz.ntmps53
  go_upto_if 9 with fail
  go_cut [] (fun wc => ∃ g cap xs, Mid 120 wc b g cap l xs ∧ Tch b v (.slice (some ⟨g, 0, none⟩) (l.length / 8 + 1) cap) w wc)
  case first =>
    by_cases hf0 : f = 0
    · obtain ⟨i0, hi, hz0, hz1, hz2⟩ := info_parts info5
      have HO := mkHid (HR.out.own)
      go_wp2_with (at_builtin; refine wpList_append_own2 _ rfl (.tmp 14) (.tmp 15) 82 rfl (b + 1) 5 i0 (.int .u8 0) 1 1 Tryz.underlying82 hi hz0 hz1 hz2 rfl (by decide) v ((l.length + 7) / 8) ((pk l).map vb) rfl (HO.out.alloc _) ⟨w.heap.size, 0, none⟩ 1 1 [.int .u8 0] rfl rfl (cell_one_new _ _ _) (by intro u hu; simp at hu; subst hu; rfl) (by unfold maxLen; rw [HL.out]; omega) (by rw [HL.out]; omega) (by simp; omega) ?_; intro v1 w1 hown1 hgrow1 hnew1; obtain ⟨hd1, g, cap, hv1, hmid, htch⟩ := HR.out.grown (by rw [HL.out, Hf.out]; exact hf0) _ hown1 hgrow1 hnew1; subst hv1; obtain ⟨c0', c1', f0', f1'⟩ := cells2 hd1; have HM := mkHid hmid; have HT1 := mkHid htch; clear hown1 hgrow1 hnew1 hd1 hmid htch)
      go_meet
      case rel => exact ⟨g, cap, _, HM.out, HT1.out⟩
    · go_wp2
      go_meet
      case rel =>
        obtain ⟨g, cap, rfl, hm⟩ := HR.out.mid (by rw [HL.out, Hf.out]; exact hf0)
        exact ⟨g, cap, _, hm, Tch.refl _ _ _⟩
  case rest =>
    obtain ⟨g, cap, xs, hmid, htch⟩ := hcut
    obtain ⟨d0, d1, e0, e1⟩ := cells2 hmid.head
    have d2 := hmid.own.cellAt (l.length / 8) (by omega)
    have e2 := hmid.own.frozenAt (l.length / 8)
    rw [List.getElem?_map, hmid.last] at d2
    simp only [Option.map_some, vb] at d2
    rw [HL.out, Hq.out] at d0 d2 e2
    rw [HL.out] at d1
    have HB := mkHid (bv_lt l q)
    obtain ⟨B, HB2⟩ : ∃ B, Hid (bv l q = B) := ⟨_, rfl⟩
    rw [HB2.out] at d2
    have HM := mkHid hmid
    have HT1 := mkHid htch
    have hq2 : (q : Int) < (q : Int) + 1 := by omega
    clear hmid htch c0 c1 f0 f1
    have hgb := HM.out.lt.1
    have hgb1 : ¬ g = b := by omega
    have hgb2 : ¬ b = g := by omega
    go_wp2
    go_region
    go_wp2
    go_returns
    rw [or_bit B f c (by have := HB.out; rw [HB2.out] at this; exact this) hf1 hc]
    obtain ⟨k1, k2⟩ := HM.out.done c 1 (by omega) (by rw [HL.out, Hf.out]; omega) (by rw [HL.out]; omega) (((B ||| c % 2 ^ 1 * 2 ^ (8 - 1) / 2 ^ f : Nat) : Int)) ((L : Int) + 1) (by rw [HL.out, Hq.out, Hf.out, HB2.out]) (by rw [HL.out]; rfl)
    rw [HL.out, Hq.out] at k1 k2
    have ht := HT1.out
    rw [HL.out, Hq.out] at ht
    exact ⟨rfl, _, k1, ht.trans k2⟩
theorem rwrite_any (w : World) :
    Calls Tryz.prog 30 #[] w fun e w' => e = .returned (.pointer (some ⟨w.heap.size, 0, none⟩)) ∧ Wr 120 w' w.heap.size (.slice none 0 0) [] ∧ Apart (fun _ => False) w w' ∧ w'.heap.size = w.heap.size + 1 := by
  go_enter Tryz.func30, Tryz.ntmps30
  go_wp2
  go_ret
  exact ⟨rfl, ⟨heap_alloc_new _ _, World.ownsRow_nil _ _ _ _, Nat.zero_le _⟩, (Apart.refl _ _).alloc _, by simp⟩
theorem rtext_any (b : Nat) (v : Value) (l : List Bool) (w : World) (h : Wr 120 w b v l) :
    Calls Tryz.prog 33 #[.pointer (some ⟨b, 0, none⟩)] w fun e w' => e = .returned (.string (packS l)) ∧ w' = w := by
  obtain ⟨c0, c1, f0, f1⟩ := cells2 h.head
  have hc := h.conv
  generalize packS l = s at *
  clear h
  go_enter Tryz.func33, Tryz.ntmps33
  go_wp2
  go_ret
  exact ⟨rfl, rfl⟩
theorem bit_of (x j : Nat) : (x / 2 ^ j % 2) < 2 := Nat.mod_lt _ (by decide)
theorem and_bit (x : Int) (x0 : 0 ≤ x) (x1 : x < 4294967296) (j : Nat) : bits .and .u32 (x / 2 ^ j) 1 % 256 = ((x.toNat / 2 ^ j % 2 : Nat) : Int) := by
  obtain ⟨X, rfl⟩ : ∃ X : Nat, x = X := ⟨x.toNat, by omega⟩
  have e1 : ((X : Int) / 2 ^ j) = ((X / 2 ^ j : Nat) : Int) := by simp
  have l1 : X / 2 ^ j < 4294967296 := Nat.lt_of_le_of_lt (Nat.div_le_self _ _) (by omega)
  have e2 := u32_and_nat (X / 2 ^ j) 1 l1 (by decide)
  rw [Nat.and_one_is_mod] at e2
  have e3 : bits .and .u32 ((X / 2 ^ j : Nat) : Int) 1 = ((X / 2 ^ j % 2 : Nat) : Int) := e2
  rw [e1, e3, Int.toNat_natCast]
  have := bit_of X j
  omega
set_option maxRecDepth 100000 in
set_option maxHeartbeats 1000000 in
theorem rput_in (b : Nat) (v : Value) (l : List Bool) (x : Int) (n : Nat) (x0 : 0 ≤ x) (x1 : x < 4294967296) (h1 : n ≤ 32) (h2 : l.length + n ≤ 524288) (w : World) (h : Wr 120 w b v l) :
    Calls Tryz.prog 31 #[.pointer (some ⟨b, 0, none⟩), .int .u32 x, .int .i64 n] w fun e w' => e = .returned (.tuple #[]) ∧ ∃ v', Wr 120 w' b v' (l ++ bitsOf x.toNat n) ∧ Tch b v v' w w' := by
  obtain ⟨c0, c1, f0, f1⟩ := cells2 h.head
  have H := mkHid h
  have hl : (n : Int) ≤ 524288 - (l.length : Int) := by omega
  have hl1 : (l.length : Int) ≤ 524288 := by omega
  clear h
  go_enter Tryz.func31, Tryz.ntmps31
  go_wp2
  clear c0 c1 f0 f1 hl hl1
  go_loopw [6] (fun i wr => ∃ (j : Nat) (vc : Value) (lc : List Bool), j ≤ n ∧ i = .int .i64 ((j : Int) - 1) ∧ Wr 120 wr b vc lc ∧ lc ++ bitsOf x.toNat j = l ++ bitsOf x.toNat n ∧ Tch b v vc w wr) (fun i _ => (intOf i + 1).toNat)
  case atStart => exact ⟨n, v, l, Nat.le_refl _, rfl, H.out, rfl, Tch.refl _ _ _⟩
  case round =>
    obtain ⟨j, vc, lc, hj, rfl, hw, hlist, ht⟩ := hrel
    have HW := mkHid hw
    have HLI := mkHid hlist
    have HT := mkHid ht
    have hlen : lc.length + j = l.length + n := by have := congrArg List.length hlist; simpa using this
    clear hw hlist ht H
    cases j with
    | zero =>
      rw [show (((0 : Nat) : Int) - 1) = -1 from rfl]
      go_wp2
      go_returns
      refine ⟨rfl, vc, ?_, HT.out⟩
      rw [← HLI.out, bitsOf, List.append_nil]
      exact HW.out
    | succ j =>
      rw [show (((j + 1 : Nat) : Int) - 1) = (j : Int) from by omega]
      have hmin : min j 32 = j := by omega
      obtain ⟨c, he, HC⟩ : ∃ c : Nat, bits .and .u32 (x / 2 ^ j) 1 % 256 = (c : Int) ∧ Hid (c = x.toNat / 2 ^ j % 2) := ⟨_, and_bit x x0 x1 j, rfl⟩
      go_wp2_with fail
      refine (bit_any b vc lc c (by rw [HC.out]; exact bit_of _ _) (by omega) _ HW.out).mono ?_
      rintro e w2 ⟨rfl, v2, h3, t3⟩
      have H3 := mkHid h3
      have T3 := mkHid (HT.out.trans t3)
      clear h3 t3
      go_wp2
      go_roundw
      case rel =>
        refine ⟨j, v2, _, by omega, by go_num, H3.out, ?_, T3.out⟩
        have e1 : bitsOf c 1 = bitsOf (x.toNat / 2 ^ j) 1 := by rw [HC.out]; exact bitsOf_mod _ 1 1 (Nat.le_refl _)
        rw [← HLI.out, e1, List.append_assoc, ← bitsOf_split, Nat.add_comm]
      case measure => simp [intOf]
theorem rput_out (b : Nat) (v : Value) (l : List Bool) (x n : Int) (hn : ¬ (0 ≤ n ∧ n ≤ 32 ∧ (l.length : Int) + n ≤ 524288)) (w : World) (h : Wr 120 w b v l) :
    Calls Tryz.prog 31 #[.pointer (some ⟨b, 0, none⟩), .int .u32 x, .int .i64 n] w fun e w' => e = .returned (.tuple #[]) ∧ w' = w := by
  obtain ⟨c0, c1, f0, f1⟩ := cells2 h.head
  have hl1 : (l.length : Int) ≤ 524288 := by have := h.most; omega
  clear h
  by_cases h1 : n < 0
  · clear hn
    go_enter Tryz.func31, Tryz.ntmps31
    go_wp2
    go_returns
    exact ⟨rfl, rfl⟩
  · by_cases h2 : 32 < n
    · clear hn
      go_enter Tryz.func31, Tryz.ntmps31
      go_wp2
      go_returns
      exact ⟨rfl, rfl⟩
    · have h3 : 524288 - (l.length : Int) < n := by omega
      clear hn
      go_enter Tryz.func31, Tryz.ntmps31
      go_wp2
      go_returns
      exact ⟨rfl, rfl⟩
theorem rput_any (b : Nat) (v : Value) (l : List Bool) (x n : Int) (x0 : 0 ≤ x) (x1 : x < 4294967296) (w : World) (h : Wr 120 w b v l) :
    Calls Tryz.prog 31 #[.pointer (some ⟨b, 0, none⟩), .int .u32 x, .int .i64 n] w fun e w' => e = .returned (.tuple #[]) ∧ ∃ v', Wr 120 w' b v' (putS l x.toNat n) ∧ Tch b v v' w w' := by
  by_cases hc : 0 ≤ n ∧ n ≤ 32 ∧ (l.length : Int) + n ≤ 524288
  · unfold putS
    rw [if_pos hc]
    obtain ⟨m, rfl⟩ : ∃ m : Nat, n = m := ⟨n.toNat, by omega⟩
    exact rput_in b v l x m x0 x1 (by omega) (by omega) w h
  · unfold putS
    rw [if_neg hc]
    exact (rput_out b v l x n hc w h).mono fun e w' ⟨h1, h2⟩ => ⟨h1, v, by subst h2; exact h, by subst h2; exact Tch.refl _ _ _⟩
theorem al_end (L n r m : Nat) (h0 : 1 ≤ n) (hr : L % n = r) (hm : (n - r) % n = m) : (L + m) % n = 0 := by
  have hr1 : r < n := by rw [← hr]; exact Nat.mod_lt _ (by omega)
  by_cases h : r = 0
  · subst h
    rw [Nat.sub_zero, Nat.mod_self] at hm
    rw [← hm, Nat.add_zero, hr]
  · rw [Nat.mod_eq_of_lt (by omega)] at hm
    have e : L + m = n * (L / n + 1) := by rw [Nat.mul_add, Nat.mul_one]; have := Nat.div_add_mod L n; omega
    rw [e, Nat.mul_mod_right]
theorem al_step (L n r m j : Nat) (h0 : 1 ≤ n) (hr : L % n = r) (hm : (n - r) % n = m) (hj : j < m) : ¬ (L + j) % n = 0 := by
  have hr1 : r < n := by rw [← hr]; exact Nat.mod_lt _ (by omega)
  by_cases h : r = 0
  · subst h
    rw [Nat.sub_zero, Nat.mod_self] at hm
    omega
  · rw [Nat.mod_eq_of_lt (by omega)] at hm
    have e : L + j = n * (L / n) + (r + j) := by have := Nat.div_add_mod L n; omega
    rw [e, Nat.mul_add_mod, Nat.mod_eq_of_lt (by omega)]
    omega
set_option maxRecDepth 100000 in
set_option maxHeartbeats 1000000 in
theorem ralign_in (b : Nat) (v : Value) (l : List Bool) (n r m : Nat) (h0 : 1 ≤ n) (h1 : n ≤ 64) (hr : l.length % n = r) (hm : (n - r) % n = m) (h2 : l.length + m ≤ 524288) (w : World) (h : Wr 120 w b v l) :
    Calls Tryz.prog 32 #[.pointer (some ⟨b, 0, none⟩), .int .i64 n] w fun e w' => e = .returned (.tuple #[]) ∧ ∃ v', Wr 120 w' b v' (l ++ bitsOf 0 m) ∧ Tch b v v' w w' := by
  obtain ⟨c0, c1, f0, f1⟩ := cells2 h.head
  have H := mkHid h
  have hr1 : r < n := by rw [← hr]; exact Nat.mod_lt _ (by omega)
  have hm1 : m < n := by rw [← hm]; exact Nat.mod_lt _ (by omega)
  have HRM := mkHid hr
  have HMM := mkHid hm
  have er : (l.length : Int) % n = (r : Int) := by rw [← hr]; simp
  have em : ((n : Int) - r) % n = (m : Int) := by rw [← hm, show (n : Int) - r = ((n - r : Nat) : Int) by omega]; simp
  have hl1 : (l.length : Int) ≤ 524288 := by omega
  have d1 : decide ((n : Int) < 1) = false := by simp; omega
  have d2 : decide ((64 : Int) < n) = false := by simp; omega
  have d3 : decide (524288 - (l.length : Int) < (m : Int)) = false := by simp; omega
  have hn0 : ¬ n = 0 := by omega
  clear h hr hm
  go_enter Tryz.func32, Tryz.ntmps32
  go_wp2
  go_quiet (fail)
  go_wp2_with fail
  simp only [er, em]
  clear c0 c1 f0 f1 hl1 d1 d2 d3 er em
  go_loopg [] m (fun k wr => ∃ (j : Nat) (vc : Value), k = m - j ∧ j ≤ m ∧ Wr 120 wr b vc (l ++ bitsOf 0 j) ∧ Tch b v vc w wr)
  case atStart => exact ⟨0, v, rfl, Nat.zero_le _, by rw [bitsOf, List.append_nil]; exact H.out.kept ((Apart.refl (fun _ => False) w).drewN nq) (fun h => h) (fun _ _ h => h), ⟨(Apart.refl _ w).drewN nq, fun _ h => .inl h⟩⟩
  case round =>
    obtain ⟨j, vc, rfl, hj, hw, ht⟩ := hrel
    obtain ⟨c0, c1, f0, f1⟩ := cells2 hw.head
    rw [List.length_append, bitsOf_len] at c1
    have HW := mkHid hw
    have HT := mkHid ht
    clear hw ht H
    by_cases hlt : j < m
    · obtain ⟨z, hz, hz0⟩ : ∃ z : Nat, ((l.length : Int) + (j : Int)) % n = (z : Int) ∧ ¬ (z : Int) = 0 := ⟨(l.length + j) % n, by simp, by have := al_step l.length n r m j h0 HRM.out HMM.out hlt; omega⟩
      have hz1 : ((z : Int) != 0) = true := by simpa using hz0
      go_wp2_with fail
      refine (bit_any b vc _ 0 (by decide) (by simp; omega) _ HW.out).mono ?_
      rintro e w2 ⟨rfl, v2, h3, t3⟩
      have H3 := mkHid h3
      have T3 := mkHid (HT.out.trans t3)
      clear h3 t3
      go_wp2
      go_roundg (m - (j + 1))
      case measure => omega
      case rel =>
        refine ⟨j + 1, v2, rfl, by omega, ?_, T3.out⟩
        have e1 := bitsOf_split 0 j 1
        rw [Nat.zero_div] at e1
        rw [e1, ← List.append_assoc]
        exact H3.out
    · obtain rfl : j = m := by omega
      have hz : ((l.length : Int) + (j : Int)) % n = 0 := by have e := al_end l.length n r j h0 HRM.out HMM.out; have := congrArg (Nat.cast (R := Int)) e; simpa using this
      go_wp2
      go_returns
      exact ⟨rfl, vc, HW.out, HT.out⟩
theorem ralign_out (b : Nat) (v : Value) (l : List Bool) (n : Int) (hn : ¬ (1 ≤ n ∧ n ≤ 64 ∧ (l.length : Int) + (n - l.length % n) % n ≤ 524288)) (w : World) (h : Wr 120 w b v l) :
    Calls Tryz.prog 32 #[.pointer (some ⟨b, 0, none⟩), .int .i64 n] w fun e w' => e = .returned (.tuple #[]) ∧ ∃ k, w' = w.drewN k := by
  obtain ⟨c0, c1, f0, f1⟩ := cells2 h.head
  have hl1 : (l.length : Int) ≤ 524288 := by have := h.most; omega
  clear h
  by_cases h1 : n < 1
  · clear hn
    go_enter Tryz.func32, Tryz.ntmps32
    go_wp2
    go_quiet (fail)
    go_wp2
    go_returns
    exact ⟨rfl, _, rfl⟩
  · have d1 : decide (n < 1) = false := by simpa using h1
    by_cases h2 : 64 < n
    · clear hn
      go_enter Tryz.func32, Tryz.ntmps32
      go_wp2
      go_quiet (fail)
      go_wp2
      go_returns
      exact ⟨rfl, _, rfl⟩
    · have d2 : decide (64 < n) = false := by simpa using h2
      obtain ⟨N, rfl⟩ : ∃ N : Nat, n = N := ⟨n.toNat, by omega⟩
      obtain ⟨r, hr⟩ : ∃ r : Nat, (l.length : Int) % N = r := ⟨l.length % N, by simp⟩
      have hr1 : r < N := by have := Int.emod_lt_of_pos (l.length : Int) (show (0 : Int) < N by omega); omega
      obtain ⟨j, hj⟩ : ∃ j : Nat, ((N : Int) - r) % N = j := ⟨(N - r) % N, by rw [show (N : Int) - r = ((N - r : Nat) : Int) by omega]; simp⟩
      rw [hr, hj] at hn
      have h3 : 524288 - (l.length : Int) < j := by omega
      have hn0 : ¬ N = 0 := by omega
      clear hn
      go_enter Tryz.func32, Tryz.ntmps32
      go_wp2
      go_quiet (fail)
      go_wp2
      go_returns
      exact ⟨rfl, _, rfl⟩
theorem ralign_any (b : Nat) (v : Value) (l : List Bool) (n : Int) (w : World) (h : Wr 120 w b v l) :
    Calls Tryz.prog 32 #[.pointer (some ⟨b, 0, none⟩), .int .i64 n] w fun e w' => e = .returned (.tuple #[]) ∧ ∃ v', Wr 120 w' b v' (alignS l n) ∧ Tch b v v' w w' := by
  by_cases hc : 1 ≤ n ∧ n ≤ 64 ∧ (l.length : Int) + (n - l.length % n) % n ≤ 524288
  · unfold alignS
    rw [if_pos hc]
    obtain ⟨N, rfl⟩ : ∃ N : Nat, n = N := ⟨n.toNat, by omega⟩
    obtain ⟨r, hr, hr2⟩ : ∃ r : Nat, (l.length : Int) % N = r ∧ l.length % N = r := ⟨l.length % N, by simp, rfl⟩
    have hr1 : r < N := by rw [← hr2]; exact Nat.mod_lt _ (by omega)
    obtain ⟨j, hj, hj2⟩ : ∃ j : Nat, ((N : Int) - r) % N = j ∧ (N - r) % N = j := ⟨(N - r) % N, by rw [show (N : Int) - r = ((N - r : Nat) : Int) by omega]; simp, rfl⟩
    rw [hr, hj] at hc
    rw [hr, hj, Int.toNat_natCast]
    exact ralign_in b v l N r j (by omega) (by omega) hr2 hj2 (by omega) w h
  · unfold alignS
    rw [if_neg hc]
    exact (ralign_out b v l n hc w h).mono fun e w' ⟨h1, k, h2⟩ => ⟨h1, v, by subst h2; exact h.kept ((Apart.refl (fun _ => False) w).drewN k) (fun h => h) (fun _ _ h => h), by subst h2; exact ⟨(Apart.refl _ w).drewN k, fun _ h => .inl h⟩⟩
end Go.Proofs.YtdhbakknplnnkaaGreat.Tw
namespace Go.Proofs.YtdhbakknplnnkaaGreat.Tw
open Go.RowKit

theorem rread_any (s : ByteArray) (w : World) :
    Calls Tryz.prog 43 #[.string s] w fun e w' => e = .returned (.pointer (some ⟨w.heap.size, 0, none⟩)) ∧ Rd 136 w' w.heap.size s (some 0) ∧ Apart (fun _ => False) w w' ∧ w'.heap.size = w.heap.size + 1 := by
  go_enter Tryz.func43, Tryz.ntmps43
  go_wp2
  go_ret
  exact ⟨rfl, ⟨heap_alloc_new _ _, Nat.zero_le _⟩, (Apart.refl _ _).alloc _, by simp⟩
theorem rleft_any (b : Nat) (s : ByteArray) (hs : s.size ≤ 1000000) (st : Option Nat) (w : World) (h : Rd 136 w b s st) :
    Calls Tryz.prog 45 #[.pointer (some ⟨b, 0, none⟩)] w fun e w' => e = .returned (.int .i64 (gleft s st)) ∧ ∃ n, w' = w.drewN n := by
  cases st with
  | none =>
    obtain ⟨s', p, h⟩ := h
    obtain ⟨c0, c1, c2, f0, f1, f2⟩ := cells3 h
    clear h
    go_enter Tryz.func45, Tryz.ntmps45
    go_wp2
    go_ret
    exact ⟨rfl, 0, rfl⟩
  | some p =>
    obtain ⟨c0, c1, c2, f0, f1, f2⟩ := cells3 h.1
    have hp := h.2
    clear h
    go_enter Tryz.func45, Tryz.ntmps45
    go_wp2
    go_quiet (fail)
    go_wp2
    go_ret
    exact ⟨rfl, _, rfl⟩
theorem rbad_end {w : World} {b : Nat} {s s' : ByteArray} {p : Int} {x : Bool} (h : w.heap[b]? = some (.cells #[.string s', .int .i64 p, .bool x] 136 (0, 0))) (n : Nat) :
    Rd 136 ((w.drewN n).setCell ⟨b, 2, none⟩ (.bool true)) b s none ∧ Apart (· = b) w ((w.drewN n).setCell ⟨b, 2, none⟩ (.bool true)) := by
  have h0 : (w.drewN n).heap[b]? = some (.cells #[.string s', .int .i64 p, .bool x] 136 (0, 0)) := h
  have h1 := heap_setCell_same _ b 2 _ 136 (.bool true) h0
  refine ⟨⟨s', p, ?_⟩, ?_⟩
  · rw [h1]; rfl
  · exact Apart.setCell ((Apart.refl (· = b) w).drewN n) (p := ⟨b, 2, none⟩) (fun _ => rfl) _
theorem rget_none (b : Nat) (s : ByteArray) (n : Int) (w : World) (h : Rd 136 w b s none) :
    Calls Tryz.prog 44 #[.pointer (some ⟨b, 0, none⟩), .int .i64 n] w fun e w' => e = .returned (.int .u32 0) ∧ Rd 136 w' b s none ∧ Apart (· = b) w w' := by
  obtain ⟨s', p, h⟩ := h
  obtain ⟨c0, c1, c2, f0, f1, f2⟩ := cells3 h
  have H := mkHid h
  clear h
  go_enter Tryz.func44, Tryz.ntmps44
  go_wp2
  go_quiet (fail)
  go_wp2
  go_ret
  exact ⟨rfl, rbad_end H.out nq⟩
theorem rget_wrong (b : Nat) (s : ByteArray) (hs : s.size ≤ 1000000) (p : Nat) (n : Int) (hn : ¬ (0 ≤ n ∧ n ≤ 32 ∧ (p : Int) + n ≤ 8 * s.size)) (w : World) (h : Rd 136 w b s (some p)) :
    Calls Tryz.prog 44 #[.pointer (some ⟨b, 0, none⟩), .int .i64 n] w fun e w' => e = .returned (.int .u32 0) ∧ Rd 136 w' b s none ∧ Apart (· = b) w w' := by
  obtain ⟨c0, c1, c2, f0, f1, f2⟩ := cells3 h.1
  have hp := h.2
  have H := mkHid h.1
  clear h
  by_cases h1 : n < 0
  · clear hn
    go_enter Tryz.func44, Tryz.ntmps44
    go_wp2
    go_quiet (fail)
    go_wp2
    go_ret
    exact ⟨rfl, rbad_end H.out nq⟩
  · by_cases h2 : 32 < n
    · have d1 : decide (n < 0) = false := by simpa using h1
      clear hn
      go_enter Tryz.func44, Tryz.ntmps44
      go_wp2
      go_quiet (fail)
      go_wp2
      go_ret
      exact ⟨rfl, rbad_end H.out nq⟩
    · have h3 : 8 * (s.size : Int) - p < n := by omega
      have d1 : decide (n < 0) = false := by simpa using h1
      have d2 : decide (32 < n) = false := by simpa using h2
      clear hn
      go_enter Tryz.func44, Tryz.ntmps44
      go_wp2
      go_quiet (fail)
      go_wp2
      go_ret
      exact ⟨rfl, rbad_end H.out nq⟩
theorem bit_step (s : ByteArray) (p r q f P n : Nat) (hP : p + r = P) (hq : P / 8 = q) (hf : P % 8 = f) (hr : r < n) (hn : n ≤ 32) (hlt : q < s.size) :
    ((gv s p r : Int) * 2 % 4294967296 + bits .and .u8 ((s[q].toNat : Int) / 2 ^ (7 - f)) 1 % 4294967296) % 4294967296 = (gv s p (r + 1) : Int) := by
  have g1 := gv_lt s p (r + 1)
  have p2 : 2 ^ (r + 1) ≤ 2 ^ 32 := Nat.pow_le_pow_right (by decide) (by omega)
  have e0 : bt s P = s[q].toNat / 2 ^ (7 - f) % 2 := by
    unfold bt
    rw [hq, hf]
    congr 3
    rw [List.getD_eq_getElem?_getD, List.getElem?_eq_getElem (by simpa using hlt)]
    rfl
  have e1 : ((s[q].toNat : Int) / 2 ^ (7 - f)) = ((s[q].toNat / 2 ^ (7 - f) : Nat) : Int) := by simp
  have l1 : s[q].toNat / 2 ^ (7 - f) < 256 := Nat.lt_of_le_of_lt (Nat.div_le_self _ _) s[q].toNat_lt
  have e2 : bits .and .u8 ((s[q].toNat / 2 ^ (7 - f) : Nat) : Int) 1 = ((bt s P : Nat) : Int) := by
    have := u8_and_nat (s[q].toNat / 2 ^ (7 - f)) 1 l1 (by decide)
    rw [e0, ← Nat.and_one_is_mod]; exact this
  have e3 : gv s p (r + 1) = 2 * gv s p r + bt s P := by rw [← hP]; rfl
  rw [e1, e2, e3]
  rw [e3] at g1
  omega

set_option maxRecDepth 100000 in
theorem rget_ok (b : Nat) (s : ByteArray) (hs : s.size ≤ 1000000) (p n : Nat) (h1 : n ≤ 32) (h2 : p + n ≤ 8 * s.size) (w : World) (h : Rd 136 w b s (some p)) :
    Calls Tryz.prog 44 #[.pointer (some ⟨b, 0, none⟩), .int .i64 n] w fun e w' => e = .returned (.int .u32 (gv s p n)) ∧ Rd 136 w' b s (some (p + n)) ∧ Apart (· = b) w w' := by
  obtain ⟨c0, c1, c2, f0, f1, f2⟩ := cells3 h.1
  have H := mkHid h
  have h3 : (n : Int) ≤ 8 * (s.size : Int) - p := by omega
  have d1 : decide ((n : Int) < 0) = false := by simp
  have d2 : decide ((32 : Int) < n) = false := by simp; omega
  have d3 : decide (8 * (s.size : Int) - p < n) = false := by simp; omega
  clear h
  go_enter Tryz.func44, Tryz.ntmps44
  go_wp2
  go_quiet (fail)
  go_wp2
  clear c0 c1 c2 f0 f1 f2 d1 d2 d3
  go_loopw [5, 6] (fun v i w' => ∃ r : Nat, r ≤ n ∧ i = .int .i64 (r : Int) ∧ v = .int .u32 (gv s p r : Int) ∧ Rd 136 w' b s (some (p + r)) ∧ Apart (· = b) w w') (fun _ i _ => n - (intOf i).toNat)
  case atStart => exact ⟨0, Nat.zero_le _, rfl, rfl, drew_rd nq H.out, (Apart.refl _ _).drewN nq⟩
  case round =>
    obtain ⟨r, hrn, rfl, rfl, hr, ha⟩ := hrel
    obtain ⟨P, HP⟩ : ∃ P, Hid (p + r = P) := ⟨_, rfl⟩
    rw [HP.out] at hr
    obtain ⟨c0, c1, c2, f0, f1, f2⟩ := cells3 hr.1
    have HR := mkHid hr
    have HA := mkHid ha
    clear hr ha
    by_cases hlt : r < n
    · have hP : P + 1 ≤ 8 * s.size := by have := HP.out; omega
      have hq1 : P / 8 < s.size := by omega
      have hf1 : P % 8 < 8 := by omega
      obtain ⟨q, Hq⟩ : ∃ q, Hid (P / 8 = q) := ⟨_, rfl⟩
      obtain ⟨f, Hf⟩ : ∃ f, Hid (P % 8 = f) := ⟨_, rfl⟩
      have hq : (P : Int) / 8 = (q : Nat) := by have := Hq.out; omega
      have hf : (P : Int) % 8 = (f : Nat) := by have := Hf.out; omega
      rw [Hq.out] at hq1
      rw [Hf.out] at hf1
      go_wp2
      go_quiet (fail)
      go_wp2
      obtain ⟨k1, k2⟩ := adv_end HR.out (k := 1) hP nq
      refine ⟨⟨r + 1, by omega, by go_num, ?_, ?_, HA.out.trans k2 (fun _ _ h => h)⟩, by simp [intOf]; omega⟩
      · rw [bit_step s p r q f P n HP.out Hq.out Hf.out hlt h1 hq1]
      · have : p + (r + 1) = P + 1 := by have := HP.out; omega
        rw [this]; exact k1
    · obtain rfl : r = n := by omega
      go_wp2
      go_ret
      have hr := HR.out
      rw [← HP.out] at hr
      exact ⟨rfl, hr, HA.out⟩
/-- Get of the reference, whatever it is asked. -/
theorem rget_any (b : Nat) (s : ByteArray) (hs : s.size ≤ 1000000) (st : Option Nat) (n : Int) (w : World) (h : Rd 136 w b s st) :
    Calls Tryz.prog 44 #[.pointer (some ⟨b, 0, none⟩), .int .i64 n] w fun e w' => e = .returned (.int .u32 (gval s st n)) ∧ Rd 136 w' b s (gnext s st n) ∧ Apart (· = b) w w' := by
  cases st with
  | none => exact rget_none b s n w h
  | some p =>
    simp only [gval, gnext]
    by_cases hc : 0 ≤ n ∧ n ≤ 32 ∧ (p : Int) + n ≤ 8 * s.size
    · rw [if_pos hc, if_pos hc]
      obtain ⟨m, rfl⟩ : ∃ m : Nat, n = m := ⟨n.toNat, by omega⟩
      exact rget_ok b s hs p m (by omega) (by omega) w h
    · rw [if_neg hc, if_neg hc]
      exact rget_wrong b s hs p n hc w h
end Go.Proofs.YtdhbakknplnnkaaGreat.Tw
namespace Go.Proofs.YtdhbakknplnnkaaGreat.Tw
open Go.RowKit

theorem Tch.below {b : Nat} {v v' : Value} {w w' : World} {T : TypeId} {l : List Bool} (h : Tch b v v' w w') (hw : Wr T w b v l) (B : Nat) (hB : B ≤ b) : Below B w w' :=
  h.ap.below B (by have := hw.lt; omega) (by
    rintro k (rfl | e)
    · exact hB
    · have := hw.ownlt k e; omega)
theorem Apart.belowF {w w' : World} (h : Apart (fun _ => False) w w') (B : Nat) (hB : B ≤ w.heap.size) : Below B w w' := h.below B hB (fun _ h => h.elim)
theorem Apart.belowZ {w w' : World} (h : Apart (fun _ => False) w w') : Below w.heap.size w w' := h.below _ (Nat.le_refl _) (fun _ h => h.elim)
theorem Apart.belowE {w w' : World} {b : Nat} (h : Apart (· = b) w w') (B : Nat) (hB : B ≤ w.heap.size) (hb : B ≤ b) : Below B w w' := h.below B hB (fun k e => by subst e; exact hb)
theorem Apart.cell {X : Nat → Prop} {w w' : World} (h : Apart X w w') {p : Addr} (hp : p.block < w.heap.size) (hx : ¬ X p.block) : w'.cell? p = w.cell? p := World.cell?_of_block (w := w) (h.block p.block hp hx)
theorem Apart.zz {a b c : World} (h : Apart (fun _ => False) a b) (k : Apart (fun _ => False) b c) : Apart (fun _ => False) a c := h.trans k (fun _ _ h => h)

/-- A slice value that holds n elements of so many cells each, the cells xs; it may be nil. -/
def SrcN (w : World) (size : Nat) (v : Value) (n : Nat) (xs : List Value) : Prop :=
  (∃ c, v = .slice none 0 c ∧ n = 0 ∧ xs = []) ∨ ∃ ad c, v = .slice (some ad) n c ∧ xs.length = n * size ∧ ∀ j u, xs[j]? = some u → w.cell? (ad.add j) = some u
section
variable {P : Program} (w : World)
theorem run_append_onto (base : Nat) (t ty e : TypeId) (i : TypeInfo) (z : Value) (size bytes : Nat) (ht : P.underlying t = some (.slice e)) (hi : P.info? e = some i) (hz : i.zero = some z)
    (hsize : i.size = size) (hby : i.bytes = bytes) (hzs : z.cells.size = size) (hsz : 0 < size)
    (v : Value) (n : Nat) (xs : List Value) (hown : w.ownsRow base e size v n xs)
    (s : Value) (m : Nat) (news : List Value) (hs : SrcN w size s m news) (h1 : ∀ u ∈ news, u.oneCell' = true)
    (h63 : n + m ≤ maxLen) (hbytes : (n + m) * bytes ≤ 140737488355328) (hbase : base ≤ w.heap.size) :
    ∃ v' w', (Builtin.append_ #[t, t] ty #[v, s]).run P w = .ok v' w' ∧ w'.ownsRow base e size v' (n + m) (xs ++ news) ∧ w.grownBy w' v.ownBlock := by
  rcases hs with ⟨c, rfl, rfl, rfl⟩ | ⟨ad, c, rfl, hl, hcell⟩
  · refine ⟨v, w, ?_, by simpa using hown, ⟨rfl, rfl, rfl, Nat.le_refl _, fun _ _ _ => rfl⟩⟩
    rcases hown.2 with ⟨rfl, rfl⟩ | ⟨g, cap, cur, rfl, hb, hg, hn, h2, h3, h4⟩
    · simp [Builtin.append_, run_underlying ht, sizeOf, typeInfo, hi, Builtin.lenOf, Builtin.firstCells]
    · simp [Builtin.append_, run_underlying ht, sizeOf, typeInfo, hi, Builtin.lenOf, Builtin.firstCells, hn, storeCells]
  · obtain ⟨v', w', a, b, c', _⟩ := run_append_own (P := P) w base t ty e i z size bytes ht hi hz hsize hby hzs hsz v n xs hown ad m c news hl hcell h1 h63 hbytes hbase
    exact ⟨v', w', a, b, c'⟩
theorem wpList_append_onto {ops : Array Oper} {rest : List Oper} {o : Oper} {a : Act} {Q : Exit → Act → World → Prop} (hgd : o.guard = none) (s x : Operand) (t : TypeId)
    (ho : o.op = .call { callee := .builtin .append, args := #[s, x], argTypes := #[t, t] })
    (base : Nat) (e : TypeId) (i : TypeInfo) (z : Value) (size bytes : Nat) (ht : P.underlying t = some (.slice e)) (hi : P.info? e = some i) (hz : i.zero = some z)
    (hsize : i.size = size) (hby : i.bytes = bytes) (hzs : z.cells.size = size) (hsz : 0 < size)
    (v : Value) (n : Nat) (xs : List Value) (hs : a.eval s = v) (hown : w.ownsRow base e size v n xs)
    (u : Value) (m : Nat) (news : List Value) (hx : a.eval x = u) (hsrc : SrcN w size u m news) (h1 : ∀ u ∈ news, u.oneCell' = true)
    (h63 : n + m ≤ maxLen) (hbytes : (n + m) * bytes ≤ 140737488355328) (hbase : base ≤ w.heap.size)
    (h : ∀ v' w', w'.ownsRow base e size v' (n + m) (xs ++ news) → w.grownBy w' v.ownBlock → wpList P ops Q rest (a.put o.dst v') w') : wpList P ops Q (o :: rest) a w :=
  wpList_plain hgd fun K hK => by
    obtain ⟨v', w', hr, h2, h3⟩ := run_append_onto (P := P) w base t o.type e i z size bytes ht hi hz hsize hby hzs hsz v n xs hown u m news hsrc h1 h63 hbytes hbase
    unfold Oper.wp execOp
    simp only [ho, resolve, invoke, builtin, Sem.run_bind, Sem.run_pure, Result.andThen_ok, List.map_toArray, List.map_cons, List.map_nil, hs, hx, hr]
    exact hK _ _ (h v' w' h2 h3)
end
theorem ownsRow_apart {w w' : World} {X : Nat → Prop} {base : Nat} {e : TypeId} {size : Nat} {v : Value} {n : Nat} {xs : List Value} (h : w.ownsRow base e size v n xs) (ha : Apart X w w') (hx : ∀ k, base ≤ k → ¬ X k) : w'.ownsRow base e size v n xs := by
  refine ⟨h.1, ?_⟩
  rcases h.2 with hn | ⟨g, cap, cur, rfl, hg, hh, r⟩
  · exact .inl hn
  · exact .inr ⟨g, cap, cur, rfl, hg, ha.heap hh (hx g hg), r⟩
theorem ownsRow_base {w : World} {base base' : Nat} {e : TypeId} {size : Nat} {v : Value} {n : Nat} {xs : List Value} (h : w.ownsRow base e size v n xs) (hb : base' ≤ base) : w.ownsRow base' e size v n xs := by
  refine ⟨h.1, ?_⟩
  rcases h.2 with hn | ⟨g, cap, cur, rfl, hg, hh, r⟩
  · exact .inl hn
  · exact .inr ⟨g, cap, cur, rfl, by omega, hh, r⟩
theorem ownsRow_slice {w : World} {base : Nat} {e : TypeId} {size : Nat} {v : Value} {n : Nat} {xs : List Value} (h : w.ownsRow base e size v n xs) : ∃ a c, v = .slice a n c := by
  rcases h.2 with ⟨rfl, rfl⟩ | ⟨g, cap, cur, rfl, _⟩
  · exact ⟨none, 0, rfl⟩
  · exact ⟨_, _, rfl⟩
theorem own_empty (w : World) (base : Nat) (e : TypeId) (size : Nat) (hb : base ≤ w.heap.size) : (w.alloc (.cells #[] e)).ownsRow base e size (.slice (some ⟨w.heap.size, 0, none⟩) 0 0) 0 [] :=
  ⟨by simp, .inr ⟨w.heap.size, 0, #[], rfl, hb, heap_alloc_new _ _, Nat.le_refl _, by unfold maxLen; omega, by simp, by simp⟩⟩
theorem ownsRow_apart2 {w w' : World} {X : Nat → Prop} {base : Nat} {e : TypeId} {size : Nat} {v : Value} {n : Nat} {xs : List Value} (h : w.ownsRow base e size v n xs) (ha : Apart X w w') (hx : ∀ k, v.ownBlock = some k → ¬ X k) : w'.ownsRow base e size v n xs := by
  refine ⟨h.1, ?_⟩
  rcases h.2 with hn | ⟨g, cap, cur, rfl, hg, hh, r⟩
  · exact .inl hn
  · exact .inr ⟨g, cap, cur, rfl, hg, ha.heap hh (hx g rfl), r⟩
theorem ownsRow_below {w w' : World} {B base : Nat} {e : TypeId} {size : Nat} {v : Value} {n : Nat} {xs : List Value} (h : w.ownsRow base e size v n xs) (ha : Below B w w') (hx : ∀ k, v.ownBlock = some k → k < B) : w'.ownsRow base e size v n xs := by
  refine ⟨h.1, ?_⟩
  rcases h.2 with hn | ⟨g, cap, cur, rfl, hg, hh, r⟩
  · exact .inl hn
  · exact .inr ⟨g, cap, cur, rfl, hg, (ha.block g (hx g rfl)).trans hh, r⟩
theorem ap_set (w : World) (b o : Nat) (v : Value) : Apart (· = b) w (w.setCell ⟨b, o, none⟩ v) := Apart.setCell (X := (· = b)) (p := ⟨b, o, none⟩) (Apart.refl _ _) (fun _ => rfl) _
/-- A block that is none of a writer's. -/
structure Bx (o : Obj) (w : World) (bx b : Nat) (v : Value) : Prop where
  heap : w.heap[bx]? = some o
  ne : bx ≠ b
  own : v.ownBlock ≠ some bx
theorem Bx.next {o : Obj} {w w' : World} {bx b : Nat} {v v' : Value} (h : Bx o w bx b v) (t : Tch b v v' w w') : Bx o w' bx b v' := by
  refine ⟨t.ap.heap h.heap ?_, h.ne, fun e => ?_⟩
  · rintro (e | e)
    · exact h.ne e
    · exact h.own e
  · rcases t.own bx e with e | e
    · exact h.own e
    · have := lt_of_heap h.heap; omega
theorem Bx.new {w : World} {b : Nat} {v : Value} {T : TypeId} {l : List Bool} (h : Wr T w b v l) (o : Obj) : Bx o (w.alloc o) w.heap.size b v :=
  ⟨heap_alloc_new _ _, by have := h.lt; omega, fun e => by have := h.ownlt _ e; omega⟩
theorem wr_alloc {T : TypeId} {w : World} {b : Nat} {v : Value} {l : List Bool} (h : Wr T w b v l) (o : Obj) : Wr T (w.alloc o) b v l := h.kept ((Apart.refl (fun _ => False) w).alloc o) (fun h => h) (fun _ _ h => h)
theorem tch_alloc (b : Nat) (v : Value) (w : World) (o : Obj) : Tch b v v w (w.alloc o) := ⟨(Apart.refl _ w).alloc o, fun _ h => .inl h⟩
theorem get_fit (b : Nat) (s : ByteArray) (hs : s.size ≤ 1000000) (p : Nat) (n : Int) (m : Nat) (e : n = m) (h1 : m ≤ 32) (h2 : p + m ≤ 8 * s.size) (w : World) (h : Rd 143 w b s (some p)) :
    Calls Tryz.prog 58 #[.pointer (some ⟨b, 0, none⟩), .int .i64 n] w fun e w' => e = .returned (.int .u32 (gv s p m)) ∧ Rd 143 w' b s (some (p + m)) ∧ Apart (· = b) w w' := by
  subst e
  exact get_ok b s hs p m h1 h2 w h
theorem rget_fit (b : Nat) (s : ByteArray) (hs : s.size ≤ 1000000) (p : Nat) (n : Int) (m : Nat) (e : n = m) (h1 : m ≤ 32) (h2 : p + m ≤ 8 * s.size) (w : World) (h : Rd 136 w b s (some p)) :
    Calls Tryz.prog 44 #[.pointer (some ⟨b, 0, none⟩), .int .i64 n] w fun e w' => e = .returned (.int .u32 (gv s p m)) ∧ Rd 136 w' b s (some (p + m)) ∧ Apart (· = b) w w' := by
  subst e
  exact rget_ok b s hs p m h1 h2 w h
theorem rleft_at (b : Nat) (s : ByteArray) (hs : s.size ≤ 1000000) (p : Nat) (w : World) (h : Rd 136 w b s (some p)) (L : Int) (hL : 8 * (s.size : Int) - p = L) :
    Calls Tryz.prog 45 #[.pointer (some ⟨b, 0, none⟩)] w fun e w' => e = .returned (.int .i64 L) ∧ ∃ n, w' = w.drewN n := by
  have := rleft_any b s hs (some p) w h
  have e : gleft s (some p) = L := hL
  rw [e] at this
  exact this
end Go.Proofs.YtdhbakknplnnkaaGreat.Tw
namespace Go.Proofs.YtdhbakknplnnkaaGreat.Tw

/-- A report. -/
structure Rp where
  sd : Int
  md : Int
  fi : Int
  ba : Int
  co : Int
  st : List Int
  dl : List Int
def Rp.none : Rp := ⟨0, 0, 0, 0, 0, [], []⟩

/-! ### Whether it may be -/
def dOk (s d : Int) : Bool := if s = 1 then decide (0 ≤ d) && decide (d ≤ 255) else if s = 2 then decide (-32768 ≤ d) && decide (d ≤ 32767) else false
def mat : List Int → List Int → Bool
  | [], d => d.isEmpty
  | s :: st, d => if s = 0 then mat st d else match d with
    | [] => false
    | x :: d' => dOk s x && mat st d'
def goodR (r : Rp) : Bool :=
  decide (0 ≤ r.fi ∧ r.fi ≤ 65535) && decide (-8388608 ≤ r.ba ∧ r.ba ≤ 8388607) && decide (0 ≤ r.co ∧ r.co ≤ 255) && decide (1 ≤ r.st.length ∧ r.st.length ≤ 4096) && mat r.st r.dl
theorem goodR_iff {r : Rp} : goodR r = true ↔ (0 ≤ r.fi ∧ r.fi ≤ 65535) ∧ (-8388608 ≤ r.ba ∧ r.ba ≤ 8388607) ∧ (0 ≤ r.co ∧ r.co ≤ 255) ∧ (1 ≤ r.st.length ∧ r.st.length ≤ 4096) ∧ mat r.st r.dl = true := by
  simp only [goodR, Bool.and_eq_true, decide_eq_true_eq, and_assoc]
theorem mat_012 {st dl : List Int} (h : mat st dl = true) : ∀ s ∈ st, 0 ≤ s ∧ s ≤ 2 := by
  induction st generalizing dl with
  | nil => intro s hs; cases hs
  | cons a st ih =>
    intro s hs
    unfold mat at h
    by_cases ha : a = 0
    · rw [if_pos ha] at h
      rcases List.mem_cons.1 hs with rfl | hs
      · omega
      · exact ih h s hs
    · rw [if_neg ha] at h
      cases dl with
      | nil => cases h
      | cons x dl =>
        simp only [Bool.and_eq_true] at h
        rcases List.mem_cons.1 hs with rfl | hs
        · have := h.1
          unfold dOk at this
          split at this
          · omega
          · split at this
            · omega
            · cases this
        · exact ih h.2 s hs

/-! ### Its body -/
def cnt (s : Int) : List Int → Nat
  | [] => 0
  | x :: l => if x = s then cnt s l + 1 else 0
/-- How many are like the first one. -/
def alk (l : List Int) : Nat := cnt (l.getD 0 0) l
theorem cnt_le (s : Int) (l : List Int) : cnt s l ≤ l.length := by
  induction l with
  | nil => simp [cnt]
  | cons x l ih => unfold cnt; split <;> simp <;> omega
theorem cnt_take (s : Int) (l : List Int) : l.take (cnt s l) = List.replicate (cnt s l) s := by
  induction l with
  | nil => simp [cnt]
  | cons x l ih =>
    unfold cnt
    split
    · rename_i h; subst h; rw [List.take_succ_cons, ih, List.replicate_succ]
    · simp
theorem alk_pos {l : List Int} (h : 0 < l.length) : 0 < alk l := by
  cases l with
  | nil => simp at h
  | cons x l => simp [alk, cnt]
theorem alk_le (l : List Int) : alk l ≤ l.length := cnt_le _ _
def rowB (k : Nat) : List Int → List Bool
  | [] => []
  | x :: l => bitsOf x.toNat k ++ rowB k l
@[simp] theorem rowB_len (k : Nat) (l : List Int) : (rowB k l).length = k * l.length := by
  induction l with
  | nil => simp [rowB]
  | cons x l ih => simp [rowB, ih, Nat.mul_add]; omega
theorem rowB_app (k : Nat) (l r : List Int) : rowB k (l ++ r) = rowB k l ++ rowB k r := by
  induction l with
  | nil => rfl
  | cons x l ih => simp [rowB, ih]
/-- Which chunk the next one is: 0 a run, 1 a row of 14, 2 a row of 7. -/
def kind (l : List Int) : Nat := if min 7 l.length ≤ alk l then 0 else if (l.take 14).contains 2 then 2 else 1
/-- Of how many Status it tells. -/
def ckN (l : List Int) : Nat := if kind l = 0 then alk l else if kind l = 1 then min 14 l.length else min 7 l.length
def runB (l : List Int) : List Bool := bitsOf 0 1 ++ bitsOf (l.getD 0 0).toNat 2 ++ bitsOf (alk l) 13
def longB (l : List Int) : List Bool := bitsOf 1 1 ++ bitsOf 0 1 ++ rowB 1 (l.take 14) ++ bitsOf 0 (14 - min 14 l.length)
def shortB (l : List Int) : List Bool := bitsOf 1 1 ++ bitsOf 1 1 ++ rowB 2 (l.take 7) ++ bitsOf 0 (14 - 2 * min 7 l.length)
def ckB (l : List Int) : List Bool := if kind l = 0 then runB l else if kind l = 1 then longB l else shortB l
theorem kind_le (l : List Int) : kind l ≤ 2 := by unfold kind; split; omega; split <;> omega
theorem ckN_pos {l : List Int} (h : 0 < l.length) : 0 < ckN l := by
  have := alk_pos h
  unfold ckN; split
  · exact this
  · split <;> omega
theorem ckN_le (l : List Int) : ckN l ≤ l.length := by
  have := alk_le l
  unfold ckN; split
  · exact this
  · split <;> omega
theorem ckN_7 {l : List Int} : 7 ≤ ckN l ∨ ckN l = l.length := by
  have h := alk_le l
  unfold ckN
  split
  · rename_i h0
    unfold kind at h0
    split at h0
    · omega
    · split at h0 <;> omega
  · split <;> omega
@[simp] theorem ckB_len (l : List Int) : (ckB l).length = 16 := by
  unfold ckB runB longB shortB
  split
  · simp
  · split <;> simp <;> omega
def chs : Nat → List Int → List Bool
  | 0, _ => []
  | f + 1, l => if l.length = 0 then [] else ckB l ++ chs f (l.drop (ckN l))
theorem chs_nil (f : Nat) : chs f [] = [] := by cases f <;> simp [chs]
theorem chs_cons (f : Nat) (l : List Int) (h : 0 < l.length) : chs (f + 1) l = ckB l ++ chs f (l.drop (ckN l)) := by
  rw [chs, if_neg (by omega)]
theorem chs_same (f g : Nat) (l : List Int) (hf : l.length ≤ f) (hg : l.length ≤ g) : chs f l = chs g l := by
  induction f generalizing g l with
  | zero => obtain rfl := List.eq_nil_of_length_eq_zero (by omega : l.length = 0); rw [chs_nil, chs_nil]
  | succ f ih =>
    by_cases h : l.length = 0
    · obtain rfl := List.eq_nil_of_length_eq_zero h; rw [chs_nil, chs_nil]
    · cases g with
      | zero => omega
      | succ g =>
        have := ckN_pos (l := l) (by omega)
        rw [chs_cons _ _ (by omega), chs_cons _ _ (by omega), ih g _ (by simp; omega) (by simp; omega)]
/-- All chunks. -/
def chB (l : List Int) : List Bool := chs l.length l
theorem chB_nil : chB [] = [] := rfl
theorem chB_cons {l : List Int} (h : 0 < l.length) : chB l = ckB l ++ chB (l.drop (ckN l)) := by
  obtain ⟨n, hn⟩ : ∃ n, l.length = n + 1 := ⟨l.length - 1, by omega⟩
  have := ckN_pos h
  unfold chB
  rw [hn, chs_cons _ _ h, chs_same n (l.drop (ckN l)).length _ (by simp; omega) (Nat.le_refl _)]
theorem chs_len (f : Nat) (l : List Int) : (chs f l).length % 16 = 0 ∧ (chs f l).length ≤ 16 * ((l.length + 6) / 7) ∧ (0 < f → 0 < l.length → 16 ≤ (chs f l).length) := by
  induction f generalizing l with
  | zero => simp [chs]
  | succ f ih =>
    by_cases h : l.length = 0
    · obtain rfl := List.eq_nil_of_length_eq_zero h; simp [chs]
    · rw [chs_cons _ _ (by omega)]
      obtain ⟨i0, i1, _⟩ := ih (l.drop (ckN l))
      have h7 := ckN_7 (l := l)
      have hl := ckN_le l
      simp only [List.length_append, ckB_len, List.length_drop] at *
      refine ⟨by omega, ?_, fun _ _ => by omega⟩
      rcases h7 with h7 | h7
      · omega
      · omega
theorem chB_len (l : List Int) : (chB l).length % 16 = 0 ∧ (chB l).length ≤ 16 * ((l.length + 6) / 7) ∧ (0 < l.length → 16 ≤ (chB l).length) := by
  obtain ⟨a, b, c⟩ := chs_len l.length l
  exact ⟨a, b, fun h => c h h⟩
/-- A number as so many bits have it. -/
def u32 (x : Int) : Nat := (x % 4294967296).toNat
theorem u32_lt (x : Int) : u32 x < 4294967296 := by unfold u32; omega
def dW (s : Int) : Nat := if s = 1 then 8 else 16
def dls : List Int → List Int → List Bool
  | [], _ => []
  | s :: st, d => if s = 0 then dls st d else match d with
    | [] => []
    | x :: d' => bitsOf (u32 x) (dW s) ++ dls st d'
def sumL : List Int → Int
  | [] => 0
  | x :: l => x + sumL l
theorem dls_len {st dl : List Int} (h : mat st dl = true) : ((dls st dl).length : Int) = 8 * sumL st := by
  induction st generalizing dl with
  | nil => simp [dls, sumL]
  | cons s st ih =>
    unfold mat at h
    unfold dls sumL
    by_cases hs : s = 0
    · rw [if_pos hs] at h ⊢; rw [ih h]; omega
    · rw [if_neg hs] at h ⊢
      cases dl with
      | nil => cases h
      | cons x dl =>
        simp only [Bool.and_eq_true] at h
        have := ih h.2
        have h1 := h.1
        simp only [List.length_append, bitsOf_len]
        unfold dOk at h1
        unfold dW
        split at h1
        · rename_i h2; subst h2; rw [if_pos rfl]; omega
        · rename_i h2
          split at h1
          · rw [if_neg h2]; omega
          · cases h1
theorem sumL_bd {st : List Int} (h : ∀ s ∈ st, 0 ≤ s ∧ s ≤ 2) : 0 ≤ sumL st ∧ sumL st ≤ 2 * st.length := by
  induction st with
  | nil => simp [sumL]
  | cons s st ih =>
    have h1 := h s (List.mem_cons_self)
    have := ih fun x hx => h x (List.mem_cons_of_mem _ hx)
    simp only [sumL, List.length_cons]
    omega
def hdB (r : Rp) : List Bool := bitsOf r.sd.toNat 32 ++ bitsOf r.md.toNat 32 ++ bitsOf r.fi.toNat 16 ++ bitsOf r.st.length 16 ++ bitsOf (u32 r.ba) 24 ++ bitsOf r.co.toNat 8
@[simp] theorem hdB_len (r : Rp) : (hdB r).length = 128 := by simp [hdB]
/-- Its body's bits, ahead of what fills up. -/
def bodyB (r : Rp) : List Bool := hdB r ++ chB r.st ++ dls r.st r.dl
def encL (r : Rp) : List Bool := bodyB r ++ bitsOf 0 ((32 - (bodyB r).length % 32) % 32)
def encE (r : Rp) : Int := if goodR r then 0 else 1
def encS (r : Rp) : ByteArray := if goodR r then packS (encL r) else ⟨#[]⟩
theorem bodyB_len {r : Rp} (h : goodR r = true) : ((bodyB r).length : Int) = 128 + (chB r.st).length + 8 * sumL r.st ∧ (bodyB r).length ≤ 128 + 16 * 586 + 16 * 4096 ∧ (bodyB r).length % 8 = 0 := by
  obtain ⟨_, _, _, ⟨h1, h2⟩, h3⟩ := goodR_iff.1 h
  have a := dls_len h3
  have b := sumL_bd (mat_012 h3)
  obtain ⟨c0, c1, _⟩ := chB_len r.st
  unfold bodyB
  simp only [List.length_append, hdB_len]
  omega

/-! ### What a body tells -/
def sg (v : Nat) (b : Nat) : Int := if v < 2 ^ (b - 1) then (v : Int) else (v : Int) - (2 ^ b : Nat)
def rowV (s : ByteArray) (p k size : Nat) : List Int := (List.range size).map fun i => (gv s (p + k * i) k : Int)
@[simp] theorem rowV_len (s : ByteArray) (p k size : Nat) : (rowV s p k size).length = size := by simp [rowV]
def rowOk (l : List Int) (n : Nat) : Bool := l.all (fun x => decide (x ≤ 2)) && (l.drop n).all (fun x => decide (x = 0))
def rowD (s : ByteArray) (p k size n : Nat) : Option (List Int) := if rowOk (rowV s p k size) n then some ((rowV s p k size).take n) else none
def runD (s : ByteArray) (p n : Nat) : Option (List Int) := if gv s p 2 = 3 ∨ gv s (p + 2) 13 = 0 then none else some (List.replicate (min (gv s (p + 2) 13) n) (gv s p 2 : Int))
def ckD (s : ByteArray) (p n : Nat) : Option (List Int) := if gv s p 1 = 0 then runD s (p + 1) n else if gv s (p + 1) 1 = 0 then rowD s (p + 2) 1 14 n else rowD s (p + 2) 2 7 n
structure Rs where
  e : Int
  l : List Int
  p : Nat
def stD (s : ByteArray) : Nat → Nat → Nat → Rs
  | 0, p, _ => ⟨0, [], p⟩
  | f + 1, p, n => if n = 0 then ⟨0, [], p⟩ else if 8 * s.size < p + 16 then ⟨60, [], p⟩ else match ckD s p n with
    | none => ⟨100, [], p⟩
    | some l => ⟨(stD s f (p + 16) (n - l.length)).e, l ++ (stD s f (p + 16) (n - l.length)).l, (stD s f (p + 16) (n - l.length)).p⟩
def dV (s : ByteArray) (p : Nat) (x : Int) : Int := if x = 1 then (gv s p 8 : Int) else sg (gv s p 16) 16
def dlD (s : ByteArray) : Nat → List Int → Rs
  | p, [] => ⟨0, [], p⟩
  | p, x :: st => if x = 0 then dlD s p st else if 8 * s.size < p + dW x then ⟨60, [], p⟩ else ⟨(dlD s (p + dW x) st).e, dV s p x :: (dlD s (p + dW x) st).l, (dlD s (p + dW x) st).p⟩
def padE (s : ByteArray) (p : Nat) : Int := if 32 ≤ 8 * s.size - p ∨ gv s p (8 * s.size - p) ≠ 0 then 91 else 0
def lenE (n : Nat) : Int := if 65536 < n then 2 else if n % 4 ≠ 0 then 90 else if n < 16 then 60 else 0
def manyE (n : Nat) : Int := if n = 0 then 90 else if 4096 < n then 3 else 0
def nS (s : ByteArray) : Nat := gv s 80 16
def stR (s : ByteArray) : Rs := stD s (nS s) 128 (nS s)
def dlR (s : ByteArray) : Rs := dlD s (stR s).p (stR s).l
def decE (s : ByteArray) : Int := if lenE s.size ≠ 0 then lenE s.size else if manyE (nS s) ≠ 0 then manyE (nS s) else if (stR s).e ≠ 0 then (stR s).e else if (dlR s).e ≠ 0 then (dlR s).e else padE s (dlR s).p
def decG (s : ByteArray) : Rp := ⟨gv s 0 32, gv s 32 32, gv s 64 16, sg (gv s 96 24) 24, gv s 120 8, (stR s).l, (dlR s).l⟩
def decR (s : ByteArray) : Rp := if decE s = 0 then decG s else Rp.none

theorem rowD_len {s : ByteArray} {p k size n : Nat} {l : List Int} (h : rowD s p k size n = some l) : l.length = min n size ∧ ∀ x ∈ l, 0 ≤ x ∧ x ≤ 2 := by
  unfold rowD at h
  split at h
  · rename_i ho
    simp only [Option.some.injEq] at h
    subst h
    refine ⟨by simp, fun x hx => ?_⟩
    have hm := List.mem_of_mem_take hx
    unfold rowOk at ho
    simp only [Bool.and_eq_true, List.all_eq_true, decide_eq_true_eq] at ho
    refine ⟨?_, ho.1 x hm⟩
    simp only [rowV, List.mem_map] at hm
    obtain ⟨i, _, rfl⟩ := hm
    omega
  · cases h
theorem ckD_len {s : ByteArray} {p n : Nat} {l : List Int} (h : ckD s p n = some l) (hn : 0 < n) : 0 < l.length ∧ l.length ≤ n ∧ ∀ x ∈ l, 0 ≤ x ∧ x ≤ 2 := by
  unfold ckD at h
  split at h
  · unfold runD at h
    split at h
    · cases h
    · rename_i h1
      simp only [Option.some.injEq] at h
      subst h
      have := gv_lt s (p + 1) 2
      refine ⟨by simp; omega, by simp; omega, fun x hx => ?_⟩
      obtain rfl := (List.mem_replicate.1 hx).2
      omega
  · split at h
    · obtain ⟨a, b⟩ := rowD_len h; exact ⟨by omega, by omega, b⟩
    · obtain ⟨a, b⟩ := rowD_len h; exact ⟨by omega, by omega, b⟩
theorem stD_same (s : ByteArray) (f g p n : Nat) (hf : n ≤ f) (hg : n ≤ g) : stD s f p n = stD s g p n := by
  induction f generalizing g p n with
  | zero =>
    obtain rfl : n = 0 := by omega
    cases g <;> simp [stD]
  | succ f ih =>
    cases g with
    | zero => obtain rfl : n = 0 := by omega
              simp [stD]
    | succ g =>
      unfold stD
      by_cases hn : n = 0
      · rw [if_pos hn, if_pos hn]
      · rw [if_neg hn, if_neg hn]
        split
        · rfl
        · cases hc : ckD s p n with
          | none => rfl
          | some l =>
            have := ckD_len hc (by omega)
            simp only [ih g (p + 16) (n - l.length) (by omega) (by omega)]
theorem stD_good (s : ByteArray) (f p n : Nat) (hf : n ≤ f) (h : (stD s f p n).e = 0) : (stD s f p n).l.length = n ∧ ∀ x ∈ (stD s f p n).l, 0 ≤ x ∧ x ≤ 2 := by
  induction f generalizing p n with
  | zero => obtain rfl : n = 0 := by omega
            simp [stD]
  | succ f ih =>
    unfold stD at h ⊢
    by_cases hn : n = 0
    · rw [if_pos hn]; subst hn; simp
    · rw [if_neg hn] at h ⊢
      split
      · rename_i h1; rw [if_pos h1] at h; cases h
      · rename_i h1; rw [if_neg h1] at h
        cases hc : ckD s p n with
        | none => rw [hc] at h; cases h
        | some l =>
          obtain ⟨a, b, c⟩ := ckD_len hc (by omega)
          rw [hc] at h
          simp only at h ⊢
          obtain ⟨d, e⟩ := ih (p + 16) (n - l.length) (by omega) h
          refine ⟨by simp [d]; omega, fun x hx => ?_⟩
          rcases List.mem_append.1 hx with hx | hx
          · exact c x hx
          · exact e x hx
theorem sg_bd (v b : Nat) (hb : 0 < b) (h : v < 2 ^ b) : -(2 ^ (b - 1) : Nat) ≤ sg v b ∧ sg v b ≤ (2 ^ (b - 1) : Nat) - 1 := by
  have e : 2 ^ b = 2 * 2 ^ (b - 1) := by
    rw [← Nat.pow_succ']; congr 1; omega
  unfold sg
  split <;> omega
theorem dlD_good (s : ByteArray) (p : Nat) (st : List Int) (hs : ∀ x ∈ st, 0 ≤ x ∧ x ≤ 2) (h : (dlD s p st).e = 0) : mat st (dlD s p st).l = true := by
  induction st generalizing p with
  | nil => simp [dlD, mat]
  | cons x st ih =>
    unfold dlD at h ⊢
    unfold mat
    have hx := hs x (List.mem_cons_self)
    by_cases h0 : x = 0
    · rw [if_pos h0] at h ⊢
      rw [if_pos h0]
      exact ih p (fun y hy => hs y (List.mem_cons_of_mem _ hy)) h
    · rw [if_neg h0] at h ⊢
      rw [if_neg h0]
      by_cases h1 : 8 * s.size < p + dW x
      · rw [if_pos h1] at h; cases h
      · rw [if_neg h1] at h ⊢
        simp only at h ⊢
        rw [ih _ (fun y hy => hs y (List.mem_cons_of_mem _ hy)) h, Bool.and_true]
        unfold dOk dV
        by_cases hx1 : x = 1
        · have := gv_lt s p 8
          rw [if_pos hx1, if_pos hx1]; simp; omega
        · have := sg_bd _ 16 (by omega) (gv_lt s p 16)
          rw [if_neg hx1, if_neg hx1, if_pos (by omega)]; simp at this ⊢; omega
theorem decE_zero {s : ByteArray} (h : decE s = 0) : lenE s.size = 0 ∧ manyE (nS s) = 0 ∧ (stR s).e = 0 ∧ (dlR s).e = 0 ∧ padE s (dlR s).p = 0 := by
  unfold decE at h
  by_cases h0 : lenE s.size = 0
  · rw [if_neg (by simpa using h0)] at h
    by_cases h1 : manyE (nS s) = 0
    · rw [if_neg (by simpa using h1)] at h
      by_cases h2 : (stR s).e = 0
      · rw [if_neg (by simpa using h2)] at h
        by_cases h3 : (dlR s).e = 0
        · rw [if_neg (by simpa using h3)] at h
          exact ⟨h0, h1, h2, h3, h⟩
        · rw [if_pos h3] at h; exact absurd h h3
      · rw [if_pos h2] at h; exact absurd h h2
    · rw [if_pos h1] at h; exact absurd h h1
  · rw [if_pos h0] at h; exact absurd h h0
theorem dec_good {s : ByteArray} (h : decE s = 0) : goodR (decR s) = true ∧ 0 ≤ (decR s).sd ∧ (decR s).sd < 4294967296 ∧ 0 ≤ (decR s).md ∧ (decR s).md < 4294967296 := by
  obtain ⟨h0, h1, h2, h3, _⟩ := decE_zero h
  obtain ⟨a, b⟩ := stD_good s (nS s) 128 (nS s) (Nat.le_refl _) h2
  have c := dlD_good s (stR s).p (stR s).l b h3
  have hn : nS s ≠ 0 ∧ nS s ≤ 4096 := by
    unfold manyE at h1
    split at h1
    · cases h1
    · split at h1
      · cases h1
      · omega
  unfold decR
  rw [if_pos h]
  have g0 := gv_lt s 0 32
  have g1 := gv_lt s 32 32
  have g2 := gv_lt s 64 16
  have g3 := sg_bd _ 24 (by omega) (gv_lt s 96 24)
  have g4 := gv_lt s 120 8
  simp at g0 g1 g2 g3 g4
  refine ⟨goodR_iff.2 ⟨?_, ?_, ?_, ?_, c⟩, ?_⟩
  · simp only [decG]; omega
  · simp only [decG]; omega
  · simp only [decG]; omega
  · have : (stR s).l.length = nS s := a
    simp only [decG]; omega
  · simp only [decG]; omega
end Go.Proofs.YtdhbakknplnnkaaGreat.Tw
namespace Go.Proofs.YtdhbakknplnnkaaGreat.Tw
open Go.RowKit

/-- A list of numbers, in a block below B. -/
def IA (B : Nat) (w : World) (a : Option Addr) (c : Nat) (l : List Int) : Prop :=
  l.length ≤ c ∧ c ≤ maxLen ∧ (l = [] ∨ ∃ b off, a = some ⟨b, off, none⟩ ∧ b < B ∧ ∀ i x, l[i]? = some x → w.cell? ⟨b, off + i, none⟩ = some (.int .i64 x))
theorem IA.kept {B : Nat} {w w' : World} {a : Option Addr} {c : Nat} {l : List Int} (h : IA B w a c l) (hb : Below B w w') : IA B w' a c l := by
  refine ⟨h.1, h.2.1, ?_⟩
  rcases h.2.2 with h0 | ⟨b, off, ha, hl, hc⟩
  · exact .inl h0
  · exact .inr ⟨b, off, ha, hl, fun i x hi => by rw [hb.cell (p := ⟨b, off + i, none⟩) hl]; exact hc i x hi⟩
theorem IA.up {B B' : Nat} {w : World} {a : Option Addr} {c : Nat} {l : List Int} (h : IA B w a c l) (hb : B ≤ B') : IA B' w a c l := by
  refine ⟨h.1, h.2.1, ?_⟩
  rcases h.2.2 with h0 | ⟨b, off, ha, hl, hc⟩
  · exact .inl h0
  · exact .inr ⟨b, off, ha, by omega, hc⟩
theorem IA.on {w w' : World} {a : Option Addr} {c : Nat} {l : List Int} (h : IA w.heap.size w a c l) (hb : Below w.heap.size w w') : IA w'.heap.size w' a c l := (h.kept hb).up hb.size
theorem IA.at {B : Nat} {w : World} {a : Option Addr} {c : Nat} {l : List Int} (h : IA B w a c l) (i : Nat) (hi : i < l.length) : ∃ b off x, a = some ⟨b, off, none⟩ ∧ b < B ∧ l[i]? = some x ∧ w.cell? ⟨b, off + i, none⟩ = some (.int .i64 x) := by
  rcases h.2.2 with h0 | ⟨b, off, ha, hl, hc⟩
  · subst h0; simp at hi
  · exact ⟨b, off, l[i], ha, hl, List.getElem?_eq_getElem hi, hc i _ (List.getElem?_eq_getElem hi)⟩
theorem IA.drop {B : Nat} {w : World} {b off c : Nat} {l : List Int} (h : IA B w (some ⟨b, off, none⟩) c l) (k : Nat) (hk : k ≤ c) : IA B w (some ⟨b, off + k, none⟩) (c - k) (l.drop k) := by
  refine ⟨by have := h.1; simp; omega, by have := h.2.1; omega, ?_⟩
  rcases h.2.2 with h0 | ⟨b', off', ha, hl, hc⟩
  · left; subst h0; simp
  · simp only [Option.some.injEq, Addr.mk.injEq, and_true] at ha
    obtain ⟨rfl, rfl⟩ := ha
    refine .inr ⟨b, off + k, rfl, hl, fun i x hi => ?_⟩
    rw [List.getElem?_drop] at hi
    rw [Nat.add_assoc]
    exact hc _ x hi
theorem IA.tail {B : Nat} {w : World} {b off c : Nat} {l : List Int} (h : IA B w (some ⟨b, off, none⟩) c l) (k : Nat) (hk : k ≤ c) : IA B w (if c = k then some ⟨b, off, none⟩ else some ⟨b, off + k, none⟩) (c - k) (l.drop k) := by
  split
  · rename_i e
    have h1 := h.1
    rw [List.drop_of_length_le (by omega)]
    exact ⟨Nat.zero_le _, by have := h.2.1; omega, .inl rfl⟩
  · exact h.drop k hk
theorem IA.take {B : Nat} {w : World} {a : Option Addr} {c : Nat} {l : List Int} (h : IA B w a c l) (k : Nat) : IA B w a c (l.take k) := by
  refine ⟨by have := h.1; simp; omega, h.2.1, ?_⟩
  rcases h.2.2 with h0 | ⟨b, off, ha, hl, hc⟩
  · left; subst h0; simp
  · refine .inr ⟨b, off, ha, hl, fun i x hi => hc i x ?_⟩
    rw [List.getElem?_take] at hi
    split at hi
    · exact hi
    · cases hi
theorem IA.nil (B : Nat) (w : World) (a : Option Addr) (c : Nat) (hc : c ≤ maxLen) : IA B w a c [] := ⟨Nat.zero_le _, hc, .inl rfl⟩
theorem IA.len {B : Nat} {w : World} {a : Option Addr} {c : Nat} {l : List Int} (h : IA B w a c l) : (l.length : Int) ≤ 9223372036854775807 := by
  have h1 := h.1
  have h2 := h.2.1
  unfold maxLen at h2
  omega
/-- A report as a value. -/
def rv (r : Rp) (a : Option Addr) (n c : Nat) (a' : Option Addr) (n' c' : Nat) : Value := .agg #[.int .u32 r.sd, .int .u32 r.md, .int .i64 r.fi, .int .i64 r.ba, .int .i64 r.co, .slice a n c, .slice a' n' c']
theorem cells7 {w : World} {b : Nat} {v0 v1 v2 v3 v4 v5 v6 : Value} {T : TypeId} (h : w.heap[b]? = some (.cells #[v0, v1, v2, v3, v4, v5, v6] T (0, 0))) :
    w.cell? ⟨b, 0, none⟩ = some v0 ∧ w.cell? ⟨b, 1, none⟩ = some v1 ∧ w.cell? ⟨b, 2, none⟩ = some v2 ∧ w.cell? ⟨b, 3, none⟩ = some v3 ∧ w.cell? ⟨b, 4, none⟩ = some v4 ∧ w.cell? ⟨b, 5, none⟩ = some v5 ∧ w.cell? ⟨b, 6, none⟩ = some v6 :=
  ⟨cell_of_row w b 0 _ T _ h, cell_of_row w b 1 _ T _ h, cell_of_row w b 2 _ T _ h, cell_of_row w b 3 _ T _ h, cell_of_row w b 4 _ T _ h, cell_of_row w b 5 _ T _ h, cell_of_row w b 6 _ T _ h⟩
theorem frozen7 {w : World} {b : Nat} {v0 v1 v2 v3 v4 v5 v6 : Value} {T : TypeId} (h : w.heap[b]? = some (.cells #[v0, v1, v2, v3, v4, v5, v6] T (0, 0))) :
    w.frozen? ⟨b, 0, none⟩ = false ∧ w.frozen? ⟨b, 1, none⟩ = false ∧ w.frozen? ⟨b, 2, none⟩ = false ∧ w.frozen? ⟨b, 3, none⟩ = false ∧ w.frozen? ⟨b, 4, none⟩ = false ∧ w.frozen? ⟨b, 5, none⟩ = false ∧ w.frozen? ⟨b, 6, none⟩ = false :=
  ⟨frozen_of_row w b 0 _ T h, frozen_of_row w b 1 _ T h, frozen_of_row w b 2 _ T h, frozen_of_row w b 3 _ T h, frozen_of_row w b 4 _ T h, frozen_of_row w b 5 _ T h, frozen_of_row w b 6 _ T h⟩

def wi (n lo hi : Int) : Bool := decide (lo ≤ n) && decide (n ≤ hi)
theorem dOk_eq (s d : Int) : dOk s d = if s = 1 then wi d 0 255 else if s = 2 then wi d (-32768) 32767 else false := rfl
theorem drop_at {l : List Int} {i : Nat} {x : Int} (h : l[i]? = some x) : l.drop i = x :: l.drop (i + 1) := by
  obtain ⟨hi, rfl⟩ := List.getElem?_eq_some_iff.1 h
  exact List.drop_eq_getElem_cons hi
end Go.Proofs.YtdhbakknplnnkaaGreat.Tw
namespace Go.Proofs.YtdhbakknplnnkaaGreat.Tw
open Go.RowKit

theorem cnt_at {s : Int} {l : List Int} {k : Nat} {x : Int} (h : l[k]? = some x) : cnt s (l.drop k) = if x = s then cnt s (l.drop (k + 1)) + 1 else 0 := by
  rw [drop_at h, cnt]
end Go.Proofs.YtdhbakknplnnkaaGreat.Tw
namespace Go.Proofs.YtdhbakknplnnkaaGreat.Tw
open Go.RowKit

theorem tch_of {b : Nat} {v : Value} {w w' : World} (h : Apart (fun _ => False) w w') : Tch b v v w w' := ⟨h.mono (fun _ _ h => h.elim), fun _ h => .inl h⟩
theorem wr_of {T : TypeId} {w w' : World} {b : Nat} {v : Value} {l : List Bool} (h : Wr T w b v l) (ha : Apart (fun _ => False) w w') : Wr T w' b v l := h.kept ha (fun h => h) (fun _ _ h => h)
theorem rowB_take {k : Nat} {l : List Int} {i : Nat} {x : Int} (h : l[i]? = some x) : rowB k (l.take (i + 1)) = rowB k (l.take i) ++ bitsOf x.toNat k := by
  have hi : i < l.length := (List.getElem?_eq_some_iff.1 h).1
  rw [List.take_add_one, h, rowB_app]
  simp [rowB]
theorem align16 (L : List Bool) (P m : Nat) (h0 : P % 16 = 2) (h1 : L.length = P + m) (hm : m ≤ 14) (h2 : P + 14 ≤ 524288) : alignS L 16 = L ++ bitsOf 0 (14 - m) := by
  unfold alignS
  have e : (16 - (L.length : Int) % 16) % 16 = ((14 - m : Nat) : Int) := by omega
  rw [e, if_pos (by omega), Int.toNat_natCast]
end Go.Proofs.YtdhbakknplnnkaaGreat.Tw
namespace Go.Proofs.YtdhbakknplnnkaaGreat.Tw
open Go.RowKit

/-- What lays the next chunk. -/
def layF (l : List Int) : Nat := if kind l = 0 then 57 else if kind l = 1 then 59 else 60
theorem kind0 {l : List Int} : kind l = 0 ↔ min 7 l.length ≤ alk l := by
  unfold kind
  split
  · simp [*]
  · split <;> simp [*]
theorem deltabits_any (s : Int) (w : World) : Calls Tryz.prog 82 #[.int .i64 s] w fun e w' => e = .returned (.int .i64 (dW s : Nat)) ∧ w' = w := by
  unfold dW
  by_cases h : s = 1
  · rw [if_pos h]
    go_enter Tryz.func82, Tryz.ntmps82
    go_wp2
    go_ret
    exact ⟨rfl, rfl⟩
  · rw [if_neg h]
    go_enter Tryz.func82, Tryz.ntmps82
    go_wp2
    go_ret
    exact ⟨rfl, rfl⟩
end Go.Proofs.YtdhbakknplnnkaaGreat.Tw
namespace Go.Proofs.YtdhbakknplnnkaaGreat.Tw
open Go.RowKit

def slen : Value → Nat
  | .slice _ n _ => n
  | _ => 0
theorem frame17 (a : Act) (hs : a.tmps.size = 17) (hd : a.defers = []) : ∃ u : Nat → Value, (∀ i, a.tmps.getD i undef = u i) ∧ a = { tmps := #[u 0, u 1, u 2, u 3, u 4, u 5, u 6, u 7, u 8, u 9, u 10, u 11, u 12, u 13, u 14, u 15, u 16], defers := [] } := frame_of a 17 hs hd
theorem align32 (L : List Bool) (h2 : L.length + 32 ≤ 524288) : alignS L 32 = L ++ bitsOf 0 ((32 - L.length % 32) % 32) := by
  unfold alignS
  have e : (32 - (L.length : Int) % 32) % 32 = (((32 - L.length % 32) % 32 : Nat) : Int) := by omega
  rw [e, if_pos (by omega), Int.toNat_natCast]
theorem encE_no {r : Rp} (h : goodR r = false) : encE r = 1 ∧ encS r = ⟨#[]⟩ := by unfold encE encS; rw [h]; exact ⟨rfl, rfl⟩
theorem encE_yes {r : Rp} (h : goodR r = true) : encE r = 0 ∧ encS r = packS (encL r) := by unfold encE encS; rw [h]; exact ⟨rfl, rfl⟩
/-- What a call keeps of its own copy of a report and of the writer. -/
theorem ia_tch {b : Nat} {v v' : Value} {w w' : World} {L : List Bool} {a : Option Addr} {c : Nat} {l : List Int} (h : IA b w a c l) (t : Tch b v v' w w') (hw : Wr 73 w b v L) : IA b w' a c l := h.kept (t.below hw b (Nat.le_refl _))
end Go.Proofs.YtdhbakknplnnkaaGreat.Tw
