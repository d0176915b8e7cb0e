/-
  Bits as plain numbers: what stands in so many places of a row of bits, read as a number; bytes of a list of bits; what a piece of a byte is.
-/
import Derived.Below
import Derived.Test.YtdhbakknplnnkaaGreatRows
import Derived.WalkKit
import Derived.WalkSpells
import Derived.WalkLawsBesides
import Derived.Handy
import Derived.BigQuiet
import Derived.ScopeJumps
import Derived.WalkMore
import Derived.Laws.IdiomStrings
import Derived.BigRegion
import Derived.Deep.DeepCutAuto
import Derived.Deep.CutBlock
namespace Go.Proofs.YtdhbakknplnnkaaGreat.Cc

/-- The number that n bits from place p on make, the highest first. -/
def val (f : Nat → Nat) (p : Nat) : Nat → Nat
  | 0 => 0
  | n + 1 => 2 * val f p n + f (p + n)

theorem val_lt (f : Nat → Nat) (h : ∀ i, f i < 2) (p n : Nat) : val f p n < 2 ^ n := by
  induction n with
  | zero => simp [val]
  | succ n ih => have := h (p + n); rw [val, Nat.pow_succ]; omega

theorem val_add (f : Nat → Nat) (p n k : Nat) : val f p (n + k) = val f p n * 2 ^ k + val f (p + n) k := by
  induction k with
  | zero => simp [val]
  | succ k ih => rw [← Nat.add_assoc, val, ih, val, Nat.pow_succ, Nat.add_assoc p n k, Nat.mul_add, ← Nat.mul_assoc, Nat.mul_comm 2, Nat.mul_assoc, Nat.mul_comm 2 (2 ^ k)]; omega

theorem val_congr (f g : Nat → Nat) (p q n : Nat) (h : ∀ i, i < n → f (p + i) = g (q + i)) : val f p n = val g q n := by
  induction n with
  | zero => rfl
  | succ n ih => rw [val, val, ih fun i hi => h i (by omega), h n (by omega)]

theorem val_zero (f : Nat → Nat) (p n : Nat) (h : ∀ i, i < n → f (p + i) = 0) : val f p n = 0 := by
  induction n with
  | zero => rfl
  | succ n ih => rw [val, ih fun i hi => h i (by omega), h n (by omega)]

/-- A bit of eight. -/
theorem val_bit (f : Nat → Nat) (h : ∀ i, f i < 2) (p i : Nat) (hi : i < 8) : val f p 8 / 2 ^ (7 - i) % 2 = f (p + i) := by
  have e : val f p 8 = val f p (i + 1) * 2 ^ (7 - i) + val f (p + (i + 1)) (7 - i) := by
    rw [← val_add]; congr 1; omega
  have l := val_lt f h (p + (i + 1)) (7 - i)
  rw [e, Nat.mul_comm, Nat.mul_add_div (Nat.two_pow_pos _), Nat.div_eq_of_lt l, val]
  have := h (p + i); omega

/-- A bit of a text. -/
def bt (s : ByteArray) (i : Nat) : Nat := (s.data.toList.getD (i / 8) 0).toNat / 2 ^ (7 - i % 8) % 2
theorem bt_lt (s : ByteArray) (i : Nat) : bt s i < 2 := Nat.mod_lt _ (by decide)
/-- So many bits of a text from a place on, as a number. -/
def gv (s : ByteArray) (p n : Nat) : Nat := val (bt s) p n
theorem gv_lt (s : ByteArray) (p n : Nat) : gv s p n < 2 ^ n := val_lt _ (bt_lt s) _ _
theorem gv_add (s : ByteArray) (p n k : Nat) : gv s p (n + k) = gv s p n * 2 ^ k + gv s (p + n) k := val_add _ _ _ _

/-- Within a byte. -/
theorem val_byte (B f k : Nat) (h : f + k ≤ 8) : val (fun i => B / 2 ^ (7 - i) % 2) f k = B * 2 ^ f % 256 / 2 ^ (8 - k) := by
  have g : ∀ n, n ≤ k → val (fun i => B / 2 ^ (7 - i) % 2) f n = B / 2 ^ (8 - f - n) % 2 ^ n := by
    intro n hn
    induction n with
    | zero => simp [val, Nat.mod_one]
    | succ n ih =>
      rw [val, ih (by omega)]
      have e1 : 8 - f - n = (8 - f - (n + 1)) + 1 := by omega
      have e2 : 7 - (f + n) = 8 - f - (n + 1) := by omega
      simp only [e2]
      rw [e1, Nat.pow_succ, ← Nat.div_div_eq_div_mul, Nat.pow_succ 2 n, Nat.mul_comm (2 ^ n) 2, Nat.mod_mul]
      omega
  rw [g _ (Nat.le_refl _)]
  have e3 : (256 : Nat) = 2 ^ (8 - f) * 2 ^ f := by
    rw [← Nat.pow_add]
    have : 8 - f + f = 8 := by omega
    rw [this]
  rw [e3, Nat.mul_mod_mul_right]
  have e4 : 8 - k = (8 - f - k) + f := by omega
  rw [e4, Nat.pow_add, Nat.mul_comm (2 ^ (8 - f - k)), ← Nat.div_div_eq_div_mul, Nat.mul_div_cancel _ (Nat.two_pow_pos _)]
  have e5 : 2 ^ (8 - f) = 2 ^ (8 - f - k) * 2 ^ k := by rw [← Nat.pow_add]; congr 1; omega
  rw [e5, Nat.mod_mul_right_div_self]

theorem gv_piece (s : ByteArray) (p k : Nat) (h : p % 8 + k ≤ 8) :
    gv s p k = (s.data.toList.getD (p / 8) 0).toNat * 2 ^ (p % 8) % 256 / 2 ^ (8 - k) := by
  rw [← val_byte _ (p % 8) k h]
  refine val_congr _ _ _ _ _ fun i hi => ?_
  have e1 : (p + i) / 8 = p / 8 := by omega
  have e2 : (p + i) % 8 = p % 8 + i := by omega
  simp only [bt, e1, e2]

/-! ### Lists of bits -/
def lb (l : List Bool) (i : Nat) : Nat := (l.getD i false).toNat
theorem lb_lt (l : List Bool) (i : Nat) : lb l i < 2 := by unfold lb; cases l.getD i false <;> decide
/-- The lower n bits of c, the highest first. -/
def bitsOf (c : Nat) : Nat → List Bool
  | 0 => []
  | n + 1 => (c / 2 ^ n % 2 == 1) :: bitsOf c n
@[simp] theorem bitsOf_len (c n : Nat) : (bitsOf c n).length = n := by induction n with | zero => rfl | succ n ih => simp [bitsOf, ih]
theorem bitsOf_split (c k m : Nat) : bitsOf c (k + m) = bitsOf (c / 2 ^ m) k ++ bitsOf c m := by
  induction k with
  | zero => simp [bitsOf]
  | succ k ih =>
    have e : k + 1 + m = (k + m) + 1 := by omega
    rw [e, bitsOf, ih, bitsOf, Nat.div_div_eq_div_mul, ← Nat.pow_add, Nat.add_comm m k]; rfl
theorem bitsOf_zero (n : Nat) : bitsOf 0 n = List.replicate n false := by induction n with | zero => rfl | succ n ih => simp [bitsOf, ih, List.replicate_succ]
theorem bitsOf_mod (c k n : Nat) (h : n ≤ k) : bitsOf (c % 2 ^ k) n = bitsOf c n := by
  induction n with
  | zero => rfl
  | succ n ih =>
    rw [bitsOf, bitsOf, ih (by omega)]
    congr 2
    have e : k = n + (k - n) := by omega
    rw [e, Nat.pow_add, Nat.mod_mul_right_div_self]
    obtain ⟨j, hj⟩ : ∃ j, k - n = 1 + j := ⟨k - n - 1, by omega⟩
    rw [hj, Nat.pow_add, Nat.pow_one, Nat.mod_mul_right_mod]

theorem lb_app_left (l r : List Bool) (i : Nat) (h : i < l.length) : lb (l ++ r) i = lb l i := by
  unfold lb; rw [List.getD_eq_getElem?_getD, List.getD_eq_getElem?_getD, List.getElem?_append_left h]
theorem lb_app_right (l r : List Bool) (i : Nat) : lb (l ++ r) (l.length + i) = lb r i := by
  unfold lb; rw [List.getD_eq_getElem?_getD, List.getD_eq_getElem?_getD, List.getElem?_append_right (by omega)]; congr 3; omega
theorem lb_out (l : List Bool) (i : Nat) (h : l.length ≤ i) : lb l i = 0 := by
  unfold lb; rw [List.getD_eq_getElem?_getD, List.getElem?_eq_none h]; rfl
theorem lb_bits (c n i : Nat) (h : i < n) : lb (bitsOf c n) i = c / 2 ^ (n - 1 - i) % 2 := by
  induction n generalizing i with
  | zero => omega
  | succ n ih =>
    cases i with
    | zero =>
      simp only [bitsOf, lb, List.getD_cons_zero]
      have : c / 2 ^ n % 2 < 2 := Nat.mod_lt _ (by decide)
      have e : n + 1 - 1 - 0 = n := by omega
      rw [e]
      rcases (by omega : c / 2 ^ n % 2 = 0 ∨ c / 2 ^ n % 2 = 1) with h | h <;> simp [h]
    | succ i =>
      have := ih i (by omega)
      simp only [bitsOf, lb, List.getD_cons_succ] at this ⊢
      rw [this]; congr 3; omega
theorem val_bits (c k : Nat) : val (lb (bitsOf c k)) 0 k = c % 2 ^ k := by
  have g : ∀ n, n ≤ k → val (lb (bitsOf c k)) 0 n = c / 2 ^ (k - n) % 2 ^ n := by
    intro n hn
    induction n with
    | zero => simp [val, Nat.mod_one]
    | succ n ih =>
      rw [val, ih (by omega), Nat.zero_add, lb_bits c k n (by omega)]
      have e1 : k - n = (k - (n + 1)) + 1 := by omega
      have e2 : k - 1 - n = k - (n + 1) := by omega
      rw [e2, e1, Nat.pow_succ, ← Nat.div_div_eq_div_mul, Nat.pow_succ 2 n, Nat.mul_comm (2 ^ n) 2, Nat.mod_mul]
      omega
  have := g k (Nat.le_refl _)
  simpa using this
/-- Bits that stand within a list. -/
theorem val_mid (l r : List Bool) (c k : Nat) : val (lb (l ++ (bitsOf c k ++ r))) l.length k = c % 2 ^ k := by
  rw [← val_bits c k]
  refine val_congr _ _ _ _ _ fun i hi => ?_
  rw [lb_app_right, lb_app_left _ _ _ (by simpa using hi), Nat.zero_add]

/-- A byte of a list of bits. -/
def bv (l : List Bool) (j : Nat) : Nat := val (lb l) (8 * j) 8
theorem bv_lt (l : List Bool) (j : Nat) : bv l j < 256 := val_lt _ (lb_lt l) _ _
/-- The bytes of a list of bits. -/
def pk (l : List Bool) : List Nat := (List.range ((l.length + 7) / 8)).map (bv l)
@[simp] theorem pk_len (l : List Bool) : (pk l).length = (l.length + 7) / 8 := by simp [pk]
theorem pk_lt (l : List Bool) : ∀ x ∈ pk l, x < 256 := by
  intro x hx
  simp only [pk, List.mem_map] at hx
  obtain ⟨j, _, rfl⟩ := hx
  exact bv_lt l j
def packS (l : List Bool) : ByteArray := ⟨((pk l).map UInt8.ofNat).toArray⟩
theorem packS_size (l : List Bool) : (packS l).size = (l.length + 7) / 8 := by
  show (((pk l).map UInt8.ofNat).toArray).size = _
  simp
theorem bt_pack (l : List Bool) (i : Nat) : bt (packS l) i = lb l i := by
  have e : (packS l).data.toList = (pk l).map UInt8.ofNat := rfl
  unfold bt
  rw [e, List.getD_eq_getElem?_getD, List.getElem?_map, pk, List.getElem?_map]
  by_cases h : i / 8 < (l.length + 7) / 8
  · rw [List.getElem?_range h]
    simp only [Option.map_some, Option.getD_some]
    have hb := bv_lt l (i / 8)
    rw [UInt8.toNat_ofNat_of_lt' (by simpa using hb), bv, val_bit _ (lb_lt l) _ _ (by omega)]
    congr 1; omega
  · rw [List.getElem?_eq_none (by simpa using h), lb_out l i (by omega)]
    simp
theorem gv_pack (l : List Bool) (p n : Nat) : gv (packS l) p n = val (lb l) p n := val_congr _ _ _ _ _ fun _ _ => bt_pack l _

theorem or_add (a b k : Nat) (h : b < 2 ^ k) : a * 2 ^ k ||| b = a * 2 ^ k + b := by
  rw [← Nat.shiftLeft_eq, ← Nat.shiftLeft_add_eq_or_of_lt h]

/-- The last byte, when some bits more are laid behind what it has. -/
theorem bv_more (l : List Bool) (c k : Nat) (h : l.length % 8 + k ≤ 8) :
    bv (l ++ bitsOf c k) (l.length / 8) = (bv l (l.length / 8) ||| c % 2 ^ k * 2 ^ (8 - k) / 2 ^ (l.length % 8)) := by
  have hl : l.length = 8 * (l.length / 8) + l.length % 8 := by omega
  generalize hq : l.length / 8 = q at *
  generalize hf : l.length % 8 = f at *
  have e1 : (8 : Nat) = f + (k + (8 - f - k)) := by omega
  have v1 : bv (l ++ bitsOf c k) q = val (lb l) (8 * q) f * 2 ^ (8 - f) + c % 2 ^ k * 2 ^ (8 - f - k) := by
    have e2 : bv (l ++ bitsOf c k) q = val (lb (l ++ bitsOf c k)) (8 * q) (f + (k + (8 - f - k))) := by unfold bv; rw [← e1]
    rw [e2, val_add, val_add (lb (l ++ bitsOf c k)) (8 * q + f) k]
    have e3 : val (lb (l ++ bitsOf c k)) (8 * q) f = val (lb l) (8 * q) f := val_congr _ _ _ _ _ fun i hi => lb_app_left _ _ _ (by omega)
    have e4 : val (lb (l ++ bitsOf c k)) (8 * q + f) k = c % 2 ^ k := by
      rw [← hl]; have := val_mid l [] c k; rwa [List.append_nil] at this
    have e5 : val (lb (l ++ bitsOf c k)) (8 * q + f + k) (8 - f - k) = 0 := val_zero _ _ _ fun i hi => lb_out _ _ (by simp; omega)
    rw [e3, e4, e5]
    have e6 : k + (8 - f - k) = 8 - f := by omega
    rw [e6, Nat.add_zero]
  have v2 : bv l q = val (lb l) (8 * q) f * 2 ^ (8 - f) := by
    have e2 : bv l q = val (lb l) (8 * q) (f + (8 - f)) := by unfold bv; congr 1; omega
    rw [e2, val_add, val_zero (lb l) (8 * q + f) (8 - f) fun i hi => lb_out _ _ (by omega), Nat.add_zero]
  have v3 : c % 2 ^ k * 2 ^ (8 - k) / 2 ^ f = c % 2 ^ k * 2 ^ (8 - f - k) := by
    have e7 : 8 - k = (8 - f - k) + f := by omega
    rw [e7, Nat.pow_add, ← Nat.mul_assoc, Nat.mul_div_cancel _ (Nat.two_pow_pos _)]
  have hlt : c % 2 ^ k * 2 ^ (8 - f - k) < 2 ^ (8 - f) := by
    have e8 : 8 - f = k + (8 - f - k) := by omega
    rw [e8, Nat.pow_add]
    have e9 : k + (8 - f - k) - k = 8 - f - k := by omega
    rw [e9]
    exact Nat.mul_lt_mul_of_pos_right (Nat.mod_lt _ (Nat.two_pow_pos _)) (Nat.two_pow_pos _)
  rw [v1, v2, v3, or_add _ _ _ hlt]

theorem pk_get (l : List Bool) (j : Nat) (h : j < (l.length + 7) / 8) : (pk l)[j]? = some (bv l j) := by
  rw [pk, List.getElem?_map, List.getElem?_range h]; rfl
theorem pk_end (l : List Bool) (h : l.length % 8 = 0) : bv l (l.length / 8) = 0 := val_zero _ _ _ fun i _ => lb_out _ _ (by omega)
/-- All bytes, when some bits more are laid within the last one. -/
theorem pk_more (l : List Bool) (c k : Nat) (hk : 0 < k) (h : l.length % 8 + k ≤ 8) (hf : l.length % 8 ≠ 0) :
    pk (l ++ bitsOf c k) = (pk l).set (l.length / 8) (bv l (l.length / 8) ||| c % 2 ^ k * 2 ^ (8 - k) / 2 ^ (l.length % 8)) := by
  apply List.ext_getElem?
  intro j
  rw [List.getElem?_set, pk_len]
  by_cases hj : j < (l.length + 7) / 8
  · rw [pk_get _ _ (by simp; omega)]
    by_cases e : l.length / 8 = j
    · rw [if_pos e, if_pos (by omega), ← e, bv_more l c k h]
    · rw [if_neg e, pk_get _ _ hj]
      exact congrArg some (val_congr _ _ _ _ _ fun i hi => lb_app_left _ _ _ (by omega))
  · rw [if_neg (by omega), List.getElem?_eq_none (by simp; omega), List.getElem?_eq_none (by simp; omega)]
/-- All bytes, when a new one is begun. -/
theorem pk_new (l : List Bool) (c k : Nat) (hk : 0 < k) (h : k ≤ 8) (hf : l.length % 8 = 0) :
    pk (l ++ bitsOf c k) = (pk l ++ [0]).set (l.length / 8) (0 ||| c % 2 ^ k * 2 ^ (8 - k) / 2 ^ (l.length % 8)) := by
  apply List.ext_getElem?
  intro j
  rw [List.getElem?_set, List.length_append, pk_len]
  by_cases hj : j < (l.length + 7) / 8 + 1
  · rw [pk_get _ _ (by simp; omega)]
    by_cases e : l.length / 8 = j
    · rw [if_pos e, if_pos (by simp; omega), ← e, bv_more l c k (by omega), pk_end l hf]
    · rw [if_neg e, List.getElem?_append_left (by simp; omega), pk_get _ _ (by omega)]
      exact congrArg some (val_congr _ _ _ _ _ fun i hi => lb_app_left _ _ _ (by omega))
  · rw [if_neg (by omega), List.getElem?_eq_none (by simp; omega), List.getElem?_eq_none (by simp; omega)]

end Go.Proofs.YtdhbakknplnnkaaGreat.Cc
namespace Go.Proofs.YtdhbakknplnnkaaGreat.Cc
open Go.RowKit

theorem mkHid {p : Prop} (h : p) : Hid p := h
theorem ret_i {k : IntKind} {a b : Int} (h : a = b) : Ending.returned (.int k a) = .returned (.int k b) := by rw [h]
theorem ret_b {p q : Bool} (h : p = q) : Ending.returned (.bool p) = .returned (.bool q) := by rw [h]
theorem setCell_drewN (w : World) (a : Addr) (v : Value) (n : Nat) : (w.drewN n).setCell a v = (w.setCell a v).drewN n := rfl

/-- A scope whose run comes to one label, and jumps back to it: what holds at the label, and a measure that every pass lowers. -/
theorem wp_scope_label {P : Program} {a : Act} {w : World} {Q : Exit → Act → World → Prop} {c tail : Code} (l : Nat) (J : Act → World → Prop) (μ : Act → World → Nat) (hf : findLabel c l = some (.seq .skip tail))
    (first : ∀ Q' : Exit → Act → World → Prop, (∀ a w, J a w → tail.wp P Q' a w) → c.wp P Q' a w)
    (pass : ∀ a w, J a w → tail.wp P (Exit.jump l (fun a' w' => J a' w' ∧ μ a' w' < μ a w) Q) a w) : (Code.scope c).wp P Q a w :=
  wp_scope_jumps l J μ hf (first _ fun a w h => Code.wp_mono (fun e a' w' hq => by cases e <;> first | exact ⟨hq.1, hq.2.1⟩ | exact hq) (pass a w h)) (fun a w h => wp_seq (wp_skip (pass a w h)))

theorem list_of (l : List Value) : l = (List.range l.length).map (fun i => l.getD i undef) := by
  apply List.ext_getElem?
  intro i
  by_cases h : i < l.length
  · rw [List.getElem?_map, List.getElem?_range h, List.getElem?_eq_getElem h]
    simp [List.getD_eq_getElem?_getD, List.getElem?_eq_getElem h]
  · rw [List.getElem?_eq_none (by omega), List.getElem?_eq_none (by simp; omega)]
/-- A frame of so many slots, written out slot by slot. -/
theorem frame_of (a : Act) (n : Nat) (hs : a.tmps.size = n) (hd : a.defers = []) : ∃ u : Nat → Value, (∀ i, a.tmps.getD i undef = u i) ∧ a = { tmps := ((List.range n).map u).toArray, defers := [] } := by
  refine ⟨fun i => a.tmps.getD i undef, fun _ => rfl, ?_⟩
  obtain ⟨tmps, defers⟩ := a
  obtain ⟨l⟩ := tmps
  simp only at hs hd
  subst hd
  have e := list_of l
  have hl : l.length = n := by simpa using hs
  rw [hl] at e
  have e2 : ∀ i, (l.toArray).getD i undef = l.getD i undef := by
    intro i
    simp [Array.getD_eq_getD_getElem?, List.getD_eq_getElem?_getD]
  simp only [e2]
  rw [← e]

/-- All blocks but those of X are as they were. -/
structure Apart (X : Nat → Prop) (w w' : World) : Prop where
  os : w'.os = w.os
  tape : w'.tape = w.tape
  output : w'.output = w.output
  size : w.heap.size ≤ w'.heap.size
  block : ∀ k, k < w.heap.size → ¬ X k → w'.heap[k]? = w.heap[k]?

theorem Apart.refl (X : Nat → Prop) (w : World) : Apart X w w := ⟨rfl, rfl, rfl, Nat.le_refl _, fun _ _ _ => rfl⟩
theorem Apart.trans {X Y : Nat → Prop} {a b c : World} (h : Apart X a b) (k : Apart Y b c) (hY : ∀ i, i < a.heap.size → Y i → X i) : Apart X a c :=
  ⟨k.os.trans h.os, k.tape.trans h.tape, k.output.trans h.output, Nat.le_trans h.size k.size, fun i hi hx => (k.block i (Nat.lt_of_lt_of_le hi h.size) (fun hy => hx (hY i hi hy))).trans (h.block i hi hx)⟩
theorem Apart.mono {X Y : Nat → Prop} {a b : World} (h : Apart X a b) (hY : ∀ i, i < a.heap.size → X i → Y i) : Apart Y a b :=
  ⟨h.os, h.tape, h.output, h.size, fun i hi hy => h.block i hi fun hx => hy (hY i hi hx)⟩
theorem Apart.drewN {X : Nat → Prop} {a b : World} (h : Apart X a b) (n : Nat) : Apart X a (b.drewN n) := ⟨h.os, h.tape, h.output, h.size, h.block⟩
theorem Apart.drew {X : Nat → Prop} {a b : World} (h : Apart X a b) : Apart X a b.drew := ⟨h.os, h.tape, h.output, h.size, h.block⟩
theorem Apart.alloc {X : Nat → Prop} {a b : World} (h : Apart X a b) (o : Obj) : Apart X a (b.alloc o) :=
  h.trans (Y := fun _ => False) ⟨rfl, rfl, rfl, by simp, fun k hk _ => Below.heap_alloc b o k hk⟩ (fun _ _ h => h.elim)
theorem Apart.setCell {X : Nat → Prop} {a b : World} (h : Apart X a b) {p : Addr} (hp : p.block < a.heap.size → X p.block) (u : Value) : Apart X a (b.setCell p u) :=
  h.trans (Y := fun k => k = p.block) ⟨rfl, rfl, rfl, by simp, fun k _ hk => Below.heap_setCell b p u k hk⟩ (fun i hi e => by subst e; exact hp hi)
theorem Apart.grown {X : Nat → Prop} {a b c : World} {row : Option Nat} (h : Apart X a b) (hg : b.grownBy c row) (hr : ∀ k, k < a.heap.size → row = some k → X k) : Apart X a c :=
  h.trans (Y := fun k => some k = row) ⟨hg.os, hg.tape, hg.output, hg.size, fun k hk hn => hg.block k hk hn⟩ (fun i hi e => hr i hi e.symm)
theorem Apart.below {X : Nat → Prop} {w w' : World} (h : Apart X w w') (B : Nat) (hB : B ≤ w.heap.size) (hX : ∀ k, X k → B ≤ k) : Below B w w' :=
  ⟨h.os, h.tape, h.output, h.size, fun k hk => h.block k (by omega) fun hx => by have := hX k hx; omega⟩
theorem lt_of_heap {w : World} {b : Nat} {o : Obj} (h : w.heap[b]? = some o) : b < w.heap.size := (Array.getElem?_eq_some_iff.1 h).1
theorem Apart.heap {X : Nat → Prop} {w w' : World} (h : Apart X w w') {b : Nat} {o : Obj} (hb : w.heap[b]? = some o) (hx : ¬ X b) : w'.heap[b]? = some o :=
  (h.block b (lt_of_heap hb) hx).trans hb

/-- Three cells of a block: what the walk asks of them. -/
theorem cells3 {w : World} {b : Nat} {v0 v1 v2 : Value} {T : TypeId} (h : w.heap[b]? = some (.cells #[v0, v1, v2] T (0, 0))) :
    w.cell? ⟨b, 0, none⟩ = some v0 ∧ w.cell? ⟨b, 1, none⟩ = some v1 ∧ w.cell? ⟨b, 2, none⟩ = some v2 ∧ (w.frozen? ⟨b, 0, none⟩ = false ∧ w.frozen? ⟨b, 1, none⟩ = false ∧ w.frozen? ⟨b, 2, none⟩ = false) :=
  ⟨cell_of_row w b 0 _ T _ h, cell_of_row w b 1 _ T _ h, cell_of_row w b 2 _ T _ h, frozen_of_row w b 0 _ T h, frozen_of_row w b 1 _ T h, frozen_of_row w b 2 _ T h⟩
theorem cells2 {w : World} {b : Nat} {v0 v1 : Value} {T : TypeId} (h : w.heap[b]? = some (.cells #[v0, v1] T (0, 0))) :
    w.cell? ⟨b, 0, none⟩ = some v0 ∧ w.cell? ⟨b, 1, none⟩ = some v1 ∧ (w.frozen? ⟨b, 0, none⟩ = false ∧ w.frozen? ⟨b, 1, none⟩ = false) :=
  ⟨cell_of_row w b 0 _ T _ h, cell_of_row w b 1 _ T _ h, frozen_of_row w b 0 _ T h, frozen_of_row w b 1 _ T h⟩

/-- A reader of s in block b: at a place, or bad. -/
def Rd (T : TypeId) (w : World) (b : Nat) (s : ByteArray) : Option Nat → Prop
  | some p => w.heap[b]? = some (.cells #[.string s, .int .i64 (p : Int), .bool false] T (0, 0)) ∧ p ≤ 8 * s.size
  | none => ∃ (s' : ByteArray) (p : Int), w.heap[b]? = some (.cells #[.string s', .int .i64 p, .bool true] T (0, 0))
theorem Rd.heap {T : TypeId} {w : World} {b : Nat} {s : ByteArray} {st : Option Nat} (h : Rd T w b s st) : b < w.heap.size := by
  cases st with
  | none => obtain ⟨s', p, h⟩ := h; exact lt_of_heap h
  | some p => exact lt_of_heap h.1
theorem Rd.kept {T : TypeId} {w w' : World} {b : Nat} {s : ByteArray} {st : Option Nat} {X : Nat → Prop} (h : Rd T w b s st) (ha : Apart X w w') (hx : ¬ X b) : Rd T w' b s st := by
  cases st with
  | none => obtain ⟨s', p, h⟩ := h; exact ⟨s', p, ha.heap h hx⟩
  | some p => exact ⟨ha.heap h.1 hx, h.2⟩
/-- What Get answers, and where it is then. -/
def gval (s : ByteArray) (st : Option Nat) (n : Int) : Int :=
  match st with
  | some p => if 0 ≤ n ∧ n ≤ 32 ∧ (p : Int) + n ≤ 8 * s.size then (gv s p n.toNat : Int) else 0
  | none => 0
def gnext (s : ByteArray) (st : Option Nat) (n : Int) : Option Nat :=
  match st with
  | some p => if 0 ≤ n ∧ n ≤ 32 ∧ (p : Int) + n ≤ 8 * s.size then some (p + n.toNat) else none
  | none => none
def gleft (s : ByteArray) (st : Option Nat) : Int :=
  match st with
  | some p => 8 * s.size - p
  | none => 0
def gbad (st : Option Nat) : Bool := st.isNone

end Go.Proofs.YtdhbakknplnnkaaGreat.Cc
namespace Go.Proofs.YtdhbakknplnnkaaGreat.Cc
open Go.RowKit

theorem taken_yes (n : Int) (h0 : 0 ≤ n) (h1 : n ≤ 32) (w : World) :
    Calls Tryz.prog 76 #[.int .i64 n] w fun e w' => e = .returned (.bool true) ∧ w' = w := by
  go_enter Tryz.func76, Tryz.ntmps76
  go_wp2
  go_ret
  exact ⟨rfl, rfl⟩
theorem taken_no (n : Int) (h : n < 0 ∨ 32 < n) (w : World) :
    Calls Tryz.prog 76 #[.int .i64 n] w fun e w' => e = .returned (.bool false) ∧ w' = w := by
  rcases h with h | h
  · go_enter Tryz.func76, Tryz.ntmps76
    go_wp2
    go_ret
    exact ⟨rfl, rfl⟩
  · have h2 : ¬ n ≤ 32 := by omega
    go_enter Tryz.func76, Tryz.ntmps76
    go_wp2
    go_ret
    exact ⟨ret_b (by simp), rfl⟩
theorem bad_nil (w : World) : Calls Tryz.prog 72 #[.pointer none] w fun e w' => e = .returned (.bool true) ∧ w' = w := by
  go_enter Tryz.func72, Tryz.ntmps72
  go_wp2
  go_ret
  exact ⟨rfl, rfl⟩
theorem bad_any (b : Nat) (s : ByteArray) (st : Option Nat) (w : World) (h : Rd 143 w b s st) :
    Calls Tryz.prog 72 #[.pointer (some ⟨b, 0, none⟩)] w fun e w' => e = .returned (.bool (gbad st)) ∧ w' = w := by
  cases st with
  | none =>
    obtain ⟨s', p, h⟩ := h
    obtain ⟨c0, c1, c2, f0, f1, f2⟩ := cells3 h
    clear h
    go_enter Tryz.func72, Tryz.ntmps72
    go_wp2
    go_ret
    exact ⟨rfl, rfl⟩
  | some p =>
    obtain ⟨c0, c1, c2, f0, f1, f2⟩ := cells3 h.1
    clear h
    go_enter Tryz.func72, Tryz.ntmps72
    go_wp2
    go_ret
    exact ⟨rfl, rfl⟩
theorem left_any (b : Nat) (s : ByteArray) (hs : s.size ≤ 1000000) (st : Option Nat) (w : World) (h : Rd 143 w b s st) :
    Calls Tryz.prog 56 #[.pointer (some ⟨b, 0, none⟩)] w fun e w' => e = .returned (.int .i64 (gleft s st)) ∧ ∃ n, w' = w.drewN n := by
  have B := mkHid (bad_any b s st w h)
  cases st with
  | none =>
    clear h
    go_enter Tryz.func56, Tryz.ntmps56
    go_wp2_with fail
    refine (B.out).mono ?_
    rintro e w1 ⟨rfl, rfl⟩
    unfold gbad
    go_wp2
    go_ret
    exact ⟨rfl, 0, rfl⟩
  | some p =>
    obtain ⟨c0, c1, c2, f0, f1, f2⟩ := cells3 h.1
    have hp := h.2
    clear h
    go_enter Tryz.func56, Tryz.ntmps56
    go_wp2_with fail
    refine (B.out).mono ?_
    rintro e w1 ⟨rfl, rfl⟩
    unfold gbad
    go_wp2
    go_quiet (fail)
    go_wp2
    go_ret
    exact ⟨ret_i (by show (s.size : Int) * 8 - p = 8 * s.size - p; omega), _, rfl⟩
theorem piece_any (b from_ k : Int) (w : World) (h0 : 0 ≤ from_) (h1 : 1 ≤ k) (h2 : from_ + k ≤ 8) :
    Calls Tryz.prog 77 #[.int .u8 b, .int .i64 from_, .int .i64 k] w fun e w' => e = .returned (.int .u8 (b * 2 ^ from_.toNat % 256 / 2 ^ (8 - k).toNat)) ∧ w' = w := by
  go_enter Tryz.func77, Tryz.ntmps77
  go_wp2
  go_ret
  exact ⟨rfl, rfl⟩

theorem drew_rd {T : TypeId} {w : World} {b : Nat} {s : ByteArray} {st : Option Nat} (n : Nat) (h : Rd T w b s st) : Rd T (w.drewN n) b s st := by
  cases st with
  | none => exact h
  | some p => exact h
theorem bad_end {w : World} {b : Nat} {s s' : ByteArray} {p : Int} {x y : Value} (h : w.heap[b]? = some (.cells #[x, .int .i64 p, y] 143 (0, 0))) (n : Nat) :
    Rd 143 ((((w.drewN n).setCell ⟨b, 0, none⟩ (.string s')).setCell ⟨b, 1, none⟩ (.int .i64 0)).setCell ⟨b, 2, none⟩ (.bool true)) b s none ∧
    Apart (· = b) w ((((w.drewN n).setCell ⟨b, 0, none⟩ (.string s')).setCell ⟨b, 1, none⟩ (.int .i64 0)).setCell ⟨b, 2, none⟩ (.bool true)) := by
  have h0 : (w.drewN n).heap[b]? = some (.cells #[x, .int .i64 p, y] 143 (0, 0)) := h
  have h1 := heap_setCell_same _ b 0 _ 143 (.string s') h0
  have h2 := heap_setCell_same _ b 1 _ 143 (.int .i64 0) h1
  have h3 := heap_setCell_same _ b 2 _ 143 (.bool true) h2
  refine ⟨⟨s', 0, ?_⟩, ?_⟩
  · rw [h3]; rfl
  · exact Apart.setCell (Apart.setCell (Apart.setCell ((Apart.refl (· = b) w).drewN n) (p := ⟨b, 0, none⟩) (fun _ => rfl) _) (p := ⟨b, 1, none⟩) (fun _ => rfl) _) (p := ⟨b, 2, none⟩) (fun _ => rfl) _

theorem adv_end {T : TypeId} {w : World} {b : Nat} {s : ByteArray} {P k : Nat} (h : Rd T w b s (some P)) (hk : P + k ≤ 8 * s.size) (n : Nat) :
    Rd T ((w.drewN n).setCell ⟨b, 1, none⟩ (.int .i64 ((P : Int) + (k : Int)))) b s (some (P + k)) ∧ Apart (· = b) w ((w.drewN n).setCell ⟨b, 1, none⟩ (.int .i64 ((P : Int) + (k : Int)))) := by
  have h0 : (w.drewN n).heap[b]? = some (.cells #[.string s, .int .i64 (P : Int), .bool false] T (0, 0)) := h.1
  have h1 := heap_setCell_same _ b 1 _ T (.int .i64 ((P : Int) + (k : Int))) h0
  refine ⟨⟨?_, hk⟩, ?_⟩
  · rw [h1]; simp
  · exact Apart.setCell ((Apart.refl (· = b) w).drewN n) (p := ⟨b, 1, none⟩) (fun _ => rfl) _
theorem or_step (s : ByteArray) (p r k q f P : Nat) (hP : p + r = P) (hq : P / 8 = q) (hf : P % 8 = f) (hk : f + k ≤ 8) (hn : r + k ≤ 32) (hlt : q < s.size) :
    bits .or .u32 ((gv s p r : Int) * 2 ^ k % 4294967296) ((s[q].toNat : Int) * 2 ^ f % 256 / 2 ^ (8 - k) % 4294967296) = (gv s p (r + k) : Int) := by
  have g1 := gv_lt s p r
  have g2 := gv_lt s P k
  have e0 : gv s P k = s[q].toNat * 2 ^ f % 256 / 2 ^ (8 - k) := by
    rw [gv_piece s P k (by omega), hq, hf]
    congr 4
    rw [List.getD_eq_getElem?_getD, List.getElem?_eq_getElem (by simpa using hlt)]
    rfl
  have e1 : ((s[q].toNat : Int) * 2 ^ f % 256 / 2 ^ (8 - k)) = (gv s P k : Int) := by rw [e0]; simp
  have p1 : gv s p r * 2 ^ k < 2 ^ (r + k) := by rw [Nat.pow_add]; exact Nat.mul_lt_mul_of_pos_right g1 (Nat.two_pow_pos _)
  have p2 : 2 ^ (r + k) ≤ 2 ^ 32 := Nat.pow_le_pow_right (by decide) hn
  have p3 : 2 ^ k ≤ 2 ^ 32 := Nat.pow_le_pow_right (by decide) (by omega)
  have e2 : ((gv s p r : Int) * 2 ^ k % 4294967296) = ((gv s p r * 2 ^ k : Nat) : Int) := by
    have : ((gv s p r : Int) * 2 ^ k) = ((gv s p r * 2 ^ k : Nat) : Int) := by simp
    rw [this]; omega
  have e3 : (gv s P k : Int) % 4294967296 = (gv s P k : Nat) := by omega
  rw [e1, e2, e3, u32_or_nat _ _ (by omega) (by omega), or_add _ _ _ g2, gv_add, hP]
theorem get_none (b : Nat) (s : ByteArray) (n : Int) (w : World) (h : Rd 143 w b s none) :
    Calls Tryz.prog 58 #[.pointer (some ⟨b, 0, none⟩), .int .i64 n] w fun e w' => e = .returned (.int .u32 0) ∧ w' = w := by
  have B := mkHid (bad_any b s none w h)
  clear h
  go_enter Tryz.func58, Tryz.ntmps58
  go_wp2
  go_step3
  go_wp2_with fail
  refine (B.out).mono ?_
  rintro e w1 ⟨rfl, rfl⟩
  unfold gbad
  go_wp2
  rw [Exit.noGoto_ret]
  go_ret
  exact ⟨rfl, rfl⟩
theorem get_nil (n : Int) (w : World) :
    Calls Tryz.prog 58 #[.pointer none, .int .i64 n] w fun e w' => e = .returned (.int .u32 0) ∧ w' = w := by
  have B := mkHid (bad_nil w)
  go_enter Tryz.func58, Tryz.ntmps58
  go_wp2
  go_step3
  go_wp2_with fail
  refine (B.out).mono ?_
  rintro e w1 ⟨rfl, rfl⟩
  go_wp2
  rw [Exit.noGoto_ret]
  go_ret
  exact ⟨rfl, rfl⟩
theorem get_wrong (b : Nat) (s : ByteArray) (p : Nat) (n : Int) (hn : n < 0 ∨ 32 < n) (w : World) (h : Rd 143 w b s (some p)) :
    Calls Tryz.prog 58 #[.pointer (some ⟨b, 0, none⟩), .int .i64 n] w fun e w' => e = .returned (.int .u32 0) ∧ Rd 143 w' b s none ∧ Apart (· = b) w w' := by
  have B := mkHid (bad_any b s (some p) w h)
  have T := mkHid (taken_no n hn)
  have H := mkHid h.1
  obtain ⟨c0, c1, c2, f0, f1, f2⟩ := cells3 h.1
  clear h hn
  go_enter Tryz.func58, Tryz.ntmps58
  go_wp2
  go_step3
  go_wp2_with fail
  refine (B.out).mono ?_
  rintro e w1 ⟨rfl, rfl⟩
  unfold gbad
  go_wp2_with fail
  refine (T.out _).mono ?_
  rintro e w1 ⟨rfl, rfl⟩
  go_wp2
  rw [Exit.noGoto_ret]
  go_ret
  exact ⟨rfl, bad_end H.out 0⟩
theorem get_many (b : Nat) (s : ByteArray) (hs : s.size ≤ 1000000) (p : Nat) (n : Int) (h0 : 0 ≤ n) (h1 : n ≤ 32) (h2 : 8 * (s.size : Int) < p + n) (w : World) (h : Rd 143 w b s (some p)) :
    Calls Tryz.prog 58 #[.pointer (some ⟨b, 0, none⟩), .int .i64 n] w fun e w' => e = .returned (.int .u32 0) ∧ Rd 143 w' b s none ∧ Apart (· = b) w w' := by
  have B := mkHid (bad_any b s (some p) w h)
  have T := mkHid (taken_yes n h0 h1)
  have L := mkHid (left_any b s hs (some p) w h)
  have hl : gleft s (some p) < n := by show 8 * (s.size : Int) - p < n; omega
  generalize gleft s (some p) = g at *
  have H := mkHid h.1
  obtain ⟨c0, c1, c2, f0, f1, f2⟩ := cells3 h.1
  clear h
  go_enter Tryz.func58, Tryz.ntmps58
  go_wp2
  go_step3
  go_wp2_with fail
  refine (B.out).mono ?_
  rintro e w1 ⟨rfl, rfl⟩
  unfold gbad
  go_wp2_with fail
  refine (T.out _).mono ?_
  rintro e w1 ⟨rfl, rfl⟩
  go_wp2_with fail
  refine (L.out).mono ?_
  rintro e w1 ⟨rfl, nd, rfl⟩
  go_wp2
  rw [Exit.noGoto_ret]
  go_ret
  exact ⟨rfl, bad_end H.out nd⟩
theorem frame63 (a : Act) (hs : a.tmps.size = 63) (hd : a.defers = []) : ∃ u : Nat → Value, (∀ i, a.tmps.getD i undef = u i) ∧ a = { tmps := #[u 0, u 1, u 2, u 3, u 4, u 5, u 6, u 7, u 8, u 9, u 10, u 11, u 12, u 13, u 14, u 15, u 16, u 17, u 18, u 19, u 20, u 21, u 22, u 23, u 24, u 25, u 26, u 27, u 28, u 29, u 30, u 31, u 32, u 33, u 34, u 35, u 36, u 37, u 38, u 39, u 40, u 41, u 42, u 43, u 44, u 45, u 46, u 47, u 48, u 49, u 50, u 51, u 52, u 53, u 54, u 55, u 56, u 57, u 58, u 59, u 60, u 61, u 62], defers := [] } := frame_of a 63 hs hd
set_option maxRecDepth 100000 in
theorem get_ok (b : Nat) (s : ByteArray) (hs : s.size ≤ 1000000) (p n : Nat) (h1 : n ≤ 32) (h2 : p + n ≤ 8 * s.size) (w : World) (h : Rd 143 w b s (some p)) :
    Calls Tryz.prog 58 #[.pointer (some ⟨b, 0, none⟩), .int .i64 n] w fun e w' => e = .returned (.int .u32 (gv s p n)) ∧ Rd 143 w' b s (some (p + n)) ∧ Apart (· = b) w w' := by
  have B := mkHid (bad_any b s (some p) w h)
  have T := mkHid (taken_yes n (by omega) (by omega))
  have L := mkHid (left_any b s hs (some p) w h)
  have hl : (n : Int) ≤ gleft s (some p) := by show (n : Int) ≤ 8 * (s.size : Int) - p; omega
  generalize gleft s (some p) = g at *
  have H := mkHid h
  clear h
  go_enter Tryz.func58, Tryz.ntmps58
  go_wp2
  refine wp_scope_label 0 (fun a' w' => ∃ (m r : Nat), (a'.tmps.size = 63 ∧ a'.defers = [] ∧ a'.tmps.getD 0 undef = .pointer (some { block := b, off := 0 }) ∧ a'.tmps.getD 1 undef = .int .i64 (m : Int) ∧ a'.tmps.getD 2 undef = undef ∧ a'.tmps.getD 3 undef = undef ∧ a'.tmps.getD 4 undef = .int .u32 0 ∧ a'.tmps.getD 5 undef = .int .u32 (gv s p r : Int)) ∧ m + r = n ∧ Rd 143 w' b s (some (p + r)) ∧ Apart (· = b) w w') (fun a' _ => (intOf (a'.tmps.getD 1 undef)).toNat) rfl ?_ ?_
  · intro Q' hh
    have HH := mkHid hh
    clear hh
    go_wp2_with fail
    refine (B.out).mono ?_
    rintro e w1 ⟨rfl, rfl⟩
    unfold gbad
    go_wp2_with fail
    refine (T.out _).mono ?_
    rintro e w1 ⟨rfl, rfl⟩
    go_wp2_with fail
    refine (L.out).mono ?_
    rintro e w1 ⟨rfl, nd, rfl⟩
    go_wp2
    go_step3
    refine ‹∀ a w, Code.wp _ _ _ a w → _› _ _ (HH.out _ _ ?_)
    exact ⟨n, 0, ⟨rfl, rfl, rfl, rfl, rfl, rfl, rfl, rfl⟩, by omega, drew_rd nd H.out, (Apart.refl _ _).drewN nd⟩
  · clear B T L H
    rintro a' w' ⟨m, r, ⟨z, d, e0, e1, e2, e3, e4, e5⟩, hm, hr, hap⟩
    obtain ⟨u, hu, ha⟩ := frame63 a' z d
    rw [hu] at e0 e1 e2 e3 e4 e5
    rw [e0, e1, e2, e3, e4, e5] at ha
    clear z d hu e0 e1 e2 e3 e4 e5
    subst ha
    obtain ⟨P, HP⟩ : ∃ P, Hid (p + r = P) := ⟨_, rfl⟩
    rw [HP.out] at hr
    obtain ⟨c0, c1, c2, f0, f1, f2⟩ := cells3 hr.1
    have HR := mkHid hr
    have HA := mkHid hap
    clear hr hap
    have hP : P + m ≤ 8 * s.size := by have := HP.out; omega
    by_cases hm0 : m = 0
    · subst hm0
      obtain rfl : r = n := by omega
      go_wp2
      simp only [Exit.jump]
      go_ret
      have hr := HR.out
      rw [← HP.out] at hr
      exact ⟨rfl, hr, HA.out⟩
    · have hq1 : P / 8 < s.size := by omega
      have hf1 : P % 8 < 8 := by omega
      obtain ⟨q, Hq⟩ : ∃ q, Hid (P / 8 = q) := ⟨_, rfl⟩
      obtain ⟨f, Hf⟩ : ∃ f, Hid (P % 8 = f) := ⟨_, rfl⟩
      have hq : (P : Int) / 8 = (q : Nat) := by have := Hq.out; omega
      have hf : (P : Int) % 8 = (f : Nat) := by have := Hf.out; omega
      rw [Hq.out] at hq1
      rw [Hf.out] at hf1
      by_cases hk : m ≤ 8 - f
      · go_wp2
        have PC := mkHid (fun w => piece_any (s[q].toNat) f m w (by omega) (by omega) (by omega))
        go_quiet ((go_at_call 77; exact Calls.quiet_of_same (PC.out _)))
        go_wp2
        rw [or_step s p r m q f P HP.out Hq.out Hf.out (by omega) (by omega) hq1]
        go_step3
        obtain ⟨k1, k2⟩ := adv_end HR.out (k := m) (by omega) nq
        refine ⟨rfl, ⟨0, r + m, ⟨rfl, rfl, rfl, rfl, rfl, rfl, rfl, rfl⟩, by omega, ?_, HA.out.trans k2 (fun _ _ h => h)⟩, ?_⟩
        · have : p + (r + m) = P + m := by have := HP.out; omega
          rw [this]; exact k1
        · simp [intOf]; omega
      · obtain ⟨k, hk1⟩ : ∃ k : Nat, f + k = 8 := ⟨8 - f, by omega⟩
        obtain ⟨m', rfl⟩ : ∃ m', m = m' + k := ⟨m - k, by omega⟩
        have hk2 : (8 : Int) - f = k := by omega
        have hk3 : (k : Int) < ((m' + k : Nat) : Int) := by omega
        go_wp2
        have PC := mkHid (fun w => piece_any (s[q].toNat) f k w (by omega) (by omega) (by omega))
        go_quiet ((go_at_call 77; exact Calls.quiet_of_same (PC.out _)))
        go_wp2
        rw [or_step s p r k q f P HP.out Hq.out Hf.out (by omega) (by omega) hq1]
        go_step3
        obtain ⟨k1, k2⟩ := adv_end HR.out (k := k) (by omega) nq
        refine ⟨rfl, ⟨m', r + k, ⟨rfl, rfl, rfl, rfl, rfl, rfl, rfl, rfl⟩, by omega, ?_, HA.out.trans k2 (fun _ _ h => h)⟩, ?_⟩
        · have : p + (r + k) = P + k := by have := HP.out; omega
          rw [this]; exact k1
        · simp [intOf]; omega
/-- Get, whatever it is asked. -/
theorem get_any (b : Nat) (s : ByteArray) (hs : s.size ≤ 1000000) (st : Option Nat) (n : Int) (w : World) (h : Rd 143 w b s st) :
    Calls Tryz.prog 58 #[.pointer (some ⟨b, 0, none⟩), .int .i64 n] w fun e w' => e = .returned (.int .u32 (gval s st n)) ∧ Rd 143 w' b s (gnext s st n) ∧ Apart (· = b) w w' := by
  cases st with
  | none => exact (get_none b s n w h).mono fun e w' ⟨h1, h2⟩ => ⟨h1, by subst h2; exact h, by subst h2; exact Apart.refl _ _⟩
  | some p =>
    simp only [gval, gnext]
    by_cases hc : 0 ≤ n ∧ n ≤ 32 ∧ (p : Int) + n ≤ 8 * s.size
    · rw [if_pos hc, if_pos hc]
      obtain ⟨m, rfl⟩ : ∃ m : Nat, n = m := ⟨n.toNat, by omega⟩
      exact get_ok b s hs p m (by omega) (by omega) w h
    · rw [if_neg hc, if_neg hc]
      by_cases h1 : n < 0 ∨ 32 < n
      · exact get_wrong b s p n h1 w h
      · exact get_many b s hs p n (by omega) (by omega) (by omega) w h
theorem read_any (s : ByteArray) (w : World) :
    Calls Tryz.prog 54 #[.string s] w fun e w' => e = .returned (.pointer (some ⟨w.heap.size, 0, none⟩)) ∧ Rd 143 w' w.heap.size s (some 0) ∧ Apart (fun _ => False) w w' ∧ w'.heap.size = w.heap.size + 1 := by
  go_enter Tryz.func54, Tryz.ntmps54
  go_wp2
  go_ret
  exact ⟨rfl, ⟨heap_alloc_new _ _, Nat.zero_le _⟩, (Apart.refl _ _).alloc _, by simp⟩
end Go.Proofs.YtdhbakknplnnkaaGreat.Cc
namespace Go.Proofs.YtdhbakknplnnkaaGreat.Cc
open Go.RowKit

section
variable {P : Program} (w : World)
/-- An append onto a row of the call's own: the new row is the old one, or a new block. -/
theorem run_append_own2 (base : Nat) (t ty e : TypeId) (i : TypeInfo) (z : Value) (size bytes : Nat) (ht : P.underlying t = some (.slice e)) (hi : P.info? e = some i) (hz : i.zero = some z)
    (hsize : i.size = size) (hby : i.bytes = bytes) (hzs : z.cells.size = size) (hsz : 0 < size)
    (v : Value) (n : Nat) (xs : List Value) (hown : w.ownsRow base e size v n xs)
    (a : Addr) (m c : Nat) (news : List Value) (hl : news.length = m * size) (hnews : ∀ j u, news[j]? = some u → w.cell? (a.add j) = some u) (h1 : ∀ u ∈ news, u.oneCell' = true)
    (h63 : n + m ≤ maxLen) (hbytes : (n + m) * bytes ≤ 140737488355328) (hbase : base ≤ w.heap.size) :
    ∃ v' w', (Builtin.append_ #[t, t] ty #[v, .slice (some a) m c]).run P w = .ok v' w' ∧ w'.ownsRow base e size v' (n + m) (xs ++ news) ∧ w.grownBy w' v.ownBlock ∧
      (∀ k, v'.ownBlock = some k → v.ownBlock = some k ∨ w.heap.size ≤ k) := by
  have down : ∀ {w' : World} {v' : Value}, w'.ownsRow w.heap.size e size v' (n + m) (xs ++ news) → w'.ownsRow base e size v' (n + m) (xs ++ news) := by
    intro w' v' h
    refine ⟨h.1, ?_⟩
    rcases h.2 with hn | ⟨g, cap, cur, hv, hg, r⟩
    · exact .inl hn
    · exact .inr ⟨g, cap, cur, hv, by omega, r⟩
  rcases hown.2 with ⟨rfl, rfl⟩ | ⟨g, cap, cur, rfl, hb, hg, hnc, hcm, hcs, htake⟩
  · obtain ⟨v', w', r1, r2, r3, _⟩ := run_append_own (P := P) w w.heap.size t ty e i z size bytes ht hi hz hsize hby hzs hsz (.slice none 0 0) 0 xs ⟨hown.1, .inl ⟨rfl, rfl⟩⟩ a m c news hl hnews h1 h63 hbytes (Nat.le_refl _)
    exact ⟨v', w', r1, down r2, r3, fun k hk => .inr (r2.lt k hk).1⟩
  · by_cases hr : n + m ≤ cap
    · obtain ⟨w', r1, r2, r3⟩ := run_append_fits (P := P) w base t ty e i size ht hi hsize g n cap xs hown a m c news hl hnews h1 hr
      exact ⟨_, w', r1, r2, r3, fun k hk => .inl hk⟩
    · obtain ⟨v', w', r1, r2, r3⟩ := run_append_arg_grows (P := P) w t ty e i z size bytes ht hi hz hsize hby hzs hsz ⟨g, 0, none⟩ n cap xs hown.1 (fun j u hu => hown.cells (g := g) rfl j u hu) a m c news hl hnews (by omega) h63 hbytes
      exact ⟨v', w', r1, down r2, ⟨r3.os, r3.tape, r3.output, r3.size, fun k hk _ => r3.block k hk (by simp)⟩, fun k hk => .inr (r2.lt k hk).1⟩
theorem wpList_append_own2 {ops : Array Oper} {rest : List Oper} {o : Oper} {a : Act} {Q : Exit → Act → World → Prop} (hgd : o.guard = none) (s x : Operand) (t : TypeId)
    (ho : o.op = .call { callee := .builtin .append, args := #[s, x], argTypes := #[t, t] })
    (base : Nat) (e : TypeId) (i : TypeInfo) (z : Value) (size bytes : Nat) (ht : P.underlying t = some (.slice e)) (hi : P.info? e = some i) (hz : i.zero = some z)
    (hsize : i.size = size) (hby : i.bytes = bytes) (hzs : z.cells.size = size) (hsz : 0 < size)
    (v : Value) (n : Nat) (xs : List Value) (hs : a.eval s = v) (hown : w.ownsRow base e size v n xs)
    (ad : Addr) (m c : Nat) (news : List Value) (hx : a.eval x = .slice (some ad) m c) (hl : news.length = m * size) (hnews : ∀ j u, news[j]? = some u → w.cell? (ad.add j) = some u) (h1 : ∀ u ∈ news, u.oneCell' = true)
    (h63 : n + m ≤ maxLen) (hbytes : (n + m) * bytes ≤ 140737488355328) (hbase : base ≤ w.heap.size)
    (h : ∀ v' w', w'.ownsRow base e size v' (n + m) (xs ++ news) → w.grownBy w' v.ownBlock → (∀ k, v'.ownBlock = some k → v.ownBlock = some k ∨ w.heap.size ≤ k) → wpList P ops Q rest (a.put o.dst v') w') : wpList P ops Q (o :: rest) a w :=
  wpList_plain hgd fun _ hK => by
    obtain ⟨v', w', hrun, h2, h3, h4⟩ := run_append_own2 (P := P) w base t o.type e i z size bytes ht hi hz hsize hby hzs hsz v n xs hown ad m c news hl hnews h1 h63 hbytes hbase
    unfold Oper.wp execOp
    simp only [ho, resolve, invoke, builtin, Sem.run_bind, Sem.run_pure, Result.andThen_ok, List.map_toArray, List.map_cons, List.map_nil, hs, hx, hrun]
    exact hK _ _ (h v' w' h2 h3 h4)
end

def vb (x : Nat) : Value := .int .u8 (x : Int)
/-- A writer in block b whose text is v; it has written the bits l. -/
structure Wr (T : TypeId) (w : World) (b : Nat) (v : Value) (l : List Bool) : Prop where
  head : w.heap[b]? = some (.cells #[v, .int .i64 (l.length : Int)] T (0, 0))
  own : w.ownsRow (b + 1) 5 1 v ((l.length + 7) / 8) ((pk l).map vb)
  most : l.length ≤ 524288
/-- A writer whose last byte stands, with bits to spare. -/
structure Mid (T : TypeId) (w : World) (b g cap : Nat) (l : List Bool) (xs : List Nat) : Prop where
  head : w.heap[b]? = some (.cells #[.slice (some ⟨g, 0, none⟩) (l.length / 8 + 1) cap, .int .i64 (l.length : Int)] T (0, 0))
  own : w.ownsRow (b + 1) 5 1 (.slice (some ⟨g, 0, none⟩) (l.length / 8 + 1) cap) (l.length / 8 + 1) (xs.map vb)
  last : xs[l.length / 8]? = some (bv l (l.length / 8))
  next : ∀ c k, 0 < k → l.length % 8 + k ≤ 8 → pk (l ++ bitsOf c k) = xs.set (l.length / 8) (bv l (l.length / 8) ||| c % 2 ^ k * 2 ^ (8 - k) / 2 ^ (l.length % 8))
/-- From w to w' only block b, the row of v, and new ones have turned; the row of v' is v's or new. -/
structure Tch (b : Nat) (v v' : Value) (w w' : World) : Prop where
  ap : Apart (fun k => k = b ∨ v.ownBlock = some k) w w'
  own : ∀ k, v'.ownBlock = some k → v.ownBlock = some k ∨ w.heap.size ≤ k
theorem Tch.refl (b : Nat) (v : Value) (w : World) : Tch b v v w w := ⟨Apart.refl _ _, fun _ h => .inl h⟩
theorem Tch.trans {b : Nat} {v v' v'' : Value} {w w' w'' : World} (h : Tch b v v' w w') (k : Tch b v' v'' w' w'') : Tch b v v'' w w'' := by
  refine ⟨h.ap.trans k.ap ?_, ?_⟩
  · rintro i hi (rfl | e)
    · exact .inl rfl
    · rcases h.own i e with e | e
      · exact .inr e
      · omega
  · intro i e
    rcases k.own i e with e | e
    · exact h.own i e
    · have := h.ap.size; exact .inr (by omega)
theorem Wr.lt {T : TypeId} {w : World} {b : Nat} {v : Value} {l : List Bool} (h : Wr T w b v l) : b < w.heap.size := lt_of_heap h.head
theorem Wr.ownlt {T : TypeId} {w : World} {b : Nat} {v : Value} {l : List Bool} (h : Wr T w b v l) : ∀ k, v.ownBlock = some k → b < k ∧ k < w.heap.size := fun k hk => by
  have := h.own.lt k hk; exact ⟨by omega, this.2⟩
theorem Wr.kept {T : TypeId} {w w' : World} {b : Nat} {v : Value} {l : List Bool} {X : Nat → Prop} (h : Wr T w b v l) (ha : Apart X w w') (hb : ¬ X b) (hv : ∀ k, v.ownBlock = some k → ¬ X k) : Wr T w' b v l := by
  refine ⟨ha.heap h.head hb, ⟨h.own.1, ?_⟩, h.most⟩
  rcases h.own.2 with hn | ⟨g, cap, cur, rfl, hg, hh, r⟩
  · exact .inl hn
  · exact .inr ⟨g, cap, cur, rfl, hg, ha.heap hh (hv g rfl), r⟩

/-- Where the last byte has bits to spare. -/
theorem Wr.mid {T : TypeId} {w : World} {b : Nat} {v : Value} {l : List Bool} (h : Wr T w b v l) (hf : l.length % 8 ≠ 0) : ∃ g cap, v = .slice (some ⟨g, 0, none⟩) (l.length / 8 + 1) cap ∧ Mid T w b g cap l (pk l) := by
  have e : (l.length + 7) / 8 = l.length / 8 + 1 := by omega
  have hd := h.head
  have ho := h.own
  rw [e] at ho
  rcases ho.2 with ⟨_, hn⟩ | ⟨g, cap, cur, rfl, _⟩
  · omega
  · exact ⟨g, cap, rfl, hd, ho, pk_get l _ (by omega), fun c k hk hs => pk_more l c k hk hs hf⟩
/-- Behind the append of a byte. -/
theorem Wr.grown {T : TypeId} {w w1 : World} {b : Nat} {v v1 : Value} {l : List Bool} (h : Wr T w b v l) (hf : l.length % 8 = 0) (o : Obj)
    (ho : w1.ownsRow (b + 1) 5 1 v1 ((l.length + 7) / 8 + 1) ((pk l).map vb ++ [.int .u8 0])) (hg : (w.alloc o).grownBy w1 v.ownBlock) (hn : ∀ k, v1.ownBlock = some k → v.ownBlock = some k ∨ (w.alloc o).heap.size ≤ k) :
    (w1.heap[b]? = some (.cells #[v, .int .i64 (l.length : Int)] T (0, 0))) ∧ ∃ g cap, v1 = .slice (some ⟨g, 0, none⟩) (l.length / 8 + 1) cap ∧ Mid T (w1.setCell ⟨b, 0, none⟩ v1) b g cap l (pk l ++ [0]) ∧ Tch b v v1 w (w1.setCell ⟨b, 0, none⟩ v1) := by
  have hlt := h.lt
  have h1 : w1.heap[b]? = some (.cells #[v, .int .i64 (l.length : Int)] T (0, 0)) := by
    rw [hg.block b (by simp; omega) (fun e => by have := h.ownlt b e.symm; omega), Below.heap_alloc _ _ _ hlt]
    exact h.head
  refine ⟨h1, ?_⟩
  have e : (l.length + 7) / 8 + 1 = l.length / 8 + 1 := by omega
  rw [e] at ho
  have ha : Apart (fun k => k = b ∨ v.ownBlock = some k) w (w1.setCell ⟨b, 0, none⟩ v1) :=
    Apart.setCell (Apart.grown ((Apart.refl _ w).alloc o) hg (fun k _ e => .inr e)) (p := ⟨b, 0, none⟩) (fun _ => .inl rfl) _
  have hs := heap_setCell_same w1 b 0 _ T v1 h1
  have ho2 : (w1.setCell ⟨b, 0, none⟩ v1).ownsRow (b + 1) 5 1 v1 (l.length / 8 + 1) ((pk l).map vb ++ [.int .u8 0]) := ownsRow_setCell_below ho (by simp) _
  have hm : ((pk l).map vb ++ [.int .u8 0]) = (pk l ++ [0]).map vb := by simp [vb]
  rw [hm] at ho2
  rcases ho.2 with ⟨_, hx⟩ | ⟨g, cap, cur, rfl, hgb, hgg, _⟩
  · omega
  · refine ⟨g, cap, rfl, ⟨?_, ho2, ?_, fun c k hk hs => ?_⟩, ha, fun k hk => ?_⟩
    · rw [hs]; rfl
    · rw [List.getElem?_append_right (by simp; omega), pk_end l hf]
      have : l.length / 8 - (pk l).length = 0 := by simp; omega
      rw [this]; rfl
    · rw [pk_new l c k hk (by omega) hf, pk_end l hf]
    · rcases hn k hk with e | e
      · exact .inl e
      · simp at e; exact .inr (by omega)
theorem Mid.lt {T : TypeId} {w : World} {b g cap : Nat} {l : List Bool} {xs : List Nat} (h : Mid T w b g cap l xs) : b < g ∧ g < w.heap.size := by
  have := h.own.lt g rfl; omega
/-- Behind the store of the last byte and of the size. -/
theorem Mid.done {T : TypeId} {w : World} {b g cap : Nat} {l : List Bool} {xs : List Nat} (h : Mid T w b g cap l xs) (c k : Nat) (hk : 0 < k) (hs : l.length % 8 + k ≤ 8) (hm : l.length + k ≤ 524288)
    (x y : Int) (hx : x = ((bv l (l.length / 8) ||| c % 2 ^ k * 2 ^ (8 - k) / 2 ^ (l.length % 8) : Nat) : Int)) (hy : y = (l.length : Int) + k) :
    Wr T (((w.setCell ⟨g, l.length / 8, none⟩ (.int .u8 x)).drew).setCell ⟨b, 1, none⟩ (.int .i64 y)) b (.slice (some ⟨g, 0, none⟩) (l.length / 8 + 1) cap) (l ++ bitsOf c k) ∧
    Tch b (.slice (some ⟨g, 0, none⟩) (l.length / 8 + 1) cap) (.slice (some ⟨g, 0, none⟩) (l.length / 8 + 1) cap) w (((w.setCell ⟨g, l.length / 8, none⟩ (.int .u8 x)).drew).setCell ⟨b, 1, none⟩ (.int .i64 y)) := by
  obtain ⟨hbg, hg⟩ := h.lt
  have h1 : ((w.setCell ⟨g, l.length / 8, none⟩ (.int .u8 x)).drew).heap[b]? = some (.cells #[.slice (some ⟨g, 0, none⟩) (l.length / 8 + 1) cap, .int .i64 (l.length : Int)] T (0, 0)) := by
    show (w.setCell ⟨g, l.length / 8, none⟩ (.int .u8 x)).heap[b]? = _
    rw [Below.heap_setCell _ _ _ _ (by simp; omega)]; exact h.head
  have h2 := heap_setCell_same _ b 1 _ T (.int .i64 y) h1
  have o1 : ((w.setCell ⟨g, l.length / 8, none⟩ (.int .u8 x)).drew).ownsRow (b + 1) 5 1 (.slice (some ⟨g, 0, none⟩) (l.length / 8 + 1) cap) (l.length / 8 + 1) ((xs.map vb).set (l.length / 8) (.int .u8 x)) := (h.own.stored (l.length / 8) (.int .u8 x)).1
  have o2 := ownsRow_setCell_below o1 (a := ⟨b, 1, none⟩) (by simp) (.int .i64 y)
  have e1 : (xs.map vb).set (l.length / 8) (.int .u8 x) = (pk (l ++ bitsOf c k)).map vb := by
    rw [h.next c k hk hs, List.map_set, hx]; rfl
  rw [e1] at o2
  refine ⟨⟨?_, ?_, ?_⟩, ?_, fun k hk => .inl hk⟩
  · rw [h2, hy]; simp
  · have e2 : ((l ++ bitsOf c k).length + 7) / 8 = l.length / 8 + 1 := by simp; omega
    rw [e2]; exact o2
  · simp; omega
  · exact Apart.setCell (Apart.drew (Apart.setCell (Apart.refl _ w) (p := ⟨g, l.length / 8, none⟩) (fun _ => .inr rfl) _)) (p := ⟨b, 1, none⟩) (fun _ => .inl rfl) _
theorem or_byte (B y k f : Nat) (hB : B < 256) (hk : k ≤ 8) :
    bits .or .u8 (B : Int) (IntKind.u64.wrap ((y : Int) * 2 ^ (8 - k)) % 256 / 2 ^ f) = ((B ||| y % 2 ^ k * 2 ^ (8 - k) / 2 ^ f : Nat) : Int) := by
  have e1 : (256 : Nat) = 2 ^ k * 2 ^ (8 - k) := by
    rw [← Nat.pow_add]
    have : k + (8 - k) = 8 := by omega
    rw [this]
  have e2 : IntKind.u64.wrap ((y : Int) * 2 ^ (8 - k)) % 256 = ((y % 2 ^ k * 2 ^ (8 - k) : Nat) : Int) := by
    rw [← Nat.mul_mod_mul_right, ← e1, IntKind.wrap_u64, Int.emod_emod_of_dvd _ (by decide)]
    simp
  have l1 : y % 2 ^ k * 2 ^ (8 - k) / 2 ^ f < 256 := by
    have : y % 2 ^ k * 2 ^ (8 - k) < 256 := by
      rw [e1]
      have e3 : 2 ^ k * 2 ^ (8 - k) = 256 := e1.symm
      exact Nat.mul_lt_mul_of_pos_right (Nat.mod_lt _ (Nat.two_pow_pos _)) (Nat.two_pow_pos _)
    exact Nat.lt_of_le_of_lt (Nat.div_le_self _ _) this
  rw [e2]
  have e4 : ((y % 2 ^ k * 2 ^ (8 - k) : Nat) : Int) / 2 ^ f = ((y % 2 ^ k * 2 ^ (8 - k) / 2 ^ f : Nat) : Int) := by simp
  rw [e4, u8_or_nat _ _ hB l1]
end Go.Proofs.YtdhbakknplnnkaaGreat.Cc
namespace Go.Proofs.YtdhbakknplnnkaaGreat.Cc
open Go.RowKit

theorem info5 : (Tryz.prog.info? 5).map (fun i => (i.zero, i.size, i.bytes)) = some (some (.int .u8 0), 1, 1) := by kernel_rfl
theorem frame74 (a : Act) (hs : a.tmps.size = 74) (hd : a.defers = []) : ∃ u : Nat → Value, (∀ i, a.tmps.getD i undef = u i) ∧ a = { tmps := #[u 0, u 1, u 2, u 3, u 4, u 5, u 6, u 7, u 8, u 9, u 10, u 11, u 12, u 13, u 14, u 15, u 16, u 17, u 18, u 19, u 20, u 21, u 22, u 23, u 24, u 25, u 26, u 27, u 28, u 29, u 30, u 31, u 32, u 33, u 34, u 35, u 36, u 37, u 38, u 39, u 40, u 41, u 42, u 43, u 44, u 45, u 46, u 47, u 48, u 49, u 50, u 51, u 52, u 53, u 54, u 55, u 56, u 57, u 58, u 59, u 60, u 61, u 62, u 63, u 64, u 65, u 66, u 67, u 68, u 69, u 70, u 71, u 72, u 73], defers := [] } := frame_of a 74 hs hd
end Go.Proofs.YtdhbakknplnnkaaGreat.Cc
namespace Go.Proofs.YtdhbakknplnnkaaGreat.Cc
open Go.RowKit

/-- What Put lays behind l. -/
def putS (l : List Bool) (x : Nat) (n : Int) : List Bool := if 0 ≤ n ∧ n ≤ 32 ∧ (l.length : Int) + n ≤ 524288 then l ++ bitsOf x n.toNat else l
/-- What Align lays behind l. -/
def alignS (l : List Bool) (n : Int) : List Bool := if 1 ≤ n ∧ n ≤ 64 ∧ (l.length : Int) + (n - l.length % n) % n ≤ 524288 then l ++ bitsOf 0 ((n - l.length % n) % n).toNat else l
/-- The bytes of a writer's row as a string. -/
theorem Wr.conv {T : TypeId} {w : World} {b : Nat} {v : Value} {l : List Bool} (h : Wr T w b v l) : (convert 82 9 v).run Tryz.prog w = .ok (.string (packS l)) w := by
  have hu : Tryz.prog.underlying 82 = some (.slice 5) := Tryz.underlying82
  have h5 : Tryz.prog.underlying 5 = some (.int .u8) := Tryz.underlying5
  have h9 : Tryz.prog.underlying 9 = some .string := Tryz.underlying9
  have ho := h.own
  have hlen : ((pk l).map UInt8.ofNat).length = (l.length + 7) / 8 := by simp
  rcases ho.2 with ⟨rfl, hn⟩ | ⟨g, cap, cur, rfl, hg, hh, r⟩
  · rw [run_convert_bytes_string w 82 9 5 none 0 0 hu h5 h9]
    have e : packS l = ⟨#[]⟩ := by
      have : pk l = [] := List.eq_nil_of_length_eq_zero (by rw [pk_len]; omega)
      unfold packS; rw [this]; rfl
    rw [e]; rfl
  · have := run_convert_bytes_back (P := Tryz.prog) w 82 9 5 ⟨g, 0, none⟩ cap ((pk l).map UInt8.ofNat) hu h5 h9 (fun j hj => by
      have hj' : j < (l.length + 7) / 8 := by rw [hlen] at hj; exact hj
      rw [Addr.add_lit, Nat.zero_add, ho.cellAt j (by omega), List.getElem?_map, pk_get l j hj']
      have hb := bv_lt l j
      have e : ((pk l).map UInt8.ofNat)[j] = UInt8.ofNat (bv l j) := by simp [pk]
      rw [e, UInt8.toNat_ofNat_of_lt' (by simpa using hb)]; rfl)
    rw [hlen] at this
    exact this
end Go.Proofs.YtdhbakknplnnkaaGreat.Cc
namespace Go.Proofs.YtdhbakknplnnkaaGreat.Cc
open Go.RowKit

theorem or_bit (B f : Nat) (c : Nat) (hB : B < 256) (hf : f < 8) (hc : c < 2) :
    bits .or .u8 (B : Int) ((c : Int) * 2 ^ (7 - f) % 256) = ((B ||| c % 2 ^ 1 * 2 ^ (8 - 1) / 2 ^ f : Nat) : Int) := by
  have e1 : c % 2 ^ 1 = c := by omega
  have e2 : c * 2 ^ (8 - 1) / 2 ^ f = c * 2 ^ (7 - f) := by
    have : 8 - 1 = (7 - f) + f := by omega
    rw [this, Nat.pow_add, ← Nat.mul_assoc, Nat.mul_div_cancel _ (Nat.two_pow_pos _)]
  have l1 : c * 2 ^ (7 - f) < 256 := by
    have : 2 ^ (7 - f) ≤ 2 ^ 7 := Nat.pow_le_pow_right (by decide) (by omega)
    have h2 : c * 2 ^ (7 - f) ≤ 1 * 2 ^ (7 - f) := Nat.mul_le_mul_right _ (by omega)
    omega
  have e3 : ((c : Int) * 2 ^ (7 - f) % 256) = ((c * 2 ^ (7 - f) : Nat) : Int) := by
    have : ((c : Int) * 2 ^ (7 - f)) = ((c * 2 ^ (7 - f) : Nat) : Int) := by simp
    rw [this]; omega
  rw [e1, e2, e3, u8_or_nat _ _ hB l1]
set_option maxRecDepth 100000 in
set_option maxHeartbeats 1000000 in
theorem bit_any (b : Nat) (v : Value) (l : List Bool) (c : Nat) (hc : c < 2) (h2 : l.length + 1 ≤ 524288) (w : World) (h : Wr 120 w b v l) :
    Calls Tryz.prog 53 #[.pointer (some ⟨b, 0, none⟩), .int .u8 (c : Int)] w fun e w' => e = .returned (.tuple #[]) ∧ ∃ v', Wr 120 w' b v' (l ++ bitsOf c 1) ∧ Tch b v v' w w' := by
  obtain ⟨c0, c1, f0, f1⟩ := cells2 h.head
  have hbl := h.lt
  have HR := mkHid h
  clear h
  obtain ⟨q, Hq⟩ : ∃ q, Hid (l.length / 8 = q) := ⟨_, rfl⟩
  obtain ⟨f, Hf⟩ : ∃ f, Hid (l.length % 8 = f) := ⟨_, rfl⟩
  obtain ⟨L, HL⟩ : ∃ L, Hid (l.length = L) := ⟨_, rfl⟩
  rw [HL.out] at Hq Hf c1
  rw [HL.out] at h2
  have hq : (L : Int) / 8 = (q : Nat) := by have := Hq.out; omega
  have hf : (L : Int) % 8 = (f : Nat) := by have := Hf.out; omega
  have hf1 : f < 8 := by have := Hf.out; omega
  go_enter Tryz.func53, Tryz.ntmps53
  go_upto_if 9 with fail
  go_cut [] (fun wc => ∃ g cap xs, Mid 120 wc b g cap l xs ∧ Tch b v (.slice (some ⟨g, 0, none⟩) (l.length / 8 + 1) cap) w wc)
  case first =>
    by_cases hf0 : f = 0
    · obtain ⟨i0, hi, hz0, hz1, hz2⟩ := info_parts info5
      have HO := mkHid (HR.out.own)
      go_wp2_with (at_builtin; refine wpList_append_own2 _ rfl (.tmp 14) (.tmp 15) 82 rfl (b + 1) 5 i0 (.int .u8 0) 1 1 Tryz.underlying82 hi hz0 hz1 hz2 rfl (by decide) v ((l.length + 7) / 8) ((pk l).map vb) rfl (HO.out.alloc _) ⟨w.heap.size, 0, none⟩ 1 1 [.int .u8 0] rfl rfl (cell_one_new _ _ _) (by intro u hu; simp at hu; subst hu; rfl) (by unfold maxLen; rw [HL.out]; omega) (by rw [HL.out]; omega) (by simp; omega) ?_; intro v1 w1 hown1 hgrow1 hnew1; obtain ⟨hd1, g, cap, hv1, hmid, htch⟩ := HR.out.grown (by rw [HL.out, Hf.out]; exact hf0) _ hown1 hgrow1 hnew1; subst hv1; obtain ⟨c0', c1', f0', f1'⟩ := cells2 hd1; have HM := mkHid hmid; have HT1 := mkHid htch; clear hown1 hgrow1 hnew1 hd1 hmid htch)
      go_meet
      case rel => exact ⟨g, cap, _, HM.out, HT1.out⟩
    · go_wp2
      go_meet
      case rel =>
        obtain ⟨g, cap, rfl, hm⟩ := HR.out.mid (by rw [HL.out, Hf.out]; exact hf0)
        exact ⟨g, cap, _, hm, Tch.refl _ _ _⟩
  case rest =>
    obtain ⟨g, cap, xs, hmid, htch⟩ := hcut
    obtain ⟨d0, d1, e0, e1⟩ := cells2 hmid.head
    have d2 := hmid.own.cellAt (l.length / 8) (by omega)
    have e2 := hmid.own.frozenAt (l.length / 8)
    rw [List.getElem?_map, hmid.last] at d2
    simp only [Option.map_some, vb] at d2
    rw [HL.out, Hq.out] at d0 d2 e2
    rw [HL.out] at d1
    have HB := mkHid (bv_lt l q)
    obtain ⟨B, HB2⟩ : ∃ B, Hid (bv l q = B) := ⟨_, rfl⟩
    rw [HB2.out] at d2
    have HM := mkHid hmid
    have HT1 := mkHid htch
    have hq2 : (q : Int) < (q : Int) + 1 := by omega
    clear hmid htch c0 c1 f0 f1
    have hgb := HM.out.lt.1
    have hgb1 : ¬ g = b := by omega
    have hgb2 : ¬ b = g := by omega
    go_wp2
    go_region
    go_wp2
    go_returns
    rw [or_bit B f c (by have := HB.out; rw [HB2.out] at this; exact this) hf1 hc]
    obtain ⟨k1, k2⟩ := HM.out.done c 1 (by omega) (by rw [HL.out, Hf.out]; omega) (by rw [HL.out]; omega) (((B ||| c % 2 ^ 1 * 2 ^ (8 - 1) / 2 ^ f : Nat) : Int)) ((L : Int) + 1) (by rw [HL.out, Hq.out, Hf.out, HB2.out]) (by rw [HL.out]; rfl)
    rw [HL.out, Hq.out] at k1 k2
    have ht := HT1.out
    rw [HL.out, Hq.out] at ht
    exact ⟨rfl, _, k1, ht.trans k2⟩
theorem rwrite_any (w : World) :
    Calls Tryz.prog 30 #[] w fun e w' => e = .returned (.pointer (some ⟨w.heap.size, 0, none⟩)) ∧ Wr 120 w' w.heap.size (.slice none 0 0) [] ∧ Apart (fun _ => False) w w' ∧ w'.heap.size = w.heap.size + 1 := by
  go_enter Tryz.func30, Tryz.ntmps30
  go_wp2
  go_ret
  exact ⟨rfl, ⟨heap_alloc_new _ _, World.ownsRow_nil _ _ _ _, Nat.zero_le _⟩, (Apart.refl _ _).alloc _, by simp⟩
theorem rtext_any (b : Nat) (v : Value) (l : List Bool) (w : World) (h : Wr 120 w b v l) :
    Calls Tryz.prog 33 #[.pointer (some ⟨b, 0, none⟩)] w fun e w' => e = .returned (.string (packS l)) ∧ w' = w := by
  obtain ⟨c0, c1, f0, f1⟩ := cells2 h.head
  have hc := h.conv
  generalize packS l = s at *
  clear h
  go_enter Tryz.func33, Tryz.ntmps33
  go_wp2
  go_ret
  exact ⟨rfl, rfl⟩
theorem bit_of (x j : Nat) : (x / 2 ^ j % 2) < 2 := Nat.mod_lt _ (by decide)
theorem and_bit (x : Int) (x0 : 0 ≤ x) (x1 : x < 4294967296) (j : Nat) : bits .and .u32 (x / 2 ^ j) 1 % 256 = ((x.toNat / 2 ^ j % 2 : Nat) : Int) := by
  obtain ⟨X, rfl⟩ : ∃ X : Nat, x = X := ⟨x.toNat, by omega⟩
  have e1 : ((X : Int) / 2 ^ j) = ((X / 2 ^ j : Nat) : Int) := by simp
  have l1 : X / 2 ^ j < 4294967296 := Nat.lt_of_le_of_lt (Nat.div_le_self _ _) (by omega)
  have e2 := u32_and_nat (X / 2 ^ j) 1 l1 (by decide)
  rw [Nat.and_one_is_mod] at e2
  have e3 : bits .and .u32 ((X / 2 ^ j : Nat) : Int) 1 = ((X / 2 ^ j % 2 : Nat) : Int) := e2
  rw [e1, e3, Int.toNat_natCast]
  have := bit_of X j
  omega
set_option maxRecDepth 100000 in
set_option maxHeartbeats 1000000 in
theorem rput_in (b : Nat) (v : Value) (l : List Bool) (x : Int) (n : Nat) (x0 : 0 ≤ x) (x1 : x < 4294967296) (h1 : n ≤ 32) (h2 : l.length + n ≤ 524288) (w : World) (h : Wr 120 w b v l) :
    Calls Tryz.prog 31 #[.pointer (some ⟨b, 0, none⟩), .int .u32 x, .int .i64 n] w fun e w' => e = .returned (.tuple #[]) ∧ ∃ v', Wr 120 w' b v' (l ++ bitsOf x.toNat n) ∧ Tch b v v' w w' := by
  obtain ⟨c0, c1, f0, f1⟩ := cells2 h.head
  have H := mkHid h
  have hl : (n : Int) ≤ 524288 - (l.length : Int) := by omega
  have hl1 : (l.length : Int) ≤ 524288 := by omega
  clear h
  go_enter Tryz.func31, Tryz.ntmps31
  go_wp2
  clear c0 c1 f0 f1 hl hl1
  go_loopw [6] (fun i wr => ∃ (j : Nat) (vc : Value) (lc : List Bool), j ≤ n ∧ i = .int .i64 ((j : Int) - 1) ∧ Wr 120 wr b vc lc ∧ lc ++ bitsOf x.toNat j = l ++ bitsOf x.toNat n ∧ Tch b v vc w wr) (fun i _ => (intOf i + 1).toNat)
  case atStart => exact ⟨n, v, l, Nat.le_refl _, rfl, H.out, rfl, Tch.refl _ _ _⟩
  case round =>
    obtain ⟨j, vc, lc, hj, rfl, hw, hlist, ht⟩ := hrel
    have HW := mkHid hw
    have HLI := mkHid hlist
    have HT := mkHid ht
    have hlen : lc.length + j = l.length + n := by have := congrArg List.length hlist; simpa using this
    clear hw hlist ht H
    cases j with
    | zero =>
      rw [show (((0 : Nat) : Int) - 1) = -1 from rfl]
      go_wp2
      go_returns
      refine ⟨rfl, vc, ?_, HT.out⟩
      rw [← HLI.out, bitsOf, List.append_nil]
      exact HW.out
    | succ j =>
      rw [show (((j + 1 : Nat) : Int) - 1) = (j : Int) from by omega]
      have hmin : min j 32 = j := by omega
      obtain ⟨c, he, HC⟩ : ∃ c : Nat, bits .and .u32 (x / 2 ^ j) 1 % 256 = (c : Int) ∧ Hid (c = x.toNat / 2 ^ j % 2) := ⟨_, and_bit x x0 x1 j, rfl⟩
      go_wp2_with fail
      refine (bit_any b vc lc c (by rw [HC.out]; exact bit_of _ _) (by omega) _ HW.out).mono ?_
      rintro e w2 ⟨rfl, v2, h3, t3⟩
      have H3 := mkHid h3
      have T3 := mkHid (HT.out.trans t3)
      clear h3 t3
      go_wp2
      go_roundw
      case rel =>
        refine ⟨j, v2, _, by omega, by go_num, H3.out, ?_, T3.out⟩
        have e1 : bitsOf c 1 = bitsOf (x.toNat / 2 ^ j) 1 := by rw [HC.out]; exact bitsOf_mod _ 1 1 (Nat.le_refl _)
        rw [← HLI.out, e1, List.append_assoc, ← bitsOf_split, Nat.add_comm]
      case measure => simp [intOf]
theorem rput_out (b : Nat) (v : Value) (l : List Bool) (x n : Int) (hn : ¬ (0 ≤ n ∧ n ≤ 32 ∧ (l.length : Int) + n ≤ 524288)) (w : World) (h : Wr 120 w b v l) :
    Calls Tryz.prog 31 #[.pointer (some ⟨b, 0, none⟩), .int .u32 x, .int .i64 n] w fun e w' => e = .returned (.tuple #[]) ∧ w' = w := by
  obtain ⟨c0, c1, f0, f1⟩ := cells2 h.head
  have hl1 : (l.length : Int) ≤ 524288 := by have := h.most; omega
  clear h
  by_cases h1 : n < 0
  · clear hn
    go_enter Tryz.func31, Tryz.ntmps31
    go_wp2
    go_returns
    exact ⟨rfl, rfl⟩
  · by_cases h2 : 32 < n
    · clear hn
      go_enter Tryz.func31, Tryz.ntmps31
      go_wp2
      go_returns
      exact ⟨rfl, rfl⟩
    · have h3 : 524288 - (l.length : Int) < n := by omega
      clear hn
      go_enter Tryz.func31, Tryz.ntmps31
      go_wp2
      go_returns
      exact ⟨rfl, rfl⟩
theorem rput_any (b : Nat) (v : Value) (l : List Bool) (x n : Int) (x0 : 0 ≤ x) (x1 : x < 4294967296) (w : World) (h : Wr 120 w b v l) :
    Calls Tryz.prog 31 #[.pointer (some ⟨b, 0, none⟩), .int .u32 x, .int .i64 n] w fun e w' => e = .returned (.tuple #[]) ∧ ∃ v', Wr 120 w' b v' (putS l x.toNat n) ∧ Tch b v v' w w' := by
  by_cases hc : 0 ≤ n ∧ n ≤ 32 ∧ (l.length : Int) + n ≤ 524288
  · unfold putS
    rw [if_pos hc]
    obtain ⟨m, rfl⟩ : ∃ m : Nat, n = m := ⟨n.toNat, by omega⟩
    exact rput_in b v l x m x0 x1 (by omega) (by omega) w h
  · unfold putS
    rw [if_neg hc]
    exact (rput_out b v l x n hc w h).mono fun e w' ⟨h1, h2⟩ => ⟨h1, v, by subst h2; exact h, by subst h2; exact Tch.refl _ _ _⟩
theorem al_end (L n r m : Nat) (h0 : 1 ≤ n) (hr : L % n = r) (hm : (n - r) % n = m) : (L + m) % n = 0 := by
  have hr1 : r < n := by rw [← hr]; exact Nat.mod_lt _ (by omega)
  by_cases h : r = 0
  · subst h
    rw [Nat.sub_zero, Nat.mod_self] at hm
    rw [← hm, Nat.add_zero, hr]
  · rw [Nat.mod_eq_of_lt (by omega)] at hm
    have e : L + m = n * (L / n + 1) := by rw [Nat.mul_add, Nat.mul_one]; have := Nat.div_add_mod L n; omega
    rw [e, Nat.mul_mod_right]
theorem al_step (L n r m j : Nat) (h0 : 1 ≤ n) (hr : L % n = r) (hm : (n - r) % n = m) (hj : j < m) : ¬ (L + j) % n = 0 := by
  have hr1 : r < n := by rw [← hr]; exact Nat.mod_lt _ (by omega)
  by_cases h : r = 0
  · subst h
    rw [Nat.sub_zero, Nat.mod_self] at hm
    omega
  · rw [Nat.mod_eq_of_lt (by omega)] at hm
    have e : L + j = n * (L / n) + (r + j) := by have := Nat.div_add_mod L n; omega
    rw [e, Nat.mul_add_mod, Nat.mod_eq_of_lt (by omega)]
    omega
set_option maxRecDepth 100000 in
set_option maxHeartbeats 1000000 in
theorem ralign_in (b : Nat) (v : Value) (l : List Bool) (n r m : Nat) (h0 : 1 ≤ n) (h1 : n ≤ 64) (hr : l.length % n = r) (hm : (n - r) % n = m) (h2 : l.length + m ≤ 524288) (w : World) (h : Wr 120 w b v l) :
    Calls Tryz.prog 32 #[.pointer (some ⟨b, 0, none⟩), .int .i64 n] w fun e w' => e = .returned (.tuple #[]) ∧ ∃ v', Wr 120 w' b v' (l ++ bitsOf 0 m) ∧ Tch b v v' w w' := by
  obtain ⟨c0, c1, f0, f1⟩ := cells2 h.head
  have H := mkHid h
  have hr1 : r < n := by rw [← hr]; exact Nat.mod_lt _ (by omega)
  have hm1 : m < n := by rw [← hm]; exact Nat.mod_lt _ (by omega)
  have HRM := mkHid hr
  have HMM := mkHid hm
  have er : (l.length : Int) % n = (r : Int) := by rw [← hr]; simp
  have em : ((n : Int) - r) % n = (m : Int) := by rw [← hm, show (n : Int) - r = ((n - r : Nat) : Int) by omega]; simp
  have hl1 : (l.length : Int) ≤ 524288 := by omega
  have d1 : decide ((n : Int) < 1) = false := by simp; omega
  have d2 : decide ((64 : Int) < n) = false := by simp; omega
  have d3 : decide (524288 - (l.length : Int) < (m : Int)) = false := by simp; omega
  have hn0 : ¬ n = 0 := by omega
  clear h hr hm
  go_enter Tryz.func32, Tryz.ntmps32
  go_wp2
  go_quiet (fail)
  go_wp2_with fail
  simp only [er, em]
  clear c0 c1 f0 f1 hl1 d1 d2 d3 er em
  go_loopg [] m (fun k wr => ∃ (j : Nat) (vc : Value), k = m - j ∧ j ≤ m ∧ Wr 120 wr b vc (l ++ bitsOf 0 j) ∧ Tch b v vc w wr)
  case atStart => exact ⟨0, v, rfl, Nat.zero_le _, by rw [bitsOf, List.append_nil]; exact H.out.kept ((Apart.refl (fun _ => False) w).drewN nq) (fun h => h) (fun _ _ h => h), ⟨(Apart.refl _ w).drewN nq, fun _ h => .inl h⟩⟩
  case round =>
    obtain ⟨j, vc, rfl, hj, hw, ht⟩ := hrel
    obtain ⟨c0, c1, f0, f1⟩ := cells2 hw.head
    rw [List.length_append, bitsOf_len] at c1
    have HW := mkHid hw
    have HT := mkHid ht
    clear hw ht H
    by_cases hlt : j < m
    · obtain ⟨z, hz, hz0⟩ : ∃ z : Nat, ((l.length : Int) + (j : Int)) % n = (z : Int) ∧ ¬ (z : Int) = 0 := ⟨(l.length + j) % n, by simp, by have := al_step l.length n r m j h0 HRM.out HMM.out hlt; omega⟩
      have hz1 : ((z : Int) != 0) = true := by simpa using hz0
      go_wp2_with fail
      refine (bit_any b vc _ 0 (by decide) (by simp; omega) _ HW.out).mono ?_
      rintro e w2 ⟨rfl, v2, h3, t3⟩
      have H3 := mkHid h3
      have T3 := mkHid (HT.out.trans t3)
      clear h3 t3
      go_wp2
      go_roundg (m - (j + 1))
      case measure => omega
      case rel =>
        refine ⟨j + 1, v2, rfl, by omega, ?_, T3.out⟩
        have e1 := bitsOf_split 0 j 1
        rw [Nat.zero_div] at e1
        rw [e1, ← List.append_assoc]
        exact H3.out
    · obtain rfl : j = m := by omega
      have hz : ((l.length : Int) + (j : Int)) % n = 0 := by have e := al_end l.length n r j h0 HRM.out HMM.out; have := congrArg (Nat.cast (R := Int)) e; simpa using this
      go_wp2
      go_returns
      exact ⟨rfl, vc, HW.out, HT.out⟩
theorem ralign_out (b : Nat) (v : Value) (l : List Bool) (n : Int) (hn : ¬ (1 ≤ n ∧ n ≤ 64 ∧ (l.length : Int) + (n - l.length % n) % n ≤ 524288)) (w : World) (h : Wr 120 w b v l) :
    Calls Tryz.prog 32 #[.pointer (some ⟨b, 0, none⟩), .int .i64 n] w fun e w' => e = .returned (.tuple #[]) ∧ ∃ k, w' = w.drewN k := by
  obtain ⟨c0, c1, f0, f1⟩ := cells2 h.head
  have hl1 : (l.length : Int) ≤ 524288 := by have := h.most; omega
  clear h
  by_cases h1 : n < 1
  · clear hn
    go_enter Tryz.func32, Tryz.ntmps32
    go_wp2
    go_quiet (fail)
    go_wp2
    go_returns
    exact ⟨rfl, _, rfl⟩
  · have d1 : decide (n < 1) = false := by simpa using h1
    by_cases h2 : 64 < n
    · clear hn
      go_enter Tryz.func32, Tryz.ntmps32
      go_wp2
      go_quiet (fail)
      go_wp2
      go_returns
      exact ⟨rfl, _, rfl⟩
    · have d2 : decide (64 < n) = false := by simpa using h2
      obtain ⟨N, rfl⟩ : ∃ N : Nat, n = N := ⟨n.toNat, by omega⟩
      obtain ⟨r, hr⟩ : ∃ r : Nat, (l.length : Int) % N = r := ⟨l.length % N, by simp⟩
      have hr1 : r < N := by have := Int.emod_lt_of_pos (l.length : Int) (show (0 : Int) < N by omega); omega
      obtain ⟨j, hj⟩ : ∃ j : Nat, ((N : Int) - r) % N = j := ⟨(N - r) % N, by rw [show (N : Int) - r = ((N - r : Nat) : Int) by omega]; simp⟩
      rw [hr, hj] at hn
      have h3 : 524288 - (l.length : Int) < j := by omega
      have hn0 : ¬ N = 0 := by omega
      clear hn
      go_enter Tryz.func32, Tryz.ntmps32
      go_wp2
      go_quiet (fail)
      go_wp2
      go_returns
      exact ⟨rfl, _, rfl⟩
theorem ralign_any (b : Nat) (v : Value) (l : List Bool) (n : Int) (w : World) (h : Wr 120 w b v l) :
    Calls Tryz.prog 32 #[.pointer (some ⟨b, 0, none⟩), .int .i64 n] w fun e w' => e = .returned (.tuple #[]) ∧ ∃ v', Wr 120 w' b v' (alignS l n) ∧ Tch b v v' w w' := by
  by_cases hc : 1 ≤ n ∧ n ≤ 64 ∧ (l.length : Int) + (n - l.length % n) % n ≤ 524288
  · unfold alignS
    rw [if_pos hc]
    obtain ⟨N, rfl⟩ : ∃ N : Nat, n = N := ⟨n.toNat, by omega⟩
    obtain ⟨r, hr, hr2⟩ : ∃ r : Nat, (l.length : Int) % N = r ∧ l.length % N = r := ⟨l.length % N, by simp, rfl⟩
    have hr1 : r < N := by rw [← hr2]; exact Nat.mod_lt _ (by omega)
    obtain ⟨j, hj, hj2⟩ : ∃ j : Nat, ((N : Int) - r) % N = j ∧ (N - r) % N = j := ⟨(N - r) % N, by rw [show (N : Int) - r = ((N - r : Nat) : Int) by omega]; simp, rfl⟩
    rw [hr, hj] at hc
    rw [hr, hj, Int.toNat_natCast]
    exact ralign_in b v l N r j (by omega) (by omega) hr2 hj2 (by omega) w h
  · unfold alignS
    rw [if_neg hc]
    exact (ralign_out b v l n hc w h).mono fun e w' ⟨h1, k, h2⟩ => ⟨h1, v, by subst h2; exact h.kept ((Apart.refl (fun _ => False) w).drewN k) (fun h => h) (fun _ _ h => h), by subst h2; exact ⟨(Apart.refl _ w).drewN k, fun _ h => .inl h⟩⟩
end Go.Proofs.YtdhbakknplnnkaaGreat.Cc
namespace Go.Proofs.YtdhbakknplnnkaaGreat.Cc
open Go.RowKit

theorem rread_any (s : ByteArray) (w : World) :
    Calls Tryz.prog 43 #[.string s] w fun e w' => e = .returned (.pointer (some ⟨w.heap.size, 0, none⟩)) ∧ Rd 136 w' w.heap.size s (some 0) ∧ Apart (fun _ => False) w w' ∧ w'.heap.size = w.heap.size + 1 := by
  go_enter Tryz.func43, Tryz.ntmps43
  go_wp2
  go_ret
  exact ⟨rfl, ⟨heap_alloc_new _ _, Nat.zero_le _⟩, (Apart.refl _ _).alloc _, by simp⟩
theorem rleft_any (b : Nat) (s : ByteArray) (hs : s.size ≤ 1000000) (st : Option Nat) (w : World) (h : Rd 136 w b s st) :
    Calls Tryz.prog 45 #[.pointer (some ⟨b, 0, none⟩)] w fun e w' => e = .returned (.int .i64 (gleft s st)) ∧ ∃ n, w' = w.drewN n := by
  cases st with
  | none =>
    obtain ⟨s', p, h⟩ := h
    obtain ⟨c0, c1, c2, f0, f1, f2⟩ := cells3 h
    clear h
    go_enter Tryz.func45, Tryz.ntmps45
    go_wp2
    go_ret
    exact ⟨rfl, 0, rfl⟩
  | some p =>
    obtain ⟨c0, c1, c2, f0, f1, f2⟩ := cells3 h.1
    have hp := h.2
    clear h
    go_enter Tryz.func45, Tryz.ntmps45
    go_wp2
    go_quiet (fail)
    go_wp2
    go_ret
    exact ⟨rfl, _, rfl⟩
theorem rbad_end {w : World} {b : Nat} {s s' : ByteArray} {p : Int} {x : Bool} (h : w.heap[b]? = some (.cells #[.string s', .int .i64 p, .bool x] 136 (0, 0))) (n : Nat) :
    Rd 136 ((w.drewN n).setCell ⟨b, 2, none⟩ (.bool true)) b s none ∧ Apart (· = b) w ((w.drewN n).setCell ⟨b, 2, none⟩ (.bool true)) := by
  have h0 : (w.drewN n).heap[b]? = some (.cells #[.string s', .int .i64 p, .bool x] 136 (0, 0)) := h
  have h1 := heap_setCell_same _ b 2 _ 136 (.bool true) h0
  refine ⟨⟨s', p, ?_⟩, ?_⟩
  · rw [h1]; rfl
  · exact Apart.setCell ((Apart.refl (· = b) w).drewN n) (p := ⟨b, 2, none⟩) (fun _ => rfl) _
theorem rget_none (b : Nat) (s : ByteArray) (n : Int) (w : World) (h : Rd 136 w b s none) :
    Calls Tryz.prog 44 #[.pointer (some ⟨b, 0, none⟩), .int .i64 n] w fun e w' => e = .returned (.int .u32 0) ∧ Rd 136 w' b s none ∧ Apart (· = b) w w' := by
  obtain ⟨s', p, h⟩ := h
  obtain ⟨c0, c1, c2, f0, f1, f2⟩ := cells3 h
  have H := mkHid h
  clear h
  go_enter Tryz.func44, Tryz.ntmps44
  go_wp2
  go_quiet (fail)
  go_wp2
  go_ret
  exact ⟨rfl, rbad_end H.out nq⟩
theorem rget_wrong (b : Nat) (s : ByteArray) (hs : s.size ≤ 1000000) (p : Nat) (n : Int) (hn : ¬ (0 ≤ n ∧ n ≤ 32 ∧ (p : Int) + n ≤ 8 * s.size)) (w : World) (h : Rd 136 w b s (some p)) :
    Calls Tryz.prog 44 #[.pointer (some ⟨b, 0, none⟩), .int .i64 n] w fun e w' => e = .returned (.int .u32 0) ∧ Rd 136 w' b s none ∧ Apart (· = b) w w' := by
  obtain ⟨c0, c1, c2, f0, f1, f2⟩ := cells3 h.1
  have hp := h.2
  have H := mkHid h.1
  clear h
  by_cases h1 : n < 0
  · clear hn
    go_enter Tryz.func44, Tryz.ntmps44
    go_wp2
    go_quiet (fail)
    go_wp2
    go_ret
    exact ⟨rfl, rbad_end H.out nq⟩
  · by_cases h2 : 32 < n
    · have d1 : decide (n < 0) = false := by simpa using h1
      clear hn
      go_enter Tryz.func44, Tryz.ntmps44
      go_wp2
      go_quiet (fail)
      go_wp2
      go_ret
      exact ⟨rfl, rbad_end H.out nq⟩
    · have h3 : 8 * (s.size : Int) - p < n := by omega
      have d1 : decide (n < 0) = false := by simpa using h1
      have d2 : decide (32 < n) = false := by simpa using h2
      clear hn
      go_enter Tryz.func44, Tryz.ntmps44
      go_wp2
      go_quiet (fail)
      go_wp2
      go_ret
      exact ⟨rfl, rbad_end H.out nq⟩
theorem bit_step (s : ByteArray) (p r q f P n : Nat) (hP : p + r = P) (hq : P / 8 = q) (hf : P % 8 = f) (hr : r < n) (hn : n ≤ 32) (hlt : q < s.size) :
    ((gv s p r : Int) * 2 % 4294967296 + bits .and .u8 ((s[q].toNat : Int) / 2 ^ (7 - f)) 1 % 4294967296) % 4294967296 = (gv s p (r + 1) : Int) := by
  have g1 := gv_lt s p (r + 1)
  have p2 : 2 ^ (r + 1) ≤ 2 ^ 32 := Nat.pow_le_pow_right (by decide) (by omega)
  have e0 : bt s P = s[q].toNat / 2 ^ (7 - f) % 2 := by
    unfold bt
    rw [hq, hf]
    congr 3
    rw [List.getD_eq_getElem?_getD, List.getElem?_eq_getElem (by simpa using hlt)]
    rfl
  have e1 : ((s[q].toNat : Int) / 2 ^ (7 - f)) = ((s[q].toNat / 2 ^ (7 - f) : Nat) : Int) := by simp
  have l1 : s[q].toNat / 2 ^ (7 - f) < 256 := Nat.lt_of_le_of_lt (Nat.div_le_self _ _) s[q].toNat_lt
  have e2 : bits .and .u8 ((s[q].toNat / 2 ^ (7 - f) : Nat) : Int) 1 = ((bt s P : Nat) : Int) := by
    have := u8_and_nat (s[q].toNat / 2 ^ (7 - f)) 1 l1 (by decide)
    rw [e0, ← Nat.and_one_is_mod]; exact this
  have e3 : gv s p (r + 1) = 2 * gv s p r + bt s P := by rw [← hP]; rfl
  rw [e1, e2, e3]
  rw [e3] at g1
  omega

set_option maxRecDepth 100000 in
theorem rget_ok (b : Nat) (s : ByteArray) (hs : s.size ≤ 1000000) (p n : Nat) (h1 : n ≤ 32) (h2 : p + n ≤ 8 * s.size) (w : World) (h : Rd 136 w b s (some p)) :
    Calls Tryz.prog 44 #[.pointer (some ⟨b, 0, none⟩), .int .i64 n] w fun e w' => e = .returned (.int .u32 (gv s p n)) ∧ Rd 136 w' b s (some (p + n)) ∧ Apart (· = b) w w' := by
  obtain ⟨c0, c1, c2, f0, f1, f2⟩ := cells3 h.1
  have H := mkHid h
  have h3 : (n : Int) ≤ 8 * (s.size : Int) - p := by omega
  have d1 : decide ((n : Int) < 0) = false := by simp
  have d2 : decide ((32 : Int) < n) = false := by simp; omega
  have d3 : decide (8 * (s.size : Int) - p < n) = false := by simp; omega
  clear h
  go_enter Tryz.func44, Tryz.ntmps44
  go_wp2
  go_quiet (fail)
  go_wp2
  clear c0 c1 c2 f0 f1 f2 d1 d2 d3
  go_loopw [5, 6] (fun v i w' => ∃ r : Nat, r ≤ n ∧ i = .int .i64 (r : Int) ∧ v = .int .u32 (gv s p r : Int) ∧ Rd 136 w' b s (some (p + r)) ∧ Apart (· = b) w w') (fun _ i _ => n - (intOf i).toNat)
  case atStart => exact ⟨0, Nat.zero_le _, rfl, rfl, drew_rd nq H.out, (Apart.refl _ _).drewN nq⟩
  case round =>
    obtain ⟨r, hrn, rfl, rfl, hr, ha⟩ := hrel
    obtain ⟨P, HP⟩ : ∃ P, Hid (p + r = P) := ⟨_, rfl⟩
    rw [HP.out] at hr
    obtain ⟨c0, c1, c2, f0, f1, f2⟩ := cells3 hr.1
    have HR := mkHid hr
    have HA := mkHid ha
    clear hr ha
    by_cases hlt : r < n
    · have hP : P + 1 ≤ 8 * s.size := by have := HP.out; omega
      have hq1 : P / 8 < s.size := by omega
      have hf1 : P % 8 < 8 := by omega
      obtain ⟨q, Hq⟩ : ∃ q, Hid (P / 8 = q) := ⟨_, rfl⟩
      obtain ⟨f, Hf⟩ : ∃ f, Hid (P % 8 = f) := ⟨_, rfl⟩
      have hq : (P : Int) / 8 = (q : Nat) := by have := Hq.out; omega
      have hf : (P : Int) % 8 = (f : Nat) := by have := Hf.out; omega
      rw [Hq.out] at hq1
      rw [Hf.out] at hf1
      go_wp2
      go_quiet (fail)
      go_wp2
      obtain ⟨k1, k2⟩ := adv_end HR.out (k := 1) hP nq
      refine ⟨⟨r + 1, by omega, by go_num, ?_, ?_, HA.out.trans k2 (fun _ _ h => h)⟩, by simp [intOf]; omega⟩
      · rw [bit_step s p r q f P n HP.out Hq.out Hf.out hlt h1 hq1]
      · have : p + (r + 1) = P + 1 := by have := HP.out; omega
        rw [this]; exact k1
    · obtain rfl : r = n := by omega
      go_wp2
      go_ret
      have hr := HR.out
      rw [← HP.out] at hr
      exact ⟨rfl, hr, HA.out⟩
/-- Get of the reference, whatever it is asked. -/
theorem rget_any (b : Nat) (s : ByteArray) (hs : s.size ≤ 1000000) (st : Option Nat) (n : Int) (w : World) (h : Rd 136 w b s st) :
    Calls Tryz.prog 44 #[.pointer (some ⟨b, 0, none⟩), .int .i64 n] w fun e w' => e = .returned (.int .u32 (gval s st n)) ∧ Rd 136 w' b s (gnext s st n) ∧ Apart (· = b) w w' := by
  cases st with
  | none => exact rget_none b s n w h
  | some p =>
    simp only [gval, gnext]
    by_cases hc : 0 ≤ n ∧ n ≤ 32 ∧ (p : Int) + n ≤ 8 * s.size
    · rw [if_pos hc, if_pos hc]
      obtain ⟨m, rfl⟩ : ∃ m : Nat, n = m := ⟨n.toNat, by omega⟩
      exact rget_ok b s hs p m (by omega) (by omega) w h
    · rw [if_neg hc, if_neg hc]
      exact rget_wrong b s hs p n hc w h
end Go.Proofs.YtdhbakknplnnkaaGreat.Cc
namespace Go.Proofs.YtdhbakknplnnkaaGreat.Cc

/-- Is n from a to b? -/
def inR (n a b : Int) : Bool := decide (a ≤ n ∧ n ≤ b)
theorem inR_yes {n a b : Int} (h0 : a ≤ n) (h1 : n ≤ b) : inR n a b = true := by simp [inR, h0, h1]
theorem inR_no {n a b : Int} (h : ¬ (a ≤ n ∧ n ≤ b)) : inR n a b = false := by simpa [inR] using h
theorem inR_iff {n a b : Int} : inR n a b = true ↔ a ≤ n ∧ n ≤ b := by simp [inR]

/-- What is told of a packet. -/
structure Mt where
  g : Bool
  e : Int
  a : Int
/-- What is told of a source. -/
structure Bk where
  s : Int
  f : Int
  m : List Mt
theorem Mt.eq {x y : Mt} (h0 : x.g = y.g) (h1 : x.e = y.e) (h2 : x.a = y.a) : x = y := by cases x; cases y; simp_all
theorem Bk.eq {x y : Bk} (h0 : x.s = y.s) (h1 : x.f = y.f) (h2 : x.m = y.m) : x = y := by cases x; cases y; simp_all

def mtOk (m : Mt) : Bool := if m.g then inR m.e 0 3 && inR m.a 0 8191 else decide (m.e = 0) && decide (m.a = 0)
def bkOk (b : Bk) : Bool := inR b.f 0 65535 && decide (b.m.length ≤ 4096) && b.m.all mtOk
def goodL (l : List Bk) : Bool := decide (l.length ≤ 16) && l.all bkOk
theorem mtOk_bd {m : Mt} (h : mtOk m = true) : 0 ≤ m.e ∧ m.e ≤ 3 ∧ 0 ≤ m.a ∧ m.a ≤ 8191 := by
  unfold mtOk at h
  cases hg : m.g with
  | true => rw [hg] at h; simp [inR] at h; omega
  | false => rw [hg] at h; simp at h; omega
theorem bkOk_iff {b : Bk} : bkOk b = true ↔ (0 ≤ b.f ∧ b.f ≤ 65535) ∧ b.m.length ≤ 4096 ∧ b.m.all mtOk = true := by
  simp only [bkOk, inR, Bool.and_eq_true, decide_eq_true_eq, and_assoc]
theorem goodL_iff {l : List Bk} : goodL l = true ↔ l.length ≤ 16 ∧ l.all bkOk = true := by simp only [goodL, Bool.and_eq_true, decide_eq_true_eq]

/-- The bytes of so many packets. -/
def mb (n : Nat) : Nat := (n + 1) / 2 * 4
/-- The bytes of sources. -/
def szB : List Bk → Nat
  | [] => 0
  | b :: l => 8 + mb b.m.length + szB l
theorem szB_app (l k : List Bk) : szB (l ++ k) = szB l + szB k := by induction l with | nil => simp [szB] | cons b l ih => simp [szB, ih]; omega
theorem szB_take {l : List Bk} {k : Nat} {b : Bk} (h : l[k]? = some b) : szB (l.take (k + 1)) = szB (l.take k) + (8 + mb b.m.length) := by
  have : l.take (k + 1) = l.take k ++ [b] := by rw [List.take_add_one, h]; rfl
  rw [this, szB_app]; simp [szB]
theorem szB_le (l : List Bk) (k : Nat) : szB (l.take k) ≤ szB l := by
  have := szB_app (l.take k) (l.drop k)
  rw [List.take_append_drop] at this; omega
theorem szB_mod (l : List Bk) : szB l % 4 = 0 := by induction l with | nil => rfl | cons b l ih => simp only [szB, mb]; omega
/-- How many packets. -/
def nM : List Bk → Nat
  | [] => 0
  | b :: l => b.m.length + nM l
theorem nM_app (l k : List Bk) : nM (l ++ k) = nM l + nM k := by induction l with | nil => simp [nM] | cons b l ih => simp [nM, ih]; omega
theorem nM_take {l : List Bk} {k : Nat} {b : Bk} (h : l[k]? = some b) : nM (l.take (k + 1)) = nM (l.take k) + b.m.length := by
  have : l.take (k + 1) = l.take k ++ [b] := by rw [List.take_add_one, h]; rfl
  rw [this, nM_app]; simp [nM]
theorem nM_sz (l : List Bk) : 2 * nM l ≤ szB l := by induction l with | nil => simp [nM, szB] | cons b l ih => simp only [nM, szB, mb]; omega
theorem sz_nM (l : List Bk) : szB l ≤ 10 * l.length + 2 * nM l := by induction l with | nil => simp [nM, szB] | cons b l ih => simp only [nM, szB, mb, List.length_cons]; omega

def b01 (b : Bool) : Nat := if b then 1 else 0
/-- The bits of what is told of a packet. -/
def mB (m : Mt) : List Bool := bitsOf (b01 m.g) 1 ++ bitsOf m.e.toNat 2 ++ bitsOf m.a.toNat 13
@[simp] theorem mB_len (m : Mt) : (mB m).length = 16 := by simp [mB]
def msB : List Mt → List Bool
  | [] => []
  | m :: l => mB m ++ msB l
@[simp] theorem msB_len (l : List Mt) : (msB l).length = 16 * l.length := by induction l with | nil => rfl | cons m l ih => simp [msB, ih]; omega
theorem msB_app (l k : List Mt) : msB (l ++ k) = msB l ++ msB k := by induction l with | nil => rfl | cons b l ih => simp [msB, ih]
theorem msB_take {l : List Mt} {k : Nat} {m : Mt} (h : l[k]? = some m) : msB (l.take (k + 1)) = msB (l.take k) ++ mB m := by
  have : l.take (k + 1) = l.take k ++ [m] := by rw [List.take_add_one, h]; rfl
  rw [this, msB_app]; simp [msB]
/-- The bits of a source ahead of its packets. -/
def hB (b : Bk) : List Bool := bitsOf b.s.toNat 32 ++ bitsOf b.f.toNat 16 ++ bitsOf b.m.length 16
@[simp] theorem hB_len (b : Bk) : (hB b).length = 64 := by simp [hB]
def bB (b : Bk) : List Bool := hB b ++ msB b.m ++ bitsOf 0 (16 * (b.m.length % 2))
theorem bB_len (b : Bk) : (bB b).length = 64 + 8 * mb b.m.length := by simp [bB, mb]; omega
def bsB : List Bk → List Bool
  | [] => []
  | b :: l => bB b ++ bsB l
theorem bsB_len (l : List Bk) : (bsB l).length = 8 * szB l := by induction l with | nil => rfl | cons b l ih => simp [bsB, szB, ih, bB_len]; omega
theorem bsB_app (l k : List Bk) : bsB (l ++ k) = bsB l ++ bsB k := by induction l with | nil => rfl | cons b l ih => simp [bsB, ih]
theorem bsB_take {l : List Bk} {k : Nat} {b : Bk} (h : l[k]? = some b) : bsB (l.take (k + 1)) = bsB (l.take k) ++ bB b := by
  have : l.take (k + 1) = l.take k ++ [b] := by rw [List.take_add_one, h]; rfl
  rw [this, bsB_app]; simp [bsB]
/-- The bits of a report's body. -/
def encL (sd : Int) (l : List Bk) (st : Int) : List Bool := bitsOf sd.toNat 32 ++ bsB l ++ bitsOf st.toNat 32
theorem encL_len (sd : Int) (l : List Bk) (st : Int) : (encL sd l st).length = 8 * (8 + szB l) := by simp [encL, bsB_len]; omega
/-- What Encode answers: the error, the body. -/
def encE (l : List Bk) : Int := if goodL l = true then (if 65536 < 8 + szB l then 2 else 0) else 1
def encS (sd : Int) (l : List Bk) (st : Int) : ByteArray := if encE l = 0 then packS (encL sd l st) else ⟨#[]⟩
theorem encE_zero {l : List Bk} (h : encE l = 0) : goodL l = true ∧ 8 + szB l ≤ 65536 := by
  unfold encE at h
  by_cases h1 : goodL l = true
  · rw [if_pos h1] at h
    by_cases h2 : 65536 < 8 + szB l
    · rw [if_pos h2] at h; omega
    · exact ⟨h1, by omega⟩
  · rw [if_neg h1] at h; omega
theorem encE_is {l : List Bk} (h1 : goodL l = true) (h2 : 8 + szB l ≤ 65536) : encE l = 0 := by unfold encE; rw [if_pos h1, if_neg (by omega)]
theorem encS_is {sd st : Int} {l : List Bk} (h : encE l = 0) : encS sd l st = packS (encL sd l st) := if_pos h
theorem encS_size {sd st : Int} {l : List Bk} (h : encE l = 0) : (encS sd l st).size = 8 + szB l := by rw [encS_is h, packS_size, encL_len]; omega

/-! ### What a body tells -/
def mtAt (s : ByteArray) (p : Nat) : Mt := ⟨decide (gv s p 1 = 1), gv s (p + 1) 2, gv s (p + 3) 13⟩
def msAt (s : ByteArray) (p n : Nat) : List Mt := (List.range n).map fun i => mtAt s (p + 16 * i)
@[simp] theorem msAt_len (s : ByteArray) (p n : Nat) : (msAt s p n).length = n := by simp [msAt]
theorem msAt_succ (s : ByteArray) (p n : Nat) : msAt s p (n + 1) = msAt s p n ++ [mtAt s (p + 16 * n)] := by simp [msAt, List.range_succ]
/-- How many packets the source at p tells. -/
def cnt (s : ByteArray) (p : Nat) : Nat := gv s (p + 48) 16
def bkE (s : ByteArray) (p : Nat) : Int :=
  if 8 * s.size < p + 96 then 60 else if 4096 < cnt s p then 3 else if 8 * s.size < p + 64 + 8 * mb (cnt s p) + 32 then 60
  else if (msAt s (p + 64) (cnt s p)).all mtOk = true then (if gv s (p + 64 + 16 * cnt s p) (16 * (cnt s p % 2)) = 0 then 0 else 91) else 70
def bkAt (s : ByteArray) (p : Nat) : Bk := ⟨gv s p 32, gv s (p + 32) 16, msAt s (p + 64) (cnt s p)⟩
def bkN (s : ByteArray) (p : Nat) : Nat := p + 64 + 8 * mb (cnt s p)
theorem bkE_zero {s : ByteArray} {p : Nat} (h : bkE s p = 0) : p + 96 ≤ 8 * s.size ∧ cnt s p ≤ 4096 ∧ bkN s p + 32 ≤ 8 * s.size ∧ (msAt s (p + 64) (cnt s p)).all mtOk = true ∧ gv s (p + 64 + 16 * cnt s p) (16 * (cnt s p % 2)) = 0 := by
  unfold bkE at h
  by_cases h1 : 8 * s.size < p + 96
  · rw [if_pos h1] at h; omega
  rw [if_neg h1] at h
  by_cases h2 : 4096 < cnt s p
  · rw [if_pos h2] at h; omega
  rw [if_neg h2] at h
  by_cases h3 : 8 * s.size < p + 64 + 8 * mb (cnt s p) + 32
  · rw [if_pos h3] at h; omega
  rw [if_neg h3] at h
  by_cases h4 : (msAt s (p + 64) (cnt s p)).all mtOk = true
  · rw [if_pos h4] at h
    by_cases h5 : gv s (p + 64 + 16 * cnt s p) (16 * (cnt s p % 2)) = 0
    · exact ⟨by omega, by omega, by unfold bkN; omega, h4, h5⟩
    · rw [if_neg h5] at h; omega
  · rw [if_neg h4] at h; omega
theorem bkE_is {s : ByteArray} {p : Nat} (h1 : p + 96 ≤ 8 * s.size) (h2 : cnt s p ≤ 4096) (h3 : bkN s p + 32 ≤ 8 * s.size) (h4 : (msAt s (p + 64) (cnt s p)).all mtOk = true) (h5 : gv s (p + 64 + 16 * cnt s p) (16 * (cnt s p % 2)) = 0) : bkE s p = 0 := by
  unfold bkN at h3
  unfold bkE
  rw [if_neg (by omega), if_neg (by omega), if_neg (by omega), if_pos h4, if_pos h5]
theorem bkE_short {s : ByteArray} {p : Nat} (h1 : 8 * s.size < p + 96) : bkE s p = 60 := if_pos h1
theorem bkE_many {s : ByteArray} {p : Nat} (h1 : p + 96 ≤ 8 * s.size) (h2 : 4096 < cnt s p) : bkE s p = 3 := by unfold bkE; rw [if_neg (by omega), if_pos h2]
theorem bkE_lacks {s : ByteArray} {p : Nat} (h1 : p + 96 ≤ 8 * s.size) (h2 : cnt s p ≤ 4096) (h3 : 8 * s.size < bkN s p + 32) : bkE s p = 60 := by
  unfold bkN at h3
  unfold bkE; rw [if_neg (by omega), if_neg (by omega), if_pos (by omega)]
theorem bkE_mark {s : ByteArray} {p : Nat} (h1 : p + 96 ≤ 8 * s.size) (h2 : cnt s p ≤ 4096) (h3 : bkN s p + 32 ≤ 8 * s.size) (h4 : ¬ (msAt s (p + 64) (cnt s p)).all mtOk = true) : bkE s p = 70 := by
  unfold bkN at h3
  unfold bkE; rw [if_neg (by omega), if_neg (by omega), if_neg (by omega), if_neg h4]
theorem bkE_pad {s : ByteArray} {p : Nat} (h1 : p + 96 ≤ 8 * s.size) (h2 : cnt s p ≤ 4096) (h3 : bkN s p + 32 ≤ 8 * s.size) (h4 : (msAt s (p + 64) (cnt s p)).all mtOk = true) (h5 : ¬ gv s (p + 64 + 16 * cnt s p) (16 * (cnt s p % 2)) = 0) : bkE s p = 91 := by
  unfold bkN at h3
  unfold bkE; rw [if_neg (by omega), if_neg (by omega), if_neg (by omega), if_pos h4, if_neg h5]
/-- The error of what is told from p on, k sources at most; the sources. -/
def dE (s : ByteArray) : Nat → Nat → Int
  | 0, p => if p + 32 < 8 * s.size then 3 else 0
  | k + 1, p => if p + 32 < 8 * s.size then (if bkE s p = 0 then dE s k (bkN s p) else bkE s p) else 0
def dL (s : ByteArray) : Nat → Nat → List Bk
  | 0, _ => []
  | k + 1, p => if p + 32 < 8 * s.size then (if bkE s p = 0 then bkAt s p :: dL s k (bkN s p) else []) else []
theorem dE_end {s : ByteArray} {k p : Nat} (h : ¬ p + 32 < 8 * s.size) : dE s k p = 0 ∧ dL s k p = [] := by cases k <;> simp [dE, dL, h]
theorem dE_many {s : ByteArray} {p : Nat} (h : p + 32 < 8 * s.size) : dE s 0 p = 3 := by simp [dE, h]
theorem dE_wrong {s : ByteArray} {k p : Nat} (h : p + 32 < 8 * s.size) (hb : ¬ bkE s p = 0) : dE s (k + 1) p = bkE s p := by simp only [dE]; rw [if_pos h, if_neg hb]
theorem dE_more {s : ByteArray} {k p : Nat} (h : p + 32 < 8 * s.size) (hb : bkE s p = 0) : dE s (k + 1) p = dE s k (bkN s p) ∧ dL s (k + 1) p = bkAt s p :: dL s k (bkN s p) := by
  simp only [dE, dL]; rw [if_pos h, if_pos hb, if_pos h, if_pos hb]; exact ⟨rfl, rfl⟩
theorem dL_len (s : ByteArray) (k : Nat) : ∀ p, (dL s k p).length ≤ k := by
  induction k with
  | zero => intro p; simp [dL]
  | succ k ih =>
    intro p
    simp only [dL]
    split
    · split
      · have := ih (bkN s p); simp; omega
      · simp
    · simp
def lenE (n : Nat) : Int := if 65536 < n then 2 else if n % 4 ≠ 0 then 90 else if n < 8 then 60 else 0
/-- What Decode answers. -/
def decE (s : ByteArray) : Int := if lenE s.size = 0 then dE s 16 32 else lenE s.size
def decL (s : ByteArray) : List Bk := if decE s = 0 then dL s 16 32 else []
def decSd (s : ByteArray) : Int := if decE s = 0 then gv s 0 32 else 0
def decSt (s : ByteArray) : Int := if decE s = 0 then gv s (8 * s.size - 32) 32 else 0
theorem lenE_zero {n : Nat} (h : lenE n = 0) : n ≤ 65536 ∧ n % 4 = 0 ∧ 8 ≤ n := by
  unfold lenE at h
  by_cases h1 : 65536 < n
  · rw [if_pos h1] at h; omega
  rw [if_neg h1] at h
  by_cases h2 : n % 4 ≠ 0
  · rw [if_pos h2] at h; omega
  rw [if_neg h2] at h
  by_cases h3 : n < 8
  · rw [if_pos h3] at h; omega
  omega
theorem lenE_is {n : Nat} (h1 : n ≤ 65536) (h2 : n % 4 = 0) (h3 : 8 ≤ n) : lenE n = 0 := by unfold lenE; rw [if_neg (by omega), if_neg (by omega), if_neg (by omega)]

/-! ### Back -/
theorem gv_mid (A B : List Bool) (c n p : Nat) (L : List Bool) (hL : L = A ++ (bitsOf c n ++ B)) (hp : p = A.length) : gv (packS L) p n = c % 2 ^ n := by
  subst hL hp; rw [gv_pack, val_mid]
theorem mtAt_enc (A B : List Bool) (m : Mt) (h : mtOk m = true) (L : List Bool) (p : Nat) (hL : L = A ++ (mB m ++ B)) (hp : p = A.length) : mtAt (packS L) p = m := by
  have hb := mtOk_bd h
  have g0 := gv_mid A (bitsOf m.e.toNat 2 ++ bitsOf m.a.toNat 13 ++ B) (b01 m.g) 1 p L (by rw [hL, mB]; simp) hp
  have g1 := gv_mid (A ++ bitsOf (b01 m.g) 1) (bitsOf m.a.toNat 13 ++ B) m.e.toNat 2 (p + 1) L (by rw [hL, mB]; simp) (by simp [hp])
  have g2 := gv_mid (A ++ bitsOf (b01 m.g) 1 ++ bitsOf m.e.toNat 2) B m.a.toNat 13 (p + 3) L (by rw [hL, mB]; simp) (by simp [hp])
  apply Mt.eq
  · simp only [mtAt, g0]
    cases m.g <;> simp [b01]
  · simp only [mtAt, g1]; omega
  · simp only [mtAt, g2]; omega
theorem msAt_enc (l : List Mt) : ∀ (A B : List Bool) (_ : l.all mtOk = true) (L : List Bool) (p : Nat) (_ : L = A ++ (msB l ++ B)) (_ : p = A.length), msAt (packS L) p l.length = l := by
  intro A B h L p hL hp
  apply List.ext_getElem?
  intro i
  by_cases hi : i < l.length
  · have hm : l[i]? = some l[i] := List.getElem?_eq_getElem hi
    have ho : mtOk l[i] = true := List.all_eq_true.1 h _ (List.getElem_mem hi)
    have e : l = l.take i ++ (l[i] :: l.drop (i + 1)) := by rw [List.getElem_cons_drop, List.take_append_drop]
    have em : msB l = msB (l.take i) ++ (mB l[i] ++ msB (l.drop (i + 1))) := by
      have := congrArg msB e
      rw [msB_app] at this
      rw [this]; rfl
    have := mtAt_enc (A ++ msB (l.take i)) (msB (l.drop (i + 1)) ++ B) l[i] ho L (p + 16 * i) (by rw [hL, em]; simp) (by simp [hp]; omega)
    rw [hm, msAt, List.getElem?_map, List.getElem?_range hi, Option.map_some, this]
  · rw [List.getElem?_eq_none (by rw [msAt_len]; omega), List.getElem?_eq_none (by omega)]
theorem bk_enc (A B : List Bool) (b : Bk) (hb : bkOk b = true) (h0 : 0 ≤ b.s) (h1 : b.s < 4294967296) (L : List Bool) (p : Nat) (hL : L = A ++ (bB b ++ B)) (hp : p = A.length) (hB : 32 ≤ B.length) (h8 : L.length % 8 = 0) :
    bkE (packS L) p = 0 ∧ bkAt (packS L) p = b ∧ bkN (packS L) p = p + (bB b).length := by
  obtain ⟨⟨f0, f1⟩, hn, hm⟩ := bkOk_iff.1 hb
  have hl := congrArg List.length hL
  rw [List.length_append, List.length_append, bB_len] at hl
  have hs : 8 * (packS L).size = L.length := by rw [packS_size]; omega
  have e0 : L = A ++ (bitsOf b.s.toNat 32 ++ (bitsOf b.f.toNat 16 ++ bitsOf b.m.length 16 ++ msB b.m ++ bitsOf 0 (16 * (b.m.length % 2)) ++ B)) := by rw [hL]; simp [bB, YtdhbakknplnnkaaGreat.Cc.hB]
  have g0 := gv_mid A _ _ 32 p L e0 hp
  have e1 : L = (A ++ bitsOf b.s.toNat 32) ++ (bitsOf b.f.toNat 16 ++ (bitsOf b.m.length 16 ++ msB b.m ++ bitsOf 0 (16 * (b.m.length % 2)) ++ B)) := by rw [e0]; simp
  have g1 := gv_mid _ _ _ 16 (p + 32) L e1 (by simp [hp])
  have e2 : L = (A ++ bitsOf b.s.toNat 32 ++ bitsOf b.f.toNat 16) ++ (bitsOf b.m.length 16 ++ (msB b.m ++ bitsOf 0 (16 * (b.m.length % 2)) ++ B)) := by rw [e0]; simp
  have g2 := gv_mid _ _ _ 16 (p + 48) L e2 (by simp [hp])
  have hc : cnt (packS L) p = b.m.length := by unfold cnt; rw [g2]; omega
  have e3 : L = (A ++ YtdhbakknplnnkaaGreat.Cc.hB b) ++ (msB b.m ++ (bitsOf 0 (16 * (b.m.length % 2)) ++ B)) := by rw [e0]; simp [YtdhbakknplnnkaaGreat.Cc.hB]
  have g3 := msAt_enc b.m _ _ hm L (p + 64) e3 (by simp [hp])
  have e4 : L = (A ++ YtdhbakknplnnkaaGreat.Cc.hB b ++ msB b.m) ++ (bitsOf 0 (16 * (b.m.length % 2)) ++ B) := by rw [e3]; simp
  have g4 := gv_mid _ _ _ (16 * (b.m.length % 2)) (p + 64 + 16 * b.m.length) L e4 (by simp [hp]; omega)
  refine ⟨bkE_is ?_ ?_ ?_ ?_ ?_, Bk.eq ?_ ?_ ?_, ?_⟩
  · rw [hs]; omega
  · rw [hc]; exact hn
  · unfold bkN; rw [hc, hs]; omega
  · rw [hc, g3]; exact hm
  · rw [hc, g4]; simp
  · simp only [bkAt, g0]; omega
  · simp only [bkAt, g1]; omega
  · simp only [bkAt, hc, g3]
  · unfold bkN; rw [hc, bB_len]; omega
theorem d_enc (l : List Bk) : ∀ (k : Nat) (A B : List Bool) (L : List Bool) (p : Nat) (_ : l.length ≤ k) (_ : l.all bkOk = true) (_ : ∀ b ∈ l, 0 ≤ b.s ∧ b.s < 4294967296) (_ : L = A ++ (bsB l ++ B)) (_ : p = A.length) (_ : B.length = 32) (_ : L.length % 8 = 0), dE (packS L) k p = 0 ∧ dL (packS L) k p = l := by
  induction l with
  | nil =>
    intro k A B L p _ _ _ hL hp hB h8
    have hl := congrArg List.length hL
    simp [bsB] at hl
    exact dE_end (by rw [packS_size]; omega)
  | cons b l ih =>
    intro k A B L p hk ho hs hL hp hB h8
    have hl := congrArg List.length hL
    rw [List.length_append, List.length_append, bsB_len] at hl
    simp only [szB] at hl
    simp only [List.all_cons, Bool.and_eq_true] at ho
    cases k with
    | zero => simp at hk
    | succ k =>
      obtain ⟨h1, h2, h3⟩ := bk_enc A (bsB l ++ B) b ho.1 (hs b (by simp)).1 (hs b (by simp)).2 L p (by rw [hL, bsB]; simp) hp (by simp; omega) h8
      have hlt : p + 32 < 8 * (packS L).size := by rw [packS_size]; omega
      obtain ⟨m1, m2⟩ := dE_more (k := k) hlt h1
      obtain ⟨i1, i2⟩ := ih k (A ++ bB b) B L (bkN (packS L) p) (by simp at hk; omega) ho.2 (fun x hx => hs x (by simp [hx])) (by rw [hL, bsB]; simp) (by rw [h3, hp]; simp) hB h8
      exact ⟨by rw [m1, i1], by rw [m2, h2, i2]⟩
/-- What was encoded is decoded. -/
theorem back {sd st : Int} {l : List Bk} (h : encE l = 0) (hs : ∀ b ∈ l, 0 ≤ b.s ∧ b.s < 4294967296) (d0 : 0 ≤ sd) (d1 : sd < 4294967296) (t0 : 0 ≤ st) (t1 : st < 4294967296) :
    decE (encS sd l st) = 0 ∧ decL (encS sd l st) = l ∧ decSd (encS sd l st) = sd ∧ decSt (encS sd l st) = st := by
  obtain ⟨hg, hz⟩ := encE_zero h
  obtain ⟨g1, g2⟩ := goodL_iff.1 hg
  have hsz := encS_size (sd := sd) (st := st) h
  have hm := szB_mod l
  have hlen := encL_len sd l st
  have hE := lenE_is (n := (encS sd l st).size) (by omega) (by omega) (by omega)
  rw [encS_is h] at hsz hE ⊢
  obtain ⟨k1, k2⟩ := d_enc l 16 (bitsOf sd.toNat 32) (bitsOf st.toNat 32) (encL sd l st) 32 g1 g2 hs (by simp [encL]) (by simp) (by simp) (by omega)
  have hd : decE (packS (encL sd l st)) = 0 := by unfold decE; rw [if_pos hE, k1]
  refine ⟨hd, by unfold decL; rw [if_pos hd, k2], ?_, ?_⟩
  · unfold decSd; rw [if_pos hd, gv_mid [] (bsB l ++ bitsOf st.toNat 32) sd.toNat 32 0 _ (by simp [encL]) rfl]; omega
  · unfold decSt; rw [if_pos hd, gv_mid (bitsOf sd.toNat 32 ++ bsB l) [] st.toNat 32 _ _ (by simp [encL]) (by rw [hsz]; simp [bsB_len]; omega)]; omega

/-! ### Again -/
theorem bits_add (s : ByteArray) (p k m : Nat) : bitsOf (gv s p (k + m)) (k + m) = bitsOf (gv s p k) k ++ bitsOf (gv s (p + k) m) m := by
  have h := gv_lt s (p + k) m
  have e := gv_add s p k m
  rw [bitsOf_split]
  have e1 : gv s p (k + m) / 2 ^ m = gv s p k := by
    rw [e, Nat.mul_comm, Nat.mul_add_div (Nat.two_pow_pos _), Nat.div_eq_of_lt h, Nat.add_zero]
  have e2 : bitsOf (gv s p (k + m)) m = bitsOf (gv s (p + k) m) m := by
    rw [← bitsOf_mod (gv s p (k + m)) m m (Nat.le_refl _)]
    congr 1
    rw [e, Nat.mul_comm, Nat.mul_add_mod, Nat.mod_eq_of_lt h]
  rw [e1, e2]
theorem pack_self (s : ByteArray) : packS (bitsOf (gv s 0 (8 * s.size)) (8 * s.size)) = s := by
  have key : ∀ j, j < s.size → bv (bitsOf (gv s 0 (8 * s.size)) (8 * s.size)) j = (s.data.toList.getD j 0).toNat := by
    intro j hj
    obtain ⟨r, hr⟩ : ∃ r, 8 * s.size = 8 * j + (8 + r) := ⟨8 * s.size - 8 * j - 8, by omega⟩
    rw [hr, bits_add, bits_add]
    unfold bv
    have := val_mid (bitsOf (gv s 0 (8 * j)) (8 * j)) (bitsOf (gv s (0 + 8 * j + 8) r) r) (gv s (0 + 8 * j) 8) 8
    rw [bitsOf_len] at this
    rw [this, Nat.mod_eq_of_lt (gv_lt s _ 8), gv_piece s _ 8 (by omega)]
    have e1 : (0 + 8 * j) / 8 = j := by omega
    have e2 : (0 + 8 * j) % 8 = 0 := by omega
    rw [e1, e2]
    have := (s.data.toList.getD j 0).toNat_lt
    simp
  obtain ⟨d⟩ := s
  unfold packS
  congr 1
  apply Array.ext'
  apply List.ext_getElem?
  intro j
  have hz : (ByteArray.mk d).size = d.size := rfl
  simp only [List.getElem?_map]
  by_cases hj : j < d.size
  · rw [pk_get _ _ (by simp [hz]; omega), Option.map_some, key j (by rw [hz]; exact hj)]
    have : d.toList[j]? = some d.toList[j] := List.getElem?_eq_getElem (by simpa using hj)
    rw [List.getD_eq_getElem?_getD, this]
    simp
  · rw [List.getElem?_eq_none (by simp [hz]; omega), List.getElem?_eq_none (by simp; omega)]
    rfl
theorem mB_at (s : ByteArray) (p : Nat) : mB (mtAt s p) = bitsOf (gv s p 16) 16 := by
  rw [show (16 : Nat) = 1 + (2 + 13) from rfl, bits_add, bits_add]
  have h := gv_lt s p 1
  have e : b01 (mtAt s p).g = gv s p 1 := by
    simp only [mtAt, b01]
    rcases (by omega : gv s p 1 = 0 ∨ gv s p 1 = 1) with e | e <;> simp [e]
  simp only [mB, e]
  simp [mtAt, Nat.add_assoc]
theorem msB_at (s : ByteArray) (p n : Nat) : msB (msAt s p n) = bitsOf (gv s p (16 * n)) (16 * n) := by
  induction n with
  | zero => rfl
  | succ n ih =>
    rw [msAt_succ, msB_app, ih, show 16 * (n + 1) = 16 * n + 16 from rfl, bits_add, ← mB_at]
    simp [msB]
theorem bB_at (s : ByteArray) (p : Nat) (h : bkE s p = 0) : bB (bkAt s p) = bitsOf (gv s p (64 + 8 * mb (cnt s p))) (64 + 8 * mb (cnt s p)) := by
  obtain ⟨_, _, _, _, h5⟩ := bkE_zero h
  have e : 64 + 8 * mb (cnt s p) = 32 + (16 + (16 + (16 * cnt s p + 16 * (cnt s p % 2)))) := by unfold mb; omega
  rw [e, bits_add, bits_add, bits_add, bits_add]
  have e1 : p + 32 + 16 + 16 = p + 64 := by omega
  have e2 : p + 32 + 16 = p + 48 := by omega
  rw [e1, e2, ← msB_at, h5]
  simp [bB, hB, bkAt, cnt]
theorem d_at (s : ByteArray) (k : Nat) : ∀ p, dE s k p = 0 → p + 32 ≤ 8 * s.size → p % 32 = 0 → s.size % 4 = 0 →
    bsB (dL s k p) = bitsOf (gv s p (8 * s.size - 32 - p)) (8 * s.size - 32 - p) ∧ 8 * szB (dL s k p) = 8 * s.size - 32 - p ∧ (dL s k p).all bkOk = true ∧ ∀ b ∈ dL s k p, 0 ≤ b.s ∧ b.s < 4294967296 := by
  induction k with
  | zero =>
    intro p hd hp _ _
    simp only [dE] at hd
    have : ¬ p + 32 < 8 * s.size := fun h => by rw [if_pos h] at hd; omega
    have e : 8 * s.size - 32 - p = 0 := by omega
    rw [e]
    exact ⟨rfl, rfl, rfl, fun b hb => by cases hb⟩
  | succ k ih =>
    intro p hd hp hm h4
    by_cases hlt : p + 32 < 8 * s.size
    · by_cases hb : bkE s p = 0
      · obtain ⟨m1, m2⟩ := dE_more (k := k) hlt hb
        obtain ⟨z1, z2, z3, z4, z5⟩ := bkE_zero hb
        rw [m1] at hd
        have hmod : bkN s p % 32 = 0 := by unfold bkN mb; omega
        obtain ⟨i1, i2, i3, i4⟩ := ih (bkN s p) hd z3 hmod h4
        have hbn : bkN s p = p + (64 + 8 * mb (cnt s p)) := by unfold bkN; omega
        have e : 8 * s.size - 32 - p = (64 + 8 * mb (cnt s p)) + (8 * s.size - 32 - bkN s p) := by omega
        rw [m2]
        refine ⟨?_, ?_, ?_, ?_⟩
        · rw [bsB, e, bits_add, bB_at s p hb, i1, hbn]
        · have hl : (bkAt s p).m.length = cnt s p := by simp [bkAt]
          simp only [szB]
          rw [hl]
          omega
        · rw [List.all_cons, i3, Bool.and_true]
          have g := gv_lt s (p + 32) 16
          exact bkOk_iff.2 ⟨⟨by simp [bkAt], by simp only [bkAt]; omega⟩, by simp [bkAt]; exact z2, z4⟩
        · intro b hbm
          rcases List.mem_cons.1 hbm with rfl | hbm
          · have g := gv_lt s p 32
            exact ⟨by simp [bkAt], by simp only [bkAt]; omega⟩
          · exact i4 b hbm
      · rw [dE_wrong hlt hb] at hd; exact absurd hd hb
    · obtain ⟨_, e2⟩ := dE_end (k := k + 1) hlt
      have e : 8 * s.size - 32 - p = 0 := by omega
      rw [e2, e]
      exact ⟨rfl, rfl, rfl, fun b hb => by cases hb⟩
theorem decE_zero {s : ByteArray} (h : decE s = 0) : lenE s.size = 0 ∧ dE s 16 32 = 0 := by
  unfold decE at h
  by_cases h1 : lenE s.size = 0
  · rw [if_pos h1] at h; exact ⟨h1, h⟩
  · rw [if_neg h1] at h; exact absurd h h1
/-- What was decoded is encoded as it was. -/
theorem again {s : ByteArray} (h : decE s = 0) : encE (decL s) = 0 ∧ 8 + szB (decL s) = s.size ∧ encS (decSd s) (decL s) (decSt s) = s ∧ (∀ b ∈ decL s, 0 ≤ b.s ∧ b.s < 4294967296) := by
  obtain ⟨h1, h2⟩ := decE_zero h
  obtain ⟨l1, l2, l3⟩ := lenE_zero h1
  obtain ⟨d1, d2, d3, d4⟩ := d_at s 16 32 h2 (by omega) rfl l2
  have eL : decL s = dL s 16 32 := by unfold decL; rw [if_pos h]
  have eD : decSd s = gv s 0 32 := by unfold decSd; rw [if_pos h]
  have eT : decSt s = gv s (8 * s.size - 32) 32 := by unfold decSt; rw [if_pos h]
  have hz : 8 + szB (dL s 16 32) = s.size := by omega
  have hE : encE (dL s 16 32) = 0 := encE_is (goodL_iff.2 ⟨dL_len s 16 32, d3⟩) (by omega)
  rw [eL, eD, eT]
  refine ⟨hE, hz, ?_, d4⟩
  rw [encS_is hE]
  have e : encL (gv s 0 32) (dL s 16 32) (gv s (8 * s.size - 32) 32) = bitsOf (gv s 0 (8 * s.size)) (8 * s.size) := by
    obtain ⟨r, hr⟩ : ∃ r, 8 * s.size = 32 + (r + 32) := ⟨8 * s.size - 64, by omega⟩
    have e1 : 8 * s.size - 32 - 32 = r := by omega
    have e2 : 8 * s.size - 32 = 0 + 32 + r := by omega
    rw [e1] at d1
    rw [e2, hr, bits_add, bits_add, encL, d1]
    simp
  rw [e, pack_self]
theorem decSd_bd (s : ByteArray) : 0 ≤ decSd s ∧ decSd s < 4294967296 := by
  unfold decSd; split
  · have := gv_lt s 0 32; omega
  · omega
theorem decSt_bd (s : ByteArray) : 0 ≤ decSt s ∧ decSt s < 4294967296 := by
  unfold decSt; split
  · have := gv_lt s (8 * s.size - 32) 32; omega
  · omega
theorem decL_bd (s : ByteArray) : (decL s).length ≤ 16 ∧ (decL s).all bkOk = true ∧ ∀ b ∈ decL s, 0 ≤ b.s ∧ b.s < 4294967296 := by
  by_cases h : decE s = 0
  · obtain ⟨h1, _, _, h4⟩ := again h
    have := goodL_iff.1 (encE_zero h1).1
    exact ⟨this.1, this.2, h4⟩
  · have e : decL s = [] := by unfold decL; rw [if_neg h]
    rw [e]; exact ⟨by simp, rfl, fun b hb => by cases hb⟩
theorem decL_none {s : ByteArray} (h : ¬ decE s = 0) : decL s = [] ∧ decSd s = 0 ∧ decSt s = 0 := by
  unfold decL decSd decSt; rw [if_neg h, if_neg h, if_neg h]; exact ⟨rfl, rfl, rfl⟩
end Go.Proofs.YtdhbakknplnnkaaGreat.Cc
namespace Go.Proofs.YtdhbakknplnnkaaGreat.Cc
open Go.RowKit

theorem Tch.below {b : Nat} {v v' : Value} {w w' : World} {T : TypeId} {l : List Bool} (h : Tch b v v' w w') (hw : Wr T w b v l) (B : Nat) (hB : B ≤ b) : Below B w w' :=
  h.ap.below B (by have := hw.lt; omega) (by
    rintro k (rfl | e)
    · exact hB
    · have := hw.ownlt k e; omega)
theorem Apart.belowF {w w' : World} (h : Apart (fun _ => False) w w') (B : Nat) (hB : B ≤ w.heap.size) : Below B w w' := h.below B hB (fun _ h => h.elim)
theorem Apart.belowZ {w w' : World} (h : Apart (fun _ => False) w w') : Below w.heap.size w w' := h.below _ (Nat.le_refl _) (fun _ h => h.elim)
theorem Apart.belowE {w w' : World} {b : Nat} (h : Apart (· = b) w w') (B : Nat) (hB : B ≤ w.heap.size) (hb : B ≤ b) : Below B w w' := h.below B hB (fun k e => by subst e; exact hb)
theorem Apart.cell {X : Nat → Prop} {w w' : World} (h : Apart X w w') {p : Addr} (hp : p.block < w.heap.size) (hx : ¬ X p.block) : w'.cell? p = w.cell? p := World.cell?_of_block (w := w) (h.block p.block hp hx)
theorem Apart.zz {a b c : World} (h : Apart (fun _ => False) a b) (k : Apart (fun _ => False) b c) : Apart (fun _ => False) a c := h.trans k (fun _ _ h => h)

/-- What is told of a packet, as a value; its cells. -/
def mv (m : Mt) : Value := .agg #[.bool m.g, .int .i64 m.e, .int .i64 m.a]
def MC (w : World) (b o : Nat) (m : Mt) : Prop := w.cell? ⟨b, o, none⟩ = some (.bool m.g) ∧ w.cell? ⟨b, o + 1, none⟩ = some (.int .i64 m.e) ∧ w.cell? ⟨b, o + 2, none⟩ = some (.int .i64 m.a)
/-- Packets, in a block below B. -/
def MA (B : Nat) (w : World) (a : Option Addr) (l : List Mt) : Prop :=
  l.length ≤ maxLen ∧ (l = [] ∨ ∃ b off, a = some ⟨b, off, none⟩ ∧ b < B ∧ ∀ i m, l[i]? = some m → MC w b (off + i * 3) m)
/-- What is told of a source, as a value; its cells. -/
def kv (k : Bk) (ma : Option Addr) (mc : Nat) : Value := .agg #[.int .u32 k.s, .int .i64 k.f, .slice ma k.m.length mc]
def KC (B : Nat) (w : World) (b o : Nat) (k : Bk) : Prop := w.cell? ⟨b, o, none⟩ = some (.int .u32 k.s) ∧ w.cell? ⟨b, o + 1, none⟩ = some (.int .i64 k.f) ∧ (∃ ma mc, w.cell? ⟨b, o + 2, none⟩ = some (.slice ma k.m.length mc) ∧ MA B w ma k.m) ∧ 0 ≤ k.s ∧ k.s < 4294967296
/-- Sources, in blocks below B. -/
def BA (B : Nat) (w : World) (a : Option Addr) (l : List Bk) : Prop :=
  l.length ≤ maxLen ∧ (l = [] ∨ ∃ b off, a = some ⟨b, off, none⟩ ∧ b < B ∧ ∀ i k, l[i]? = some k → KC B w b (off + i * 3) k)
/-- A report as a value. -/
def rv (sd : Int) (a : Option Addr) (n c : Nat) (st : Int) : Value := .agg #[.int .u32 sd, .slice a n c, .int .u32 st]
def Rv (w : World) (bx : Nat) (sd : Int) (v : Value) (st : Int) : Prop := w.heap[bx]? = some (.cells #[.int .u32 sd, v, .int .u32 st] 53 (0, 0))

theorem MC.kept {w w' : World} {b o : Nat} {m : Mt} {B : Nat} (h : MC w b o m) (hb : Below B w w') (hl : b < B) : MC w' b o m := by
  obtain ⟨c0, c1, c2⟩ := h
  exact ⟨by rw [hb.cell (p := ⟨b, o, none⟩) hl]; exact c0, by rw [hb.cell (p := ⟨b, o + 1, none⟩) hl]; exact c1, by rw [hb.cell (p := ⟨b, o + 2, none⟩) hl]; exact c2⟩
theorem MA.kept {B : Nat} {w w' : World} {a : Option Addr} {l : List Mt} (h : MA B w a l) (hb : Below B w w') : MA B w' a l := by
  refine ⟨h.1, ?_⟩
  rcases h.2 with h0 | ⟨b, off, ha, hl, hc⟩
  · exact .inl h0
  · exact .inr ⟨b, off, ha, hl, fun i p hi => (hc i p hi).kept hb hl⟩
theorem MA.up {B B' : Nat} {w : World} {a : Option Addr} {l : List Mt} (h : MA B w a l) (hb : B ≤ B') : MA B' w a l := by
  refine ⟨h.1, ?_⟩
  rcases h.2 with h0 | ⟨b, off, ha, hl, hc⟩
  · exact .inl h0
  · exact .inr ⟨b, off, ha, by omega, hc⟩
theorem MA.at {B : Nat} {w : World} {a : Option Addr} {l : List Mt} (h : MA B w a l) (i : Nat) (hi : i < l.length) : ∃ b off m, a = some ⟨b, off, none⟩ ∧ b < B ∧ l[i]? = some m ∧ MC w b (off + i * 3) m := by
  rcases h.2 with h0 | ⟨b, off, ha, hl, hc⟩
  · subst h0; simp at hi
  · exact ⟨b, off, l[i], ha, hl, List.getElem?_eq_getElem hi, hc i _ (List.getElem?_eq_getElem hi)⟩
theorem KC.kept {w w' : World} {b o : Nat} {k : Bk} {B : Nat} (h : KC B w b o k) (hb : Below B w w') (hl : b < B) : KC B w' b o k := by
  obtain ⟨c0, c1, ⟨ma, mc, c2, hm⟩, r⟩ := h
  exact ⟨by rw [hb.cell (p := ⟨b, o, none⟩) hl]; exact c0, by rw [hb.cell (p := ⟨b, o + 1, none⟩) hl]; exact c1, ⟨ma, mc, by rw [hb.cell (p := ⟨b, o + 2, none⟩) hl]; exact c2, hm.kept hb⟩, r⟩
theorem BA.kept {B : Nat} {w w' : World} {a : Option Addr} {l : List Bk} (h : BA B w a l) (hb : Below B w w') : BA B w' a l := by
  refine ⟨h.1, ?_⟩
  rcases h.2 with h0 | ⟨b, off, ha, hl, hc⟩
  · exact .inl h0
  · exact .inr ⟨b, off, ha, hl, fun i p hi => (hc i p hi).kept hb hl⟩
theorem BA.up {B B' : Nat} {w : World} {a : Option Addr} {l : List Bk} (h : BA B w a l) (hb : B ≤ B') : BA B' w a l := by
  refine ⟨h.1, ?_⟩
  rcases h.2 with h0 | ⟨b, off, ha, hl, hc⟩
  · exact .inl h0
  · refine .inr ⟨b, off, ha, by omega, fun i k hi => ?_⟩
    obtain ⟨c0, c1, ⟨ma, mc, c2, hm⟩, r⟩ := hc i k hi
    exact ⟨c0, c1, ⟨ma, mc, c2, hm.up hb⟩, r⟩
theorem BA.on {w w' : World} {a : Option Addr} {l : List Bk} (h : BA w.heap.size w a l) (hb : Below w.heap.size w w') : BA w'.heap.size w' a l := (h.kept hb).up hb.size
theorem BA.at {B : Nat} {w : World} {a : Option Addr} {l : List Bk} (h : BA B w a l) (i : Nat) (hi : i < l.length) : ∃ b off k, a = some ⟨b, off, none⟩ ∧ b < B ∧ l[i]? = some k ∧ KC B w b (off + i * 3) k := by
  rcases h.2 with h0 | ⟨b, off, ha, hl, hc⟩
  · subst h0; simp at hi
  · exact ⟨b, off, l[i], ha, hl, List.getElem?_eq_getElem hi, hc i _ (List.getElem?_eq_getElem hi)⟩
theorem BA.bd {B : Nat} {w : World} {a : Option Addr} {l : List Bk} (h : BA B w a l) : ∀ b ∈ l, 0 ≤ b.s ∧ b.s < 4294967296 := by
  intro k hk
  obtain ⟨i, hi⟩ := List.getElem?_of_mem hk
  rcases h.2 with h0 | ⟨b, off, _, _, hc⟩
  · subst h0; cases hk
  · exact (hc i k hi).2.2.2
theorem BA.nil (B : Nat) (w : World) (a : Option Addr) : BA B w a [] := ⟨by simp, .inl rfl⟩
theorem Rv.kept {X : Nat → Prop} {w w' : World} {bx : Nat} {sd : Int} {v : Value} {st : Int} (h : Rv w bx sd v st) (ha : Apart X w w') (hx : ¬ X bx) : Rv w' bx sd v st := ha.heap h hx
theorem Rv.new (w : World) (sd : Int) (v : Value) (st : Int) : Rv (w.alloc (.cells #[.int .u32 sd, v, .int .u32 st] 53)) w.heap.size sd v st := heap_alloc_new _ _
theorem all_take {α : Type} {f : α → Bool} {l : List α} {k : Nat} {x : α} (h : l[k]? = some x) : (l.take (k + 1)).all f = ((l.take k).all f && f x) := by
  have : l.take (k + 1) = l.take k ++ [x] := by rw [List.take_add_one, h]; rfl
  rw [this]; simp
theorem all_not {α : Type} {f : α → Bool} {l : List α} {k : Nat} {x : α} (h : l[k]? = some x) (hf : f x = false) : l.all f = false := by
  rw [List.all_eq_false]
  exact ⟨x, List.mem_of_getElem? h, by simp [hf]⟩

theorem within_any (n a b : Int) (w : World) : Calls Tryz.prog 103 #[.int .i64 n, .int .i64 a, .int .i64 b] w fun e w' => e = .returned (.bool (inR n a b)) ∧ w' = w := by
  by_cases h0 : a ≤ n
  · by_cases h1 : n ≤ b
    · rw [inR_yes h0 h1]
      go_enter Tryz.func103, Tryz.ntmps103
      go_wp2
      go_ret
      exact ⟨ret_b (by simp), rfl⟩
    · rw [inR_no (by omega)]
      go_enter Tryz.func103, Tryz.ntmps103
      go_wp2
      go_ret
      exact ⟨ret_b (by simp), rfl⟩
  · rw [inR_no (by omega)]
    go_enter Tryz.func103, Tryz.ntmps103
    go_wp2
    go_ret
    exact ⟨ret_b (by simp), rfl⟩
theorem ismetric_any (m : Mt) (w : World) : Calls Tryz.prog 96 #[mv m] w fun e w' => e = .returned (.bool (mtOk m)) ∧ Apart (fun _ => False) w w' := by
  obtain ⟨g, ec, ag⟩ := m
  unfold mv mtOk
  simp only
  cases g with
  | false =>
    rw [if_neg (by decide)]
    by_cases h0 : ec = 0
    · by_cases h1 : ag = 0
      · go_enter Tryz.func96, Tryz.ntmps96
        go_wp2
        go_ret
        exact ⟨ret_b (by simp [h0, h1]), (Apart.refl _ _).alloc _⟩
      · go_enter Tryz.func96, Tryz.ntmps96
        go_wp2
        go_ret
        exact ⟨ret_b (by simp [h1]), (Apart.refl _ _).alloc _⟩
    · go_enter Tryz.func96, Tryz.ntmps96
      go_wp2
      go_ret
      exact ⟨ret_b (by simp [h0]), (Apart.refl _ _).alloc _⟩
  | true =>
    rw [if_pos rfl]
    have K1 := mkHid (within_any ec 0 3)
    have K2 := mkHid (within_any ag 0 8191)
    cases h1 : inR ec 0 3 with
    | false =>
      rw [h1] at K1
      go_enter Tryz.func96, Tryz.ntmps96
      go_wp2_with fail
      refine (K1.out _).mono ?_
      rintro e w1 ⟨rfl, rfl⟩
      go_wp2
      go_ret
      exact ⟨rfl, (Apart.refl _ _).alloc _⟩
    | true =>
      rw [h1] at K1
      go_enter Tryz.func96, Tryz.ntmps96
      go_wp2_with fail
      refine (K1.out _).mono ?_
      rintro e w1 ⟨rfl, rfl⟩
      go_wp2_with fail
      refine (K2.out _).mono ?_
      rintro e w1 ⟨rfl, rfl⟩
      go_wp2
      go_ret
      exact ⟨ret_b (by simp), (Apart.refl _ _).alloc _⟩
theorem frame22 (a : Act) (hs : a.tmps.size = 22) (hd : a.defers = []) : ∃ u : Nat → Value, (∀ i, a.tmps.getD i undef = u i) ∧ a = { tmps := #[u 0, u 1, u 2, u 3, u 4, u 5, u 6, u 7, u 8, u 9, u 10, u 11, u 12, u 13, u 14, u 15, u 16, u 17, u 18, u 19, u 20, u 21], defers := [] } := frame_of a 22 hs hd
end Go.Proofs.YtdhbakknplnnkaaGreat.Cc
namespace Go.Proofs.YtdhbakknplnnkaaGreat.Cc
open Go.RowKit

theorem mbytes_any (n : Nat) (hn : n ≤ 1000000) (w : World) : Calls Tryz.prog 89 #[.int .i64 (n : Int)] w fun e w' => e = .returned (.int .i64 (mb n : Int)) ∧ w' = w := by
  have hn' : (n : Int) ≤ 1000000 := by omega
  go_enter Tryz.func89, Tryz.ntmps89
  go_wp2
  go_ret
  exact ⟨ret_i (by unfold mb; omega), rfl⟩
theorem szB_le16 {l : List Bk} (h : l.all bkOk = true) : szB l ≤ 8200 * l.length := by
  induction l with
  | nil => simp [szB]
  | cons b l ih =>
    simp only [List.all_cons, Bool.and_eq_true] at h
    have h1 := (bkOk_iff.1 h.1).2.1
    have := ih h.2
    simp only [szB, mb, List.length_cons]
    omega
theorem goodL_at {l : List Bk} {k : Nat} {b : Bk} (h : goodL l = true) (hb : l[k]? = some b) : 0 ≤ b.f ∧ b.f ≤ 65535 ∧ b.m.length ≤ 4096 ∧ b.m.all mtOk = true := by
  obtain ⟨⟨h1, h2⟩, h3⟩ := bkOk_iff.1 (List.all_eq_true.1 (goodL_iff.1 h).2 b (List.mem_of_getElem? hb))
  exact ⟨h1, h2, h3⟩
theorem goodL_sz {l : List Bk} (h : goodL l = true) : szB l ≤ 131200 := by
  obtain ⟨h1, h2⟩ := goodL_iff.1 h
  have := szB_le16 h2
  omega
/-- A block that is none of a writer's. -/
structure Bx (o : Obj) (w : World) (bx b : Nat) (v : Value) : Prop where
  heap : w.heap[bx]? = some o
  ne : bx ≠ b
  own : v.ownBlock ≠ some bx
theorem Bx.next {o : Obj} {w w' : World} {bx b : Nat} {v v' : Value} (h : Bx o w bx b v) (t : Tch b v v' w w') : Bx o w' bx b v' := by
  refine ⟨t.ap.heap h.heap ?_, h.ne, fun e => ?_⟩
  · rintro (e | e)
    · exact h.ne e
    · exact h.own e
  · rcases t.own bx e with e | e
    · exact h.own e
    · have := lt_of_heap h.heap; omega
theorem Bx.new {w : World} {b : Nat} {v : Value} {T : TypeId} {l : List Bool} (h : Wr T w b v l) (o : Obj) : Bx o (w.alloc o) w.heap.size b v :=
  ⟨heap_alloc_new _ _, by have := h.lt; omega, fun e => by have := h.ownlt _ e; omega⟩
theorem wr_alloc {T : TypeId} {w : World} {b : Nat} {v : Value} {l : List Bool} (h : Wr T w b v l) (o : Obj) : Wr T (w.alloc o) b v l := h.kept ((Apart.refl (fun _ => False) w).alloc o) (fun h => h) (fun _ _ h => h)
theorem tch_alloc (b : Nat) (v : Value) (w : World) (o : Obj) : Tch b v v w (w.alloc o) := ⟨(Apart.refl _ w).alloc o, fun _ h => .inl h⟩
theorem align32 (L : List Bool) (P n : Nat) (h0 : P % 32 = 0) (h1 : L.length = P + 16 * n) (h2 : P + 16 * n + 16 * (n % 2) ≤ 524288) : alignS L 32 = L ++ bitsOf 0 (16 * (n % 2)) := by
  unfold alignS
  have e : (32 - (L.length : Int) % 32) % 32 = ((16 * (n % 2) : Nat) : Int) := by omega
  rw [e, if_pos (by omega), Int.toNat_natCast]

theorem frame46 (a : Act) (hs : a.tmps.size = 46) (hd : a.defers = []) : ∃ u : Nat → Value, (∀ i, a.tmps.getD i undef = u i) ∧ a = { tmps := #[u 0, u 1, u 2, u 3, u 4, u 5, u 6, u 7, u 8, u 9, u 10, u 11, u 12, u 13, u 14, u 15, u 16, u 17, u 18, u 19, u 20, u 21, u 22, u 23, u 24, u 25, u 26, u 27, u 28, u 29, u 30, u 31, u 32, u 33, u 34, u 35, u 36, u 37, u 38, u 39, u 40, u 41, u 42, u 43, u 44, u 45], defers := [] } := frame_of a 46 hs hd
end Go.Proofs.YtdhbakknplnnkaaGreat.Cc
namespace Go.Proofs.YtdhbakknplnnkaaGreat.Cc
open Go.RowKit

theorem encE_no {l : List Bk} {sd st : Int} (h : goodL l = false) : encE l = 1 ∧ encS sd l st = ⟨#[]⟩ := by
  have e : encE l = 1 := by unfold encE; rw [if_neg (by rw [h]; decide)]
  exact ⟨e, by unfold encS; rw [if_neg (by rw [e]; decide)]⟩
theorem encE_long {l : List Bk} {sd st : Int} (h : goodL l = true) (h2 : 65536 < 8 + szB l) : encE l = 2 ∧ encS sd l st = ⟨#[]⟩ := by
  have e : encE l = 2 := by unfold encE; rw [if_pos h, if_pos h2]
  exact ⟨e, by unfold encS; rw [if_neg (by rw [e]; decide)]⟩
end Go.Proofs.YtdhbakknplnnkaaGreat.Cc
