/-
  Bits as plain numbers: what stands in so many places of a row of bits, read as a number; bytes of a list of bits; what a piece of a byte is.
-/
import Derived.Below
import Derived.Test.YtdhbakknplnnkaaGreatRows
import Derived.WalkKit
import Derived.WalkSpells
import Derived.WalkLawsBesides
import Derived.Handy
import Derived.BigQuiet
import Derived.ScopeJumps
import Derived.WalkMore
import Derived.Laws.IdiomStrings
import Derived.BigRegion
import Derived.Deep.DeepCutAuto
import Derived.Deep.CutBlock
namespace Go.Proofs.YtdhbakknplnnkaaGreat.Rc

/-- The number that n bits from place p on make, the highest first. -/
def val (f : Nat → Nat) (p : Nat) : Nat → Nat
  | 0 => 0
  | n + 1 => 2 * val f p n + f (p + n)

theorem val_lt (f : Nat → Nat) (h : ∀ i, f i < 2) (p n : Nat) : val f p n < 2 ^ n := by
  induction n with
  | zero => simp [val]
  | succ n ih => have := h (p + n); rw [val, Nat.pow_succ]; omega

theorem val_add (f : Nat → Nat) (p n k : Nat) : val f p (n + k) = val f p n * 2 ^ k + val f (p + n) k := by
  induction k with
  | zero => simp [val]
  | succ k ih => rw [← Nat.add_assoc, val, ih, val, Nat.pow_succ, Nat.add_assoc p n k, Nat.mul_add, ← Nat.mul_assoc, Nat.mul_comm 2, Nat.mul_assoc, Nat.mul_comm 2 (2 ^ k)]; omega

theorem val_congr (f g : Nat → Nat) (p q n : Nat) (h : ∀ i, i < n → f (p + i) = g (q + i)) : val f p n = val g q n := by
  induction n with
  | zero => rfl
  | succ n ih => rw [val, val, ih fun i hi => h i (by omega), h n (by omega)]

theorem val_zero (f : Nat → Nat) (p n : Nat) (h : ∀ i, i < n → f (p + i) = 0) : val f p n = 0 := by
  induction n with
  | zero => rfl
  | succ n ih => rw [val, ih fun i hi => h i (by omega), h n (by omega)]

/-- A bit of eight. -/
theorem val_bit (f : Nat → Nat) (h : ∀ i, f i < 2) (p i : Nat) (hi : i < 8) : val f p 8 / 2 ^ (7 - i) % 2 = f (p + i) := by
  have e : val f p 8 = val f p (i + 1) * 2 ^ (7 - i) + val f (p + (i + 1)) (7 - i) := by
    rw [← val_add]; congr 1; omega
  have l := val_lt f h (p + (i + 1)) (7 - i)
  rw [e, Nat.mul_comm, Nat.mul_add_div (Nat.two_pow_pos _), Nat.div_eq_of_lt l, val]
  have := h (p + i); omega

/-- A bit of a text. -/
def bt (s : ByteArray) (i : Nat) : Nat := (s.data.toList.getD (i / 8) 0).toNat / 2 ^ (7 - i % 8) % 2
theorem bt_lt (s : ByteArray) (i : Nat) : bt s i < 2 := Nat.mod_lt _ (by decide)
/-- So many bits of a text from a place on, as a number. -/
def gv (s : ByteArray) (p n : Nat) : Nat := val (bt s) p n
theorem gv_lt (s : ByteArray) (p n : Nat) : gv s p n < 2 ^ n := val_lt _ (bt_lt s) _ _
theorem gv_add (s : ByteArray) (p n k : Nat) : gv s p (n + k) = gv s p n * 2 ^ k + gv s (p + n) k := val_add _ _ _ _

/-- Within a byte. -/
theorem val_byte (B f k : Nat) (h : f + k ≤ 8) : val (fun i => B / 2 ^ (7 - i) % 2) f k = B * 2 ^ f % 256 / 2 ^ (8 - k) := by
  have g : ∀ n, n ≤ k → val (fun i => B / 2 ^ (7 - i) % 2) f n = B / 2 ^ (8 - f - n) % 2 ^ n := by
    intro n hn
    induction n with
    | zero => simp [val, Nat.mod_one]
    | succ n ih =>
      rw [val, ih (by omega)]
      have e1 : 8 - f - n = (8 - f - (n + 1)) + 1 := by omega
      have e2 : 7 - (f + n) = 8 - f - (n + 1) := by omega
      simp only [e2]
      rw [e1, Nat.pow_succ, ← Nat.div_div_eq_div_mul, Nat.pow_succ 2 n, Nat.mul_comm (2 ^ n) 2, Nat.mod_mul]
      omega
  rw [g _ (Nat.le_refl _)]
  have e3 : (256 : Nat) = 2 ^ (8 - f) * 2 ^ f := by
    rw [← Nat.pow_add]
    have : 8 - f + f = 8 := by omega
    rw [this]
  rw [e3, Nat.mul_mod_mul_right]
  have e4 : 8 - k = (8 - f - k) + f := by omega
  rw [e4, Nat.pow_add, Nat.mul_comm (2 ^ (8 - f - k)), ← Nat.div_div_eq_div_mul, Nat.mul_div_cancel _ (Nat.two_pow_pos _)]
  have e5 : 2 ^ (8 - f) = 2 ^ (8 - f - k) * 2 ^ k := by rw [← Nat.pow_add]; congr 1; omega
  rw [e5, Nat.mod_mul_right_div_self]

theorem gv_piece (s : ByteArray) (p k : Nat) (h : p % 8 + k ≤ 8) :
    gv s p k = (s.data.toList.getD (p / 8) 0).toNat * 2 ^ (p % 8) % 256 / 2 ^ (8 - k) := by
  rw [← val_byte _ (p % 8) k h]
  refine val_congr _ _ _ _ _ fun i hi => ?_
  have e1 : (p + i) / 8 = p / 8 := by omega
  have e2 : (p + i) % 8 = p % 8 + i := by omega
  simp only [bt, e1, e2]

/-! ### Lists of bits -/
def lb (l : List Bool) (i : Nat) : Nat := (l.getD i false).toNat
theorem lb_lt (l : List Bool) (i : Nat) : lb l i < 2 := by unfold lb; cases l.getD i false <;> decide
/-- The lower n bits of c, the highest first. -/
def bitsOf (c : Nat) : Nat → List Bool
  | 0 => []
  | n + 1 => (c / 2 ^ n % 2 == 1) :: bitsOf c n
@[simp] theorem bitsOf_len (c n : Nat) : (bitsOf c n).length = n := by induction n with | zero => rfl | succ n ih => simp [bitsOf, ih]
theorem bitsOf_split (c k m : Nat) : bitsOf c (k + m) = bitsOf (c / 2 ^ m) k ++ bitsOf c m := by
  induction k with
  | zero => simp [bitsOf]
  | succ k ih =>
    have e : k + 1 + m = (k + m) + 1 := by omega
    rw [e, bitsOf, ih, bitsOf, Nat.div_div_eq_div_mul, ← Nat.pow_add, Nat.add_comm m k]; rfl
theorem bitsOf_zero (n : Nat) : bitsOf 0 n = List.replicate n false := by induction n with | zero => rfl | succ n ih => simp [bitsOf, ih, List.replicate_succ]
theorem bitsOf_mod (c k n : Nat) (h : n ≤ k) : bitsOf (c % 2 ^ k) n = bitsOf c n := by
  induction n with
  | zero => rfl
  | succ n ih =>
    rw [bitsOf, bitsOf, ih (by omega)]
    congr 2
    have e : k = n + (k - n) := by omega
    rw [e, Nat.pow_add, Nat.mod_mul_right_div_self]
    obtain ⟨j, hj⟩ : ∃ j, k - n = 1 + j := ⟨k - n - 1, by omega⟩
    rw [hj, Nat.pow_add, Nat.pow_one, Nat.mod_mul_right_mod]

theorem lb_app_left (l r : List Bool) (i : Nat) (h : i < l.length) : lb (l ++ r) i = lb l i := by
  unfold lb; rw [List.getD_eq_getElem?_getD, List.getD_eq_getElem?_getD, List.getElem?_append_left h]
theorem lb_app_right (l r : List Bool) (i : Nat) : lb (l ++ r) (l.length + i) = lb r i := by
  unfold lb; rw [List.getD_eq_getElem?_getD, List.getD_eq_getElem?_getD, List.getElem?_append_right (by omega)]; congr 3; omega
theorem lb_out (l : List Bool) (i : Nat) (h : l.length ≤ i) : lb l i = 0 := by
  unfold lb; rw [List.getD_eq_getElem?_getD, List.getElem?_eq_none h]; rfl
theorem lb_bits (c n i : Nat) (h : i < n) : lb (bitsOf c n) i = c / 2 ^ (n - 1 - i) % 2 := by
  induction n generalizing i with
  | zero => omega
  | succ n ih =>
    cases i with
    | zero =>
      simp only [bitsOf, lb, List.getD_cons_zero]
      have : c / 2 ^ n % 2 < 2 := Nat.mod_lt _ (by decide)
      have e : n + 1 - 1 - 0 = n := by omega
      rw [e]
      rcases (by omega : c / 2 ^ n % 2 = 0 ∨ c / 2 ^ n % 2 = 1) with h | h <;> simp [h]
    | succ i =>
      have := ih i (by omega)
      simp only [bitsOf, lb, List.getD_cons_succ] at this ⊢
      rw [this]; congr 3; omega
theorem val_bits (c k : Nat) : val (lb (bitsOf c k)) 0 k = c % 2 ^ k := by
  have g : ∀ n, n ≤ k → val (lb (bitsOf c k)) 0 n = c / 2 ^ (k - n) % 2 ^ n := by
    intro n hn
    induction n with
    | zero => simp [val, Nat.mod_one]
    | succ n ih =>
      rw [val, ih (by omega), Nat.zero_add, lb_bits c k n (by omega)]
      have e1 : k - n = (k - (n + 1)) + 1 := by omega
      have e2 : k - 1 - n = k - (n + 1) := by omega
      rw [e2, e1, Nat.pow_succ, ← Nat.div_div_eq_div_mul, Nat.pow_succ 2 n, Nat.mul_comm (2 ^ n) 2, Nat.mod_mul]
      omega
  have := g k (Nat.le_refl _)
  simpa using this
/-- Bits that stand within a list. -/
theorem val_mid (l r : List Bool) (c k : Nat) : val (lb (l ++ (bitsOf c k ++ r))) l.length k = c % 2 ^ k := by
  rw [← val_bits c k]
  refine val_congr _ _ _ _ _ fun i hi => ?_
  rw [lb_app_right, lb_app_left _ _ _ (by simpa using hi), Nat.zero_add]

/-- A byte of a list of bits. -/
def bv (l : List Bool) (j : Nat) : Nat := val (lb l) (8 * j) 8
theorem bv_lt (l : List Bool) (j : Nat) : bv l j < 256 := val_lt _ (lb_lt l) _ _
/-- The bytes of a list of bits. -/
def pk (l : List Bool) : List Nat := (List.range ((l.length + 7) / 8)).map (bv l)
@[simp] theorem pk_len (l : List Bool) : (pk l).length = (l.length + 7) / 8 := by simp [pk]
theorem pk_lt (l : List Bool) : ∀ x ∈ pk l, x < 256 := by
  intro x hx
  simp only [pk, List.mem_map] at hx
  obtain ⟨j, _, rfl⟩ := hx
  exact bv_lt l j
def packS (l : List Bool) : ByteArray := ⟨((pk l).map UInt8.ofNat).toArray⟩
theorem packS_size (l : List Bool) : (packS l).size = (l.length + 7) / 8 := by
  show (((pk l).map UInt8.ofNat).toArray).size = _
  simp
theorem bt_pack (l : List Bool) (i : Nat) : bt (packS l) i = lb l i := by
  have e : (packS l).data.toList = (pk l).map UInt8.ofNat := rfl
  unfold bt
  rw [e, List.getD_eq_getElem?_getD, List.getElem?_map, pk, List.getElem?_map]
  by_cases h : i / 8 < (l.length + 7) / 8
  · rw [List.getElem?_range h]
    simp only [Option.map_some, Option.getD_some]
    have hb := bv_lt l (i / 8)
    rw [UInt8.toNat_ofNat_of_lt' (by simpa using hb), bv, val_bit _ (lb_lt l) _ _ (by omega)]
    congr 1; omega
  · rw [List.getElem?_eq_none (by simpa using h), lb_out l i (by omega)]
    simp
theorem gv_pack (l : List Bool) (p n : Nat) : gv (packS l) p n = val (lb l) p n := val_congr _ _ _ _ _ fun _ _ => bt_pack l _

theorem or_add (a b k : Nat) (h : b < 2 ^ k) : a * 2 ^ k ||| b = a * 2 ^ k + b := by
  rw [← Nat.shiftLeft_eq, ← Nat.shiftLeft_add_eq_or_of_lt h]

/-- The last byte, when some bits more are laid behind what it has. -/
theorem bv_more (l : List Bool) (c k : Nat) (h : l.length % 8 + k ≤ 8) :
    bv (l ++ bitsOf c k) (l.length / 8) = (bv l (l.length / 8) ||| c % 2 ^ k * 2 ^ (8 - k) / 2 ^ (l.length % 8)) := by
  have hl : l.length = 8 * (l.length / 8) + l.length % 8 := by omega
  generalize hq : l.length / 8 = q at *
  generalize hf : l.length % 8 = f at *
  have e1 : (8 : Nat) = f + (k + (8 - f - k)) := by omega
  have v1 : bv (l ++ bitsOf c k) q = val (lb l) (8 * q) f * 2 ^ (8 - f) + c % 2 ^ k * 2 ^ (8 - f - k) := by
    have e2 : bv (l ++ bitsOf c k) q = val (lb (l ++ bitsOf c k)) (8 * q) (f + (k + (8 - f - k))) := by unfold bv; rw [← e1]
    rw [e2, val_add, val_add (lb (l ++ bitsOf c k)) (8 * q + f) k]
    have e3 : val (lb (l ++ bitsOf c k)) (8 * q) f = val (lb l) (8 * q) f := val_congr _ _ _ _ _ fun i hi => lb_app_left _ _ _ (by omega)
    have e4 : val (lb (l ++ bitsOf c k)) (8 * q + f) k = c % 2 ^ k := by
      rw [← hl]; have := val_mid l [] c k; rwa [List.append_nil] at this
    have e5 : val (lb (l ++ bitsOf c k)) (8 * q + f + k) (8 - f - k) = 0 := val_zero _ _ _ fun i hi => lb_out _ _ (by simp; omega)
    rw [e3, e4, e5]
    have e6 : k + (8 - f - k) = 8 - f := by omega
    rw [e6, Nat.add_zero]
  have v2 : bv l q = val (lb l) (8 * q) f * 2 ^ (8 - f) := by
    have e2 : bv l q = val (lb l) (8 * q) (f + (8 - f)) := by unfold bv; congr 1; omega
    rw [e2, val_add, val_zero (lb l) (8 * q + f) (8 - f) fun i hi => lb_out _ _ (by omega), Nat.add_zero]
  have v3 : c % 2 ^ k * 2 ^ (8 - k) / 2 ^ f = c % 2 ^ k * 2 ^ (8 - f - k) := by
    have e7 : 8 - k = (8 - f - k) + f := by omega
    rw [e7, Nat.pow_add, ← Nat.mul_assoc, Nat.mul_div_cancel _ (Nat.two_pow_pos _)]
  have hlt : c % 2 ^ k * 2 ^ (8 - f - k) < 2 ^ (8 - f) := by
    have e8 : 8 - f = k + (8 - f - k) := by omega
    rw [e8, Nat.pow_add]
    have e9 : k + (8 - f - k) - k = 8 - f - k := by omega
    rw [e9]
    exact Nat.mul_lt_mul_of_pos_right (Nat.mod_lt _ (Nat.two_pow_pos _)) (Nat.two_pow_pos _)
  rw [v1, v2, v3, or_add _ _ _ hlt]

theorem pk_get (l : List Bool) (j : Nat) (h : j < (l.length + 7) / 8) : (pk l)[j]? = some (bv l j) := by
  rw [pk, List.getElem?_map, List.getElem?_range h]; rfl
theorem pk_end (l : List Bool) (h : l.length % 8 = 0) : bv l (l.length / 8) = 0 := val_zero _ _ _ fun i _ => lb_out _ _ (by omega)
/-- All bytes, when some bits more are laid within the last one. -/
theorem pk_more (l : List Bool) (c k : Nat) (hk : 0 < k) (h : l.length % 8 + k ≤ 8) (hf : l.length % 8 ≠ 0) :
    pk (l ++ bitsOf c k) = (pk l).set (l.length / 8) (bv l (l.length / 8) ||| c % 2 ^ k * 2 ^ (8 - k) / 2 ^ (l.length % 8)) := by
  apply List.ext_getElem?
  intro j
  rw [List.getElem?_set, pk_len]
  by_cases hj : j < (l.length + 7) / 8
  · rw [pk_get _ _ (by simp; omega)]
    by_cases e : l.length / 8 = j
    · rw [if_pos e, if_pos (by omega), ← e, bv_more l c k h]
    · rw [if_neg e, pk_get _ _ hj]
      exact congrArg some (val_congr _ _ _ _ _ fun i hi => lb_app_left _ _ _ (by omega))
  · rw [if_neg (by omega), List.getElem?_eq_none (by simp; omega), List.getElem?_eq_none (by simp; omega)]
/-- All bytes, when a new one is begun. -/
theorem pk_new (l : List Bool) (c k : Nat) (hk : 0 < k) (h : k ≤ 8) (hf : l.length % 8 = 0) :
    pk (l ++ bitsOf c k) = (pk l ++ [0]).set (l.length / 8) (0 ||| c % 2 ^ k * 2 ^ (8 - k) / 2 ^ (l.length % 8)) := by
  apply List.ext_getElem?
  intro j
  rw [List.getElem?_set, List.length_append, pk_len]
  by_cases hj : j < (l.length + 7) / 8 + 1
  · rw [pk_get _ _ (by simp; omega)]
    by_cases e : l.length / 8 = j
    · rw [if_pos e, if_pos (by simp; omega), ← e, bv_more l c k (by omega), pk_end l hf]
    · rw [if_neg e, List.getElem?_append_left (by simp; omega), pk_get _ _ (by omega)]
      exact congrArg some (val_congr _ _ _ _ _ fun i hi => lb_app_left _ _ _ (by omega))
  · rw [if_neg (by omega), List.getElem?_eq_none (by simp; omega), List.getElem?_eq_none (by simp; omega)]

end Go.Proofs.YtdhbakknplnnkaaGreat.Rc
namespace Go.Proofs.YtdhbakknplnnkaaGreat.Rc
open Go.RowKit

theorem mkHid {p : Prop} (h : p) : Hid p := h
theorem ret_i {k : IntKind} {a b : Int} (h : a = b) : Ending.returned (.int k a) = .returned (.int k b) := by rw [h]
theorem ret_b {p q : Bool} (h : p = q) : Ending.returned (.bool p) = .returned (.bool q) := by rw [h]
theorem setCell_drewN (w : World) (a : Addr) (v : Value) (n : Nat) : (w.drewN n).setCell a v = (w.setCell a v).drewN n := rfl

/-- A scope whose run comes to one label, and jumps back to it: what holds at the label, and a measure that every pass lowers. -/
theorem wp_scope_label {P : Program} {a : Act} {w : World} {Q : Exit → Act → World → Prop} {c tail : Code} (l : Nat) (J : Act → World → Prop) (μ : Act → World → Nat) (hf : findLabel c l = some (.seq .skip tail))
    (first : ∀ Q' : Exit → Act → World → Prop, (∀ a w, J a w → tail.wp P Q' a w) → c.wp P Q' a w)
    (pass : ∀ a w, J a w → tail.wp P (Exit.jump l (fun a' w' => J a' w' ∧ μ a' w' < μ a w) Q) a w) : (Code.scope c).wp P Q a w :=
  wp_scope_jumps l J μ hf (first _ fun a w h => Code.wp_mono (fun e a' w' hq => by cases e <;> first | exact ⟨hq.1, hq.2.1⟩ | exact hq) (pass a w h)) (fun a w h => wp_seq (wp_skip (pass a w h)))

theorem list_of (l : List Value) : l = (List.range l.length).map (fun i => l.getD i undef) := by
  apply List.ext_getElem?
  intro i
  by_cases h : i < l.length
  · rw [List.getElem?_map, List.getElem?_range h, List.getElem?_eq_getElem h]
    simp [List.getD_eq_getElem?_getD, List.getElem?_eq_getElem h]
  · rw [List.getElem?_eq_none (by omega), List.getElem?_eq_none (by simp; omega)]
/-- A frame of so many slots, written out slot by slot. -/
theorem frame_of (a : Act) (n : Nat) (hs : a.tmps.size = n) (hd : a.defers = []) : ∃ u : Nat → Value, (∀ i, a.tmps.getD i undef = u i) ∧ a = { tmps := ((List.range n).map u).toArray, defers := [] } := by
  refine ⟨fun i => a.tmps.getD i undef, fun _ => rfl, ?_⟩
  obtain ⟨tmps, defers⟩ := a
  obtain ⟨l⟩ := tmps
  simp only at hs hd
  subst hd
  have e := list_of l
  have hl : l.length = n := by simpa using hs
  rw [hl] at e
  have e2 : ∀ i, (l.toArray).getD i undef = l.getD i undef := by
    intro i
    simp [Array.getD_eq_getD_getElem?, List.getD_eq_getElem?_getD]
  simp only [e2]
  rw [← e]

/-- All blocks but those of X are as they were. -/
structure Apart (X : Nat → Prop) (w w' : World) : Prop where
  os : w'.os = w.os
  tape : w'.tape = w.tape
  output : w'.output = w.output
  size : w.heap.size ≤ w'.heap.size
  block : ∀ k, k < w.heap.size → ¬ X k → w'.heap[k]? = w.heap[k]?

theorem Apart.refl (X : Nat → Prop) (w : World) : Apart X w w := ⟨rfl, rfl, rfl, Nat.le_refl _, fun _ _ _ => rfl⟩
theorem Apart.trans {X Y : Nat → Prop} {a b c : World} (h : Apart X a b) (k : Apart Y b c) (hY : ∀ i, i < a.heap.size → Y i → X i) : Apart X a c :=
  ⟨k.os.trans h.os, k.tape.trans h.tape, k.output.trans h.output, Nat.le_trans h.size k.size, fun i hi hx => (k.block i (Nat.lt_of_lt_of_le hi h.size) (fun hy => hx (hY i hi hy))).trans (h.block i hi hx)⟩
theorem Apart.mono {X Y : Nat → Prop} {a b : World} (h : Apart X a b) (hY : ∀ i, i < a.heap.size → X i → Y i) : Apart Y a b :=
  ⟨h.os, h.tape, h.output, h.size, fun i hi hy => h.block i hi fun hx => hy (hY i hi hx)⟩
theorem Apart.drewN {X : Nat → Prop} {a b : World} (h : Apart X a b) (n : Nat) : Apart X a (b.drewN n) := ⟨h.os, h.tape, h.output, h.size, h.block⟩
theorem Apart.drew {X : Nat → Prop} {a b : World} (h : Apart X a b) : Apart X a b.drew := ⟨h.os, h.tape, h.output, h.size, h.block⟩
theorem Apart.alloc {X : Nat → Prop} {a b : World} (h : Apart X a b) (o : Obj) : Apart X a (b.alloc o) :=
  h.trans (Y := fun _ => False) ⟨rfl, rfl, rfl, by simp, fun k hk _ => Below.heap_alloc b o k hk⟩ (fun _ _ h => h.elim)
theorem Apart.setCell {X : Nat → Prop} {a b : World} (h : Apart X a b) {p : Addr} (hp : p.block < a.heap.size → X p.block) (u : Value) : Apart X a (b.setCell p u) :=
  h.trans (Y := fun k => k = p.block) ⟨rfl, rfl, rfl, by simp, fun k _ hk => Below.heap_setCell b p u k hk⟩ (fun i hi e => by subst e; exact hp hi)
theorem Apart.grown {X : Nat → Prop} {a b c : World} {row : Option Nat} (h : Apart X a b) (hg : b.grownBy c row) (hr : ∀ k, k < a.heap.size → row = some k → X k) : Apart X a c :=
  h.trans (Y := fun k => some k = row) ⟨hg.os, hg.tape, hg.output, hg.size, fun k hk hn => hg.block k hk hn⟩ (fun i hi e => hr i hi e.symm)
theorem Apart.below {X : Nat → Prop} {w w' : World} (h : Apart X w w') (B : Nat) (hB : B ≤ w.heap.size) (hX : ∀ k, X k → B ≤ k) : Below B w w' :=
  ⟨h.os, h.tape, h.output, h.size, fun k hk => h.block k (by omega) fun hx => by have := hX k hx; omega⟩
theorem lt_of_heap {w : World} {b : Nat} {o : Obj} (h : w.heap[b]? = some o) : b < w.heap.size := (Array.getElem?_eq_some_iff.1 h).1
theorem Apart.heap {X : Nat → Prop} {w w' : World} (h : Apart X w w') {b : Nat} {o : Obj} (hb : w.heap[b]? = some o) (hx : ¬ X b) : w'.heap[b]? = some o :=
  (h.block b (lt_of_heap hb) hx).trans hb

/-- Three cells of a block: what the walk asks of them. -/
theorem cells3 {w : World} {b : Nat} {v0 v1 v2 : Value} {T : TypeId} (h : w.heap[b]? = some (.cells #[v0, v1, v2] T (0, 0))) :
    w.cell? ⟨b, 0, none⟩ = some v0 ∧ w.cell? ⟨b, 1, none⟩ = some v1 ∧ w.cell? ⟨b, 2, none⟩ = some v2 ∧ (w.frozen? ⟨b, 0, none⟩ = false ∧ w.frozen? ⟨b, 1, none⟩ = false ∧ w.frozen? ⟨b, 2, none⟩ = false) :=
  ⟨cell_of_row w b 0 _ T _ h, cell_of_row w b 1 _ T _ h, cell_of_row w b 2 _ T _ h, frozen_of_row w b 0 _ T h, frozen_of_row w b 1 _ T h, frozen_of_row w b 2 _ T h⟩
theorem cells2 {w : World} {b : Nat} {v0 v1 : Value} {T : TypeId} (h : w.heap[b]? = some (.cells #[v0, v1] T (0, 0))) :
    w.cell? ⟨b, 0, none⟩ = some v0 ∧ w.cell? ⟨b, 1, none⟩ = some v1 ∧ (w.frozen? ⟨b, 0, none⟩ = false ∧ w.frozen? ⟨b, 1, none⟩ = false) :=
  ⟨cell_of_row w b 0 _ T _ h, cell_of_row w b 1 _ T _ h, frozen_of_row w b 0 _ T h, frozen_of_row w b 1 _ T h⟩

/-- A reader of s in block b: at a place, or bad. -/
def Rd (T : TypeId) (w : World) (b : Nat) (s : ByteArray) : Option Nat → Prop
  | some p => w.heap[b]? = some (.cells #[.string s, .int .i64 (p : Int), .bool false] T (0, 0)) ∧ p ≤ 8 * s.size
  | none => ∃ (s' : ByteArray) (p : Int), w.heap[b]? = some (.cells #[.string s', .int .i64 p, .bool true] T (0, 0))
theorem Rd.heap {T : TypeId} {w : World} {b : Nat} {s : ByteArray} {st : Option Nat} (h : Rd T w b s st) : b < w.heap.size := by
  cases st with
  | none => obtain ⟨s', p, h⟩ := h; exact lt_of_heap h
  | some p => exact lt_of_heap h.1
theorem Rd.kept {T : TypeId} {w w' : World} {b : Nat} {s : ByteArray} {st : Option Nat} {X : Nat → Prop} (h : Rd T w b s st) (ha : Apart X w w') (hx : ¬ X b) : Rd T w' b s st := by
  cases st with
  | none => obtain ⟨s', p, h⟩ := h; exact ⟨s', p, ha.heap h hx⟩
  | some p => exact ⟨ha.heap h.1 hx, h.2⟩
/-- What Get answers, and where it is then. -/
def gval (s : ByteArray) (st : Option Nat) (n : Int) : Int :=
  match st with
  | some p => if 0 ≤ n ∧ n ≤ 32 ∧ (p : Int) + n ≤ 8 * s.size then (gv s p n.toNat : Int) else 0
  | none => 0
def gnext (s : ByteArray) (st : Option Nat) (n : Int) : Option Nat :=
  match st with
  | some p => if 0 ≤ n ∧ n ≤ 32 ∧ (p : Int) + n ≤ 8 * s.size then some (p + n.toNat) else none
  | none => none
def gleft (s : ByteArray) (st : Option Nat) : Int :=
  match st with
  | some p => 8 * s.size - p
  | none => 0
def gbad (st : Option Nat) : Bool := st.isNone

end Go.Proofs.YtdhbakknplnnkaaGreat.Rc
namespace Go.Proofs.YtdhbakknplnnkaaGreat.Rc
open Go.RowKit

theorem taken_yes (n : Int) (h0 : 0 ≤ n) (h1 : n ≤ 32) (w : World) :
    Calls Tryz.prog 76 #[.int .i64 n] w fun e w' => e = .returned (.bool true) ∧ w' = w := by
  go_enter Tryz.func76, Tryz.ntmps76
  go_wp2
  go_ret
  exact ⟨rfl, rfl⟩
theorem taken_no (n : Int) (h : n < 0 ∨ 32 < n) (w : World) :
    Calls Tryz.prog 76 #[.int .i64 n] w fun e w' => e = .returned (.bool false) ∧ w' = w := by
  rcases h with h | h
  · go_enter Tryz.func76, Tryz.ntmps76
    go_wp2
    go_ret
    exact ⟨rfl, rfl⟩
  · have h2 : ¬ n ≤ 32 := by omega
    go_enter Tryz.func76, Tryz.ntmps76
    go_wp2
    go_ret
    exact ⟨ret_b (by simp), rfl⟩
theorem bad_nil (w : World) : Calls Tryz.prog 72 #[.pointer none] w fun e w' => e = .returned (.bool true) ∧ w' = w := by
  go_enter Tryz.func72, Tryz.ntmps72
  go_wp2
  go_ret
  exact ⟨rfl, rfl⟩
theorem bad_any (b : Nat) (s : ByteArray) (st : Option Nat) (w : World) (h : Rd 143 w b s st) :
    Calls Tryz.prog 72 #[.pointer (some ⟨b, 0, none⟩)] w fun e w' => e = .returned (.bool (gbad st)) ∧ w' = w := by
  cases st with
  | none =>
    obtain ⟨s', p, h⟩ := h
    obtain ⟨c0, c1, c2, f0, f1, f2⟩ := cells3 h
    clear h
    go_enter Tryz.func72, Tryz.ntmps72
    go_wp2
    go_ret
    exact ⟨rfl, rfl⟩
  | some p =>
    obtain ⟨c0, c1, c2, f0, f1, f2⟩ := cells3 h.1
    clear h
    go_enter Tryz.func72, Tryz.ntmps72
    go_wp2
    go_ret
    exact ⟨rfl, rfl⟩
theorem left_any (b : Nat) (s : ByteArray) (hs : s.size ≤ 1000000) (st : Option Nat) (w : World) (h : Rd 143 w b s st) :
    Calls Tryz.prog 56 #[.pointer (some ⟨b, 0, none⟩)] w fun e w' => e = .returned (.int .i64 (gleft s st)) ∧ ∃ n, w' = w.drewN n := by
  have B := mkHid (bad_any b s st w h)
  cases st with
  | none =>
    clear h
    go_enter Tryz.func56, Tryz.ntmps56
    go_wp2_with fail
    refine (B.out).mono ?_
    rintro e w1 ⟨rfl, rfl⟩
    unfold gbad
    go_wp2
    go_ret
    exact ⟨rfl, 0, rfl⟩
  | some p =>
    obtain ⟨c0, c1, c2, f0, f1, f2⟩ := cells3 h.1
    have hp := h.2
    clear h
    go_enter Tryz.func56, Tryz.ntmps56
    go_wp2_with fail
    refine (B.out).mono ?_
    rintro e w1 ⟨rfl, rfl⟩
    unfold gbad
    go_wp2
    go_quiet (fail)
    go_wp2
    go_ret
    exact ⟨ret_i (by show (s.size : Int) * 8 - p = 8 * s.size - p; omega), _, rfl⟩
theorem piece_any (b from_ k : Int) (w : World) (h0 : 0 ≤ from_) (h1 : 1 ≤ k) (h2 : from_ + k ≤ 8) :
    Calls Tryz.prog 77 #[.int .u8 b, .int .i64 from_, .int .i64 k] w fun e w' => e = .returned (.int .u8 (b * 2 ^ from_.toNat % 256 / 2 ^ (8 - k).toNat)) ∧ w' = w := by
  go_enter Tryz.func77, Tryz.ntmps77
  go_wp2
  go_ret
  exact ⟨rfl, rfl⟩

theorem drew_rd {T : TypeId} {w : World} {b : Nat} {s : ByteArray} {st : Option Nat} (n : Nat) (h : Rd T w b s st) : Rd T (w.drewN n) b s st := by
  cases st with
  | none => exact h
  | some p => exact h
theorem bad_end {w : World} {b : Nat} {s s' : ByteArray} {p : Int} {x y : Value} (h : w.heap[b]? = some (.cells #[x, .int .i64 p, y] 143 (0, 0))) (n : Nat) :
    Rd 143 ((((w.drewN n).setCell ⟨b, 0, none⟩ (.string s')).setCell ⟨b, 1, none⟩ (.int .i64 0)).setCell ⟨b, 2, none⟩ (.bool true)) b s none ∧
    Apart (· = b) w ((((w.drewN n).setCell ⟨b, 0, none⟩ (.string s')).setCell ⟨b, 1, none⟩ (.int .i64 0)).setCell ⟨b, 2, none⟩ (.bool true)) := by
  have h0 : (w.drewN n).heap[b]? = some (.cells #[x, .int .i64 p, y] 143 (0, 0)) := h
  have h1 := heap_setCell_same _ b 0 _ 143 (.string s') h0
  have h2 := heap_setCell_same _ b 1 _ 143 (.int .i64 0) h1
  have h3 := heap_setCell_same _ b 2 _ 143 (.bool true) h2
  refine ⟨⟨s', 0, ?_⟩, ?_⟩
  · rw [h3]; rfl
  · exact Apart.setCell (Apart.setCell (Apart.setCell ((Apart.refl (· = b) w).drewN n) (p := ⟨b, 0, none⟩) (fun _ => rfl) _) (p := ⟨b, 1, none⟩) (fun _ => rfl) _) (p := ⟨b, 2, none⟩) (fun _ => rfl) _

theorem adv_end {T : TypeId} {w : World} {b : Nat} {s : ByteArray} {P k : Nat} (h : Rd T w b s (some P)) (hk : P + k ≤ 8 * s.size) (n : Nat) :
    Rd T ((w.drewN n).setCell ⟨b, 1, none⟩ (.int .i64 ((P : Int) + (k : Int)))) b s (some (P + k)) ∧ Apart (· = b) w ((w.drewN n).setCell ⟨b, 1, none⟩ (.int .i64 ((P : Int) + (k : Int)))) := by
  have h0 : (w.drewN n).heap[b]? = some (.cells #[.string s, .int .i64 (P : Int), .bool false] T (0, 0)) := h.1
  have h1 := heap_setCell_same _ b 1 _ T (.int .i64 ((P : Int) + (k : Int))) h0
  refine ⟨⟨?_, hk⟩, ?_⟩
  · rw [h1]; simp
  · exact Apart.setCell ((Apart.refl (· = b) w).drewN n) (p := ⟨b, 1, none⟩) (fun _ => rfl) _
theorem or_step (s : ByteArray) (p r k q f P : Nat) (hP : p + r = P) (hq : P / 8 = q) (hf : P % 8 = f) (hk : f + k ≤ 8) (hn : r + k ≤ 32) (hlt : q < s.size) :
    bits .or .u32 ((gv s p r : Int) * 2 ^ k % 4294967296) ((s[q].toNat : Int) * 2 ^ f % 256 / 2 ^ (8 - k) % 4294967296) = (gv s p (r + k) : Int) := by
  have g1 := gv_lt s p r
  have g2 := gv_lt s P k
  have e0 : gv s P k = s[q].toNat * 2 ^ f % 256 / 2 ^ (8 - k) := by
    rw [gv_piece s P k (by omega), hq, hf]
    congr 4
    rw [List.getD_eq_getElem?_getD, List.getElem?_eq_getElem (by simpa using hlt)]
    rfl
  have e1 : ((s[q].toNat : Int) * 2 ^ f % 256 / 2 ^ (8 - k)) = (gv s P k : Int) := by rw [e0]; simp
  have p1 : gv s p r * 2 ^ k < 2 ^ (r + k) := by rw [Nat.pow_add]; exact Nat.mul_lt_mul_of_pos_right g1 (Nat.two_pow_pos _)
  have p2 : 2 ^ (r + k) ≤ 2 ^ 32 := Nat.pow_le_pow_right (by decide) hn
  have p3 : 2 ^ k ≤ 2 ^ 32 := Nat.pow_le_pow_right (by decide) (by omega)
  have e2 : ((gv s p r : Int) * 2 ^ k % 4294967296) = ((gv s p r * 2 ^ k : Nat) : Int) := by
    have : ((gv s p r : Int) * 2 ^ k) = ((gv s p r * 2 ^ k : Nat) : Int) := by simp
    rw [this]; omega
  have e3 : (gv s P k : Int) % 4294967296 = (gv s P k : Nat) := by omega
  rw [e1, e2, e3, u32_or_nat _ _ (by omega) (by omega), or_add _ _ _ g2, gv_add, hP]
theorem get_none (b : Nat) (s : ByteArray) (n : Int) (w : World) (h : Rd 143 w b s none) :
    Calls Tryz.prog 58 #[.pointer (some ⟨b, 0, none⟩), .int .i64 n] w fun e w' => e = .returned (.int .u32 0) ∧ w' = w := by
  have B := mkHid (bad_any b s none w h)
  clear h
  go_enter Tryz.func58, Tryz.ntmps58
  go_wp2
  go_step3
  go_wp2_with fail
  refine (B.out).mono ?_
  rintro e w1 ⟨rfl, rfl⟩
  unfold gbad
  go_wp2
  rw [Exit.noGoto_ret]
  go_ret
  exact ⟨rfl, rfl⟩
theorem get_nil (n : Int) (w : World) :
    Calls Tryz.prog 58 #[.pointer none, .int .i64 n] w fun e w' => e = .returned (.int .u32 0) ∧ w' = w := by
  have B := mkHid (bad_nil w)
  go_enter Tryz.func58, Tryz.ntmps58
  go_wp2
  go_step3
  go_wp2_with fail
  refine (B.out).mono ?_
  rintro e w1 ⟨rfl, rfl⟩
  go_wp2
  rw [Exit.noGoto_ret]
  go_ret
  exact ⟨rfl, rfl⟩
theorem get_wrong (b : Nat) (s : ByteArray) (p : Nat) (n : Int) (hn : n < 0 ∨ 32 < n) (w : World) (h : Rd 143 w b s (some p)) :
    Calls Tryz.prog 58 #[.pointer (some ⟨b, 0, none⟩), .int .i64 n] w fun e w' => e = .returned (.int .u32 0) ∧ Rd 143 w' b s none ∧ Apart (· = b) w w' := by
  have B := mkHid (bad_any b s (some p) w h)
  have T := mkHid (taken_no n hn)
  have H := mkHid h.1
  obtain ⟨c0, c1, c2, f0, f1, f2⟩ := cells3 h.1
  clear h hn
  go_enter Tryz.func58, Tryz.ntmps58
  go_wp2
  go_step3
  go_wp2_with fail
  refine (B.out).mono ?_
  rintro e w1 ⟨rfl, rfl⟩
  unfold gbad
  go_wp2_with fail
  refine (T.out _).mono ?_
  rintro e w1 ⟨rfl, rfl⟩
  go_wp2
  rw [Exit.noGoto_ret]
  go_ret
  exact ⟨rfl, bad_end H.out 0⟩
theorem get_many (b : Nat) (s : ByteArray) (hs : s.size ≤ 1000000) (p : Nat) (n : Int) (h0 : 0 ≤ n) (h1 : n ≤ 32) (h2 : 8 * (s.size : Int) < p + n) (w : World) (h : Rd 143 w b s (some p)) :
    Calls Tryz.prog 58 #[.pointer (some ⟨b, 0, none⟩), .int .i64 n] w fun e w' => e = .returned (.int .u32 0) ∧ Rd 143 w' b s none ∧ Apart (· = b) w w' := by
  have B := mkHid (bad_any b s (some p) w h)
  have T := mkHid (taken_yes n h0 h1)
  have L := mkHid (left_any b s hs (some p) w h)
  have hl : gleft s (some p) < n := by show 8 * (s.size : Int) - p < n; omega
  generalize gleft s (some p) = g at *
  have H := mkHid h.1
  obtain ⟨c0, c1, c2, f0, f1, f2⟩ := cells3 h.1
  clear h
  go_enter Tryz.func58, Tryz.ntmps58
  go_wp2
  go_step3
  go_wp2_with fail
  refine (B.out).mono ?_
  rintro e w1 ⟨rfl, rfl⟩
  unfold gbad
  go_wp2_with fail
  refine (T.out _).mono ?_
  rintro e w1 ⟨rfl, rfl⟩
  go_wp2_with fail
  refine (L.out).mono ?_
  rintro e w1 ⟨rfl, nd, rfl⟩
  go_wp2
  rw [Exit.noGoto_ret]
  go_ret
  exact ⟨rfl, bad_end H.out nd⟩
theorem frame63 (a : Act) (hs : a.tmps.size = 63) (hd : a.defers = []) : ∃ u : Nat → Value, (∀ i, a.tmps.getD i undef = u i) ∧ a = { tmps := #[u 0, u 1, u 2, u 3, u 4, u 5, u 6, u 7, u 8, u 9, u 10, u 11, u 12, u 13, u 14, u 15, u 16, u 17, u 18, u 19, u 20, u 21, u 22, u 23, u 24, u 25, u 26, u 27, u 28, u 29, u 30, u 31, u 32, u 33, u 34, u 35, u 36, u 37, u 38, u 39, u 40, u 41, u 42, u 43, u 44, u 45, u 46, u 47, u 48, u 49, u 50, u 51, u 52, u 53, u 54, u 55, u 56, u 57, u 58, u 59, u 60, u 61, u 62], defers := [] } := frame_of a 63 hs hd
set_option maxRecDepth 100000 in
theorem get_ok (b : Nat) (s : ByteArray) (hs : s.size ≤ 1000000) (p n : Nat) (h1 : n ≤ 32) (h2 : p + n ≤ 8 * s.size) (w : World) (h : Rd 143 w b s (some p)) :
    Calls Tryz.prog 58 #[.pointer (some ⟨b, 0, none⟩), .int .i64 n] w fun e w' => e = .returned (.int .u32 (gv s p n)) ∧ Rd 143 w' b s (some (p + n)) ∧ Apart (· = b) w w' := by
  have B := mkHid (bad_any b s (some p) w h)
  have T := mkHid (taken_yes n (by omega) (by omega))
  have L := mkHid (left_any b s hs (some p) w h)
  have hl : (n : Int) ≤ gleft s (some p) := by show (n : Int) ≤ 8 * (s.size : Int) - p; omega
  generalize gleft s (some p) = g at *
  have H := mkHid h
  clear h
  go_enter Tryz.func58, Tryz.ntmps58
  go_wp2
  refine wp_scope_label 0 (fun a' w' => ∃ (m r : Nat), (a'.tmps.size = 63 ∧ a'.defers = [] ∧ a'.tmps.getD 0 undef = .pointer (some { block := b, off := 0 }) ∧ a'.tmps.getD 1 undef = .int .i64 (m : Int) ∧ a'.tmps.getD 2 undef = undef ∧ a'.tmps.getD 3 undef = undef ∧ a'.tmps.getD 4 undef = .int .u32 0 ∧ a'.tmps.getD 5 undef = .int .u32 (gv s p r : Int)) ∧ m + r = n ∧ Rd 143 w' b s (some (p + r)) ∧ Apart (· = b) w w') (fun a' _ => (intOf (a'.tmps.getD 1 undef)).toNat) rfl ?_ ?_
  · intro Q' hh
    have HH := mkHid hh
    clear hh
    go_wp2_with fail
    refine (B.out).mono ?_
    rintro e w1 ⟨rfl, rfl⟩
    unfold gbad
    go_wp2_with fail
    refine (T.out _).mono ?_
    rintro e w1 ⟨rfl, rfl⟩
    go_wp2_with fail
    refine (L.out).mono ?_
    rintro e w1 ⟨rfl, nd, rfl⟩
    go_wp2
    go_step3
    refine ‹∀ a w, Code.wp _ _ _ a w → _› _ _ (HH.out _ _ ?_)
    exact ⟨n, 0, ⟨rfl, rfl, rfl, rfl, rfl, rfl, rfl, rfl⟩, by omega, drew_rd nd H.out, (Apart.refl _ _).drewN nd⟩
  · clear B T L H
    rintro a' w' ⟨m, r, ⟨z, d, e0, e1, e2, e3, e4, e5⟩, hm, hr, hap⟩
    obtain ⟨u, hu, ha⟩ := frame63 a' z d
    rw [hu] at e0 e1 e2 e3 e4 e5
    rw [e0, e1, e2, e3, e4, e5] at ha
    clear z d hu e0 e1 e2 e3 e4 e5
    subst ha
    obtain ⟨P, HP⟩ : ∃ P, Hid (p + r = P) := ⟨_, rfl⟩
    rw [HP.out] at hr
    obtain ⟨c0, c1, c2, f0, f1, f2⟩ := cells3 hr.1
    have HR := mkHid hr
    have HA := mkHid hap
    clear hr hap
    have hP : P + m ≤ 8 * s.size := by have := HP.out; omega
    by_cases hm0 : m = 0
    · subst hm0
      obtain rfl : r = n := by omega
      go_wp2
      simp only [Exit.jump]
      go_ret
      have hr := HR.out
      rw [← HP.out] at hr
      exact ⟨rfl, hr, HA.out⟩
    · have hq1 : P / 8 < s.size := by omega
      have hf1 : P % 8 < 8 := by omega
      obtain ⟨q, Hq⟩ : ∃ q, Hid (P / 8 = q) := ⟨_, rfl⟩
      obtain ⟨f, Hf⟩ : ∃ f, Hid (P % 8 = f) := ⟨_, rfl⟩
      have hq : (P : Int) / 8 = (q : Nat) := by have := Hq.out; omega
      have hf : (P : Int) % 8 = (f : Nat) := by have := Hf.out; omega
      rw [Hq.out] at hq1
      rw [Hf.out] at hf1
      by_cases hk : m ≤ 8 - f
      · go_wp2
        have PC := mkHid (fun w => piece_any (s[q].toNat) f m w (by omega) (by omega) (by omega))
        go_quiet ((go_at_call 77; exact Calls.quiet_of_same (PC.out _)))
        go_wp2
        rw [or_step s p r m q f P HP.out Hq.out Hf.out (by omega) (by omega) hq1]
        go_step3
        obtain ⟨k1, k2⟩ := adv_end HR.out (k := m) (by omega) nq
        refine ⟨rfl, ⟨0, r + m, ⟨rfl, rfl, rfl, rfl, rfl, rfl, rfl, rfl⟩, by omega, ?_, HA.out.trans k2 (fun _ _ h => h)⟩, ?_⟩
        · have : p + (r + m) = P + m := by have := HP.out; omega
          rw [this]; exact k1
        · simp [intOf]; omega
      · obtain ⟨k, hk1⟩ : ∃ k : Nat, f + k = 8 := ⟨8 - f, by omega⟩
        obtain ⟨m', rfl⟩ : ∃ m', m = m' + k := ⟨m - k, by omega⟩
        have hk2 : (8 : Int) - f = k := by omega
        have hk3 : (k : Int) < ((m' + k : Nat) : Int) := by omega
        go_wp2
        have PC := mkHid (fun w => piece_any (s[q].toNat) f k w (by omega) (by omega) (by omega))
        go_quiet ((go_at_call 77; exact Calls.quiet_of_same (PC.out _)))
        go_wp2
        rw [or_step s p r k q f P HP.out Hq.out Hf.out (by omega) (by omega) hq1]
        go_step3
        obtain ⟨k1, k2⟩ := adv_end HR.out (k := k) (by omega) nq
        refine ⟨rfl, ⟨m', r + k, ⟨rfl, rfl, rfl, rfl, rfl, rfl, rfl, rfl⟩, by omega, ?_, HA.out.trans k2 (fun _ _ h => h)⟩, ?_⟩
        · have : p + (r + k) = P + k := by have := HP.out; omega
          rw [this]; exact k1
        · simp [intOf]; omega
/-- Get, whatever it is asked. -/
theorem get_any (b : Nat) (s : ByteArray) (hs : s.size ≤ 1000000) (st : Option Nat) (n : Int) (w : World) (h : Rd 143 w b s st) :
    Calls Tryz.prog 58 #[.pointer (some ⟨b, 0, none⟩), .int .i64 n] w fun e w' => e = .returned (.int .u32 (gval s st n)) ∧ Rd 143 w' b s (gnext s st n) ∧ Apart (· = b) w w' := by
  cases st with
  | none => exact (get_none b s n w h).mono fun e w' ⟨h1, h2⟩ => ⟨h1, by subst h2; exact h, by subst h2; exact Apart.refl _ _⟩
  | some p =>
    simp only [gval, gnext]
    by_cases hc : 0 ≤ n ∧ n ≤ 32 ∧ (p : Int) + n ≤ 8 * s.size
    · rw [if_pos hc, if_pos hc]
      obtain ⟨m, rfl⟩ : ∃ m : Nat, n = m := ⟨n.toNat, by omega⟩
      exact get_ok b s hs p m (by omega) (by omega) w h
    · rw [if_neg hc, if_neg hc]
      by_cases h1 : n < 0 ∨ 32 < n
      · exact get_wrong b s p n h1 w h
      · exact get_many b s hs p n (by omega) (by omega) (by omega) w h
theorem read_any (s : ByteArray) (w : World) :
    Calls Tryz.prog 54 #[.string s] w fun e w' => e = .returned (.pointer (some ⟨w.heap.size, 0, none⟩)) ∧ Rd 143 w' w.heap.size s (some 0) ∧ Apart (fun _ => False) w w' ∧ w'.heap.size = w.heap.size + 1 := by
  go_enter Tryz.func54, Tryz.ntmps54
  go_wp2
  go_ret
  exact ⟨rfl, ⟨heap_alloc_new _ _, Nat.zero_le _⟩, (Apart.refl _ _).alloc _, by simp⟩
end Go.Proofs.YtdhbakknplnnkaaGreat.Rc
namespace Go.Proofs.YtdhbakknplnnkaaGreat.Rc
open Go.RowKit

section
variable {P : Program} (w : World)
/-- An append onto a row of the call's own: the new row is the old one, or a new block. -/
theorem run_append_own2 (base : Nat) (t ty e : TypeId) (i : TypeInfo) (z : Value) (size bytes : Nat) (ht : P.underlying t = some (.slice e)) (hi : P.info? e = some i) (hz : i.zero = some z)
    (hsize : i.size = size) (hby : i.bytes = bytes) (hzs : z.cells.size = size) (hsz : 0 < size)
    (v : Value) (n : Nat) (xs : List Value) (hown : w.ownsRow base e size v n xs)
    (a : Addr) (m c : Nat) (news : List Value) (hl : news.length = m * size) (hnews : ∀ j u, news[j]? = some u → w.cell? (a.add j) = some u) (h1 : ∀ u ∈ news, u.oneCell' = true)
    (h63 : n + m ≤ maxLen) (hbytes : (n + m) * bytes ≤ 140737488355328) (hbase : base ≤ w.heap.size) :
    ∃ v' w', (Builtin.append_ #[t, t] ty #[v, .slice (some a) m c]).run P w = .ok v' w' ∧ w'.ownsRow base e size v' (n + m) (xs ++ news) ∧ w.grownBy w' v.ownBlock ∧
      (∀ k, v'.ownBlock = some k → v.ownBlock = some k ∨ w.heap.size ≤ k) := by
  have down : ∀ {w' : World} {v' : Value}, w'.ownsRow w.heap.size e size v' (n + m) (xs ++ news) → w'.ownsRow base e size v' (n + m) (xs ++ news) := by
    intro w' v' h
    refine ⟨h.1, ?_⟩
    rcases h.2 with hn | ⟨g, cap, cur, hv, hg, r⟩
    · exact .inl hn
    · exact .inr ⟨g, cap, cur, hv, by omega, r⟩
  rcases hown.2 with ⟨rfl, rfl⟩ | ⟨g, cap, cur, rfl, hb, hg, hnc, hcm, hcs, htake⟩
  · obtain ⟨v', w', r1, r2, r3, _⟩ := run_append_own (P := P) w w.heap.size t ty e i z size bytes ht hi hz hsize hby hzs hsz (.slice none 0 0) 0 xs ⟨hown.1, .inl ⟨rfl, rfl⟩⟩ a m c news hl hnews h1 h63 hbytes (Nat.le_refl _)
    exact ⟨v', w', r1, down r2, r3, fun k hk => .inr (r2.lt k hk).1⟩
  · by_cases hr : n + m ≤ cap
    · obtain ⟨w', r1, r2, r3⟩ := run_append_fits (P := P) w base t ty e i size ht hi hsize g n cap xs hown a m c news hl hnews h1 hr
      exact ⟨_, w', r1, r2, r3, fun k hk => .inl hk⟩
    · obtain ⟨v', w', r1, r2, r3⟩ := run_append_arg_grows (P := P) w t ty e i z size bytes ht hi hz hsize hby hzs hsz ⟨g, 0, none⟩ n cap xs hown.1 (fun j u hu => hown.cells (g := g) rfl j u hu) a m c news hl hnews (by omega) h63 hbytes
      exact ⟨v', w', r1, down r2, ⟨r3.os, r3.tape, r3.output, r3.size, fun k hk _ => r3.block k hk (by simp)⟩, fun k hk => .inr (r2.lt k hk).1⟩
theorem wpList_append_own2 {ops : Array Oper} {rest : List Oper} {o : Oper} {a : Act} {Q : Exit → Act → World → Prop} (hgd : o.guard = none) (s x : Operand) (t : TypeId)
    (ho : o.op = .call { callee := .builtin .append, args := #[s, x], argTypes := #[t, t] })
    (base : Nat) (e : TypeId) (i : TypeInfo) (z : Value) (size bytes : Nat) (ht : P.underlying t = some (.slice e)) (hi : P.info? e = some i) (hz : i.zero = some z)
    (hsize : i.size = size) (hby : i.bytes = bytes) (hzs : z.cells.size = size) (hsz : 0 < size)
    (v : Value) (n : Nat) (xs : List Value) (hs : a.eval s = v) (hown : w.ownsRow base e size v n xs)
    (ad : Addr) (m c : Nat) (news : List Value) (hx : a.eval x = .slice (some ad) m c) (hl : news.length = m * size) (hnews : ∀ j u, news[j]? = some u → w.cell? (ad.add j) = some u) (h1 : ∀ u ∈ news, u.oneCell' = true)
    (h63 : n + m ≤ maxLen) (hbytes : (n + m) * bytes ≤ 140737488355328) (hbase : base ≤ w.heap.size)
    (h : ∀ v' w', w'.ownsRow base e size v' (n + m) (xs ++ news) → w.grownBy w' v.ownBlock → (∀ k, v'.ownBlock = some k → v.ownBlock = some k ∨ w.heap.size ≤ k) → wpList P ops Q rest (a.put o.dst v') w') : wpList P ops Q (o :: rest) a w :=
  wpList_plain hgd fun _ hK => by
    obtain ⟨v', w', hrun, h2, h3, h4⟩ := run_append_own2 (P := P) w base t o.type e i z size bytes ht hi hz hsize hby hzs hsz v n xs hown ad m c news hl hnews h1 h63 hbytes hbase
    unfold Oper.wp execOp
    simp only [ho, resolve, invoke, builtin, Sem.run_bind, Sem.run_pure, Result.andThen_ok, List.map_toArray, List.map_cons, List.map_nil, hs, hx, hrun]
    exact hK _ _ (h v' w' h2 h3 h4)
end

def vb (x : Nat) : Value := .int .u8 (x : Int)
/-- A writer in block b whose text is v; it has written the bits l. -/
structure Wr (T : TypeId) (w : World) (b : Nat) (v : Value) (l : List Bool) : Prop where
  head : w.heap[b]? = some (.cells #[v, .int .i64 (l.length : Int)] T (0, 0))
  own : w.ownsRow (b + 1) 5 1 v ((l.length + 7) / 8) ((pk l).map vb)
  most : l.length ≤ 524288
/-- A writer whose last byte stands, with bits to spare. -/
structure Mid (T : TypeId) (w : World) (b g cap : Nat) (l : List Bool) (xs : List Nat) : Prop where
  head : w.heap[b]? = some (.cells #[.slice (some ⟨g, 0, none⟩) (l.length / 8 + 1) cap, .int .i64 (l.length : Int)] T (0, 0))
  own : w.ownsRow (b + 1) 5 1 (.slice (some ⟨g, 0, none⟩) (l.length / 8 + 1) cap) (l.length / 8 + 1) (xs.map vb)
  last : xs[l.length / 8]? = some (bv l (l.length / 8))
  next : ∀ c k, 0 < k → l.length % 8 + k ≤ 8 → pk (l ++ bitsOf c k) = xs.set (l.length / 8) (bv l (l.length / 8) ||| c % 2 ^ k * 2 ^ (8 - k) / 2 ^ (l.length % 8))
/-- From w to w' only block b, the row of v, and new ones have turned; the row of v' is v's or new. -/
structure Tch (b : Nat) (v v' : Value) (w w' : World) : Prop where
  ap : Apart (fun k => k = b ∨ v.ownBlock = some k) w w'
  own : ∀ k, v'.ownBlock = some k → v.ownBlock = some k ∨ w.heap.size ≤ k
theorem Tch.refl (b : Nat) (v : Value) (w : World) : Tch b v v w w := ⟨Apart.refl _ _, fun _ h => .inl h⟩
theorem Tch.trans {b : Nat} {v v' v'' : Value} {w w' w'' : World} (h : Tch b v v' w w') (k : Tch b v' v'' w' w'') : Tch b v v'' w w'' := by
  refine ⟨h.ap.trans k.ap ?_, ?_⟩
  · rintro i hi (rfl | e)
    · exact .inl rfl
    · rcases h.own i e with e | e
      · exact .inr e
      · omega
  · intro i e
    rcases k.own i e with e | e
    · exact h.own i e
    · have := h.ap.size; exact .inr (by omega)
theorem Wr.lt {T : TypeId} {w : World} {b : Nat} {v : Value} {l : List Bool} (h : Wr T w b v l) : b < w.heap.size := lt_of_heap h.head
theorem Wr.ownlt {T : TypeId} {w : World} {b : Nat} {v : Value} {l : List Bool} (h : Wr T w b v l) : ∀ k, v.ownBlock = some k → b < k ∧ k < w.heap.size := fun k hk => by
  have := h.own.lt k hk; exact ⟨by omega, this.2⟩
theorem Wr.kept {T : TypeId} {w w' : World} {b : Nat} {v : Value} {l : List Bool} {X : Nat → Prop} (h : Wr T w b v l) (ha : Apart X w w') (hb : ¬ X b) (hv : ∀ k, v.ownBlock = some k → ¬ X k) : Wr T w' b v l := by
  refine ⟨ha.heap h.head hb, ⟨h.own.1, ?_⟩, h.most⟩
  rcases h.own.2 with hn | ⟨g, cap, cur, rfl, hg, hh, r⟩
  · exact .inl hn
  · exact .inr ⟨g, cap, cur, rfl, hg, ha.heap hh (hv g rfl), r⟩

/-- Where the last byte has bits to spare. -/
theorem Wr.mid {T : TypeId} {w : World} {b : Nat} {v : Value} {l : List Bool} (h : Wr T w b v l) (hf : l.length % 8 ≠ 0) : ∃ g cap, v = .slice (some ⟨g, 0, none⟩) (l.length / 8 + 1) cap ∧ Mid T w b g cap l (pk l) := by
  have e : (l.length + 7) / 8 = l.length / 8 + 1 := by omega
  have hd := h.head
  have ho := h.own
  rw [e] at ho
  rcases ho.2 with ⟨_, hn⟩ | ⟨g, cap, cur, rfl, _⟩
  · omega
  · exact ⟨g, cap, rfl, hd, ho, pk_get l _ (by omega), fun c k hk hs => pk_more l c k hk hs hf⟩
/-- Behind the append of a byte. -/
theorem Wr.grown {T : TypeId} {w w1 : World} {b : Nat} {v v1 : Value} {l : List Bool} (h : Wr T w b v l) (hf : l.length % 8 = 0) (o : Obj)
    (ho : w1.ownsRow (b + 1) 5 1 v1 ((l.length + 7) / 8 + 1) ((pk l).map vb ++ [.int .u8 0])) (hg : (w.alloc o).grownBy w1 v.ownBlock) (hn : ∀ k, v1.ownBlock = some k → v.ownBlock = some k ∨ (w.alloc o).heap.size ≤ k) :
    (w1.heap[b]? = some (.cells #[v, .int .i64 (l.length : Int)] T (0, 0))) ∧ ∃ g cap, v1 = .slice (some ⟨g, 0, none⟩) (l.length / 8 + 1) cap ∧ Mid T (w1.setCell ⟨b, 0, none⟩ v1) b g cap l (pk l ++ [0]) ∧ Tch b v v1 w (w1.setCell ⟨b, 0, none⟩ v1) := by
  have hlt := h.lt
  have h1 : w1.heap[b]? = some (.cells #[v, .int .i64 (l.length : Int)] T (0, 0)) := by
    rw [hg.block b (by simp; omega) (fun e => by have := h.ownlt b e.symm; omega), Below.heap_alloc _ _ _ hlt]
    exact h.head
  refine ⟨h1, ?_⟩
  have e : (l.length + 7) / 8 + 1 = l.length / 8 + 1 := by omega
  rw [e] at ho
  have ha : Apart (fun k => k = b ∨ v.ownBlock = some k) w (w1.setCell ⟨b, 0, none⟩ v1) :=
    Apart.setCell (Apart.grown ((Apart.refl _ w).alloc o) hg (fun k _ e => .inr e)) (p := ⟨b, 0, none⟩) (fun _ => .inl rfl) _
  have hs := heap_setCell_same w1 b 0 _ T v1 h1
  have ho2 : (w1.setCell ⟨b, 0, none⟩ v1).ownsRow (b + 1) 5 1 v1 (l.length / 8 + 1) ((pk l).map vb ++ [.int .u8 0]) := ownsRow_setCell_below ho (by simp) _
  have hm : ((pk l).map vb ++ [.int .u8 0]) = (pk l ++ [0]).map vb := by simp [vb]
  rw [hm] at ho2
  rcases ho.2 with ⟨_, hx⟩ | ⟨g, cap, cur, rfl, hgb, hgg, _⟩
  · omega
  · refine ⟨g, cap, rfl, ⟨?_, ho2, ?_, fun c k hk hs => ?_⟩, ha, fun k hk => ?_⟩
    · rw [hs]; rfl
    · rw [List.getElem?_append_right (by simp; omega), pk_end l hf]
      have : l.length / 8 - (pk l).length = 0 := by simp; omega
      rw [this]; rfl
    · rw [pk_new l c k hk (by omega) hf, pk_end l hf]
    · rcases hn k hk with e | e
      · exact .inl e
      · simp at e; exact .inr (by omega)
theorem Mid.lt {T : TypeId} {w : World} {b g cap : Nat} {l : List Bool} {xs : List Nat} (h : Mid T w b g cap l xs) : b < g ∧ g < w.heap.size := by
  have := h.own.lt g rfl; omega
/-- Behind the store of the last byte and of the size. -/
theorem Mid.done {T : TypeId} {w : World} {b g cap : Nat} {l : List Bool} {xs : List Nat} (h : Mid T w b g cap l xs) (c k : Nat) (hk : 0 < k) (hs : l.length % 8 + k ≤ 8) (hm : l.length + k ≤ 524288)
    (x y : Int) (hx : x = ((bv l (l.length / 8) ||| c % 2 ^ k * 2 ^ (8 - k) / 2 ^ (l.length % 8) : Nat) : Int)) (hy : y = (l.length : Int) + k) :
    Wr T (((w.setCell ⟨g, l.length / 8, none⟩ (.int .u8 x)).drew).setCell ⟨b, 1, none⟩ (.int .i64 y)) b (.slice (some ⟨g, 0, none⟩) (l.length / 8 + 1) cap) (l ++ bitsOf c k) ∧
    Tch b (.slice (some ⟨g, 0, none⟩) (l.length / 8 + 1) cap) (.slice (some ⟨g, 0, none⟩) (l.length / 8 + 1) cap) w (((w.setCell ⟨g, l.length / 8, none⟩ (.int .u8 x)).drew).setCell ⟨b, 1, none⟩ (.int .i64 y)) := by
  obtain ⟨hbg, hg⟩ := h.lt
  have h1 : ((w.setCell ⟨g, l.length / 8, none⟩ (.int .u8 x)).drew).heap[b]? = some (.cells #[.slice (some ⟨g, 0, none⟩) (l.length / 8 + 1) cap, .int .i64 (l.length : Int)] T (0, 0)) := by
    show (w.setCell ⟨g, l.length / 8, none⟩ (.int .u8 x)).heap[b]? = _
    rw [Below.heap_setCell _ _ _ _ (by simp; omega)]; exact h.head
  have h2 := heap_setCell_same _ b 1 _ T (.int .i64 y) h1
  have o1 : ((w.setCell ⟨g, l.length / 8, none⟩ (.int .u8 x)).drew).ownsRow (b + 1) 5 1 (.slice (some ⟨g, 0, none⟩) (l.length / 8 + 1) cap) (l.length / 8 + 1) ((xs.map vb).set (l.length / 8) (.int .u8 x)) := (h.own.stored (l.length / 8) (.int .u8 x)).1
  have o2 := ownsRow_setCell_below o1 (a := ⟨b, 1, none⟩) (by simp) (.int .i64 y)
  have e1 : (xs.map vb).set (l.length / 8) (.int .u8 x) = (pk (l ++ bitsOf c k)).map vb := by
    rw [h.next c k hk hs, List.map_set, hx]; rfl
  rw [e1] at o2
  refine ⟨⟨?_, ?_, ?_⟩, ?_, fun k hk => .inl hk⟩
  · rw [h2, hy]; simp
  · have e2 : ((l ++ bitsOf c k).length + 7) / 8 = l.length / 8 + 1 := by simp; omega
    rw [e2]; exact o2
  · simp; omega
  · exact Apart.setCell (Apart.drew (Apart.setCell (Apart.refl _ w) (p := ⟨g, l.length / 8, none⟩) (fun _ => .inr rfl) _)) (p := ⟨b, 1, none⟩) (fun _ => .inl rfl) _
theorem or_byte (B y k f : Nat) (hB : B < 256) (hk : k ≤ 8) :
    bits .or .u8 (B : Int) (IntKind.u64.wrap ((y : Int) * 2 ^ (8 - k)) % 256 / 2 ^ f) = ((B ||| y % 2 ^ k * 2 ^ (8 - k) / 2 ^ f : Nat) : Int) := by
  have e1 : (256 : Nat) = 2 ^ k * 2 ^ (8 - k) := by
    rw [← Nat.pow_add]
    have : k + (8 - k) = 8 := by omega
    rw [this]
  have e2 : IntKind.u64.wrap ((y : Int) * 2 ^ (8 - k)) % 256 = ((y % 2 ^ k * 2 ^ (8 - k) : Nat) : Int) := by
    rw [← Nat.mul_mod_mul_right, ← e1, IntKind.wrap_u64, Int.emod_emod_of_dvd _ (by decide)]
    simp
  have l1 : y % 2 ^ k * 2 ^ (8 - k) / 2 ^ f < 256 := by
    have : y % 2 ^ k * 2 ^ (8 - k) < 256 := by
      rw [e1]
      have e3 : 2 ^ k * 2 ^ (8 - k) = 256 := e1.symm
      exact Nat.mul_lt_mul_of_pos_right (Nat.mod_lt _ (Nat.two_pow_pos _)) (Nat.two_pow_pos _)
    exact Nat.lt_of_le_of_lt (Nat.div_le_self _ _) this
  rw [e2]
  have e4 : ((y % 2 ^ k * 2 ^ (8 - k) : Nat) : Int) / 2 ^ f = ((y % 2 ^ k * 2 ^ (8 - k) / 2 ^ f : Nat) : Int) := by simp
  rw [e4, u8_or_nat _ _ hB l1]
end Go.Proofs.YtdhbakknplnnkaaGreat.Rc
namespace Go.Proofs.YtdhbakknplnnkaaGreat.Rc
open Go.RowKit

theorem info5 : (Tryz.prog.info? 5).map (fun i => (i.zero, i.size, i.bytes)) = some (some (.int .u8 0), 1, 1) := by kernel_rfl
theorem frame74 (a : Act) (hs : a.tmps.size = 74) (hd : a.defers = []) : ∃ u : Nat → Value, (∀ i, a.tmps.getD i undef = u i) ∧ a = { tmps := #[u 0, u 1, u 2, u 3, u 4, u 5, u 6, u 7, u 8, u 9, u 10, u 11, u 12, u 13, u 14, u 15, u 16, u 17, u 18, u 19, u 20, u 21, u 22, u 23, u 24, u 25, u 26, u 27, u 28, u 29, u 30, u 31, u 32, u 33, u 34, u 35, u 36, u 37, u 38, u 39, u 40, u 41, u 42, u 43, u 44, u 45, u 46, u 47, u 48, u 49, u 50, u 51, u 52, u 53, u 54, u 55, u 56, u 57, u 58, u 59, u 60, u 61, u 62, u 63, u 64, u 65, u 66, u 67, u 68, u 69, u 70, u 71, u 72, u 73], defers := [] } := frame_of a 74 hs hd
end Go.Proofs.YtdhbakknplnnkaaGreat.Rc
namespace Go.Proofs.YtdhbakknplnnkaaGreat.Rc
open Go.RowKit

/-- What Put lays behind l. -/
def putS (l : List Bool) (x : Nat) (n : Int) : List Bool := if 0 ≤ n ∧ n ≤ 32 ∧ (l.length : Int) + n ≤ 524288 then l ++ bitsOf x n.toNat else l
/-- What Align lays behind l. -/
def alignS (l : List Bool) (n : Int) : List Bool := if 1 ≤ n ∧ n ≤ 64 ∧ (l.length : Int) + (n - l.length % n) % n ≤ 524288 then l ++ bitsOf 0 ((n - l.length % n) % n).toNat else l
/-- The bytes of a writer's row as a string. -/
theorem Wr.conv {T : TypeId} {w : World} {b : Nat} {v : Value} {l : List Bool} (h : Wr T w b v l) : (convert 82 9 v).run Tryz.prog w = .ok (.string (packS l)) w := by
  have hu : Tryz.prog.underlying 82 = some (.slice 5) := Tryz.underlying82
  have h5 : Tryz.prog.underlying 5 = some (.int .u8) := Tryz.underlying5
  have h9 : Tryz.prog.underlying 9 = some .string := Tryz.underlying9
  have ho := h.own
  have hlen : ((pk l).map UInt8.ofNat).length = (l.length + 7) / 8 := by simp
  rcases ho.2 with ⟨rfl, hn⟩ | ⟨g, cap, cur, rfl, hg, hh, r⟩
  · rw [run_convert_bytes_string w 82 9 5 none 0 0 hu h5 h9]
    have e : packS l = ⟨#[]⟩ := by
      have : pk l = [] := List.eq_nil_of_length_eq_zero (by rw [pk_len]; omega)
      unfold packS; rw [this]; rfl
    rw [e]; rfl
  · have := run_convert_bytes_back (P := Tryz.prog) w 82 9 5 ⟨g, 0, none⟩ cap ((pk l).map UInt8.ofNat) hu h5 h9 (fun j hj => by
      have hj' : j < (l.length + 7) / 8 := by rw [hlen] at hj; exact hj
      rw [Addr.add_lit, Nat.zero_add, ho.cellAt j (by omega), List.getElem?_map, pk_get l j hj']
      have hb := bv_lt l j
      have e : ((pk l).map UInt8.ofNat)[j] = UInt8.ofNat (bv l j) := by simp [pk]
      rw [e, UInt8.toNat_ofNat_of_lt' (by simpa using hb)]; rfl)
    rw [hlen] at this
    exact this
end Go.Proofs.YtdhbakknplnnkaaGreat.Rc
namespace Go.Proofs.YtdhbakknplnnkaaGreat.Rc

/-- A part: its count, its type, its body. -/
structure Pt where
  c : Int
  t : Int
  d : ByteArray
/-- May it be? -/
def Pt.ok (p : Pt) : Bool := decide (0 ≤ p.c ∧ p.c ≤ 31 ∧ 192 ≤ p.t ∧ p.t ≤ 223 ∧ p.d.size ≤ 262140 ∧ p.d.size % 4 = 0)
theorem Pt.ok_iff {p : Pt} : p.ok = true ↔ 0 ≤ p.c ∧ p.c ≤ 31 ∧ 192 ≤ p.t ∧ p.t ≤ 223 ∧ p.d.size ≤ 262140 ∧ p.d.size % 4 = 0 := by simp [Pt.ok]
/-- A byte of a list. -/
def bn (r : List UInt8) (i : Nat) : Nat := (r.getD i 0).toNat
theorem bn_lt (r : List UInt8) (i : Nat) : bn r i < 256 := (r.getD i 0).toNat_lt
theorem bn_drop (r : List UInt8) (q i : Nat) : bn (r.drop q) i = bn r (q + i) := by simp [bn, List.getD_eq_getElem?_getD]
/-- The bytes of a part. -/
def ph (p : Pt) : List UInt8 := [UInt8.ofNat (128 + p.c.toNat), UInt8.ofNat p.t.toNat, UInt8.ofNat (p.d.size / 4 / 256), UInt8.ofNat (p.d.size / 4)]
def pb (p : Pt) : List UInt8 := ph p ++ p.d.data.toList
theorem toList_len (d : ByteArray) : d.data.toList.length = d.size := rfl
@[simp] theorem pb_len (p : Pt) : (pb p).length = 4 + p.d.size := by simp [pb, ph]; omega
/-- The bytes of parts, one behind the other; how many they are. -/
def mb : List Pt → List UInt8
  | [] => []
  | p :: l => pb p ++ mb l
def sz : List Pt → Nat
  | [] => 0
  | p :: l => (4 + p.d.size) + sz l
theorem mb_len (l : List Pt) : (mb l).length = sz l := by induction l with | nil => rfl | cons p l ih => simp [mb, sz, ih]
theorem mb_app (l k : List Pt) : mb (l ++ k) = mb l ++ mb k := by induction l with | nil => rfl | cons p l ih => simp [mb, ih]
theorem sz_app (l k : List Pt) : sz (l ++ k) = sz l + sz k := by induction l with | nil => simp [sz] | cons p l ih => simp [sz, ih]; omega
theorem sz_take (l : List Pt) (i : Nat) : sz (l.take i) ≤ sz l := by
  have := sz_app (l.take i) (l.drop i)
  rw [List.take_append_drop] at this; omega
theorem take_next {l : List Pt} {i : Nat} {p : Pt} (h : l[i]? = some p) : l.take (i + 1) = l.take i ++ [p] := by
  obtain ⟨hi, e⟩ := List.getElem?_eq_some_iff.1 h
  rw [List.take_succ_eq_append_getElem hi, e]
theorem sz_next {l : List Pt} {i : Nat} {p : Pt} (h : l[i]? = some p) : sz (l.take (i + 1)) = sz (l.take i) + (4 + p.d.size) := by
  rw [take_next h, sz_app]; rfl
theorem sz_len (l : List Pt) : 4 * l.length ≤ sz l := by induction l with | nil => simp [sz] | cons p l ih => simp [sz]; omega

/-! ### Reading -/
/-- How many bytes the first part's body has. -/
def hN (r : List UInt8) : Nat := 4 * (256 * bn r 2 + bn r 3)
/-- Is the first part padded? -/
def hP (r : List UInt8) : Bool := bn r 0 / 32 % 2 == 1
/-- Its last byte. -/
def hK (r : List UInt8) : Nat := bn r (3 + hN r)
/-- Can its padding not be? -/
def hW (r : List UInt8) : Prop := 4 + hN r < r.length ∨ hN r = 0 ∨ hK r < 4 ∨ hK r % 4 ≠ 0 ∨ hN r < hK r
/-- What is wrong with the first part; 0: nothing. -/
def gE (r : List UInt8) : Int :=
  if r.length < 4 then 60 else if r.length < 4 + hN r then 60 else if bn r 0 / 64 ≠ 2 then 70 else if bn r 1 < 192 ∨ 223 < bn r 1 then 81
  else if hP r = true ∧ (4 + hN r < r.length ∨ hN r = 0 ∨ hK r < 4 ∨ hK r % 4 ≠ 0 ∨ hN r < hK r) then 91 else 0
/-- How many bytes pad it. -/
def hD (r : List UInt8) : Nat := if hP r = true then hK r else 0
/-- The first part. -/
def gP (r : List UInt8) : Pt := ⟨((bn r 0 % 32 : Nat) : Int), (bn r 1 : Nat), ⟨((r.drop 4).take (hN r - hD r)).toArray⟩⟩
/-- What is behind it. -/
def nx (r : List UInt8) : List UInt8 := r.drop (4 + hN r)
/-- What is wrong first; the parts ahead of it: of at most so many parts. -/
def sF : Nat → List UInt8 → Int
  | 0, _ => 60
  | n + 1, r => if gE r = 0 then (if nx r = [] then 0 else sF n (nx r)) else gE r
def sG : Nat → List UInt8 → List Pt
  | 0, _ => []
  | n + 1, r => if gE r = 0 then (if nx r = [] then [gP r] else gP r :: sG n (nx r)) else []
theorem nx_less {r : List UInt8} (h : ¬ nx r = []) : (nx r).length < r.length := by
  have : 0 < (nx r).length := List.length_pos_iff.2 h
  simp only [nx, List.length_drop] at this ⊢
  omega
theorem sF_same (n : Nat) : ∀ (m : Nat) (r : List UInt8), r.length < n → r.length < m → sF n r = sF m r := by
  induction n with
  | zero => intro m r h; omega
  | succ n ih =>
    intro m r h h2
    cases m with
    | zero => omega
    | succ m =>
      rw [sF, sF]
      by_cases h3 : gE r = 0
      · rw [if_pos h3, if_pos h3]
        by_cases h4 : nx r = []
        · rw [if_pos h4, if_pos h4]
        · have := nx_less h4
          rw [if_neg h4, if_neg h4, ih m (nx r) (by omega) (by omega)]
      · rw [if_neg h3, if_neg h3]
theorem sG_same (n : Nat) : ∀ (m : Nat) (r : List UInt8), r.length < n → r.length < m → sG n r = sG m r := by
  induction n with
  | zero => intro m r h; omega
  | succ n ih =>
    intro m r h h2
    cases m with
    | zero => omega
    | succ m =>
      rw [sG, sG]
      by_cases h3 : gE r = 0
      · rw [if_pos h3, if_pos h3]
        by_cases h4 : nx r = []
        · rw [if_pos h4, if_pos h4]
        · have := nx_less h4
          rw [if_neg h4, if_neg h4, ih m (nx r) (by omega) (by omega)]
      · rw [if_neg h3, if_neg h3]
def sE (r : List UInt8) : Int := sF (r.length + 1) r
def sL (r : List UInt8) : List Pt := sG (r.length + 1) r
theorem sE_wrong {r : List UInt8} (h : ¬ gE r = 0) : sE r = gE r := by rw [sE, sF, if_neg h]
theorem sE_last {r : List UInt8} (h : gE r = 0) (h2 : nx r = []) : sE r = 0 := by rw [sE, sF, if_pos h, if_pos h2]
theorem sE_more {r : List UInt8} (h : gE r = 0) (h2 : ¬ nx r = []) : sE r = sE (nx r) := by
  have := nx_less h2
  rw [sE, sF, if_pos h, if_neg h2, sE]
  exact sF_same _ _ _ (by omega) (by omega)
theorem sL_wrong {r : List UInt8} (h : ¬ gE r = 0) : sL r = [] := by rw [sL, sG, if_neg h]
theorem sL_last {r : List UInt8} (h : gE r = 0) (h2 : nx r = []) : sL r = [gP r] := by rw [sL, sG, if_pos h, if_pos h2]
theorem sL_more {r : List UInt8} (h : gE r = 0) (h2 : ¬ nx r = []) : sL r = gP r :: sL (nx r) := by
  have := nx_less h2
  rw [sL, sG, if_pos h, if_neg h2, sL]
  exact congrArg _ (sG_same _ _ _ (by omega) (by omega))
/-- What a first part that can be is. -/
theorem gE_zero {r : List UInt8} (h : gE r = 0) : 4 + hN r ≤ r.length ∧ bn r 0 / 64 = 2 ∧ 192 ≤ bn r 1 ∧ bn r 1 ≤ 223 ∧ (hP r = true → r.length = 4 + hN r ∧ 4 ≤ hK r ∧ hK r % 4 = 0 ∧ hK r ≤ hN r) := by
  unfold gE at h
  by_cases h1 : r.length < 4
  · rw [if_pos h1] at h; exact absurd h (by decide)
  rw [if_neg h1] at h
  by_cases h2 : r.length < 4 + hN r
  · rw [if_pos h2] at h; exact absurd h (by decide)
  rw [if_neg h2] at h
  by_cases h3 : bn r 0 / 64 ≠ 2
  · rw [if_pos h3] at h; exact absurd h (by decide)
  rw [if_neg h3] at h
  by_cases h4 : bn r 1 < 192 ∨ 223 < bn r 1
  · rw [if_pos h4] at h; exact absurd h (by decide)
  rw [if_neg h4] at h
  by_cases h5 : hP r = true ∧ (4 + hN r < r.length ∨ hN r = 0 ∨ hK r < 4 ∨ hK r % 4 ≠ 0 ∨ hN r < hK r)
  · rw [if_pos h5] at h; exact absurd h (by decide)
  refine ⟨by omega, by omega, by omega, by omega, fun hp => ?_⟩
  have : ¬ (4 + hN r < r.length ∨ hN r = 0 ∨ hK r < 4 ∨ hK r % 4 ≠ 0 ∨ hN r < hK r) := fun hw => h5 ⟨hp, hw⟩
  omega
theorem gE_is {r : List UInt8} (h1 : 4 + hN r ≤ r.length) (h2 : bn r 0 / 64 = 2) (h3 : 192 ≤ bn r 1) (h4 : bn r 1 ≤ 223) (h5 : hP r = true → r.length = 4 + hN r ∧ 4 ≤ hK r ∧ hK r % 4 = 0 ∧ hK r ≤ hN r) : gE r = 0 := by
  unfold gE
  rw [if_neg (by omega), if_neg (by omega), if_neg (by omega), if_neg (by omega), if_neg]
  rintro ⟨hp, hw⟩
  have := h5 hp
  omega
theorem hD_le {r : List UInt8} (h : gE r = 0) : hD r ≤ hN r ∧ hD r % 4 = 0 := by
  have := (gE_zero h).2.2.2.2
  unfold hD
  by_cases hp : hP r = true
  · rw [if_pos hp]; have := this hp; omega
  · rw [if_neg hp]; omega
theorem ba_size (l : List UInt8) : (⟨l.toArray⟩ : ByteArray).size = l.length := by show l.toArray.size = _; simp
theorem gP_size {r : List UInt8} (h : gE r = 0) : (gP r).d.size = hN r - hD r := by
  have := (gE_zero h).1
  show (⟨((r.drop 4).take (hN r - hD r)).toArray⟩ : ByteArray).size = _
  rw [ba_size]; simp; omega
theorem gP_ok {r : List UInt8} (h : gE r = 0) : (gP r).ok = true := by
  have h1 := gE_zero h
  have h2 := hD_le h
  have h3 := gP_size h
  have h4 : hN r = 4 * (256 * bn r 2 + bn r 3) := rfl
  have := bn_lt r 2
  have := bn_lt r 3
  rw [Pt.ok_iff]
  refine ⟨by simp [gP]; omega, by simp [gP]; omega, by simp [gP]; omega, by simp [gP]; omega, by omega, by omega⟩
end Go.Proofs.YtdhbakknplnnkaaGreat.Rc
namespace Go.Proofs.YtdhbakknplnnkaaGreat.Rc
open Go.RowKit

theorem Tch.below {b : Nat} {v v' : Value} {w w' : World} {T : TypeId} {l : List Bool} (h : Tch b v v' w w') (hw : Wr T w b v l) (B : Nat) (hB : B ≤ b) : Below B w w' :=
  h.ap.below B (by have := hw.lt; omega) (by
    rintro k (rfl | e)
    · exact hB
    · have := hw.ownlt k e; omega)
theorem Apart.belowF {w w' : World} (h : Apart (fun _ => False) w w') (B : Nat) (hB : B ≤ w.heap.size) : Below B w w' := h.below B hB (fun _ h => h.elim)
theorem Apart.belowE {w w' : World} {b : Nat} (h : Apart (· = b) w w') (B : Nat) (hB : B ≤ w.heap.size) (hb : B ≤ b) : Below B w w' := h.below B hB (fun k e => by subst e; exact hb)
theorem Apart.cell {X : Nat → Prop} {w w' : World} (h : Apart X w w') {p : Addr} (hp : p.block < w.heap.size) (hx : ¬ X p.block) : w'.cell? p = w.cell? p := World.cell?_of_block (w := w) (h.block p.block hp hx)

/-- A part as a value. -/
def pv (p : Pt) : Value := .agg #[.int .i64 p.c, .int .i64 p.t, .string p.d]
/-- The cells of the part that lies at a place. -/
def Cells3 (w : World) (b o : Nat) (p : Pt) : Prop := w.cell? ⟨b, o, none⟩ = some (.int .i64 p.c) ∧ w.cell? ⟨b, o + 1, none⟩ = some (.int .i64 p.t) ∧ w.cell? ⟨b, o + 2, none⟩ = some (.string p.d) ∧ p.d.size ≤ maxLen
/-- The parts l, in a block below B. -/
def PA (B : Nat) (w : World) (a : Option Addr) (l : List Pt) : Prop :=
  l.length ≤ maxLen ∧ (l = [] ∨ ∃ b off, a = some ⟨b, off, none⟩ ∧ b < B ∧ ∀ i p, l[i]? = some p → Cells3 w b (off + i * 3) p)
theorem Cells3.kept {w w' : World} {b o : Nat} {p : Pt} {B : Nat} (h : Cells3 w b o p) (hb : Below B w w') (hl : b < B) : Cells3 w' b o p := by
  obtain ⟨c0, c1, c2, c3⟩ := h
  exact ⟨by rw [hb.cell (p := ⟨b, o, none⟩) hl]; exact c0, by rw [hb.cell (p := ⟨b, o + 1, none⟩) hl]; exact c1, by rw [hb.cell (p := ⟨b, o + 2, none⟩) hl]; exact c2, c3⟩
theorem PA.kept {B : Nat} {w w' : World} {a : Option Addr} {l : List Pt} (h : PA B w a l) (hb : Below B w w') : PA B w' a l := by
  refine ⟨h.1, ?_⟩
  rcases h.2 with h0 | ⟨b, off, ha, hl, hc⟩
  · exact .inl h0
  · exact .inr ⟨b, off, ha, hl, fun i p hi => (hc i p hi).kept hb hl⟩
theorem PA.up {B B' : Nat} {w : World} {a : Option Addr} {l : List Pt} (h : PA B w a l) (hb : B ≤ B') : PA B' w a l := by
  refine ⟨h.1, ?_⟩
  rcases h.2 with h0 | ⟨b, off, ha, hl, hc⟩
  · exact .inl h0
  · exact .inr ⟨b, off, ha, by omega, hc⟩
theorem PA.on {w w' : World} {a : Option Addr} {l : List Pt} (h : PA w.heap.size w a l) (hb : Below w.heap.size w w') : PA w'.heap.size w' a l := (h.kept hb).up hb.size
/-- The cells of the part at a place. -/
theorem PA.at {B : Nat} {w : World} {a : Option Addr} {l : List Pt} (h : PA B w a l) (i : Nat) (hi : i < l.length) : ∃ b off p, a = some ⟨b, off, none⟩ ∧ b < B ∧ l[i]? = some p ∧ Cells3 w b (off + i * 3) p := by
  rcases h.2 with h0 | ⟨b, off, ha, hl, hc⟩
  · subst h0; simp at hi
  · exact ⟨b, off, l[i], ha, hl, List.getElem?_eq_getElem hi, hc i _ (List.getElem?_eq_getElem hi)⟩

/-- Is n from a to b? -/
def inR (n a b : Int) : Bool := decide (a ≤ n ∧ n ≤ b)
theorem inR_yes {n a b : Int} (h0 : a ≤ n) (h1 : n ≤ b) : inR n a b = true := by simp [inR, h0, h1]
theorem inR_no {n a b : Int} (h : ¬ (a ≤ n ∧ n ≤ b)) : inR n a b = false := by simpa [inR] using h
theorem inR_iff {n a b : Int} : inR n a b = true ↔ a ≤ n ∧ n ≤ b := by simp [inR]
theorem within_any (n a b : Int) (w : World) : Calls Tryz.prog 73 #[.int .i64 n, .int .i64 a, .int .i64 b] w fun e w' => e = .returned (.bool (inR n a b)) ∧ w' = w := by
  by_cases h0 : a ≤ n
  · by_cases h1 : n ≤ b
    · rw [inR_yes h0 h1]
      go_enter Tryz.func73, Tryz.ntmps73
      go_wp2
      go_ret
      exact ⟨ret_b (by simp), rfl⟩
    · rw [inR_no (by omega)]
      go_enter Tryz.func73, Tryz.ntmps73
      go_wp2
      go_ret
      exact ⟨ret_b (by simp), rfl⟩
  · rw [inR_no (by omega)]
    go_enter Tryz.func73, Tryz.ntmps73
    go_wp2
    go_ret
    exact ⟨ret_b (by simp), rfl⟩
theorem ok_parts (p : Pt) : p.ok = (inR p.c 0 31 && inR p.t 192 223 && decide (p.d.size ≤ 262140) && decide (p.d.size % 4 = 0)) := by
  simp only [Pt.ok, inR, ← Bool.decide_and]
  apply decide_eq_decide.2
  constructor <;> intro h <;> omega
end Go.Proofs.YtdhbakknplnnkaaGreat.Rc
namespace Go.Proofs.YtdhbakknplnnkaaGreat.Rc
open Go.RowKit

/-- A throw. -/
abbrev thrown (e : Int) : Ending := .panicked [{ v := .iface 27 (.int .i64 e), recovered := false }]
/-- May all of them be? -/
def allOk (l : List Pt) : Bool := l.all Pt.ok
theorem allOk_iff {l : List Pt} : allOk l = true ↔ ∀ p ∈ l, p.ok = true := by simp [allOk]
theorem allOk_no {l : List Pt} {i : Nat} {p : Pt} (h : l[i]? = some p) (hp : p.ok = false) : allOk l = false := by
  cases e : allOk l with
  | false => rfl
  | true => have := allOk_iff.1 e p (List.mem_of_getElem? h); rw [hp] at this; cases this
theorem allOk_take {l : List Pt} {i : Nat} {p : Pt} (h : l[i]? = some p) (hp : p.ok = true) (h2 : allOk (l.take i) = true) : allOk (l.take (i + 1)) = true := by
  rw [take_next h]; simp [allOk, hp]; simpa [allOk] using h2
theorem frame28 (a : Act) (hs : a.tmps.size = 28) (hd : a.defers = []) : ∃ u : Nat → Value, (∀ i, a.tmps.getD i undef = u i) ∧ a = { tmps := #[u 0, u 1, u 2, u 3, u 4, u 5, u 6, u 7, u 8, u 9, u 10, u 11, u 12, u 13, u 14, u 15, u 16, u 17, u 18, u 19, u 20, u 21, u 22, u 23, u 24, u 25, u 26, u 27], defers := [] } := frame_of a 28 hs hd
end Go.Proofs.YtdhbakknplnnkaaGreat.Rc
