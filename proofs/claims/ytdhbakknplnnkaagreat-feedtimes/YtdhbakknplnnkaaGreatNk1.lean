/-
  Bits as plain numbers: what stands in so many places of a row of bits, read as a number; bytes of a list of bits; what a piece of a byte is.
-/
import Derived.Below
import Derived.Test.YtdhbakknplnnkaaGreatRows
import Derived.WalkKit
import Derived.WalkSpells
import Derived.WalkLawsBesides
import Derived.Handy
import Derived.BigQuiet
import Derived.ScopeJumps
import Derived.WalkMore
import Derived.Laws.IdiomStrings
import Derived.BigRegion
import Derived.Deep.DeepCutAuto
import Derived.Deep.CutBlock
import Derived.Laws.MakeOwn
namespace Go.Proofs.YtdhbakknplnnkaaGreat.Nk

/-- The number that n bits from place p on make, the highest first. -/
def val (f : Nat → Nat) (p : Nat) : Nat → Nat
  | 0 => 0
  | n + 1 => 2 * val f p n + f (p + n)

theorem val_lt (f : Nat → Nat) (h : ∀ i, f i < 2) (p n : Nat) : val f p n < 2 ^ n := by
  induction n with
  | zero => simp [val]
  | succ n ih => have := h (p + n); rw [val, Nat.pow_succ]; omega

theorem val_add (f : Nat → Nat) (p n k : Nat) : val f p (n + k) = val f p n * 2 ^ k + val f (p + n) k := by
  induction k with
  | zero => simp [val]
  | succ k ih => rw [← Nat.add_assoc, val, ih, val, Nat.pow_succ, Nat.add_assoc p n k, Nat.mul_add, ← Nat.mul_assoc, Nat.mul_comm 2, Nat.mul_assoc, Nat.mul_comm 2 (2 ^ k)]; omega

theorem val_congr (f g : Nat → Nat) (p q n : Nat) (h : ∀ i, i < n → f (p + i) = g (q + i)) : val f p n = val g q n := by
  induction n with
  | zero => rfl
  | succ n ih => rw [val, val, ih fun i hi => h i (by omega), h n (by omega)]

theorem val_zero (f : Nat → Nat) (p n : Nat) (h : ∀ i, i < n → f (p + i) = 0) : val f p n = 0 := by
  induction n with
  | zero => rfl
  | succ n ih => rw [val, ih fun i hi => h i (by omega), h n (by omega)]

/-- A bit of eight. -/
theorem val_bit (f : Nat → Nat) (h : ∀ i, f i < 2) (p i : Nat) (hi : i < 8) : val f p 8 / 2 ^ (7 - i) % 2 = f (p + i) := by
  have e : val f p 8 = val f p (i + 1) * 2 ^ (7 - i) + val f (p + (i + 1)) (7 - i) := by
    rw [← val_add]; congr 1; omega
  have l := val_lt f h (p + (i + 1)) (7 - i)
  rw [e, Nat.mul_comm, Nat.mul_add_div (Nat.two_pow_pos _), Nat.div_eq_of_lt l, val]
  have := h (p + i); omega

/-- A bit of a text. -/
def bt (s : ByteArray) (i : Nat) : Nat := (s.data.toList.getD (i / 8) 0).toNat / 2 ^ (7 - i % 8) % 2
theorem bt_lt (s : ByteArray) (i : Nat) : bt s i < 2 := Nat.mod_lt _ (by decide)
/-- So many bits of a text from a place on, as a number. -/
def gv (s : ByteArray) (p n : Nat) : Nat := val (bt s) p n
theorem gv_lt (s : ByteArray) (p n : Nat) : gv s p n < 2 ^ n := val_lt _ (bt_lt s) _ _
theorem gv_add (s : ByteArray) (p n k : Nat) : gv s p (n + k) = gv s p n * 2 ^ k + gv s (p + n) k := val_add _ _ _ _

/-- Within a byte. -/
theorem val_byte (B f k : Nat) (h : f + k ≤ 8) : val (fun i => B / 2 ^ (7 - i) % 2) f k = B * 2 ^ f % 256 / 2 ^ (8 - k) := by
  have g : ∀ n, n ≤ k → val (fun i => B / 2 ^ (7 - i) % 2) f n = B / 2 ^ (8 - f - n) % 2 ^ n := by
    intro n hn
    induction n with
    | zero => simp [val, Nat.mod_one]
    | succ n ih =>
      rw [val, ih (by omega)]
      have e1 : 8 - f - n = (8 - f - (n + 1)) + 1 := by omega
      have e2 : 7 - (f + n) = 8 - f - (n + 1) := by omega
      simp only [e2]
      rw [e1, Nat.pow_succ, ← Nat.div_div_eq_div_mul, Nat.pow_succ 2 n, Nat.mul_comm (2 ^ n) 2, Nat.mod_mul]
      omega
  rw [g _ (Nat.le_refl _)]
  have e3 : (256 : Nat) = 2 ^ (8 - f) * 2 ^ f := by
    rw [← Nat.pow_add]
    have : 8 - f + f = 8 := by omega
    rw [this]
  rw [e3, Nat.mul_mod_mul_right]
  have e4 : 8 - k = (8 - f - k) + f := by omega
  rw [e4, Nat.pow_add, Nat.mul_comm (2 ^ (8 - f - k)), ← Nat.div_div_eq_div_mul, Nat.mul_div_cancel _ (Nat.two_pow_pos _)]
  have e5 : 2 ^ (8 - f) = 2 ^ (8 - f - k) * 2 ^ k := by rw [← Nat.pow_add]; congr 1; omega
  rw [e5, Nat.mod_mul_right_div_self]

theorem gv_piece (s : ByteArray) (p k : Nat) (h : p % 8 + k ≤ 8) :
    gv s p k = (s.data.toList.getD (p / 8) 0).toNat * 2 ^ (p % 8) % 256 / 2 ^ (8 - k) := by
  rw [← val_byte _ (p % 8) k h]
  refine val_congr _ _ _ _ _ fun i hi => ?_
  have e1 : (p + i) / 8 = p / 8 := by omega
  have e2 : (p + i) % 8 = p % 8 + i := by omega
  simp only [bt, e1, e2]

/-! ### Lists of bits -/
def lb (l : List Bool) (i : Nat) : Nat := (l.getD i false).toNat
theorem lb_lt (l : List Bool) (i : Nat) : lb l i < 2 := by unfold lb; cases l.getD i false <;> decide
/-- The lower n bits of c, the highest first. -/
def bitsOf (c : Nat) : Nat → List Bool
  | 0 => []
  | n + 1 => (c / 2 ^ n % 2 == 1) :: bitsOf c n
@[simp] theorem bitsOf_len (c n : Nat) : (bitsOf c n).length = n := by induction n with | zero => rfl | succ n ih => simp [bitsOf, ih]
theorem bitsOf_split (c k m : Nat) : bitsOf c (k + m) = bitsOf (c / 2 ^ m) k ++ bitsOf c m := by
  induction k with
  | zero => simp [bitsOf]
  | succ k ih =>
    have e : k + 1 + m = (k + m) + 1 := by omega
    rw [e, bitsOf, ih, bitsOf, Nat.div_div_eq_div_mul, ← Nat.pow_add, Nat.add_comm m k]; rfl
theorem bitsOf_zero (n : Nat) : bitsOf 0 n = List.replicate n false := by induction n with | zero => rfl | succ n ih => simp [bitsOf, ih, List.replicate_succ]
theorem bitsOf_mod (c k n : Nat) (h : n ≤ k) : bitsOf (c % 2 ^ k) n = bitsOf c n := by
  induction n with
  | zero => rfl
  | succ n ih =>
    rw [bitsOf, bitsOf, ih (by omega)]
    congr 2
    have e : k = n + (k - n) := by omega
    rw [e, Nat.pow_add, Nat.mod_mul_right_div_self]
    obtain ⟨j, hj⟩ : ∃ j, k - n = 1 + j := ⟨k - n - 1, by omega⟩
    rw [hj, Nat.pow_add, Nat.pow_one, Nat.mod_mul_right_mod]

theorem lb_app_left (l r : List Bool) (i : Nat) (h : i < l.length) : lb (l ++ r) i = lb l i := by
  unfold lb; rw [List.getD_eq_getElem?_getD, List.getD_eq_getElem?_getD, List.getElem?_append_left h]
theorem lb_app_right (l r : List Bool) (i : Nat) : lb (l ++ r) (l.length + i) = lb r i := by
  unfold lb; rw [List.getD_eq_getElem?_getD, List.getD_eq_getElem?_getD, List.getElem?_append_right (by omega)]; congr 3; omega
theorem lb_out (l : List Bool) (i : Nat) (h : l.length ≤ i) : lb l i = 0 := by
  unfold lb; rw [List.getD_eq_getElem?_getD, List.getElem?_eq_none h]; rfl
theorem lb_bits (c n i : Nat) (h : i < n) : lb (bitsOf c n) i = c / 2 ^ (n - 1 - i) % 2 := by
  induction n generalizing i with
  | zero => omega
  | succ n ih =>
    cases i with
    | zero =>
      simp only [bitsOf, lb, List.getD_cons_zero]
      have : c / 2 ^ n % 2 < 2 := Nat.mod_lt _ (by decide)
      have e : n + 1 - 1 - 0 = n := by omega
      rw [e]
      rcases (by omega : c / 2 ^ n % 2 = 0 ∨ c / 2 ^ n % 2 = 1) with h | h <;> simp [h]
    | succ i =>
      have := ih i (by omega)
      simp only [bitsOf, lb, List.getD_cons_succ] at this ⊢
      rw [this]; congr 3; omega
theorem val_bits (c k : Nat) : val (lb (bitsOf c k)) 0 k = c % 2 ^ k := by
  have g : ∀ n, n ≤ k → val (lb (bitsOf c k)) 0 n = c / 2 ^ (k - n) % 2 ^ n := by
    intro n hn
    induction n with
    | zero => simp [val, Nat.mod_one]
    | succ n ih =>
      rw [val, ih (by omega), Nat.zero_add, lb_bits c k n (by omega)]
      have e1 : k - n = (k - (n + 1)) + 1 := by omega
      have e2 : k - 1 - n = k - (n + 1) := by omega
      rw [e2, e1, Nat.pow_succ, ← Nat.div_div_eq_div_mul, Nat.pow_succ 2 n, Nat.mul_comm (2 ^ n) 2, Nat.mod_mul]
      omega
  have := g k (Nat.le_refl _)
  simpa using this
/-- Bits that stand within a list. -/
theorem val_mid (l r : List Bool) (c k : Nat) : val (lb (l ++ (bitsOf c k ++ r))) l.length k = c % 2 ^ k := by
  rw [← val_bits c k]
  refine val_congr _ _ _ _ _ fun i hi => ?_
  rw [lb_app_right, lb_app_left _ _ _ (by simpa using hi), Nat.zero_add]

/-- A byte of a list of bits. -/
def bv (l : List Bool) (j : Nat) : Nat := val (lb l) (8 * j) 8
theorem bv_lt (l : List Bool) (j : Nat) : bv l j < 256 := val_lt _ (lb_lt l) _ _
/-- The bytes of a list of bits. -/
def pk (l : List Bool) : List Nat := (List.range ((l.length + 7) / 8)).map (bv l)
@[simp] theorem pk_len (l : List Bool) : (pk l).length = (l.length + 7) / 8 := by simp [pk]
theorem pk_lt (l : List Bool) : ∀ x ∈ pk l, x < 256 := by
  intro x hx
  simp only [pk, List.mem_map] at hx
  obtain ⟨j, _, rfl⟩ := hx
  exact bv_lt l j
def packS (l : List Bool) : ByteArray := ⟨((pk l).map UInt8.ofNat).toArray⟩
theorem packS_size (l : List Bool) : (packS l).size = (l.length + 7) / 8 := by
  show (((pk l).map UInt8.ofNat).toArray).size = _
  simp
theorem bt_pack (l : List Bool) (i : Nat) : bt (packS l) i = lb l i := by
  have e : (packS l).data.toList = (pk l).map UInt8.ofNat := rfl
  unfold bt
  rw [e, List.getD_eq_getElem?_getD, List.getElem?_map, pk, List.getElem?_map]
  by_cases h : i / 8 < (l.length + 7) / 8
  · rw [List.getElem?_range h]
    simp only [Option.map_some, Option.getD_some]
    have hb := bv_lt l (i / 8)
    rw [UInt8.toNat_ofNat_of_lt' (by simpa using hb), bv, val_bit _ (lb_lt l) _ _ (by omega)]
    congr 1; omega
  · rw [List.getElem?_eq_none (by simpa using h), lb_out l i (by omega)]
    simp
theorem gv_pack (l : List Bool) (p n : Nat) : gv (packS l) p n = val (lb l) p n := val_congr _ _ _ _ _ fun _ _ => bt_pack l _

theorem or_add (a b k : Nat) (h : b < 2 ^ k) : a * 2 ^ k ||| b = a * 2 ^ k + b := by
  rw [← Nat.shiftLeft_eq, ← Nat.shiftLeft_add_eq_or_of_lt h]

/-- The last byte, when some bits more are laid behind what it has. -/
theorem bv_more (l : List Bool) (c k : Nat) (h : l.length % 8 + k ≤ 8) :
    bv (l ++ bitsOf c k) (l.length / 8) = (bv l (l.length / 8) ||| c % 2 ^ k * 2 ^ (8 - k) / 2 ^ (l.length % 8)) := by
  have hl : l.length = 8 * (l.length / 8) + l.length % 8 := by omega
  generalize hq : l.length / 8 = q at *
  generalize hf : l.length % 8 = f at *
  have e1 : (8 : Nat) = f + (k + (8 - f - k)) := by omega
  have v1 : bv (l ++ bitsOf c k) q = val (lb l) (8 * q) f * 2 ^ (8 - f) + c % 2 ^ k * 2 ^ (8 - f - k) := by
    have e2 : bv (l ++ bitsOf c k) q = val (lb (l ++ bitsOf c k)) (8 * q) (f + (k + (8 - f - k))) := by unfold bv; rw [← e1]
    rw [e2, val_add, val_add (lb (l ++ bitsOf c k)) (8 * q + f) k]
    have e3 : val (lb (l ++ bitsOf c k)) (8 * q) f = val (lb l) (8 * q) f := val_congr _ _ _ _ _ fun i hi => lb_app_left _ _ _ (by omega)
    have e4 : val (lb (l ++ bitsOf c k)) (8 * q + f) k = c % 2 ^ k := by
      rw [← hl]; have := val_mid l [] c k; rwa [List.append_nil] at this
    have e5 : val (lb (l ++ bitsOf c k)) (8 * q + f + k) (8 - f - k) = 0 := val_zero _ _ _ fun i hi => lb_out _ _ (by simp; omega)
    rw [e3, e4, e5]
    have e6 : k + (8 - f - k) = 8 - f := by omega
    rw [e6, Nat.add_zero]
  have v2 : bv l q = val (lb l) (8 * q) f * 2 ^ (8 - f) := by
    have e2 : bv l q = val (lb l) (8 * q) (f + (8 - f)) := by unfold bv; congr 1; omega
    rw [e2, val_add, val_zero (lb l) (8 * q + f) (8 - f) fun i hi => lb_out _ _ (by omega), Nat.add_zero]
  have v3 : c % 2 ^ k * 2 ^ (8 - k) / 2 ^ f = c % 2 ^ k * 2 ^ (8 - f - k) := by
    have e7 : 8 - k = (8 - f - k) + f := by omega
    rw [e7, Nat.pow_add, ← Nat.mul_assoc, Nat.mul_div_cancel _ (Nat.two_pow_pos _)]
  have hlt : c % 2 ^ k * 2 ^ (8 - f - k) < 2 ^ (8 - f) := by
    have e8 : 8 - f = k + (8 - f - k) := by omega
    rw [e8, Nat.pow_add]
    have e9 : k + (8 - f - k) - k = 8 - f - k := by omega
    rw [e9]
    exact Nat.mul_lt_mul_of_pos_right (Nat.mod_lt _ (Nat.two_pow_pos _)) (Nat.two_pow_pos _)
  rw [v1, v2, v3, or_add _ _ _ hlt]

theorem pk_get (l : List Bool) (j : Nat) (h : j < (l.length + 7) / 8) : (pk l)[j]? = some (bv l j) := by
  rw [pk, List.getElem?_map, List.getElem?_range h]; rfl
theorem pk_end (l : List Bool) (h : l.length % 8 = 0) : bv l (l.length / 8) = 0 := val_zero _ _ _ fun i _ => lb_out _ _ (by omega)
/-- All bytes, when some bits more are laid within the last one. -/
theorem pk_more (l : List Bool) (c k : Nat) (hk : 0 < k) (h : l.length % 8 + k ≤ 8) (hf : l.length % 8 ≠ 0) :
    pk (l ++ bitsOf c k) = (pk l).set (l.length / 8) (bv l (l.length / 8) ||| c % 2 ^ k * 2 ^ (8 - k) / 2 ^ (l.length % 8)) := by
  apply List.ext_getElem?
  intro j
  rw [List.getElem?_set, pk_len]
  by_cases hj : j < (l.length + 7) / 8
  · rw [pk_get _ _ (by simp; omega)]
    by_cases e : l.length / 8 = j
    · rw [if_pos e, if_pos (by omega), ← e, bv_more l c k h]
    · rw [if_neg e, pk_get _ _ hj]
      exact congrArg some (val_congr _ _ _ _ _ fun i hi => lb_app_left _ _ _ (by omega))
  · rw [if_neg (by omega), List.getElem?_eq_none (by simp; omega), List.getElem?_eq_none (by simp; omega)]
/-- All bytes, when a new one is begun. -/
theorem pk_new (l : List Bool) (c k : Nat) (hk : 0 < k) (h : k ≤ 8) (hf : l.length % 8 = 0) :
    pk (l ++ bitsOf c k) = (pk l ++ [0]).set (l.length / 8) (0 ||| c % 2 ^ k * 2 ^ (8 - k) / 2 ^ (l.length % 8)) := by
  apply List.ext_getElem?
  intro j
  rw [List.getElem?_set, List.length_append, pk_len]
  by_cases hj : j < (l.length + 7) / 8 + 1
  · rw [pk_get _ _ (by simp; omega)]
    by_cases e : l.length / 8 = j
    · rw [if_pos e, if_pos (by simp; omega), ← e, bv_more l c k (by omega), pk_end l hf]
    · rw [if_neg e, List.getElem?_append_left (by simp; omega), pk_get _ _ (by omega)]
      exact congrArg some (val_congr _ _ _ _ _ fun i hi => lb_app_left _ _ _ (by omega))
  · rw [if_neg (by omega), List.getElem?_eq_none (by simp; omega), List.getElem?_eq_none (by simp; omega)]

end Go.Proofs.YtdhbakknplnnkaaGreat.Nk
namespace Go.Proofs.YtdhbakknplnnkaaGreat.Nk
open Go.RowKit

theorem mkHid {p : Prop} (h : p) : Hid p := h
theorem ret_i {k : IntKind} {a b : Int} (h : a = b) : Ending.returned (.int k a) = .returned (.int k b) := by rw [h]
theorem ret_b {p q : Bool} (h : p = q) : Ending.returned (.bool p) = .returned (.bool q) := by rw [h]
theorem setCell_drewN (w : World) (a : Addr) (v : Value) (n : Nat) : (w.drewN n).setCell a v = (w.setCell a v).drewN n := rfl

/-- A scope whose run comes to one label, and jumps back to it: what holds at the label, and a measure that every pass lowers. -/
theorem wp_scope_label {P : Program} {a : Act} {w : World} {Q : Exit → Act → World → Prop} {c tail : Code} (l : Nat) (J : Act → World → Prop) (μ : Act → World → Nat) (hf : findLabel c l = some (.seq .skip tail))
    (first : ∀ Q' : Exit → Act → World → Prop, (∀ a w, J a w → tail.wp P Q' a w) → c.wp P Q' a w)
    (pass : ∀ a w, J a w → tail.wp P (Exit.jump l (fun a' w' => J a' w' ∧ μ a' w' < μ a w) Q) a w) : (Code.scope c).wp P Q a w :=
  wp_scope_jumps l J μ hf (first _ fun a w h => Code.wp_mono (fun e a' w' hq => by cases e <;> first | exact ⟨hq.1, hq.2.1⟩ | exact hq) (pass a w h)) (fun a w h => wp_seq (wp_skip (pass a w h)))

theorem list_of (l : List Value) : l = (List.range l.length).map (fun i => l.getD i undef) := by
  apply List.ext_getElem?
  intro i
  by_cases h : i < l.length
  · rw [List.getElem?_map, List.getElem?_range h, List.getElem?_eq_getElem h]
    simp [List.getD_eq_getElem?_getD, List.getElem?_eq_getElem h]
  · rw [List.getElem?_eq_none (by omega), List.getElem?_eq_none (by simp; omega)]
/-- A frame of so many slots, written out slot by slot. -/
theorem frame_of (a : Act) (n : Nat) (hs : a.tmps.size = n) (hd : a.defers = []) : ∃ u : Nat → Value, (∀ i, a.tmps.getD i undef = u i) ∧ a = { tmps := ((List.range n).map u).toArray, defers := [] } := by
  refine ⟨fun i => a.tmps.getD i undef, fun _ => rfl, ?_⟩
  obtain ⟨tmps, defers⟩ := a
  obtain ⟨l⟩ := tmps
  simp only at hs hd
  subst hd
  have e := list_of l
  have hl : l.length = n := by simpa using hs
  rw [hl] at e
  have e2 : ∀ i, (l.toArray).getD i undef = l.getD i undef := by
    intro i
    simp [Array.getD_eq_getD_getElem?, List.getD_eq_getElem?_getD]
  simp only [e2]
  rw [← e]

/-- All blocks but those of X are as they were. -/
structure Apart (X : Nat → Prop) (w w' : World) : Prop where
  os : w'.os = w.os
  tape : w'.tape = w.tape
  output : w'.output = w.output
  size : w.heap.size ≤ w'.heap.size
  block : ∀ k, k < w.heap.size → ¬ X k → w'.heap[k]? = w.heap[k]?

theorem Apart.refl (X : Nat → Prop) (w : World) : Apart X w w := ⟨rfl, rfl, rfl, Nat.le_refl _, fun _ _ _ => rfl⟩
theorem Apart.trans {X Y : Nat → Prop} {a b c : World} (h : Apart X a b) (k : Apart Y b c) (hY : ∀ i, i < a.heap.size → Y i → X i) : Apart X a c :=
  ⟨k.os.trans h.os, k.tape.trans h.tape, k.output.trans h.output, Nat.le_trans h.size k.size, fun i hi hx => (k.block i (Nat.lt_of_lt_of_le hi h.size) (fun hy => hx (hY i hi hy))).trans (h.block i hi hx)⟩
theorem Apart.mono {X Y : Nat → Prop} {a b : World} (h : Apart X a b) (hY : ∀ i, i < a.heap.size → X i → Y i) : Apart Y a b :=
  ⟨h.os, h.tape, h.output, h.size, fun i hi hy => h.block i hi fun hx => hy (hY i hi hx)⟩
theorem Apart.drewN {X : Nat → Prop} {a b : World} (h : Apart X a b) (n : Nat) : Apart X a (b.drewN n) := ⟨h.os, h.tape, h.output, h.size, h.block⟩
theorem Apart.drew {X : Nat → Prop} {a b : World} (h : Apart X a b) : Apart X a b.drew := ⟨h.os, h.tape, h.output, h.size, h.block⟩
theorem Apart.alloc {X : Nat → Prop} {a b : World} (h : Apart X a b) (o : Obj) : Apart X a (b.alloc o) :=
  h.trans (Y := fun _ => False) ⟨rfl, rfl, rfl, by simp, fun k hk _ => Below.heap_alloc b o k hk⟩ (fun _ _ h => h.elim)
theorem Apart.setCell {X : Nat → Prop} {a b : World} (h : Apart X a b) {p : Addr} (hp : p.block < a.heap.size → X p.block) (u : Value) : Apart X a (b.setCell p u) :=
  h.trans (Y := fun k => k = p.block) ⟨rfl, rfl, rfl, by simp, fun k _ hk => Below.heap_setCell b p u k hk⟩ (fun i hi e => by subst e; exact hp hi)
theorem Apart.grown {X : Nat → Prop} {a b c : World} {row : Option Nat} (h : Apart X a b) (hg : b.grownBy c row) (hr : ∀ k, k < a.heap.size → row = some k → X k) : Apart X a c :=
  h.trans (Y := fun k => some k = row) ⟨hg.os, hg.tape, hg.output, hg.size, fun k hk hn => hg.block k hk hn⟩ (fun i hi e => hr i hi e.symm)
theorem Apart.below {X : Nat → Prop} {w w' : World} (h : Apart X w w') (B : Nat) (hB : B ≤ w.heap.size) (hX : ∀ k, X k → B ≤ k) : Below B w w' :=
  ⟨h.os, h.tape, h.output, h.size, fun k hk => h.block k (by omega) fun hx => by have := hX k hx; omega⟩
theorem lt_of_heap {w : World} {b : Nat} {o : Obj} (h : w.heap[b]? = some o) : b < w.heap.size := (Array.getElem?_eq_some_iff.1 h).1
theorem Apart.heap {X : Nat → Prop} {w w' : World} (h : Apart X w w') {b : Nat} {o : Obj} (hb : w.heap[b]? = some o) (hx : ¬ X b) : w'.heap[b]? = some o :=
  (h.block b (lt_of_heap hb) hx).trans hb

/-- Three cells of a block: what the walk asks of them. -/
theorem cells3 {w : World} {b : Nat} {v0 v1 v2 : Value} {T : TypeId} (h : w.heap[b]? = some (.cells #[v0, v1, v2] T (0, 0))) :
    w.cell? ⟨b, 0, none⟩ = some v0 ∧ w.cell? ⟨b, 1, none⟩ = some v1 ∧ w.cell? ⟨b, 2, none⟩ = some v2 ∧ (w.frozen? ⟨b, 0, none⟩ = false ∧ w.frozen? ⟨b, 1, none⟩ = false ∧ w.frozen? ⟨b, 2, none⟩ = false) :=
  ⟨cell_of_row w b 0 _ T _ h, cell_of_row w b 1 _ T _ h, cell_of_row w b 2 _ T _ h, frozen_of_row w b 0 _ T h, frozen_of_row w b 1 _ T h, frozen_of_row w b 2 _ T h⟩
theorem cells2 {w : World} {b : Nat} {v0 v1 : Value} {T : TypeId} (h : w.heap[b]? = some (.cells #[v0, v1] T (0, 0))) :
    w.cell? ⟨b, 0, none⟩ = some v0 ∧ w.cell? ⟨b, 1, none⟩ = some v1 ∧ (w.frozen? ⟨b, 0, none⟩ = false ∧ w.frozen? ⟨b, 1, none⟩ = false) :=
  ⟨cell_of_row w b 0 _ T _ h, cell_of_row w b 1 _ T _ h, frozen_of_row w b 0 _ T h, frozen_of_row w b 1 _ T h⟩

/-- A reader of s in block b: at a place, or bad. -/
def Rd (T : TypeId) (w : World) (b : Nat) (s : ByteArray) : Option Nat → Prop
  | some p => w.heap[b]? = some (.cells #[.string s, .int .i64 (p : Int), .bool false] T (0, 0)) ∧ p ≤ 8 * s.size
  | none => ∃ (s' : ByteArray) (p : Int), w.heap[b]? = some (.cells #[.string s', .int .i64 p, .bool true] T (0, 0))
theorem Rd.heap {T : TypeId} {w : World} {b : Nat} {s : ByteArray} {st : Option Nat} (h : Rd T w b s st) : b < w.heap.size := by
  cases st with
  | none => obtain ⟨s', p, h⟩ := h; exact lt_of_heap h
  | some p => exact lt_of_heap h.1
theorem Rd.kept {T : TypeId} {w w' : World} {b : Nat} {s : ByteArray} {st : Option Nat} {X : Nat → Prop} (h : Rd T w b s st) (ha : Apart X w w') (hx : ¬ X b) : Rd T w' b s st := by
  cases st with
  | none => obtain ⟨s', p, h⟩ := h; exact ⟨s', p, ha.heap h hx⟩
  | some p => exact ⟨ha.heap h.1 hx, h.2⟩
/-- What Get answers, and where it is then. -/
def gval (s : ByteArray) (st : Option Nat) (n : Int) : Int :=
  match st with
  | some p => if 0 ≤ n ∧ n ≤ 32 ∧ (p : Int) + n ≤ 8 * s.size then (gv s p n.toNat : Int) else 0
  | none => 0
def gnext (s : ByteArray) (st : Option Nat) (n : Int) : Option Nat :=
  match st with
  | some p => if 0 ≤ n ∧ n ≤ 32 ∧ (p : Int) + n ≤ 8 * s.size then some (p + n.toNat) else none
  | none => none
def gleft (s : ByteArray) (st : Option Nat) : Int :=
  match st with
  | some p => 8 * s.size - p
  | none => 0
def gbad (st : Option Nat) : Bool := st.isNone

end Go.Proofs.YtdhbakknplnnkaaGreat.Nk
namespace Go.Proofs.YtdhbakknplnnkaaGreat.Nk
open Go.RowKit

theorem taken_yes (n : Int) (h0 : 0 ≤ n) (h1 : n ≤ 32) (w : World) :
    Calls Tryz.prog 76 #[.int .i64 n] w fun e w' => e = .returned (.bool true) ∧ w' = w := by
  go_enter Tryz.func76, Tryz.ntmps76
  go_wp2
  go_ret
  exact ⟨rfl, rfl⟩
theorem taken_no (n : Int) (h : n < 0 ∨ 32 < n) (w : World) :
    Calls Tryz.prog 76 #[.int .i64 n] w fun e w' => e = .returned (.bool false) ∧ w' = w := by
  rcases h with h | h
  · go_enter Tryz.func76, Tryz.ntmps76
    go_wp2
    go_ret
    exact ⟨rfl, rfl⟩
  · have h2 : ¬ n ≤ 32 := by omega
    go_enter Tryz.func76, Tryz.ntmps76
    go_wp2
    go_ret
    exact ⟨ret_b (by simp), rfl⟩
theorem bad_nil (w : World) : Calls Tryz.prog 72 #[.pointer none] w fun e w' => e = .returned (.bool true) ∧ w' = w := by
  go_enter Tryz.func72, Tryz.ntmps72
  go_wp2
  go_ret
  exact ⟨rfl, rfl⟩
theorem bad_any (b : Nat) (s : ByteArray) (st : Option Nat) (w : World) (h : Rd 143 w b s st) :
    Calls Tryz.prog 72 #[.pointer (some ⟨b, 0, none⟩)] w fun e w' => e = .returned (.bool (gbad st)) ∧ w' = w := by
  cases st with
  | none =>
    obtain ⟨s', p, h⟩ := h
    obtain ⟨c0, c1, c2, f0, f1, f2⟩ := cells3 h
    clear h
    go_enter Tryz.func72, Tryz.ntmps72
    go_wp2
    go_ret
    exact ⟨rfl, rfl⟩
  | some p =>
    obtain ⟨c0, c1, c2, f0, f1, f2⟩ := cells3 h.1
    clear h
    go_enter Tryz.func72, Tryz.ntmps72
    go_wp2
    go_ret
    exact ⟨rfl, rfl⟩
theorem left_any (b : Nat) (s : ByteArray) (hs : s.size ≤ 1000000) (st : Option Nat) (w : World) (h : Rd 143 w b s st) :
    Calls Tryz.prog 56 #[.pointer (some ⟨b, 0, none⟩)] w fun e w' => e = .returned (.int .i64 (gleft s st)) ∧ ∃ n, w' = w.drewN n := by
  have B := mkHid (bad_any b s st w h)
  cases st with
  | none =>
    clear h
    go_enter Tryz.func56, Tryz.ntmps56
    go_wp2_with fail
    refine (B.out).mono ?_
    rintro e w1 ⟨rfl, rfl⟩
    unfold gbad
    go_wp2
    go_ret
    exact ⟨rfl, 0, rfl⟩
  | some p =>
    obtain ⟨c0, c1, c2, f0, f1, f2⟩ := cells3 h.1
    have hp := h.2
    clear h
    go_enter Tryz.func56, Tryz.ntmps56
    go_wp2_with fail
    refine (B.out).mono ?_
    rintro e w1 ⟨rfl, rfl⟩
    unfold gbad
    go_wp2
    go_quiet (fail)
    go_wp2
    go_ret
    exact ⟨ret_i (by show (s.size : Int) * 8 - p = 8 * s.size - p; omega), _, rfl⟩
theorem piece_any (b from_ k : Int) (w : World) (h0 : 0 ≤ from_) (h1 : 1 ≤ k) (h2 : from_ + k ≤ 8) :
    Calls Tryz.prog 77 #[.int .u8 b, .int .i64 from_, .int .i64 k] w fun e w' => e = .returned (.int .u8 (b * 2 ^ from_.toNat % 256 / 2 ^ (8 - k).toNat)) ∧ w' = w := by
  go_enter Tryz.func77, Tryz.ntmps77
  go_wp2
  go_ret
  exact ⟨rfl, rfl⟩

theorem drew_rd {T : TypeId} {w : World} {b : Nat} {s : ByteArray} {st : Option Nat} (n : Nat) (h : Rd T w b s st) : Rd T (w.drewN n) b s st := by
  cases st with
  | none => exact h
  | some p => exact h
theorem bad_end {w : World} {b : Nat} {s s' : ByteArray} {p : Int} {x y : Value} (h : w.heap[b]? = some (.cells #[x, .int .i64 p, y] 143 (0, 0))) (n : Nat) :
    Rd 143 ((((w.drewN n).setCell ⟨b, 0, none⟩ (.string s')).setCell ⟨b, 1, none⟩ (.int .i64 0)).setCell ⟨b, 2, none⟩ (.bool true)) b s none ∧
    Apart (· = b) w ((((w.drewN n).setCell ⟨b, 0, none⟩ (.string s')).setCell ⟨b, 1, none⟩ (.int .i64 0)).setCell ⟨b, 2, none⟩ (.bool true)) := by
  have h0 : (w.drewN n).heap[b]? = some (.cells #[x, .int .i64 p, y] 143 (0, 0)) := h
  have h1 := heap_setCell_same _ b 0 _ 143 (.string s') h0
  have h2 := heap_setCell_same _ b 1 _ 143 (.int .i64 0) h1
  have h3 := heap_setCell_same _ b 2 _ 143 (.bool true) h2
  refine ⟨⟨s', 0, ?_⟩, ?_⟩
  · rw [h3]; rfl
  · exact Apart.setCell (Apart.setCell (Apart.setCell ((Apart.refl (· = b) w).drewN n) (p := ⟨b, 0, none⟩) (fun _ => rfl) _) (p := ⟨b, 1, none⟩) (fun _ => rfl) _) (p := ⟨b, 2, none⟩) (fun _ => rfl) _

theorem adv_end {T : TypeId} {w : World} {b : Nat} {s : ByteArray} {P k : Nat} (h : Rd T w b s (some P)) (hk : P + k ≤ 8 * s.size) (n : Nat) :
    Rd T ((w.drewN n).setCell ⟨b, 1, none⟩ (.int .i64 ((P : Int) + (k : Int)))) b s (some (P + k)) ∧ Apart (· = b) w ((w.drewN n).setCell ⟨b, 1, none⟩ (.int .i64 ((P : Int) + (k : Int)))) := by
  have h0 : (w.drewN n).heap[b]? = some (.cells #[.string s, .int .i64 (P : Int), .bool false] T (0, 0)) := h.1
  have h1 := heap_setCell_same _ b 1 _ T (.int .i64 ((P : Int) + (k : Int))) h0
  refine ⟨⟨?_, hk⟩, ?_⟩
  · rw [h1]; simp
  · exact Apart.setCell ((Apart.refl (· = b) w).drewN n) (p := ⟨b, 1, none⟩) (fun _ => rfl) _
theorem or_step (s : ByteArray) (p r k q f P : Nat) (hP : p + r = P) (hq : P / 8 = q) (hf : P % 8 = f) (hk : f + k ≤ 8) (hn : r + k ≤ 32) (hlt : q < s.size) :
    bits .or .u32 ((gv s p r : Int) * 2 ^ k % 4294967296) ((s[q].toNat : Int) * 2 ^ f % 256 / 2 ^ (8 - k) % 4294967296) = (gv s p (r + k) : Int) := by
  have g1 := gv_lt s p r
  have g2 := gv_lt s P k
  have e0 : gv s P k = s[q].toNat * 2 ^ f % 256 / 2 ^ (8 - k) := by
    rw [gv_piece s P k (by omega), hq, hf]
    congr 4
    rw [List.getD_eq_getElem?_getD, List.getElem?_eq_getElem (by simpa using hlt)]
    rfl
  have e1 : ((s[q].toNat : Int) * 2 ^ f % 256 / 2 ^ (8 - k)) = (gv s P k : Int) := by rw [e0]; simp
  have p1 : gv s p r * 2 ^ k < 2 ^ (r + k) := by rw [Nat.pow_add]; exact Nat.mul_lt_mul_of_pos_right g1 (Nat.two_pow_pos _)
  have p2 : 2 ^ (r + k) ≤ 2 ^ 32 := Nat.pow_le_pow_right (by decide) hn
  have p3 : 2 ^ k ≤ 2 ^ 32 := Nat.pow_le_pow_right (by decide) (by omega)
  have e2 : ((gv s p r : Int) * 2 ^ k % 4294967296) = ((gv s p r * 2 ^ k : Nat) : Int) := by
    have : ((gv s p r : Int) * 2 ^ k) = ((gv s p r * 2 ^ k : Nat) : Int) := by simp
    rw [this]; omega
  have e3 : (gv s P k : Int) % 4294967296 = (gv s P k : Nat) := by omega
  rw [e1, e2, e3, u32_or_nat _ _ (by omega) (by omega), or_add _ _ _ g2, gv_add, hP]
theorem get_none (b : Nat) (s : ByteArray) (n : Int) (w : World) (h : Rd 143 w b s none) :
    Calls Tryz.prog 58 #[.pointer (some ⟨b, 0, none⟩), .int .i64 n] w fun e w' => e = .returned (.int .u32 0) ∧ w' = w := by
  have B := mkHid (bad_any b s none w h)
  clear h
  go_enter Tryz.func58, Tryz.ntmps58
  go_wp2
  go_step3
  go_wp2_with fail
  refine (B.out).mono ?_
  rintro e w1 ⟨rfl, rfl⟩
  unfold gbad
  go_wp2
  rw [Exit.noGoto_ret]
  go_ret
  exact ⟨rfl, rfl⟩
theorem get_nil (n : Int) (w : World) :
    Calls Tryz.prog 58 #[.pointer none, .int .i64 n] w fun e w' => e = .returned (.int .u32 0) ∧ w' = w := by
  have B := mkHid (bad_nil w)
  go_enter Tryz.func58, Tryz.ntmps58
  go_wp2
  go_step3
  go_wp2_with fail
  refine (B.out).mono ?_
  rintro e w1 ⟨rfl, rfl⟩
  go_wp2
  rw [Exit.noGoto_ret]
  go_ret
  exact ⟨rfl, rfl⟩
theorem get_wrong (b : Nat) (s : ByteArray) (p : Nat) (n : Int) (hn : n < 0 ∨ 32 < n) (w : World) (h : Rd 143 w b s (some p)) :
    Calls Tryz.prog 58 #[.pointer (some ⟨b, 0, none⟩), .int .i64 n] w fun e w' => e = .returned (.int .u32 0) ∧ Rd 143 w' b s none ∧ Apart (· = b) w w' := by
  have B := mkHid (bad_any b s (some p) w h)
  have T := mkHid (taken_no n hn)
  have H := mkHid h.1
  obtain ⟨c0, c1, c2, f0, f1, f2⟩ := cells3 h.1
  clear h hn
  go_enter Tryz.func58, Tryz.ntmps58
  go_wp2
  go_step3
  go_wp2_with fail
  refine (B.out).mono ?_
  rintro e w1 ⟨rfl, rfl⟩
  unfold gbad
  go_wp2_with fail
  refine (T.out _).mono ?_
  rintro e w1 ⟨rfl, rfl⟩
  go_wp2
  rw [Exit.noGoto_ret]
  go_ret
  exact ⟨rfl, bad_end H.out 0⟩
theorem get_many (b : Nat) (s : ByteArray) (hs : s.size ≤ 1000000) (p : Nat) (n : Int) (h0 : 0 ≤ n) (h1 : n ≤ 32) (h2 : 8 * (s.size : Int) < p + n) (w : World) (h : Rd 143 w b s (some p)) :
    Calls Tryz.prog 58 #[.pointer (some ⟨b, 0, none⟩), .int .i64 n] w fun e w' => e = .returned (.int .u32 0) ∧ Rd 143 w' b s none ∧ Apart (· = b) w w' := by
  have B := mkHid (bad_any b s (some p) w h)
  have T := mkHid (taken_yes n h0 h1)
  have L := mkHid (left_any b s hs (some p) w h)
  have hl : gleft s (some p) < n := by show 8 * (s.size : Int) - p < n; omega
  generalize gleft s (some p) = g at *
  have H := mkHid h.1
  obtain ⟨c0, c1, c2, f0, f1, f2⟩ := cells3 h.1
  clear h
  go_enter Tryz.func58, Tryz.ntmps58
  go_wp2
  go_step3
  go_wp2_with fail
  refine (B.out).mono ?_
  rintro e w1 ⟨rfl, rfl⟩
  unfold gbad
  go_wp2_with fail
  refine (T.out _).mono ?_
  rintro e w1 ⟨rfl, rfl⟩
  go_wp2_with fail
  refine (L.out).mono ?_
  rintro e w1 ⟨rfl, nd, rfl⟩
  go_wp2
  rw [Exit.noGoto_ret]
  go_ret
  exact ⟨rfl, bad_end H.out nd⟩
theorem frame63 (a : Act) (hs : a.tmps.size = 63) (hd : a.defers = []) : ∃ u : Nat → Value, (∀ i, a.tmps.getD i undef = u i) ∧ a = { tmps := #[u 0, u 1, u 2, u 3, u 4, u 5, u 6, u 7, u 8, u 9, u 10, u 11, u 12, u 13, u 14, u 15, u 16, u 17, u 18, u 19, u 20, u 21, u 22, u 23, u 24, u 25, u 26, u 27, u 28, u 29, u 30, u 31, u 32, u 33, u 34, u 35, u 36, u 37, u 38, u 39, u 40, u 41, u 42, u 43, u 44, u 45, u 46, u 47, u 48, u 49, u 50, u 51, u 52, u 53, u 54, u 55, u 56, u 57, u 58, u 59, u 60, u 61, u 62], defers := [] } := frame_of a 63 hs hd
set_option maxRecDepth 100000 in
theorem get_ok (b : Nat) (s : ByteArray) (hs : s.size ≤ 1000000) (p n : Nat) (h1 : n ≤ 32) (h2 : p + n ≤ 8 * s.size) (w : World) (h : Rd 143 w b s (some p)) :
    Calls Tryz.prog 58 #[.pointer (some ⟨b, 0, none⟩), .int .i64 n] w fun e w' => e = .returned (.int .u32 (gv s p n)) ∧ Rd 143 w' b s (some (p + n)) ∧ Apart (· = b) w w' := by
  have B := mkHid (bad_any b s (some p) w h)
  have T := mkHid (taken_yes n (by omega) (by omega))
  have L := mkHid (left_any b s hs (some p) w h)
  have hl : (n : Int) ≤ gleft s (some p) := by show (n : Int) ≤ 8 * (s.size : Int) - p; omega
  generalize gleft s (some p) = g at *
  have H := mkHid h
  clear h
  go_enter Tryz.func58, Tryz.ntmps58
  go_wp2
  refine wp_scope_label 0 (fun a' w' => ∃ (m r : Nat), (a'.tmps.size = 63 ∧ a'.defers = [] ∧ a'.tmps.getD 0 undef = .pointer (some { block := b, off := 0 }) ∧ a'.tmps.getD 1 undef = .int .i64 (m : Int) ∧ a'.tmps.getD 2 undef = undef ∧ a'.tmps.getD 3 undef = undef ∧ a'.tmps.getD 4 undef = .int .u32 0 ∧ a'.tmps.getD 5 undef = .int .u32 (gv s p r : Int)) ∧ m + r = n ∧ Rd 143 w' b s (some (p + r)) ∧ Apart (· = b) w w') (fun a' _ => (intOf (a'.tmps.getD 1 undef)).toNat) rfl ?_ ?_
  · intro Q' hh
    have HH := mkHid hh
    clear hh
    go_wp2_with fail
    refine (B.out).mono ?_
    rintro e w1 ⟨rfl, rfl⟩
    unfold gbad
    go_wp2_with fail
    refine (T.out _).mono ?_
    rintro e w1 ⟨rfl, rfl⟩
    go_wp2_with fail
    refine (L.out).mono ?_
    rintro e w1 ⟨rfl, nd, rfl⟩
    go_wp2
    go_step3
    refine ‹∀ a w, Code.wp _ _ _ a w → _› _ _ (HH.out _ _ ?_)
    exact ⟨n, 0, ⟨rfl, rfl, rfl, rfl, rfl, rfl, rfl, rfl⟩, by omega, drew_rd nd H.out, (Apart.refl _ _).drewN nd⟩
  · clear B T L H
    rintro a' w' ⟨m, r, ⟨z, d, e0, e1, e2, e3, e4, e5⟩, hm, hr, hap⟩
    obtain ⟨u, hu, ha⟩ := frame63 a' z d
    rw [hu] at e0 e1 e2 e3 e4 e5
    rw [e0, e1, e2, e3, e4, e5] at ha
    clear z d hu e0 e1 e2 e3 e4 e5
    subst ha
    obtain ⟨P, HP⟩ : ∃ P, Hid (p + r = P) := ⟨_, rfl⟩
    rw [HP.out] at hr
    obtain ⟨c0, c1, c2, f0, f1, f2⟩ := cells3 hr.1
    have HR := mkHid hr
    have HA := mkHid hap
    clear hr hap
    have hP : P + m ≤ 8 * s.size := by have := HP.out; omega
    by_cases hm0 : m = 0
    · subst hm0
      obtain rfl : r = n := by omega
      go_wp2
      simp only [Exit.jump]
      go_ret
      have hr := HR.out
      rw [← HP.out] at hr
      exact ⟨rfl, hr, HA.out⟩
    · have hq1 : P / 8 < s.size := by omega
      have hf1 : P % 8 < 8 := by omega
      obtain ⟨q, Hq⟩ : ∃ q, Hid (P / 8 = q) := ⟨_, rfl⟩
      obtain ⟨f, Hf⟩ : ∃ f, Hid (P % 8 = f) := ⟨_, rfl⟩
      have hq : (P : Int) / 8 = (q : Nat) := by have := Hq.out; omega
      have hf : (P : Int) % 8 = (f : Nat) := by have := Hf.out; omega
      rw [Hq.out] at hq1
      rw [Hf.out] at hf1
      by_cases hk : m ≤ 8 - f
      · go_wp2
        have PC := mkHid (fun w => piece_any (s[q].toNat) f m w (by omega) (by omega) (by omega))
        go_quiet ((go_at_call 77; exact Calls.quiet_of_same (PC.out _)))
        go_wp2
        rw [or_step s p r m q f P HP.out Hq.out Hf.out (by omega) (by omega) hq1]
        go_step3
        obtain ⟨k1, k2⟩ := adv_end HR.out (k := m) (by omega) nq
        refine ⟨rfl, ⟨0, r + m, ⟨rfl, rfl, rfl, rfl, rfl, rfl, rfl, rfl⟩, by omega, ?_, HA.out.trans k2 (fun _ _ h => h)⟩, ?_⟩
        · have : p + (r + m) = P + m := by have := HP.out; omega
          rw [this]; exact k1
        · simp [intOf]; omega
      · obtain ⟨k, hk1⟩ : ∃ k : Nat, f + k = 8 := ⟨8 - f, by omega⟩
        obtain ⟨m', rfl⟩ : ∃ m', m = m' + k := ⟨m - k, by omega⟩
        have hk2 : (8 : Int) - f = k := by omega
        have hk3 : (k : Int) < ((m' + k : Nat) : Int) := by omega
        go_wp2
        have PC := mkHid (fun w => piece_any (s[q].toNat) f k w (by omega) (by omega) (by omega))
        go_quiet ((go_at_call 77; exact Calls.quiet_of_same (PC.out _)))
        go_wp2
        rw [or_step s p r k q f P HP.out Hq.out Hf.out (by omega) (by omega) hq1]
        go_step3
        obtain ⟨k1, k2⟩ := adv_end HR.out (k := k) (by omega) nq
        refine ⟨rfl, ⟨m', r + k, ⟨rfl, rfl, rfl, rfl, rfl, rfl, rfl, rfl⟩, by omega, ?_, HA.out.trans k2 (fun _ _ h => h)⟩, ?_⟩
        · have : p + (r + k) = P + k := by have := HP.out; omega
          rw [this]; exact k1
        · simp [intOf]; omega
/-- Get, whatever it is asked. -/
theorem get_any (b : Nat) (s : ByteArray) (hs : s.size ≤ 1000000) (st : Option Nat) (n : Int) (w : World) (h : Rd 143 w b s st) :
    Calls Tryz.prog 58 #[.pointer (some ⟨b, 0, none⟩), .int .i64 n] w fun e w' => e = .returned (.int .u32 (gval s st n)) ∧ Rd 143 w' b s (gnext s st n) ∧ Apart (· = b) w w' := by
  cases st with
  | none => exact (get_none b s n w h).mono fun e w' ⟨h1, h2⟩ => ⟨h1, by subst h2; exact h, by subst h2; exact Apart.refl _ _⟩
  | some p =>
    simp only [gval, gnext]
    by_cases hc : 0 ≤ n ∧ n ≤ 32 ∧ (p : Int) + n ≤ 8 * s.size
    · rw [if_pos hc, if_pos hc]
      obtain ⟨m, rfl⟩ : ∃ m : Nat, n = m := ⟨n.toNat, by omega⟩
      exact get_ok b s hs p m (by omega) (by omega) w h
    · rw [if_neg hc, if_neg hc]
      by_cases h1 : n < 0 ∨ 32 < n
      · exact get_wrong b s p n h1 w h
      · exact get_many b s hs p n (by omega) (by omega) (by omega) w h
theorem read_any (s : ByteArray) (w : World) :
    Calls Tryz.prog 54 #[.string s] w fun e w' => e = .returned (.pointer (some ⟨w.heap.size, 0, none⟩)) ∧ Rd 143 w' w.heap.size s (some 0) ∧ Apart (fun _ => False) w w' ∧ w'.heap.size = w.heap.size + 1 := by
  go_enter Tryz.func54, Tryz.ntmps54
  go_wp2
  go_ret
  exact ⟨rfl, ⟨heap_alloc_new _ _, Nat.zero_le _⟩, (Apart.refl _ _).alloc _, by simp⟩
end Go.Proofs.YtdhbakknplnnkaaGreat.Nk
namespace Go.Proofs.YtdhbakknplnnkaaGreat.Nk
open Go.RowKit

section
variable {P : Program} (w : World)
/-- An append onto a row of the call's own: the new row is the old one, or a new block. -/
theorem run_append_own2 (base : Nat) (t ty e : TypeId) (i : TypeInfo) (z : Value) (size bytes : Nat) (ht : P.underlying t = some (.slice e)) (hi : P.info? e = some i) (hz : i.zero = some z)
    (hsize : i.size = size) (hby : i.bytes = bytes) (hzs : z.cells.size = size) (hsz : 0 < size)
    (v : Value) (n : Nat) (xs : List Value) (hown : w.ownsRow base e size v n xs)
    (a : Addr) (m c : Nat) (news : List Value) (hl : news.length = m * size) (hnews : ∀ j u, news[j]? = some u → w.cell? (a.add j) = some u) (h1 : ∀ u ∈ news, u.oneCell' = true)
    (h63 : n + m ≤ maxLen) (hbytes : (n + m) * bytes ≤ 140737488355328) (hbase : base ≤ w.heap.size) :
    ∃ v' w', (Builtin.append_ #[t, t] ty #[v, .slice (some a) m c]).run P w = .ok v' w' ∧ w'.ownsRow base e size v' (n + m) (xs ++ news) ∧ w.grownBy w' v.ownBlock ∧
      (∀ k, v'.ownBlock = some k → v.ownBlock = some k ∨ w.heap.size ≤ k) := by
  have down : ∀ {w' : World} {v' : Value}, w'.ownsRow w.heap.size e size v' (n + m) (xs ++ news) → w'.ownsRow base e size v' (n + m) (xs ++ news) := by
    intro w' v' h
    refine ⟨h.1, ?_⟩
    rcases h.2 with hn | ⟨g, cap, cur, hv, hg, r⟩
    · exact .inl hn
    · exact .inr ⟨g, cap, cur, hv, by omega, r⟩
  rcases hown.2 with ⟨rfl, rfl⟩ | ⟨g, cap, cur, rfl, hb, hg, hnc, hcm, hcs, htake⟩
  · obtain ⟨v', w', r1, r2, r3, _⟩ := run_append_own (P := P) w w.heap.size t ty e i z size bytes ht hi hz hsize hby hzs hsz (.slice none 0 0) 0 xs ⟨hown.1, .inl ⟨rfl, rfl⟩⟩ a m c news hl hnews h1 h63 hbytes (Nat.le_refl _)
    exact ⟨v', w', r1, down r2, r3, fun k hk => .inr (r2.lt k hk).1⟩
  · by_cases hr : n + m ≤ cap
    · obtain ⟨w', r1, r2, r3⟩ := run_append_fits (P := P) w base t ty e i size ht hi hsize g n cap xs hown a m c news hl hnews h1 hr
      exact ⟨_, w', r1, r2, r3, fun k hk => .inl hk⟩
    · obtain ⟨v', w', r1, r2, r3⟩ := run_append_arg_grows (P := P) w t ty e i z size bytes ht hi hz hsize hby hzs hsz ⟨g, 0, none⟩ n cap xs hown.1 (fun j u hu => hown.cells (g := g) rfl j u hu) a m c news hl hnews (by omega) h63 hbytes
      exact ⟨v', w', r1, down r2, ⟨r3.os, r3.tape, r3.output, r3.size, fun k hk _ => r3.block k hk (by simp)⟩, fun k hk => .inr (r2.lt k hk).1⟩
theorem wpList_append_own2 {ops : Array Oper} {rest : List Oper} {o : Oper} {a : Act} {Q : Exit → Act → World → Prop} (hgd : o.guard = none) (s x : Operand) (t : TypeId)
    (ho : o.op = .call { callee := .builtin .append, args := #[s, x], argTypes := #[t, t] })
    (base : Nat) (e : TypeId) (i : TypeInfo) (z : Value) (size bytes : Nat) (ht : P.underlying t = some (.slice e)) (hi : P.info? e = some i) (hz : i.zero = some z)
    (hsize : i.size = size) (hby : i.bytes = bytes) (hzs : z.cells.size = size) (hsz : 0 < size)
    (v : Value) (n : Nat) (xs : List Value) (hs : a.eval s = v) (hown : w.ownsRow base e size v n xs)
    (ad : Addr) (m c : Nat) (news : List Value) (hx : a.eval x = .slice (some ad) m c) (hl : news.length = m * size) (hnews : ∀ j u, news[j]? = some u → w.cell? (ad.add j) = some u) (h1 : ∀ u ∈ news, u.oneCell' = true)
    (h63 : n + m ≤ maxLen) (hbytes : (n + m) * bytes ≤ 140737488355328) (hbase : base ≤ w.heap.size)
    (h : ∀ v' w', w'.ownsRow base e size v' (n + m) (xs ++ news) → w.grownBy w' v.ownBlock → (∀ k, v'.ownBlock = some k → v.ownBlock = some k ∨ w.heap.size ≤ k) → wpList P ops Q rest (a.put o.dst v') w') : wpList P ops Q (o :: rest) a w :=
  wpList_plain hgd fun _ hK => by
    obtain ⟨v', w', hrun, h2, h3, h4⟩ := run_append_own2 (P := P) w base t o.type e i z size bytes ht hi hz hsize hby hzs hsz v n xs hown ad m c news hl hnews h1 h63 hbytes hbase
    unfold Oper.wp execOp
    simp only [ho, resolve, invoke, builtin, Sem.run_bind, Sem.run_pure, Result.andThen_ok, List.map_toArray, List.map_cons, List.map_nil, hs, hx, hrun]
    exact hK _ _ (h v' w' h2 h3 h4)
end

def vb (x : Nat) : Value := .int .u8 (x : Int)
/-- A writer in block b whose text is v; it has written the bits l. -/
structure Wr (T : TypeId) (w : World) (b : Nat) (v : Value) (l : List Bool) : Prop where
  head : w.heap[b]? = some (.cells #[v, .int .i64 (l.length : Int)] T (0, 0))
  own : w.ownsRow (b + 1) 5 1 v ((l.length + 7) / 8) ((pk l).map vb)
  most : l.length ≤ 524288
/-- A writer whose last byte stands, with bits to spare. -/
structure Mid (T : TypeId) (w : World) (b g cap : Nat) (l : List Bool) (xs : List Nat) : Prop where
  head : w.heap[b]? = some (.cells #[.slice (some ⟨g, 0, none⟩) (l.length / 8 + 1) cap, .int .i64 (l.length : Int)] T (0, 0))
  own : w.ownsRow (b + 1) 5 1 (.slice (some ⟨g, 0, none⟩) (l.length / 8 + 1) cap) (l.length / 8 + 1) (xs.map vb)
  last : xs[l.length / 8]? = some (bv l (l.length / 8))
  next : ∀ c k, 0 < k → l.length % 8 + k ≤ 8 → pk (l ++ bitsOf c k) = xs.set (l.length / 8) (bv l (l.length / 8) ||| c % 2 ^ k * 2 ^ (8 - k) / 2 ^ (l.length % 8))
/-- From w to w' only block b, the row of v, and new ones have turned; the row of v' is v's or new. -/
structure Tch (b : Nat) (v v' : Value) (w w' : World) : Prop where
  ap : Apart (fun k => k = b ∨ v.ownBlock = some k) w w'
  own : ∀ k, v'.ownBlock = some k → v.ownBlock = some k ∨ w.heap.size ≤ k
theorem Tch.refl (b : Nat) (v : Value) (w : World) : Tch b v v w w := ⟨Apart.refl _ _, fun _ h => .inl h⟩
theorem Tch.trans {b : Nat} {v v' v'' : Value} {w w' w'' : World} (h : Tch b v v' w w') (k : Tch b v' v'' w' w'') : Tch b v v'' w w'' := by
  refine ⟨h.ap.trans k.ap ?_, ?_⟩
  · rintro i hi (rfl | e)
    · exact .inl rfl
    · rcases h.own i e with e | e
      · exact .inr e
      · omega
  · intro i e
    rcases k.own i e with e | e
    · exact h.own i e
    · have := h.ap.size; exact .inr (by omega)
theorem Wr.lt {T : TypeId} {w : World} {b : Nat} {v : Value} {l : List Bool} (h : Wr T w b v l) : b < w.heap.size := lt_of_heap h.head
theorem Wr.ownlt {T : TypeId} {w : World} {b : Nat} {v : Value} {l : List Bool} (h : Wr T w b v l) : ∀ k, v.ownBlock = some k → b < k ∧ k < w.heap.size := fun k hk => by
  have := h.own.lt k hk; exact ⟨by omega, this.2⟩
theorem Wr.kept {T : TypeId} {w w' : World} {b : Nat} {v : Value} {l : List Bool} {X : Nat → Prop} (h : Wr T w b v l) (ha : Apart X w w') (hb : ¬ X b) (hv : ∀ k, v.ownBlock = some k → ¬ X k) : Wr T w' b v l := by
  refine ⟨ha.heap h.head hb, ⟨h.own.1, ?_⟩, h.most⟩
  rcases h.own.2 with hn | ⟨g, cap, cur, rfl, hg, hh, r⟩
  · exact .inl hn
  · exact .inr ⟨g, cap, cur, rfl, hg, ha.heap hh (hv g rfl), r⟩

/-- Where the last byte has bits to spare. -/
theorem Wr.mid {T : TypeId} {w : World} {b : Nat} {v : Value} {l : List Bool} (h : Wr T w b v l) (hf : l.length % 8 ≠ 0) : ∃ g cap, v = .slice (some ⟨g, 0, none⟩) (l.length / 8 + 1) cap ∧ Mid T w b g cap l (pk l) := by
  have e : (l.length + 7) / 8 = l.length / 8 + 1 := by omega
  have hd := h.head
  have ho := h.own
  rw [e] at ho
  rcases ho.2 with ⟨_, hn⟩ | ⟨g, cap, cur, rfl, _⟩
  · omega
  · exact ⟨g, cap, rfl, hd, ho, pk_get l _ (by omega), fun c k hk hs => pk_more l c k hk hs hf⟩
/-- Behind the append of a byte. -/
theorem Wr.grown {T : TypeId} {w w1 : World} {b : Nat} {v v1 : Value} {l : List Bool} (h : Wr T w b v l) (hf : l.length % 8 = 0) (o : Obj)
    (ho : w1.ownsRow (b + 1) 5 1 v1 ((l.length + 7) / 8 + 1) ((pk l).map vb ++ [.int .u8 0])) (hg : (w.alloc o).grownBy w1 v.ownBlock) (hn : ∀ k, v1.ownBlock = some k → v.ownBlock = some k ∨ (w.alloc o).heap.size ≤ k) :
    (w1.heap[b]? = some (.cells #[v, .int .i64 (l.length : Int)] T (0, 0))) ∧ ∃ g cap, v1 = .slice (some ⟨g, 0, none⟩) (l.length / 8 + 1) cap ∧ Mid T (w1.setCell ⟨b, 0, none⟩ v1) b g cap l (pk l ++ [0]) ∧ Tch b v v1 w (w1.setCell ⟨b, 0, none⟩ v1) := by
  have hlt := h.lt
  have h1 : w1.heap[b]? = some (.cells #[v, .int .i64 (l.length : Int)] T (0, 0)) := by
    rw [hg.block b (by simp; omega) (fun e => by have := h.ownlt b e.symm; omega), Below.heap_alloc _ _ _ hlt]
    exact h.head
  refine ⟨h1, ?_⟩
  have e : (l.length + 7) / 8 + 1 = l.length / 8 + 1 := by omega
  rw [e] at ho
  have ha : Apart (fun k => k = b ∨ v.ownBlock = some k) w (w1.setCell ⟨b, 0, none⟩ v1) :=
    Apart.setCell (Apart.grown ((Apart.refl _ w).alloc o) hg (fun k _ e => .inr e)) (p := ⟨b, 0, none⟩) (fun _ => .inl rfl) _
  have hs := heap_setCell_same w1 b 0 _ T v1 h1
  have ho2 : (w1.setCell ⟨b, 0, none⟩ v1).ownsRow (b + 1) 5 1 v1 (l.length / 8 + 1) ((pk l).map vb ++ [.int .u8 0]) := ownsRow_setCell_below ho (by simp) _
  have hm : ((pk l).map vb ++ [.int .u8 0]) = (pk l ++ [0]).map vb := by simp [vb]
  rw [hm] at ho2
  rcases ho.2 with ⟨_, hx⟩ | ⟨g, cap, cur, rfl, hgb, hgg, _⟩
  · omega
  · refine ⟨g, cap, rfl, ⟨?_, ho2, ?_, fun c k hk hs => ?_⟩, ha, fun k hk => ?_⟩
    · rw [hs]; rfl
    · rw [List.getElem?_append_right (by simp; omega), pk_end l hf]
      have : l.length / 8 - (pk l).length = 0 := by simp; omega
      rw [this]; rfl
    · rw [pk_new l c k hk (by omega) hf, pk_end l hf]
    · rcases hn k hk with e | e
      · exact .inl e
      · simp at e; exact .inr (by omega)
theorem Mid.lt {T : TypeId} {w : World} {b g cap : Nat} {l : List Bool} {xs : List Nat} (h : Mid T w b g cap l xs) : b < g ∧ g < w.heap.size := by
  have := h.own.lt g rfl; omega
/-- Behind the store of the last byte and of the size. -/
theorem Mid.done {T : TypeId} {w : World} {b g cap : Nat} {l : List Bool} {xs : List Nat} (h : Mid T w b g cap l xs) (c k : Nat) (hk : 0 < k) (hs : l.length % 8 + k ≤ 8) (hm : l.length + k ≤ 524288)
    (x y : Int) (hx : x = ((bv l (l.length / 8) ||| c % 2 ^ k * 2 ^ (8 - k) / 2 ^ (l.length % 8) : Nat) : Int)) (hy : y = (l.length : Int) + k) :
    Wr T (((w.setCell ⟨g, l.length / 8, none⟩ (.int .u8 x)).drew).setCell ⟨b, 1, none⟩ (.int .i64 y)) b (.slice (some ⟨g, 0, none⟩) (l.length / 8 + 1) cap) (l ++ bitsOf c k) ∧
    Tch b (.slice (some ⟨g, 0, none⟩) (l.length / 8 + 1) cap) (.slice (some ⟨g, 0, none⟩) (l.length / 8 + 1) cap) w (((w.setCell ⟨g, l.length / 8, none⟩ (.int .u8 x)).drew).setCell ⟨b, 1, none⟩ (.int .i64 y)) := by
  obtain ⟨hbg, hg⟩ := h.lt
  have h1 : ((w.setCell ⟨g, l.length / 8, none⟩ (.int .u8 x)).drew).heap[b]? = some (.cells #[.slice (some ⟨g, 0, none⟩) (l.length / 8 + 1) cap, .int .i64 (l.length : Int)] T (0, 0)) := by
    show (w.setCell ⟨g, l.length / 8, none⟩ (.int .u8 x)).heap[b]? = _
    rw [Below.heap_setCell _ _ _ _ (by simp; omega)]; exact h.head
  have h2 := heap_setCell_same _ b 1 _ T (.int .i64 y) h1
  have o1 : ((w.setCell ⟨g, l.length / 8, none⟩ (.int .u8 x)).drew).ownsRow (b + 1) 5 1 (.slice (some ⟨g, 0, none⟩) (l.length / 8 + 1) cap) (l.length / 8 + 1) ((xs.map vb).set (l.length / 8) (.int .u8 x)) := (h.own.stored (l.length / 8) (.int .u8 x)).1
  have o2 := ownsRow_setCell_below o1 (a := ⟨b, 1, none⟩) (by simp) (.int .i64 y)
  have e1 : (xs.map vb).set (l.length / 8) (.int .u8 x) = (pk (l ++ bitsOf c k)).map vb := by
    rw [h.next c k hk hs, List.map_set, hx]; rfl
  rw [e1] at o2
  refine ⟨⟨?_, ?_, ?_⟩, ?_, fun k hk => .inl hk⟩
  · rw [h2, hy]; simp
  · have e2 : ((l ++ bitsOf c k).length + 7) / 8 = l.length / 8 + 1 := by simp; omega
    rw [e2]; exact o2
  · simp; omega
  · exact Apart.setCell (Apart.drew (Apart.setCell (Apart.refl _ w) (p := ⟨g, l.length / 8, none⟩) (fun _ => .inr rfl) _)) (p := ⟨b, 1, none⟩) (fun _ => .inl rfl) _
theorem or_byte (B y k f : Nat) (hB : B < 256) (hk : k ≤ 8) :
    bits .or .u8 (B : Int) (IntKind.u64.wrap ((y : Int) * 2 ^ (8 - k)) % 256 / 2 ^ f) = ((B ||| y % 2 ^ k * 2 ^ (8 - k) / 2 ^ f : Nat) : Int) := by
  have e1 : (256 : Nat) = 2 ^ k * 2 ^ (8 - k) := by
    rw [← Nat.pow_add]
    have : k + (8 - k) = 8 := by omega
    rw [this]
  have e2 : IntKind.u64.wrap ((y : Int) * 2 ^ (8 - k)) % 256 = ((y % 2 ^ k * 2 ^ (8 - k) : Nat) : Int) := by
    rw [← Nat.mul_mod_mul_right, ← e1, IntKind.wrap_u64, Int.emod_emod_of_dvd _ (by decide)]
    simp
  have l1 : y % 2 ^ k * 2 ^ (8 - k) / 2 ^ f < 256 := by
    have : y % 2 ^ k * 2 ^ (8 - k) < 256 := by
      rw [e1]
      have e3 : 2 ^ k * 2 ^ (8 - k) = 256 := e1.symm
      exact Nat.mul_lt_mul_of_pos_right (Nat.mod_lt _ (Nat.two_pow_pos _)) (Nat.two_pow_pos _)
    exact Nat.lt_of_le_of_lt (Nat.div_le_self _ _) this
  rw [e2]
  have e4 : ((y % 2 ^ k * 2 ^ (8 - k) : Nat) : Int) / 2 ^ f = ((y % 2 ^ k * 2 ^ (8 - k) / 2 ^ f : Nat) : Int) := by simp
  rw [e4, u8_or_nat _ _ hB l1]
end Go.Proofs.YtdhbakknplnnkaaGreat.Nk
namespace Go.Proofs.YtdhbakknplnnkaaGreat.Nk
open Go.RowKit

theorem info5 : (Tryz.prog.info? 5).map (fun i => (i.zero, i.size, i.bytes)) = some (some (.int .u8 0), 1, 1) := by kernel_rfl
theorem frame74 (a : Act) (hs : a.tmps.size = 74) (hd : a.defers = []) : ∃ u : Nat → Value, (∀ i, a.tmps.getD i undef = u i) ∧ a = { tmps := #[u 0, u 1, u 2, u 3, u 4, u 5, u 6, u 7, u 8, u 9, u 10, u 11, u 12, u 13, u 14, u 15, u 16, u 17, u 18, u 19, u 20, u 21, u 22, u 23, u 24, u 25, u 26, u 27, u 28, u 29, u 30, u 31, u 32, u 33, u 34, u 35, u 36, u 37, u 38, u 39, u 40, u 41, u 42, u 43, u 44, u 45, u 46, u 47, u 48, u 49, u 50, u 51, u 52, u 53, u 54, u 55, u 56, u 57, u 58, u 59, u 60, u 61, u 62, u 63, u 64, u 65, u 66, u 67, u 68, u 69, u 70, u 71, u 72, u 73], defers := [] } := frame_of a 74 hs hd
end Go.Proofs.YtdhbakknplnnkaaGreat.Nk
namespace Go.Proofs.YtdhbakknplnnkaaGreat.Nk
open Go.RowKit

/-- What Put lays behind l. -/
def putS (l : List Bool) (x : Nat) (n : Int) : List Bool := if 0 ≤ n ∧ n ≤ 32 ∧ (l.length : Int) + n ≤ 524288 then l ++ bitsOf x n.toNat else l
/-- What Align lays behind l. -/
def alignS (l : List Bool) (n : Int) : List Bool := if 1 ≤ n ∧ n ≤ 64 ∧ (l.length : Int) + (n - l.length % n) % n ≤ 524288 then l ++ bitsOf 0 ((n - l.length % n) % n).toNat else l
/-- The bytes of a writer's row as a string. -/
theorem Wr.conv {T : TypeId} {w : World} {b : Nat} {v : Value} {l : List Bool} (h : Wr T w b v l) : (convert 82 9 v).run Tryz.prog w = .ok (.string (packS l)) w := by
  have hu : Tryz.prog.underlying 82 = some (.slice 5) := Tryz.underlying82
  have h5 : Tryz.prog.underlying 5 = some (.int .u8) := Tryz.underlying5
  have h9 : Tryz.prog.underlying 9 = some .string := Tryz.underlying9
  have ho := h.own
  have hlen : ((pk l).map UInt8.ofNat).length = (l.length + 7) / 8 := by simp
  rcases ho.2 with ⟨rfl, hn⟩ | ⟨g, cap, cur, rfl, hg, hh, r⟩
  · rw [run_convert_bytes_string w 82 9 5 none 0 0 hu h5 h9]
    have e : packS l = ⟨#[]⟩ := by
      have : pk l = [] := List.eq_nil_of_length_eq_zero (by rw [pk_len]; omega)
      unfold packS; rw [this]; rfl
    rw [e]; rfl
  · have := run_convert_bytes_back (P := Tryz.prog) w 82 9 5 ⟨g, 0, none⟩ cap ((pk l).map UInt8.ofNat) hu h5 h9 (fun j hj => by
      have hj' : j < (l.length + 7) / 8 := by rw [hlen] at hj; exact hj
      rw [Addr.add_lit, Nat.zero_add, ho.cellAt j (by omega), List.getElem?_map, pk_get l j hj']
      have hb := bv_lt l j
      have e : ((pk l).map UInt8.ofNat)[j] = UInt8.ofNat (bv l j) := by simp [pk]
      rw [e, UInt8.toNat_ofNat_of_lt' (by simpa using hb)]; rfl)
    rw [hlen] at this
    exact this
end Go.Proofs.YtdhbakknplnnkaaGreat.Nk
namespace Go.Proofs.YtdhbakknplnnkaaGreat.Nk
open Go.RowKit

theorem or_bit (B f : Nat) (c : Nat) (hB : B < 256) (hf : f < 8) (hc : c < 2) :
    bits .or .u8 (B : Int) ((c : Int) * 2 ^ (7 - f) % 256) = ((B ||| c % 2 ^ 1 * 2 ^ (8 - 1) / 2 ^ f : Nat) : Int) := by
  have e1 : c % 2 ^ 1 = c := by omega
  have e2 : c * 2 ^ (8 - 1) / 2 ^ f = c * 2 ^ (7 - f) := by
    have : 8 - 1 = (7 - f) + f := by omega
    rw [this, Nat.pow_add, ← Nat.mul_assoc, Nat.mul_div_cancel _ (Nat.two_pow_pos _)]
  have l1 : c * 2 ^ (7 - f) < 256 := by
    have : 2 ^ (7 - f) ≤ 2 ^ 7 := Nat.pow_le_pow_right (by decide) (by omega)
    have h2 : c * 2 ^ (7 - f) ≤ 1 * 2 ^ (7 - f) := Nat.mul_le_mul_right _ (by omega)
    omega
  have e3 : ((c : Int) * 2 ^ (7 - f) % 256) = ((c * 2 ^ (7 - f) : Nat) : Int) := by
    have : ((c : Int) * 2 ^ (7 - f)) = ((c * 2 ^ (7 - f) : Nat) : Int) := by simp
    rw [this]; omega
  rw [e1, e2, e3, u8_or_nat _ _ hB l1]
set_option maxRecDepth 100000 in
set_option maxHeartbeats 1000000 in
theorem bit_any (b : Nat) (v : Value) (l : List Bool) (c : Nat) (hc : c < 2) (h2 : l.length + 1 ≤ 524288) (w : World) (h : Wr 120 w b v l) :
    Calls Tryz.prog 53 #[.pointer (some ⟨b, 0, none⟩), .int .u8 (c : Int)] w fun e w' => e = .returned (.tuple #[]) ∧ ∃ v', Wr 120 w' b v' (l ++ bitsOf c 1) ∧ Tch b v v' w w' := by
  obtain ⟨c0, c1, f0, f1⟩ := cells2 h.head
  have hbl := h.lt
  have HR := mkHid h
  clear h
  obtain ⟨q, Hq⟩ : ∃ q, Hid (l.length / 8 = q) := ⟨_, rfl⟩
  obtain ⟨f, Hf⟩ : ∃ f, Hid (l.length % 8 = f) := ⟨_, rfl⟩
  obtain ⟨L, HL⟩ : ∃ L, Hid (l.length = L) := ⟨_, rfl⟩
  rw [HL.out] at Hq Hf c1
  rw [HL.out] at h2
  have hq : (L : Int) / 8 = (q : Nat) := by have := Hq.out; omega
  have hf : (L : Int) % 8 = (f : Nat) := by have := Hf.out; omega
  have hf1 : f < 8 := by have := Hf.out; omega
  go_enter Tryz.func53, Tryz.ntmps53
  go_upto_if 9 with fail
  go_cut [] (fun wc => ∃ g cap xs, Mid 120 wc b g cap l xs ∧ Tch b v (.slice (some ⟨g, 0, none⟩) (l.length / 8 + 1) cap) w wc)
  case first =>
    by_cases hf0 : f = 0
    · obtain ⟨i0, hi, hz0, hz1, hz2⟩ := info_parts info5
      have HO := mkHid (HR.out.own)
      go_wp2_with (at_builtin; refine wpList_append_own2 _ rfl (.tmp 14) (.tmp 15) 82 rfl (b + 1) 5 i0 (.int .u8 0) 1 1 Tryz.underlying82 hi hz0 hz1 hz2 rfl (by decide) v ((l.length + 7) / 8) ((pk l).map vb) rfl (HO.out.alloc _) ⟨w.heap.size, 0, none⟩ 1 1 [.int .u8 0] rfl rfl (cell_one_new _ _ _) (by intro u hu; simp at hu; subst hu; rfl) (by unfold maxLen; rw [HL.out]; omega) (by rw [HL.out]; omega) (by simp; omega) ?_; intro v1 w1 hown1 hgrow1 hnew1; obtain ⟨hd1, g, cap, hv1, hmid, htch⟩ := HR.out.grown (by rw [HL.out, Hf.out]; exact hf0) _ hown1 hgrow1 hnew1; subst hv1; obtain ⟨c0', c1', f0', f1'⟩ := cells2 hd1; have HM := mkHid hmid; have HT1 := mkHid htch; clear hown1 hgrow1 hnew1 hd1 hmid htch)
      go_meet
      case rel => exact ⟨g, cap, _, HM.out, HT1.out⟩
    · go_wp2
      go_meet
      case rel =>
        obtain ⟨g, cap, rfl, hm⟩ := HR.out.mid (by rw [HL.out, Hf.out]; exact hf0)
        exact ⟨g, cap, _, hm, Tch.refl _ _ _⟩
  case rest =>
    obtain ⟨g, cap, xs, hmid, htch⟩ := hcut
    obtain ⟨d0, d1, e0, e1⟩ := cells2 hmid.head
    have d2 := hmid.own.cellAt (l.length / 8) (by omega)
    have e2 := hmid.own.frozenAt (l.length / 8)
    rw [List.getElem?_map, hmid.last] at d2
    simp only [Option.map_some, vb] at d2
    rw [HL.out, Hq.out] at d0 d2 e2
    rw [HL.out] at d1
    have HB := mkHid (bv_lt l q)
    obtain ⟨B, HB2⟩ : ∃ B, Hid (bv l q = B) := ⟨_, rfl⟩
    rw [HB2.out] at d2
    have HM := mkHid hmid
    have HT1 := mkHid htch
    have hq2 : (q : Int) < (q : Int) + 1 := by omega
    clear hmid htch c0 c1 f0 f1
    have hgb := HM.out.lt.1
    have hgb1 : ¬ g = b := by omega
    have hgb2 : ¬ b = g := by omega
    go_wp2
    go_region
    go_wp2
    go_returns
    rw [or_bit B f c (by have := HB.out; rw [HB2.out] at this; exact this) hf1 hc]
    obtain ⟨k1, k2⟩ := HM.out.done c 1 (by omega) (by rw [HL.out, Hf.out]; omega) (by rw [HL.out]; omega) (((B ||| c % 2 ^ 1 * 2 ^ (8 - 1) / 2 ^ f : Nat) : Int)) ((L : Int) + 1) (by rw [HL.out, Hq.out, Hf.out, HB2.out]) (by rw [HL.out]; rfl)
    rw [HL.out, Hq.out] at k1 k2
    have ht := HT1.out
    rw [HL.out, Hq.out] at ht
    exact ⟨rfl, _, k1, ht.trans k2⟩
theorem rwrite_any (w : World) :
    Calls Tryz.prog 30 #[] w fun e w' => e = .returned (.pointer (some ⟨w.heap.size, 0, none⟩)) ∧ Wr 120 w' w.heap.size (.slice none 0 0) [] ∧ Apart (fun _ => False) w w' ∧ w'.heap.size = w.heap.size + 1 := by
  go_enter Tryz.func30, Tryz.ntmps30
  go_wp2
  go_ret
  exact ⟨rfl, ⟨heap_alloc_new _ _, World.ownsRow_nil _ _ _ _, Nat.zero_le _⟩, (Apart.refl _ _).alloc _, by simp⟩
theorem rtext_any (b : Nat) (v : Value) (l : List Bool) (w : World) (h : Wr 120 w b v l) :
    Calls Tryz.prog 33 #[.pointer (some ⟨b, 0, none⟩)] w fun e w' => e = .returned (.string (packS l)) ∧ w' = w := by
  obtain ⟨c0, c1, f0, f1⟩ := cells2 h.head
  have hc := h.conv
  generalize packS l = s at *
  clear h
  go_enter Tryz.func33, Tryz.ntmps33
  go_wp2
  go_ret
  exact ⟨rfl, rfl⟩
theorem bit_of (x j : Nat) : (x / 2 ^ j % 2) < 2 := Nat.mod_lt _ (by decide)
theorem and_bit (x : Int) (x0 : 0 ≤ x) (x1 : x < 4294967296) (j : Nat) : bits .and .u32 (x / 2 ^ j) 1 % 256 = ((x.toNat / 2 ^ j % 2 : Nat) : Int) := by
  obtain ⟨X, rfl⟩ : ∃ X : Nat, x = X := ⟨x.toNat, by omega⟩
  have e1 : ((X : Int) / 2 ^ j) = ((X / 2 ^ j : Nat) : Int) := by simp
  have l1 : X / 2 ^ j < 4294967296 := Nat.lt_of_le_of_lt (Nat.div_le_self _ _) (by omega)
  have e2 := u32_and_nat (X / 2 ^ j) 1 l1 (by decide)
  rw [Nat.and_one_is_mod] at e2
  have e3 : bits .and .u32 ((X / 2 ^ j : Nat) : Int) 1 = ((X / 2 ^ j % 2 : Nat) : Int) := e2
  rw [e1, e3, Int.toNat_natCast]
  have := bit_of X j
  omega
set_option maxRecDepth 100000 in
set_option maxHeartbeats 1000000 in
theorem rput_in (b : Nat) (v : Value) (l : List Bool) (x : Int) (n : Nat) (x0 : 0 ≤ x) (x1 : x < 4294967296) (h1 : n ≤ 32) (h2 : l.length + n ≤ 524288) (w : World) (h : Wr 120 w b v l) :
    Calls Tryz.prog 31 #[.pointer (some ⟨b, 0, none⟩), .int .u32 x, .int .i64 n] w fun e w' => e = .returned (.tuple #[]) ∧ ∃ v', Wr 120 w' b v' (l ++ bitsOf x.toNat n) ∧ Tch b v v' w w' := by
  obtain ⟨c0, c1, f0, f1⟩ := cells2 h.head
  have H := mkHid h
  have hl : (n : Int) ≤ 524288 - (l.length : Int) := by omega
  have hl1 : (l.length : Int) ≤ 524288 := by omega
  clear h
  go_enter Tryz.func31, Tryz.ntmps31
  go_wp2
  clear c0 c1 f0 f1 hl hl1
  go_loopw [6] (fun i wr => ∃ (j : Nat) (vc : Value) (lc : List Bool), j ≤ n ∧ i = .int .i64 ((j : Int) - 1) ∧ Wr 120 wr b vc lc ∧ lc ++ bitsOf x.toNat j = l ++ bitsOf x.toNat n ∧ Tch b v vc w wr) (fun i _ => (intOf i + 1).toNat)
  case atStart => exact ⟨n, v, l, Nat.le_refl _, rfl, H.out, rfl, Tch.refl _ _ _⟩
  case round =>
    obtain ⟨j, vc, lc, hj, rfl, hw, hlist, ht⟩ := hrel
    have HW := mkHid hw
    have HLI := mkHid hlist
    have HT := mkHid ht
    have hlen : lc.length + j = l.length + n := by have := congrArg List.length hlist; simpa using this
    clear hw hlist ht H
    cases j with
    | zero =>
      rw [show (((0 : Nat) : Int) - 1) = -1 from rfl]
      go_wp2
      go_returns
      refine ⟨rfl, vc, ?_, HT.out⟩
      rw [← HLI.out, bitsOf, List.append_nil]
      exact HW.out
    | succ j =>
      rw [show (((j + 1 : Nat) : Int) - 1) = (j : Int) from by omega]
      have hmin : min j 32 = j := by omega
      obtain ⟨c, he, HC⟩ : ∃ c : Nat, bits .and .u32 (x / 2 ^ j) 1 % 256 = (c : Int) ∧ Hid (c = x.toNat / 2 ^ j % 2) := ⟨_, and_bit x x0 x1 j, rfl⟩
      go_wp2_with fail
      refine (bit_any b vc lc c (by rw [HC.out]; exact bit_of _ _) (by omega) _ HW.out).mono ?_
      rintro e w2 ⟨rfl, v2, h3, t3⟩
      have H3 := mkHid h3
      have T3 := mkHid (HT.out.trans t3)
      clear h3 t3
      go_wp2
      go_roundw
      case rel =>
        refine ⟨j, v2, _, by omega, by go_num, H3.out, ?_, T3.out⟩
        have e1 : bitsOf c 1 = bitsOf (x.toNat / 2 ^ j) 1 := by rw [HC.out]; exact bitsOf_mod _ 1 1 (Nat.le_refl _)
        rw [← HLI.out, e1, List.append_assoc, ← bitsOf_split, Nat.add_comm]
      case measure => simp [intOf]
theorem rput_out (b : Nat) (v : Value) (l : List Bool) (x n : Int) (hn : ¬ (0 ≤ n ∧ n ≤ 32 ∧ (l.length : Int) + n ≤ 524288)) (w : World) (h : Wr 120 w b v l) :
    Calls Tryz.prog 31 #[.pointer (some ⟨b, 0, none⟩), .int .u32 x, .int .i64 n] w fun e w' => e = .returned (.tuple #[]) ∧ w' = w := by
  obtain ⟨c0, c1, f0, f1⟩ := cells2 h.head
  have hl1 : (l.length : Int) ≤ 524288 := by have := h.most; omega
  clear h
  by_cases h1 : n < 0
  · clear hn
    go_enter Tryz.func31, Tryz.ntmps31
    go_wp2
    go_returns
    exact ⟨rfl, rfl⟩
  · by_cases h2 : 32 < n
    · clear hn
      go_enter Tryz.func31, Tryz.ntmps31
      go_wp2
      go_returns
      exact ⟨rfl, rfl⟩
    · have h3 : 524288 - (l.length : Int) < n := by omega
      clear hn
      go_enter Tryz.func31, Tryz.ntmps31
      go_wp2
      go_returns
      exact ⟨rfl, rfl⟩
theorem rput_any (b : Nat) (v : Value) (l : List Bool) (x n : Int) (x0 : 0 ≤ x) (x1 : x < 4294967296) (w : World) (h : Wr 120 w b v l) :
    Calls Tryz.prog 31 #[.pointer (some ⟨b, 0, none⟩), .int .u32 x, .int .i64 n] w fun e w' => e = .returned (.tuple #[]) ∧ ∃ v', Wr 120 w' b v' (putS l x.toNat n) ∧ Tch b v v' w w' := by
  by_cases hc : 0 ≤ n ∧ n ≤ 32 ∧ (l.length : Int) + n ≤ 524288
  · unfold putS
    rw [if_pos hc]
    obtain ⟨m, rfl⟩ : ∃ m : Nat, n = m := ⟨n.toNat, by omega⟩
    exact rput_in b v l x m x0 x1 (by omega) (by omega) w h
  · unfold putS
    rw [if_neg hc]
    exact (rput_out b v l x n hc w h).mono fun e w' ⟨h1, h2⟩ => ⟨h1, v, by subst h2; exact h, by subst h2; exact Tch.refl _ _ _⟩
theorem al_end (L n r m : Nat) (h0 : 1 ≤ n) (hr : L % n = r) (hm : (n - r) % n = m) : (L + m) % n = 0 := by
  have hr1 : r < n := by rw [← hr]; exact Nat.mod_lt _ (by omega)
  by_cases h : r = 0
  · subst h
    rw [Nat.sub_zero, Nat.mod_self] at hm
    rw [← hm, Nat.add_zero, hr]
  · rw [Nat.mod_eq_of_lt (by omega)] at hm
    have e : L + m = n * (L / n + 1) := by rw [Nat.mul_add, Nat.mul_one]; have := Nat.div_add_mod L n; omega
    rw [e, Nat.mul_mod_right]
theorem al_step (L n r m j : Nat) (h0 : 1 ≤ n) (hr : L % n = r) (hm : (n - r) % n = m) (hj : j < m) : ¬ (L + j) % n = 0 := by
  have hr1 : r < n := by rw [← hr]; exact Nat.mod_lt _ (by omega)
  by_cases h : r = 0
  · subst h
    rw [Nat.sub_zero, Nat.mod_self] at hm
    omega
  · rw [Nat.mod_eq_of_lt (by omega)] at hm
    have e : L + j = n * (L / n) + (r + j) := by have := Nat.div_add_mod L n; omega
    rw [e, Nat.mul_add_mod, Nat.mod_eq_of_lt (by omega)]
    omega
end Go.Proofs.YtdhbakknplnnkaaGreat.Nk
namespace Go.Proofs.YtdhbakknplnnkaaGreat.Nk
open Go.RowKit

theorem rread_any (s : ByteArray) (w : World) :
    Calls Tryz.prog 43 #[.string s] w fun e w' => e = .returned (.pointer (some ⟨w.heap.size, 0, none⟩)) ∧ Rd 136 w' w.heap.size s (some 0) ∧ Apart (fun _ => False) w w' ∧ w'.heap.size = w.heap.size + 1 := by
  go_enter Tryz.func43, Tryz.ntmps43
  go_wp2
  go_ret
  exact ⟨rfl, ⟨heap_alloc_new _ _, Nat.zero_le _⟩, (Apart.refl _ _).alloc _, by simp⟩
theorem rleft_any (b : Nat) (s : ByteArray) (hs : s.size ≤ 1000000) (st : Option Nat) (w : World) (h : Rd 136 w b s st) :
    Calls Tryz.prog 45 #[.pointer (some ⟨b, 0, none⟩)] w fun e w' => e = .returned (.int .i64 (gleft s st)) ∧ ∃ n, w' = w.drewN n := by
  cases st with
  | none =>
    obtain ⟨s', p, h⟩ := h
    obtain ⟨c0, c1, c2, f0, f1, f2⟩ := cells3 h
    clear h
    go_enter Tryz.func45, Tryz.ntmps45
    go_wp2
    go_ret
    exact ⟨rfl, 0, rfl⟩
  | some p =>
    obtain ⟨c0, c1, c2, f0, f1, f2⟩ := cells3 h.1
    have hp := h.2
    clear h
    go_enter Tryz.func45, Tryz.ntmps45
    go_wp2
    go_quiet (fail)
    go_wp2
    go_ret
    exact ⟨rfl, _, rfl⟩
theorem rbad_end {w : World} {b : Nat} {s s' : ByteArray} {p : Int} {x : Bool} (h : w.heap[b]? = some (.cells #[.string s', .int .i64 p, .bool x] 136 (0, 0))) (n : Nat) :
    Rd 136 ((w.drewN n).setCell ⟨b, 2, none⟩ (.bool true)) b s none ∧ Apart (· = b) w ((w.drewN n).setCell ⟨b, 2, none⟩ (.bool true)) := by
  have h0 : (w.drewN n).heap[b]? = some (.cells #[.string s', .int .i64 p, .bool x] 136 (0, 0)) := h
  have h1 := heap_setCell_same _ b 2 _ 136 (.bool true) h0
  refine ⟨⟨s', p, ?_⟩, ?_⟩
  · rw [h1]; rfl
  · exact Apart.setCell ((Apart.refl (· = b) w).drewN n) (p := ⟨b, 2, none⟩) (fun _ => rfl) _
theorem rget_none (b : Nat) (s : ByteArray) (n : Int) (w : World) (h : Rd 136 w b s none) :
    Calls Tryz.prog 44 #[.pointer (some ⟨b, 0, none⟩), .int .i64 n] w fun e w' => e = .returned (.int .u32 0) ∧ Rd 136 w' b s none ∧ Apart (· = b) w w' := by
  obtain ⟨s', p, h⟩ := h
  obtain ⟨c0, c1, c2, f0, f1, f2⟩ := cells3 h
  have H := mkHid h
  clear h
  go_enter Tryz.func44, Tryz.ntmps44
  go_wp2
  go_quiet (fail)
  go_wp2
  go_ret
  exact ⟨rfl, rbad_end H.out nq⟩
theorem rget_wrong (b : Nat) (s : ByteArray) (hs : s.size ≤ 1000000) (p : Nat) (n : Int) (hn : ¬ (0 ≤ n ∧ n ≤ 32 ∧ (p : Int) + n ≤ 8 * s.size)) (w : World) (h : Rd 136 w b s (some p)) :
    Calls Tryz.prog 44 #[.pointer (some ⟨b, 0, none⟩), .int .i64 n] w fun e w' => e = .returned (.int .u32 0) ∧ Rd 136 w' b s none ∧ Apart (· = b) w w' := by
  obtain ⟨c0, c1, c2, f0, f1, f2⟩ := cells3 h.1
  have hp := h.2
  have H := mkHid h.1
  clear h
  by_cases h1 : n < 0
  · clear hn
    go_enter Tryz.func44, Tryz.ntmps44
    go_wp2
    go_quiet (fail)
    go_wp2
    go_ret
    exact ⟨rfl, rbad_end H.out nq⟩
  · by_cases h2 : 32 < n
    · have d1 : decide (n < 0) = false := by simpa using h1
      clear hn
      go_enter Tryz.func44, Tryz.ntmps44
      go_wp2
      go_quiet (fail)
      go_wp2
      go_ret
      exact ⟨rfl, rbad_end H.out nq⟩
    · have h3 : 8 * (s.size : Int) - p < n := by omega
      have d1 : decide (n < 0) = false := by simpa using h1
      have d2 : decide (32 < n) = false := by simpa using h2
      clear hn
      go_enter Tryz.func44, Tryz.ntmps44
      go_wp2
      go_quiet (fail)
      go_wp2
      go_ret
      exact ⟨rfl, rbad_end H.out nq⟩
theorem bit_step (s : ByteArray) (p r q f P n : Nat) (hP : p + r = P) (hq : P / 8 = q) (hf : P % 8 = f) (hr : r < n) (hn : n ≤ 32) (hlt : q < s.size) :
    ((gv s p r : Int) * 2 % 4294967296 + bits .and .u8 ((s[q].toNat : Int) / 2 ^ (7 - f)) 1 % 4294967296) % 4294967296 = (gv s p (r + 1) : Int) := by
  have g1 := gv_lt s p (r + 1)
  have p2 : 2 ^ (r + 1) ≤ 2 ^ 32 := Nat.pow_le_pow_right (by decide) (by omega)
  have e0 : bt s P = s[q].toNat / 2 ^ (7 - f) % 2 := by
    unfold bt
    rw [hq, hf]
    congr 3
    rw [List.getD_eq_getElem?_getD, List.getElem?_eq_getElem (by simpa using hlt)]
    rfl
  have e1 : ((s[q].toNat : Int) / 2 ^ (7 - f)) = ((s[q].toNat / 2 ^ (7 - f) : Nat) : Int) := by simp
  have l1 : s[q].toNat / 2 ^ (7 - f) < 256 := Nat.lt_of_le_of_lt (Nat.div_le_self _ _) s[q].toNat_lt
  have e2 : bits .and .u8 ((s[q].toNat / 2 ^ (7 - f) : Nat) : Int) 1 = ((bt s P : Nat) : Int) := by
    have := u8_and_nat (s[q].toNat / 2 ^ (7 - f)) 1 l1 (by decide)
    rw [e0, ← Nat.and_one_is_mod]; exact this
  have e3 : gv s p (r + 1) = 2 * gv s p r + bt s P := by rw [← hP]; rfl
  rw [e1, e2, e3]
  rw [e3] at g1
  omega

set_option maxRecDepth 100000 in
theorem rget_ok (b : Nat) (s : ByteArray) (hs : s.size ≤ 1000000) (p n : Nat) (h1 : n ≤ 32) (h2 : p + n ≤ 8 * s.size) (w : World) (h : Rd 136 w b s (some p)) :
    Calls Tryz.prog 44 #[.pointer (some ⟨b, 0, none⟩), .int .i64 n] w fun e w' => e = .returned (.int .u32 (gv s p n)) ∧ Rd 136 w' b s (some (p + n)) ∧ Apart (· = b) w w' := by
  obtain ⟨c0, c1, c2, f0, f1, f2⟩ := cells3 h.1
  have H := mkHid h
  have h3 : (n : Int) ≤ 8 * (s.size : Int) - p := by omega
  have d1 : decide ((n : Int) < 0) = false := by simp
  have d2 : decide ((32 : Int) < n) = false := by simp; omega
  have d3 : decide (8 * (s.size : Int) - p < n) = false := by simp; omega
  clear h
  go_enter Tryz.func44, Tryz.ntmps44
  go_wp2
  go_quiet (fail)
  go_wp2
  clear c0 c1 c2 f0 f1 f2 d1 d2 d3
  go_loopw [5, 6] (fun v i w' => ∃ r : Nat, r ≤ n ∧ i = .int .i64 (r : Int) ∧ v = .int .u32 (gv s p r : Int) ∧ Rd 136 w' b s (some (p + r)) ∧ Apart (· = b) w w') (fun _ i _ => n - (intOf i).toNat)
  case atStart => exact ⟨0, Nat.zero_le _, rfl, rfl, drew_rd nq H.out, (Apart.refl _ _).drewN nq⟩
  case round =>
    obtain ⟨r, hrn, rfl, rfl, hr, ha⟩ := hrel
    obtain ⟨P, HP⟩ : ∃ P, Hid (p + r = P) := ⟨_, rfl⟩
    rw [HP.out] at hr
    obtain ⟨c0, c1, c2, f0, f1, f2⟩ := cells3 hr.1
    have HR := mkHid hr
    have HA := mkHid ha
    clear hr ha
    by_cases hlt : r < n
    · have hP : P + 1 ≤ 8 * s.size := by have := HP.out; omega
      have hq1 : P / 8 < s.size := by omega
      have hf1 : P % 8 < 8 := by omega
      obtain ⟨q, Hq⟩ : ∃ q, Hid (P / 8 = q) := ⟨_, rfl⟩
      obtain ⟨f, Hf⟩ : ∃ f, Hid (P % 8 = f) := ⟨_, rfl⟩
      have hq : (P : Int) / 8 = (q : Nat) := by have := Hq.out; omega
      have hf : (P : Int) % 8 = (f : Nat) := by have := Hf.out; omega
      rw [Hq.out] at hq1
      rw [Hf.out] at hf1
      go_wp2
      go_quiet (fail)
      go_wp2
      obtain ⟨k1, k2⟩ := adv_end HR.out (k := 1) hP nq
      refine ⟨⟨r + 1, by omega, by go_num, ?_, ?_, HA.out.trans k2 (fun _ _ h => h)⟩, by simp [intOf]; omega⟩
      · rw [bit_step s p r q f P n HP.out Hq.out Hf.out hlt h1 hq1]
      · have : p + (r + 1) = P + 1 := by have := HP.out; omega
        rw [this]; exact k1
    · obtain rfl : r = n := by omega
      go_wp2
      go_ret
      have hr := HR.out
      rw [← HP.out] at hr
      exact ⟨rfl, hr, HA.out⟩
/-- Get of the reference, whatever it is asked. -/
theorem rget_any (b : Nat) (s : ByteArray) (hs : s.size ≤ 1000000) (st : Option Nat) (n : Int) (w : World) (h : Rd 136 w b s st) :
    Calls Tryz.prog 44 #[.pointer (some ⟨b, 0, none⟩), .int .i64 n] w fun e w' => e = .returned (.int .u32 (gval s st n)) ∧ Rd 136 w' b s (gnext s st n) ∧ Apart (· = b) w w' := by
  cases st with
  | none => exact rget_none b s n w h
  | some p =>
    simp only [gval, gnext]
    by_cases hc : 0 ≤ n ∧ n ≤ 32 ∧ (p : Int) + n ≤ 8 * s.size
    · rw [if_pos hc, if_pos hc]
      obtain ⟨m, rfl⟩ : ∃ m : Nat, n = m := ⟨n.toNat, by omega⟩
      exact rget_ok b s hs p m (by omega) (by omega) w h
    · rw [if_neg hc, if_neg hc]
      exact rget_wrong b s hs p n hc w h
end Go.Proofs.YtdhbakknplnnkaaGreat.Nk
namespace Go.Proofs.YtdhbakknplnnkaaGreat.Nk
open Go.RowKit

theorem Tch.below {b : Nat} {v v' : Value} {w w' : World} {T : TypeId} {l : List Bool} (h : Tch b v v' w w') (hw : Wr T w b v l) (B : Nat) (hB : B ≤ b) : Below B w w' :=
  h.ap.below B (by have := hw.lt; omega) (by
    rintro k (rfl | e)
    · exact hB
    · have := hw.ownlt k e; omega)
theorem Apart.belowF {w w' : World} (h : Apart (fun _ => False) w w') (B : Nat) (hB : B ≤ w.heap.size) : Below B w w' := h.below B hB (fun _ h => h.elim)
theorem Apart.belowZ {w w' : World} (h : Apart (fun _ => False) w w') : Below w.heap.size w w' := h.below _ (Nat.le_refl _) (fun _ h => h.elim)
theorem Apart.belowE {w w' : World} {b : Nat} (h : Apart (· = b) w w') (B : Nat) (hB : B ≤ w.heap.size) (hb : B ≤ b) : Below B w w' := h.below B hB (fun k e => by subst e; exact hb)
theorem Apart.cell {X : Nat → Prop} {w w' : World} (h : Apart X w w') {p : Addr} (hp : p.block < w.heap.size) (hx : ¬ X p.block) : w'.cell? p = w.cell? p := World.cell?_of_block (w := w) (h.block p.block hp hx)
theorem Apart.zz {a b c : World} (h : Apart (fun _ => False) a b) (k : Apart (fun _ => False) b c) : Apart (fun _ => False) a c := h.trans k (fun _ _ h => h)

/-- A slice value that holds n elements of so many cells each, the cells xs; it may be nil. -/
def SrcN (w : World) (size : Nat) (v : Value) (n : Nat) (xs : List Value) : Prop :=
  (∃ c, v = .slice none 0 c ∧ n = 0 ∧ xs = []) ∨ ∃ ad c, v = .slice (some ad) n c ∧ xs.length = n * size ∧ ∀ j u, xs[j]? = some u → w.cell? (ad.add j) = some u
section
variable {P : Program} (w : World)
theorem run_append_onto (base : Nat) (t ty e : TypeId) (i : TypeInfo) (z : Value) (size bytes : Nat) (ht : P.underlying t = some (.slice e)) (hi : P.info? e = some i) (hz : i.zero = some z)
    (hsize : i.size = size) (hby : i.bytes = bytes) (hzs : z.cells.size = size) (hsz : 0 < size)
    (v : Value) (n : Nat) (xs : List Value) (hown : w.ownsRow base e size v n xs)
    (s : Value) (m : Nat) (news : List Value) (hs : SrcN w size s m news) (h1 : ∀ u ∈ news, u.oneCell' = true)
    (h63 : n + m ≤ maxLen) (hbytes : (n + m) * bytes ≤ 140737488355328) (hbase : base ≤ w.heap.size) :
    ∃ v' w', (Builtin.append_ #[t, t] ty #[v, s]).run P w = .ok v' w' ∧ w'.ownsRow base e size v' (n + m) (xs ++ news) ∧ w.grownBy w' v.ownBlock := by
  rcases hs with ⟨c, rfl, rfl, rfl⟩ | ⟨ad, c, rfl, hl, hcell⟩
  · refine ⟨v, w, ?_, by simpa using hown, ⟨rfl, rfl, rfl, Nat.le_refl _, fun _ _ _ => rfl⟩⟩
    rcases hown.2 with ⟨rfl, rfl⟩ | ⟨g, cap, cur, rfl, hb, hg, hn, h2, h3, h4⟩
    · simp [Builtin.append_, run_underlying ht, sizeOf, typeInfo, hi, Builtin.lenOf, Builtin.firstCells]
    · simp [Builtin.append_, run_underlying ht, sizeOf, typeInfo, hi, Builtin.lenOf, Builtin.firstCells, hn, storeCells]
  · obtain ⟨v', w', a, b, c', _⟩ := run_append_own (P := P) w base t ty e i z size bytes ht hi hz hsize hby hzs hsz v n xs hown ad m c news hl hcell h1 h63 hbytes hbase
    exact ⟨v', w', a, b, c'⟩
theorem wpList_append_onto {ops : Array Oper} {rest : List Oper} {o : Oper} {a : Act} {Q : Exit → Act → World → Prop} (hgd : o.guard = none) (s x : Operand) (t : TypeId)
    (ho : o.op = .call { callee := .builtin .append, args := #[s, x], argTypes := #[t, t] })
    (base : Nat) (e : TypeId) (i : TypeInfo) (z : Value) (size bytes : Nat) (ht : P.underlying t = some (.slice e)) (hi : P.info? e = some i) (hz : i.zero = some z)
    (hsize : i.size = size) (hby : i.bytes = bytes) (hzs : z.cells.size = size) (hsz : 0 < size)
    (v : Value) (n : Nat) (xs : List Value) (hs : a.eval s = v) (hown : w.ownsRow base e size v n xs)
    (u : Value) (m : Nat) (news : List Value) (hx : a.eval x = u) (hsrc : SrcN w size u m news) (h1 : ∀ u ∈ news, u.oneCell' = true)
    (h63 : n + m ≤ maxLen) (hbytes : (n + m) * bytes ≤ 140737488355328) (hbase : base ≤ w.heap.size)
    (h : ∀ v' w', w'.ownsRow base e size v' (n + m) (xs ++ news) → w.grownBy w' v.ownBlock → wpList P ops Q rest (a.put o.dst v') w') : wpList P ops Q (o :: rest) a w :=
  wpList_plain hgd fun K hK => by
    obtain ⟨v', w', hr, h2, h3⟩ := run_append_onto (P := P) w base t o.type e i z size bytes ht hi hz hsize hby hzs hsz v n xs hown u m news hsrc h1 h63 hbytes hbase
    unfold Oper.wp execOp
    simp only [ho, resolve, invoke, builtin, Sem.run_bind, Sem.run_pure, Result.andThen_ok, List.map_toArray, List.map_cons, List.map_nil, hs, hx, hr]
    exact hK _ _ (h v' w' h2 h3)
end
theorem ownsRow_apart {w w' : World} {X : Nat → Prop} {base : Nat} {e : TypeId} {size : Nat} {v : Value} {n : Nat} {xs : List Value} (h : w.ownsRow base e size v n xs) (ha : Apart X w w') (hx : ∀ k, base ≤ k → ¬ X k) : w'.ownsRow base e size v n xs := by
  refine ⟨h.1, ?_⟩
  rcases h.2 with hn | ⟨g, cap, cur, rfl, hg, hh, r⟩
  · exact .inl hn
  · exact .inr ⟨g, cap, cur, rfl, hg, ha.heap hh (hx g hg), r⟩
theorem ownsRow_base {w : World} {base base' : Nat} {e : TypeId} {size : Nat} {v : Value} {n : Nat} {xs : List Value} (h : w.ownsRow base e size v n xs) (hb : base' ≤ base) : w.ownsRow base' e size v n xs := by
  refine ⟨h.1, ?_⟩
  rcases h.2 with hn | ⟨g, cap, cur, rfl, hg, hh, r⟩
  · exact .inl hn
  · exact .inr ⟨g, cap, cur, rfl, by omega, hh, r⟩
theorem ownsRow_slice {w : World} {base : Nat} {e : TypeId} {size : Nat} {v : Value} {n : Nat} {xs : List Value} (h : w.ownsRow base e size v n xs) : ∃ a c, v = .slice a n c := by
  rcases h.2 with ⟨rfl, rfl⟩ | ⟨g, cap, cur, rfl, _⟩
  · exact ⟨none, 0, rfl⟩
  · exact ⟨_, _, rfl⟩
theorem own_empty (w : World) (base : Nat) (e : TypeId) (size : Nat) (hb : base ≤ w.heap.size) : (w.alloc (.cells #[] e)).ownsRow base e size (.slice (some ⟨w.heap.size, 0, none⟩) 0 0) 0 [] :=
  ⟨by simp, .inr ⟨w.heap.size, 0, #[], rfl, hb, heap_alloc_new _ _, Nat.le_refl _, by unfold maxLen; omega, by simp, by simp⟩⟩
theorem ownsRow_apart2 {w w' : World} {X : Nat → Prop} {base : Nat} {e : TypeId} {size : Nat} {v : Value} {n : Nat} {xs : List Value} (h : w.ownsRow base e size v n xs) (ha : Apart X w w') (hx : ∀ k, v.ownBlock = some k → ¬ X k) : w'.ownsRow base e size v n xs := by
  refine ⟨h.1, ?_⟩
  rcases h.2 with hn | ⟨g, cap, cur, rfl, hg, hh, r⟩
  · exact .inl hn
  · exact .inr ⟨g, cap, cur, rfl, hg, ha.heap hh (hx g rfl), r⟩
theorem ownsRow_below {w w' : World} {B base : Nat} {e : TypeId} {size : Nat} {v : Value} {n : Nat} {xs : List Value} (h : w.ownsRow base e size v n xs) (ha : Below B w w') (hx : ∀ k, v.ownBlock = some k → k < B) : w'.ownsRow base e size v n xs := by
  refine ⟨h.1, ?_⟩
  rcases h.2 with hn | ⟨g, cap, cur, rfl, hg, hh, r⟩
  · exact .inl hn
  · exact .inr ⟨g, cap, cur, rfl, hg, (ha.block g (hx g rfl)).trans hh, r⟩
theorem ap_set (w : World) (b o : Nat) (v : Value) : Apart (· = b) w (w.setCell ⟨b, o, none⟩ v) := Apart.setCell (X := (· = b)) (p := ⟨b, o, none⟩) (Apart.refl _ _) (fun _ => rfl) _
/-- A block that is none of a writer's. -/
structure Bx (o : Obj) (w : World) (bx b : Nat) (v : Value) : Prop where
  heap : w.heap[bx]? = some o
  ne : bx ≠ b
  own : v.ownBlock ≠ some bx
theorem Bx.next {o : Obj} {w w' : World} {bx b : Nat} {v v' : Value} (h : Bx o w bx b v) (t : Tch b v v' w w') : Bx o w' bx b v' := by
  refine ⟨t.ap.heap h.heap ?_, h.ne, fun e => ?_⟩
  · rintro (e | e)
    · exact h.ne e
    · exact h.own e
  · rcases t.own bx e with e | e
    · exact h.own e
    · have := lt_of_heap h.heap; omega
theorem Bx.new {w : World} {b : Nat} {v : Value} {T : TypeId} {l : List Bool} (h : Wr T w b v l) (o : Obj) : Bx o (w.alloc o) w.heap.size b v :=
  ⟨heap_alloc_new _ _, by have := h.lt; omega, fun e => by have := h.ownlt _ e; omega⟩
theorem wr_alloc {T : TypeId} {w : World} {b : Nat} {v : Value} {l : List Bool} (h : Wr T w b v l) (o : Obj) : Wr T (w.alloc o) b v l := h.kept ((Apart.refl (fun _ => False) w).alloc o) (fun h => h) (fun _ _ h => h)
theorem tch_alloc (b : Nat) (v : Value) (w : World) (o : Obj) : Tch b v v w (w.alloc o) := ⟨(Apart.refl _ w).alloc o, fun _ h => .inl h⟩
theorem get_fit (b : Nat) (s : ByteArray) (hs : s.size ≤ 1000000) (p : Nat) (n : Int) (m : Nat) (e : n = m) (h1 : m ≤ 32) (h2 : p + m ≤ 8 * s.size) (w : World) (h : Rd 143 w b s (some p)) :
    Calls Tryz.prog 58 #[.pointer (some ⟨b, 0, none⟩), .int .i64 n] w fun e w' => e = .returned (.int .u32 (gv s p m)) ∧ Rd 143 w' b s (some (p + m)) ∧ Apart (· = b) w w' := by
  subst e
  exact get_ok b s hs p m h1 h2 w h
theorem rget_fit (b : Nat) (s : ByteArray) (hs : s.size ≤ 1000000) (p : Nat) (n : Int) (m : Nat) (e : n = m) (h1 : m ≤ 32) (h2 : p + m ≤ 8 * s.size) (w : World) (h : Rd 136 w b s (some p)) :
    Calls Tryz.prog 44 #[.pointer (some ⟨b, 0, none⟩), .int .i64 n] w fun e w' => e = .returned (.int .u32 (gv s p m)) ∧ Rd 136 w' b s (some (p + m)) ∧ Apart (· = b) w w' := by
  subst e
  exact rget_ok b s hs p m h1 h2 w h
theorem rleft_at (b : Nat) (s : ByteArray) (hs : s.size ≤ 1000000) (p : Nat) (w : World) (h : Rd 136 w b s (some p)) (L : Int) (hL : 8 * (s.size : Int) - p = L) :
    Calls Tryz.prog 45 #[.pointer (some ⟨b, 0, none⟩)] w fun e w' => e = .returned (.int .i64 L) ∧ ∃ n, w' = w.drewN n := by
  have := rleft_any b s hs (some p) w h
  have e : gleft s (some p) = L := hL
  rw [e] at this
  exact this
end Go.Proofs.YtdhbakknplnnkaaGreat.Nk
namespace Go.Proofs.YtdhbakknplnnkaaGreat.Nk

/-- A list with its two senders. -/
structure Nk where
  sd : Int
  md : Int
  lo : List Int

/-- Is a behind b, by 16 bits? -/
def af (a b : Int) : Bool := decide (0 ≤ a ∧ a < 65536 ∧ 0 ≤ b ∧ b < 65536 ∧ 0 < (a - b) % 65536 ∧ (a - b) % 65536 < 32768)
/-- What follows last, in a list that begins with f: as the code asks. -/
def okL (f : Int) : Int → List Int → Bool
  | _, [] => true
  | la, v :: t => af v la && (af v f && okL f v t)
/-- As the reference asks. -/
def okR (f : Int) : Int → List Int → Bool
  | _, [] => true
  | la, v :: t => af v la && (decide ((v - f) % 65536 < 32768) && okR f v t)
def isL : List Int → Bool
  | [] => false
  | f :: t => decide (t.length < 4096) && (decide (0 ≤ f) && (decide (f < 65536) && okL f f t))
theorem af_iff (a b : Int) : af a b = true ↔ (0 ≤ a ∧ a < 65536 ∧ 0 ≤ b ∧ b < 65536 ∧ 0 < (a - b) % 65536 ∧ (a - b) % 65536 < 32768) := by unfold af; simp
theorem okR_eq (f : Int) (f0 : 0 ≤ f) (f1 : f < 65536) (t : List Int) : ∀ la : Int, (la - f) % 65536 < 32768 → okR f la t = okL f la t := by
  induction t with
  | nil => intro la _; rfl
  | cons v t ih =>
    intro la hl
    unfold okR okL
    by_cases ha : af v la = true
    · have h := (af_iff _ _).1 ha
      by_cases hf : (v - f) % 65536 < 32768
      · rw [ih v hf]
        have : af v f = true := (af_iff _ _).2 ⟨h.1, h.2.1, f0, f1, by omega, hf⟩
        rw [this, decide_eq_true hf]
      · have : af v f = false := by
          rw [Bool.eq_false_iff]; intro h'; have := (af_iff _ _).1 h'; omega
        rw [this, decide_eq_false hf]; rfl
    · rw [Bool.eq_false_iff.2 ha]; rfl

/-- Those that follow la rise, as f sees them. -/
def Up (f : Int) : Int → List Int → Prop
  | _, [] => True
  | la, v :: t => (0 ≤ v ∧ v < 65536 ∧ (la - f) % 65536 < (v - f) % 65536 ∧ (v - f) % 65536 < 32768) ∧ Up f v t
theorem okL_up (f : Int) (t : List Int) : ∀ la : Int, (la - f) % 65536 < 32768 → okL f la t = true → Up f la t := by
  induction t with
  | nil => intro la _ _; trivial
  | cons v t ih =>
    intro la hl h
    unfold okL at h
    simp only [Bool.and_eq_true] at h
    obtain ⟨h1, h2, h3⟩ := h
    have g1 := (af_iff _ _).1 h1
    have g2 := (af_iff _ _).1 h2
    exact ⟨⟨g1.1, g1.2.1, by omega, by omega⟩, ih v (by omega) h3⟩
theorem up_okL (f : Int) (f0 : 0 ≤ f) (f1 : f < 65536) (t : List Int) : ∀ la : Int, 0 ≤ la → la < 65536 → Up f la t → okL f la t = true := by
  induction t with
  | nil => intro la _ _ _; rfl
  | cons v t ih =>
    intro la l0 l1 h
    obtain ⟨⟨h0, h1, h2, h3⟩, h4⟩ := h
    unfold okL
    rw [(af_iff v la).2 ⟨h0, h1, l0, l1, by omega, by omega⟩, (af_iff v f).2 ⟨h0, h1, f0, f1, by omega, by omega⟩, ih v h0 h1 h4]; rfl
theorem up_low (f : Int) (t : List Int) (la lb : Int) (h : (lb - f) % 65536 ≤ (la - f) % 65536) (hu : Up f la t) : Up f lb t := by
  cases t with
  | nil => trivial
  | cons v t => obtain ⟨⟨h0, h1, h2, h3⟩, h4⟩ := hu; exact ⟨⟨h0, h1, by omega, h3⟩, h4⟩
theorem up_drop (f : Int) (k : Nat) : ∀ (t : List Int) (la : Int), Up f la t → Up f la (t.drop k) := by
  induction k with
  | zero => intro t la h; exact h
  | succ k ih =>
    intro t la h
    cases t with
    | nil => trivial
    | cons v t =>
      obtain ⟨⟨h0, h1, h2, h3⟩, h4⟩ := h
      exact ih t la (up_low f t v la (by omega) h4)
theorem up_base (f x : Int) (t : List Int) : ∀ la : Int, (x - f) % 65536 ≤ (la - f) % 65536 → (la - f) % 65536 < 32768 → Up f la t → Up x la t := by
  induction t with
  | nil => intro la _ _ _; trivial
  | cons v t ih =>
    intro la hx hl h
    obtain ⟨⟨h0, h1, h2, h3⟩, h4⟩ := h
    exact ⟨⟨h0, h1, by omega, by omega⟩, ih v (by omega) h3 h4⟩
/-- A list that rises, within half a turn. -/
def Ri : List Int → Prop
  | [] => True
  | x :: t => 0 ≤ x ∧ x < 65536 ∧ Up x x t
theorem ri_of (x : Int) (t : List Int) (h : Up x x t) (k : Nat) : Ri (t.drop k) := by
  have := up_drop x k t x h
  cases hd : t.drop k with
  | nil => trivial
  | cons y s =>
    rw [hd] at this
    obtain ⟨⟨h0, h1, h2, h3⟩, h4⟩ := this
    exact ⟨h0, h1, up_base x y s y (by omega) h3 h4⟩
theorem ri_drop (l : List Int) (h : Ri l) (k : Nat) : Ri (l.drop k) := by
  cases l with
  | nil => simp; trivial
  | cons x t =>
    cases k with
    | zero => exact h
    | succ k => exact ri_of x t h.2.2 k
theorem isL_iff (l : List Int) : isL l = true ↔ 1 ≤ l.length ∧ l.length ≤ 4096 ∧ Ri l := by
  cases l with
  | nil => simp [isL]
  | cons f t =>
    unfold isL Ri
    simp only [Bool.and_eq_true, decide_eq_true_eq, List.length_cons]
    constructor
    · rintro ⟨h1, h2, h3, h4⟩
      exact ⟨by omega, by omega, h2, h3, okL_up f t f (by omega) h4⟩
    · rintro ⟨_, h1, h2, h3, h4⟩
      exact ⟨by omega, h2, h3, up_okL f h2 h3 t f h2 h3 h4⟩

/-! ### Entries -/
/-- How many of those that follow the entry of x tells of. -/
def tkN (x : Int) : List Int → Nat
  | [] => 0
  | v :: t => if (v - x) % 65536 ≤ 16 then tkN x t + 1 else 0
/-- Its mask, some of which stands. -/
def msk (x : Int) : Nat → List Int → Nat
  | m, [] => m
  | m, v :: t => if (v - x) % 65536 ≤ 16 then msk x (m ||| 2 ^ ((v - x) % 65536 - 1).toNat) t else m
theorem tkN_le (x : Int) (t : List Int) : tkN x t ≤ t.length := by
  induction t with
  | nil => exact Nat.le_refl _
  | cons v t ih => unfold tkN; split <;> simp <;> omega
theorem msk_lt (x : Int) (t : List Int) : ∀ m, m < 65536 → msk x m t < 65536 := by
  induction t with
  | nil => intro m h; exact h
  | cons v t ih =>
    intro m h
    unfold msk
    split
    · refine ih _ ?_
      have h2 : 2 ^ ((v - x) % 65536 - 1).toNat < 2 ^ 16 := Nat.pow_lt_pow_right (by decide) (by omega)
      exact Nat.or_lt_two_pow (n := 16) h h2
    · exact h
def ens : Nat → List Int → List (Int × Nat)
  | 0, _ => []
  | _ + 1, [] => []
  | n + 1, x :: t => (x, msk x 0 t) :: ens n (t.drop (tkN x t))
theorem ens_same (n : Nat) : ∀ (m : Nat) (l : List Int), l.length ≤ n → l.length ≤ m → ens n l = ens m l := by
  induction n with
  | zero =>
    intro m l h _
    obtain rfl := List.eq_nil_of_length_eq_zero (by omega : l.length = 0)
    cases m <;> rfl
  | succ n ih =>
    intro m l h1 h2
    cases l with
    | nil => cases m <;> rfl
    | cons x t =>
      cases m with
      | zero => simp at h2
      | succ m =>
        unfold ens
        rw [ih m (t.drop (tkN x t)) (by simp at h1 ⊢; omega) (by simp at h2 ⊢; omega)]
def enL (l : List Int) : List (Int × Nat) := ens l.length l
theorem enL_nil : enL [] = [] := rfl
theorem enL_cons (x : Int) (t : List Int) : enL (x :: t) = (x, msk x 0 t) :: enL (t.drop (tkN x t)) := by
  unfold enL
  show (x, msk x 0 t) :: ens t.length (t.drop (tkN x t)) = _
  rw [ens_same t.length (t.drop (tkN x t)).length _ (by simp) (Nat.le_refl _)]
theorem enL_len (n : Nat) : ∀ l : List Int, l.length ≤ n → (enL l).length ≤ l.length := by
  induction n with
  | zero =>
    intro l h
    obtain rfl := List.eq_nil_of_length_eq_zero (by omega : l.length = 0)
    exact Nat.le_refl _
  | succ n ih =>
    intro l h
    cases l with
    | nil => exact Nat.le_refl _
    | cons x t =>
      rw [enL_cons]
      have := ih (t.drop (tkN x t)) (by simp at h ⊢; omega)
      simp at this ⊢; omega
theorem enL_in (n : Nat) : ∀ l : List Int, l.length ≤ n → Ri l → ∀ e ∈ enL l, 0 ≤ e.1 ∧ e.1 < 65536 ∧ e.2 < 65536 := by
  induction n with
  | zero =>
    intro l h
    obtain rfl := List.eq_nil_of_length_eq_zero (by omega : l.length = 0)
    intro _ e he; simp [enL_nil] at he
  | succ n ih =>
    intro l h hr
    cases l with
    | nil => intro e he; simp [enL_nil] at he
    | cons x t =>
      rw [enL_cons]
      intro e he
      rcases List.mem_cons.1 he with rfl | he
      · exact ⟨hr.1, hr.2.1, msk_lt x t 0 (by decide)⟩
      · exact ih _ (by simp at h ⊢; omega) (ri_of x t hr.2.2 _) e he
def enB : List (Int × Nat) → List Bool
  | [] => []
  | e :: t => bitsOf e.1.toNat 16 ++ (bitsOf e.2 16 ++ enB t)
@[simp] theorem enB_len (es : List (Int × Nat)) : (enB es).length = 32 * es.length := by
  induction es with
  | nil => rfl
  | cons e t ih => simp [enB, ih]; omega
/-- A list's bits. -/
def nkB (r : Nk) : List Bool := bitsOf r.sd.toNat 32 ++ (bitsOf r.md.toNat 32 ++ enB (enL r.lo))
theorem nkB_len (r : Nk) : (nkB r).length = 64 + 32 * (enL r.lo).length := by simp [nkB]; omega
def encS (r : Nk) : ByteArray := if isL r.lo = true then packS (nkB r) else ⟨#[]⟩
def encE (r : Nk) : Int := if isL r.lo = true then 0 else 1
theorem enc_size (r : Nk) : (packS (nkB r)).size = 8 + 4 * (enL r.lo).length := by rw [packS_size, nkB_len]; omega

/-! ### What bits tell -/
/-- Of what the bits i and on of a mask tell. -/
def tl (x : Int) (m : Nat) : Nat → Nat → List Int
  | _, 0 => []
  | i, n + 1 => (if m / 2 ^ i % 2 = 1 then [(x + i + 1) % 65536] else []) ++ tl x m (i + 1) n
/-- Of what so many entries from a place on tell. -/
def deL (s : ByteArray) : Nat → Nat → List Int
  | _, 0 => []
  | p, n + 1 => (gv s p 16 : Int) :: (tl (gv s p 16 : Int) (gv s (p + 16) 16) 0 16 ++ deL s (p + 32) n)
def lost (s : ByteArray) : List Int := deL s 64 (s.size / 4 - 2)
def decE (s : ByteArray) : Int := if 65536 < s.size then 2 else if s.size % 4 ≠ 0 then 90 else if s.size < 12 then 60 else if 4096 < (lost s).length then 3 else if isL (lost s) = true then 0 else 110
def decR (s : ByteArray) : Nk := if decE s = 0 then ⟨gv s 0 32, gv s 32 32, lost s⟩ else ⟨0, 0, []⟩

theorem tl_len (x : Int) (m n : Nat) : ∀ i, (tl x m i n).length ≤ n := by
  induction n with
  | zero => intro i; exact Nat.le_refl _
  | succ n ih => intro i; have := ih (i + 1); unfold tl; split <;> simp <;> omega
theorem bit_or (m k i : Nat) : (m ||| 2 ^ k) / 2 ^ i % 2 = 1 ↔ (m / 2 ^ i % 2 = 1 ∨ k = i) := by
  have h := Nat.testBit_or m (2 ^ k) i
  rw [Nat.testBit_two_pow, Nat.testBit_eq_decide_div_mod_eq, Nat.testBit_eq_decide_div_mod_eq, Bool.eq_iff_iff] at h
  simpa using h
/-- A bit below all those that are told of stays. -/
theorem msk_bit (x : Int) (i : Nat) (t : List Int) : ∀ (m : Nat) (la : Int), i + 1 ≤ (la - x) % 65536 → Up x la t → (msk x m t / 2 ^ i % 2 = 1 ↔ m / 2 ^ i % 2 = 1) := by
  induction t with
  | nil => intro m la _ _; exact Iff.rfl
  | cons v t ih =>
    intro m la hl h
    obtain ⟨⟨h0, h1, h2, h3⟩, h4⟩ := h
    unfold msk
    split
    · rw [ih _ v (by omega) h4, bit_or]
      constructor
      · rintro (h | h)
        · exact h
        · omega
      · exact .inl
    · exact Iff.rfl
theorem small_bit (m i : Nat) (h : m < 2 ^ i) : ¬ m / 2 ^ i % 2 = 1 := by rw [Nat.div_eq_of_lt h]; decide
theorem tell_take (x : Int) (n : Nat) : ∀ (i m : Nat) (la : Int) (t : List Int), i + n = 16 → (la - x) % 65536 = i → m < 2 ^ i → Up x la t → tl x (msk x m t) i n = t.take (tkN x t) := by
  induction n with
  | zero =>
    intro i m la t hi hl hm hu
    cases t with
    | nil => rfl
    | cons v t =>
      obtain ⟨⟨h0, h1, h2, h3⟩, h4⟩ := hu
      unfold tkN
      rw [if_neg (by omega)]; rfl
  | succ n ih =>
    intro i m la t hi hl hm hu
    have hm2 : m < 2 ^ (i + 1) := Nat.lt_trans hm (Nat.pow_lt_pow_right (by decide) (by omega))
    cases t with
    | nil =>
      unfold tl
      have hb : ¬ msk x m [] / 2 ^ i % 2 = 1 := small_bit m i hm
      rw [if_neg hb, List.nil_append]
      exact ih (i + 1) m ((x + i + 1)) [] (by omega) (by omega) hm2 trivial
    | cons v t =>
      obtain ⟨⟨h0, h1, h2, h3⟩, h4⟩ := hu
      by_cases hv : (v - x) % 65536 = i + 1
      · have e1 : ((v - x) % 65536 - 1).toNat = i := by omega
        unfold tl
        have hb : msk x m (v :: t) / 2 ^ i % 2 = 1 := by
          unfold msk
          rw [if_pos (by omega), e1]
          exact (msk_bit x i t _ v (by omega) h4).2 ((bit_or _ _ _).2 (.inr rfl))
        rw [if_pos hb]
        have hm3 : m ||| 2 ^ i < 2 ^ (i + 1) := Nat.or_lt_two_pow hm2 (Nat.pow_lt_pow_right (by decide) (by omega))
        have := ih (i + 1) (m ||| 2 ^ i) v t (by omega) (by omega) hm3 h4
        unfold msk tkN
        rw [if_pos (by omega), if_pos (by omega), e1, this]
        have e2 : (x + (i : Int) + 1) % 65536 = v := by omega
        rw [e2]; rfl
      · have hb : ¬ msk x m (v :: t) / 2 ^ i % 2 = 1 := by
          intro h
          exact small_bit m i hm ((msk_bit x i (v :: t) m (x + i + 1) (by omega) ⟨⟨h0, h1, by omega, h3⟩, h4⟩).1 h)
        rw [tl, if_neg hb, List.nil_append]
        exact ih (i + 1) m (x + i + 1) (v :: t) (by omega) (by omega) hm2 ⟨⟨h0, h1, by omega, h3⟩, h4⟩
def tell (e : Int × Nat) : List Int := e.1 :: tl e.1 e.2 0 16
theorem tell_all (n : Nat) : ∀ l : List Int, l.length ≤ n → Ri l → (enL l).flatMap tell = l := by
  induction n with
  | zero =>
    intro l h _
    obtain rfl := List.eq_nil_of_length_eq_zero (by omega : l.length = 0)
    rfl
  | succ n ih =>
    intro l h hr
    cases l with
    | nil => rfl
    | cons x t =>
      rw [enL_cons, List.flatMap_cons, ih _ (by simp at h ⊢; omega) (ri_of x t hr.2.2 _)]
      show x :: tl x (msk x 0 t) 0 16 ++ _ = _
      rw [tell_take x 16 0 0 x t rfl (by omega) (by decide) hr.2.2, List.cons_append, List.take_append_drop]
theorem deL_en (es : List (Int × Nat)) : ∀ (pre post : List Bool), (∀ e ∈ es, 0 ≤ e.1 ∧ e.1 < 65536 ∧ e.2 < 65536) → deL (packS (pre ++ (enB es ++ post))) pre.length es.length = es.flatMap tell := by
  induction es with
  | nil => intro pre post _; rfl
  | cons e t ih =>
    intro pre post h
    obtain ⟨h0, h1, h2⟩ := h e (List.mem_cons_self ..)
    have g1 : gv (packS (pre ++ (enB (e :: t) ++ post))) pre.length 16 = e.1.toNat := by
      have := val_mid pre (bitsOf e.2 16 ++ enB t ++ post) e.1.toNat 16
      rw [gv_pack]
      simp only [enB, List.append_assoc] at this ⊢
      rw [this]; omega
    have g2 : gv (packS (pre ++ (enB (e :: t) ++ post))) (pre.length + 16) 16 = e.2 := by
      have := val_mid (pre ++ bitsOf e.1.toNat 16) (enB t ++ post) e.2 16
      rw [gv_pack]
      simp only [enB, List.append_assoc, List.length_append, bitsOf_len] at this ⊢
      rw [this]; omega
    have g3 := ih (pre ++ (bitsOf e.1.toNat 16 ++ bitsOf e.2 16)) post (fun e he => h e (List.mem_cons_of_mem _ he))
    simp only [enB, List.append_assoc, List.length_append, bitsOf_len] at g1 g2 g3
    simp only [List.length_cons, deL, enB, List.append_assoc]
    rw [g1, g2, g3, List.flatMap_cons]
    unfold tell
    rw [Int.toNat_of_nonneg h0]; rfl
theorem dec_enc {r : Nk} (h : isL r.lo = true) (s0 : 0 ≤ r.sd) (s1 : r.sd < 4294967296) (t0 : 0 ≤ r.md) (t1 : r.md < 4294967296) : decE (packS (nkB r)) = 0 ∧ decR (packS (nkB r)) = r := by
  obtain ⟨h1, h2, h3⟩ := (isL_iff _).1 h
  have hz := enc_size r
  have hn := enL_len _ r.lo (Nat.le_refl _)
  have hp : 0 < (enL r.lo).length := by
    cases hl : r.lo with
    | nil => rw [hl] at h1; simp at h1
    | cons x t => rw [enL_cons]; simp
  have hl : lost (packS (nkB r)) = r.lo := by
    unfold lost
    rw [hz, show (8 + 4 * (enL r.lo).length) / 4 - 2 = (enL r.lo).length by omega]
    have := deL_en (enL r.lo) (bitsOf r.sd.toNat 32 ++ bitsOf r.md.toNat 32) [] (enL_in _ r.lo (Nat.le_refl _) h3)
    simp only [List.append_nil, List.append_assoc, List.length_append, bitsOf_len, Nat.reduceAdd] at this
    unfold nkB
    rw [this]
    exact tell_all _ r.lo (Nat.le_refl _) h3
  have he : decE (packS (nkB r)) = 0 := by
    unfold decE
    rw [hl, hz, if_neg (by omega), if_neg (by omega), if_neg (by omega), if_neg (by omega), if_pos h]
  refine ⟨he, ?_⟩
  unfold decR
  rw [if_pos he, hl]
  have g1 : gv (packS (nkB r)) 0 32 = r.sd.toNat := by
    have := val_mid [] (bitsOf r.md.toNat 32 ++ enB (enL r.lo)) r.sd.toNat 32
    rw [gv_pack]
    unfold nkB
    simp only [List.nil_append, List.length_nil] at this
    rw [this]; omega
  have g2 : gv (packS (nkB r)) 32 32 = r.md.toNat := by
    have := val_mid (bitsOf r.sd.toNat 32) (enB (enL r.lo)) r.md.toNat 32
    rw [gv_pack]
    unfold nkB
    simp only [bitsOf_len] at this
    rw [this]; omega
  rw [g1, g2, Int.toNat_of_nonneg s0, Int.toNat_of_nonneg t0]
/-! ### No list has fewer entries -/
theorem tkN_base (x y : Int) (h0 : (y - x) % 65536 < 32768) (t : List Int) : ∀ la, (y - x) % 65536 ≤ (la - x) % 65536 → Up x la t → tkN x t ≤ tkN y t := by
  induction t with
  | nil => intro la _ _; exact Nat.le_refl _
  | cons v t ih =>
    intro la hl h
    obtain ⟨⟨h1, h2, h3, h4⟩, h5⟩ := h
    unfold tkN
    by_cases hv : (v - x) % 65536 ≤ 16
    · rw [if_pos hv, if_pos (by omega)]
      have := ih v (by omega) h5
      omega
    · rw [if_neg hv]; exact Nat.zero_le _
theorem enL_drop (n : Nat) : ∀ l : List Int, l.length ≤ n → Ri l → ∀ j, (enL (l.drop j)).length ≤ (enL l).length := by
  induction n with
  | zero =>
    intro l h _ j
    obtain rfl := List.eq_nil_of_length_eq_zero (by omega : l.length = 0)
    simp
  | succ n ih =>
    intro l h hr j
    cases l with
    | nil => simp
    | cons x t =>
      cases j with
      | zero => exact Nat.le_refl _
      | succ j =>
        have hrt : Ri t := ri_drop (x :: t) hr 1
        refine Nat.le_trans (ih t (by simp at h; omega) hrt j) ?_
        cases t with
        | nil => simp [enL_nil]
        | cons y t =>
          have hu := hr.2.2
          obtain ⟨⟨h0, h1, h2, h3⟩, h4⟩ := hu
          rw [enL_cons x, enL_cons y]
          by_cases hv : (y - x) % 65536 ≤ 16
          · have e1 : tkN x (y :: t) = tkN x t + 1 := by rw [tkN, if_pos hv]
            rw [e1, List.drop_succ_cons]
            have hle := tkN_base x y h3 t y (Int.le_refl _) h4
            have e2 : t.drop (tkN y t) = (t.drop (tkN x t)).drop (tkN y t - tkN x t) := by rw [List.drop_drop]; congr 1; omega
            rw [e2]
            have := ih (t.drop (tkN x t)) (by simp at h ⊢; omega) (ri_of x (y :: t) hr.2.2 (tkN x t + 1)) (tkN y t - tkN x t)
            simp only [List.length_cons]; omega
          · have e1 : tkN x (y :: t) = 0 := by rw [tkN, if_neg hv]
            rw [e1, List.drop_zero, enL_cons y]
            simp only [List.length_cons]; omega
theorem tkN_app (x : Int) (m n : Nat) (R : List Int) : ∀ i, i + n = 16 → (tl x m i n).length ≤ tkN x (tl x m i n ++ R) := by
  induction n with
  | zero => intro i _; exact Nat.zero_le _
  | succ n ih =>
    intro i hi
    have := ih (i + 1) (by omega)
    unfold tl
    split
    · simp only [List.cons_append, List.nil_append, List.length_cons, tkN]
      rw [if_pos (by omega)]; omega
    · simpa using this
theorem enL_min (s : ByteArray) (n : Nat) : ∀ p, Ri (deL s p n) → (enL (deL s p n)).length ≤ n := by
  induction n with
  | zero => intro p _; exact Nat.le_refl _
  | succ n ih =>
    intro p h
    unfold deL at h ⊢
    obtain ⟨x, hx⟩ : ∃ x, (gv s p 16 : Int) = x := ⟨_, rfl⟩
    obtain ⟨T, hT⟩ : ∃ T, tl (gv s p 16 : Int) (gv s (p + 16) 16) 0 16 = T := ⟨_, rfl⟩
    have hk := tkN_app x (gv s (p + 16) 16) 16 (deL s (p + 32) n) 0 rfl
    rw [← hx, hT, hx] at hk
    rw [hT, hx] at h ⊢
    have hR : Ri (deL s (p + 32) n) := by
      have := ri_of x _ h.2.2 T.length
      rwa [List.drop_left] at this
    rw [enL_cons]
    have e : (T ++ deL s (p + 32) n).drop (tkN x (T ++ deL s (p + 32) n)) = (deL s (p + 32) n).drop (tkN x (T ++ deL s (p + 32) n) - T.length) := by
      rw [List.drop_append, List.drop_of_length_le hk, List.nil_append]
    rw [e]
    have h1 := enL_drop _ _ (Nat.le_refl _) hR (tkN x (T ++ deL s (p + 32) n) - T.length)
    have h2 := ih (p + 32) hR
    simp only [List.length_cons]; omega
theorem decE_yes {s : ByteArray} (h : decE s = 0) : s.size ≤ 65536 ∧ s.size % 4 = 0 ∧ 12 ≤ s.size ∧ isL (lost s) = true ∧ decR s = ⟨gv s 0 32, gv s 32 32, lost s⟩ := by
  have h' := h
  unfold decE at h'
  split at h'
  · omega
  · split at h'
    · omega
    · split at h'
      · omega
      · split at h'
        · omega
        · split at h'
          · refine ⟨by omega, by omega, by omega, by assumption, ?_⟩
            unfold decR; rw [if_pos h]
          · omega
/-- What was decoded is encoded to no more bytes. -/
theorem back_short {s : ByteArray} (h : decE s = 0) : (packS (nkB (decR s))).size ≤ s.size := by
  obtain ⟨h1, h2, h3, h4, h5⟩ := decE_yes h
  rw [enc_size, h5]
  have := enL_min s (s.size / 4 - 2) 64 ((isL_iff _).1 h4).2.2
  show 8 + 4 * (enL (lost s)).length ≤ s.size
  unfold lost
  omega
/-! ### One mask -/
theorem tl_up (x : Int) (m n : Nat) : ∀ (i : Nat) (la : Int), i + n = 16 → (la - x) % 65536 ≤ i → Up x la (tl x m i n) := by
  induction n with
  | zero => intro i la _ _; trivial
  | succ n ih =>
    intro i la hi hl
    unfold tl
    split
    · exact ⟨⟨by omega, by omega, by omega, by omega⟩, ih (i + 1) _ (by omega) (by omega)⟩
    · exact ih (i + 1) la (by omega) (by omega)
theorem tl_tkN (x : Int) (m n : Nat) (i : Nat) (h : i + n = 16) : tkN x (tl x m i n) = (tl x m i n).length := by
  have h1 := tkN_app x m n [] i h
  rw [List.append_nil] at h1
  have h2 := tkN_le x (tl x m i n)
  omega
theorem tl_msk (x : Int) (M n : Nat) : ∀ i, i + n = 16 → msk x (M % 2 ^ i) (tl x M i n) = M % 2 ^ 16 := by
  induction n with
  | zero =>
    intro i hi
    obtain rfl : i = 16 := by omega
    rfl
  | succ n ih =>
    intro i hi
    have e0 : M % 2 ^ (i + 1) = M % 2 ^ i + 2 ^ i * (M / 2 ^ i % 2) := by rw [Nat.pow_succ, Nat.mod_mul]
    unfold tl
    split
    · rename_i hb
      simp only [List.cons_append, List.nil_append, msk]
      have e1 : ((x + (i : Int) + 1) % 65536 - x) % 65536 = i + 1 := by omega
      rw [e1, if_pos (by omega)]
      have e2 : ((i : Int) + 1 - 1).toNat = i := by omega
      rw [e2]
      have e3 : M % 2 ^ i ||| 2 ^ i = M % 2 ^ (i + 1) := by
        have := or_add 1 (M % 2 ^ i) i (Nat.mod_lt _ (Nat.two_pow_pos _))
        rw [Nat.one_mul] at this
        rw [Nat.or_comm, this, e0, hb]; omega
      rw [e3]
      exact ih (i + 1) (by omega)
    · rename_i hb
      have hb0 : M / 2 ^ i % 2 = 0 := by omega
      rw [List.nil_append]
      have := ih (i + 1) (by omega)
      rwa [e0, hb0, Nat.mul_zero, Nat.add_zero] at this
theorem tl_isL (x : Int) (x0 : 0 ≤ x) (x1 : x < 65536) (M : Nat) : isL (x :: tl x M 0 16) = true := by
  have := tl_len x M 16 0
  refine (isL_iff _).2 ⟨by simp, by simp; omega, x0, x1, tl_up x M 16 0 x rfl (by omega)⟩
theorem tl_enL (x : Int) (M : Nat) (hM : M < 65536) : enL (x :: tl x M 0 16) = [(x, M)] := by
  rw [enL_cons, tl_tkN x M 16 0 rfl, List.drop_length, enL_nil]
  have := tl_msk x M 16 0 rfl
  rw [Nat.pow_zero, Nat.mod_one] at this
  rw [this, Nat.mod_eq_of_lt (by omega)]
/-! ### Numbers that stand together -/
def cq : Nat → Int → List Int
  | 0, _ => []
  | n + 1, x => x % 65536 :: cq n (x + 1)
@[simp] theorem cq_len (n : Nat) : ∀ x, (cq n x).length = n := by
  induction n with
  | zero => intro x; rfl
  | succ n ih => intro x; simp [cq, ih]
theorem cq_app (n : Nat) : ∀ x, cq (n + 1) x = cq n x ++ [(x + n) % 65536] := by
  induction n with
  | zero => intro x; simp [cq]
  | succ n ih =>
    intro x
    rw [cq, ih (x + 1)]
    conv => rhs; rw [cq]
    rw [List.cons_append, show x + 1 + (n : Int) = x + ((n + 1 : Nat) : Int) by omega]
theorem cq_drop (k : Nat) : ∀ n x, (cq n x).drop k = cq (n - k) (x + k) := by
  induction k with
  | zero => intro n x; simp
  | succ k ih =>
    intro n x
    cases n with
    | zero => simp [cq]
    | succ n =>
      rw [cq, List.drop_succ_cons, ih n (x + 1), show n + 1 - (k + 1) = n - k by omega, show x + 1 + (k : Int) = x + ((k + 1 : Nat) : Int) by omega]
theorem cq_tkN (x : Int) (n : Nat) : ∀ y, (y - x) % 65536 = y - x → 1 ≤ y - x → y - x ≤ 17 → (tkN x (cq n y) : Int) = min (17 - (y - x)) n := by
  induction n with
  | zero => intro y _ _ h; simp [cq, tkN]; omega
  | succ n ih =>
    intro y hy h1 h2
    rw [cq, tkN]
    by_cases h : y - x ≤ 16
    · rw [if_pos (by omega)]
      have := ih (y + 1) (by omega) (by omega) (by omega)
      omega
    · rw [if_neg (by omega)]; omega
theorem tkN_mod (x : Int) (t : List Int) : tkN (x % 65536) t = tkN x t := by
  induction t with
  | nil => rfl
  | cons v t ih => simp only [tkN, ih, show (v - x % 65536) % 65536 = (v - x) % 65536 by omega]
theorem cq_enL (m : Nat) : ∀ n x, n ≤ m → (enL (cq n x)).length = (n + 16) / 17 := by
  induction m with
  | zero =>
    intro n x h
    obtain rfl : n = 0 := by omega
    rfl
  | succ m ih =>
    intro n x h
    cases n with
    | zero => rfl
    | succ n =>
      rw [cq, enL_cons, tkN_mod]
      have h1 := cq_tkN x n (x + 1) (by omega) (by omega) (by omega)
      obtain ⟨k, hk⟩ : ∃ k, tkN x (cq n (x + 1)) = k := ⟨_, rfl⟩
      rw [hk] at h1 ⊢
      rw [cq_drop, List.length_cons, ih _ _ (by omega)]
      omega
theorem cq_up (f : Int) (n : Nat) : ∀ y la, (y - f) % 65536 = (la - f) % 65536 + 1 → (y - f) % 65536 + n ≤ 32768 → Up f la (cq n y) := by
  induction n with
  | zero => intro y la _ _; trivial
  | succ n ih =>
    intro y la h1 h2
    exact ⟨⟨by omega, by omega, by omega, by omega⟩, ih (y + 1) (y % 65536) (by omega) (by omega)⟩
theorem cq_isL (n : Nat) (x : Int) (h1 : 1 ≤ n) (h2 : n ≤ 4096) : isL (cq n x) = true := by
  refine (isL_iff _).2 ⟨by simp; omega, by simp; omega, ?_⟩
  cases n with
  | zero => omega
  | succ n => exact ⟨by omega, by omega, cq_up (x % 65536) n (x + 1) (x % 65536) (by omega) (by omega)⟩
end Go.Proofs.YtdhbakknplnnkaaGreat.Nk
namespace Go.Proofs.YtdhbakknplnnkaaGreat.Nk
open Go.RowKit

/-- Half the way round. -/
def hf (b : Int) : Int := 2 ^ (b.toNat - 1)
theorem pow_lit : ∀ n : Nat, n < 32 → ((2 : Int) ^ n = 1 ∨ (2 : Int) ^ n = 2 ∨ (2 : Int) ^ n = 4 ∨ (2 : Int) ^ n = 8 ∨ (2 : Int) ^ n = 16 ∨ (2 : Int) ^ n = 32 ∨ (2 : Int) ^ n = 64 ∨ (2 : Int) ^ n = 128 ∨ (2 : Int) ^ n = 256 ∨ (2 : Int) ^ n = 512 ∨ (2 : Int) ^ n = 1024 ∨ (2 : Int) ^ n = 2048 ∨ (2 : Int) ^ n = 4096 ∨ (2 : Int) ^ n = 8192 ∨ (2 : Int) ^ n = 16384 ∨ (2 : Int) ^ n = 32768 ∨ (2 : Int) ^ n = 65536 ∨ (2 : Int) ^ n = 131072 ∨ (2 : Int) ^ n = 262144 ∨ (2 : Int) ^ n = 524288 ∨ (2 : Int) ^ n = 1048576 ∨ (2 : Int) ^ n = 2097152 ∨ (2 : Int) ^ n = 4194304 ∨ (2 : Int) ^ n = 8388608 ∨ (2 : Int) ^ n = 16777216 ∨ (2 : Int) ^ n = 33554432 ∨ (2 : Int) ^ n = 67108864 ∨ (2 : Int) ^ n = 134217728 ∨ (2 : Int) ^ n = 268435456 ∨ (2 : Int) ^ n = 536870912 ∨ (2 : Int) ^ n = 1073741824 ∨ (2 : Int) ^ n = 2147483648) := by decide
theorem hf_lit (b : Int) (b1 : 1 ≤ b) (b2 : b ≤ 32) : hf b = 1 ∨ hf b = 2 ∨ hf b = 4 ∨ hf b = 8 ∨ hf b = 16 ∨ hf b = 32 ∨ hf b = 64 ∨ hf b = 128 ∨ hf b = 256 ∨ hf b = 512 ∨ hf b = 1024 ∨ hf b = 2048 ∨ hf b = 4096 ∨ hf b = 8192 ∨ hf b = 16384 ∨ hf b = 32768 ∨ hf b = 65536 ∨ hf b = 131072 ∨ hf b = 262144 ∨ hf b = 524288 ∨ hf b = 1048576 ∨ hf b = 2097152 ∨ hf b = 4194304 ∨ hf b = 8388608 ∨ hf b = 16777216 ∨ hf b = 33554432 ∨ hf b = 67108864 ∨ hf b = 134217728 ∨ hf b = 268435456 ∨ hf b = 536870912 ∨ hf b = 1073741824 ∨ hf b = 2147483648 := by
  unfold hf
  exact pow_lit (b.toNat - 1) (by omega)
/-- What is so for each of the 32 halves. -/
theorem each32 {P : Int → Prop} (b : Int) (b1 : 1 ≤ b) (b2 : b ≤ 32) (h : P 1 ∧ P 2 ∧ P 4 ∧ P 8 ∧ P 16 ∧ P 32 ∧ P 64 ∧ P 128 ∧ P 256 ∧ P 512 ∧ P 1024 ∧ P 2048 ∧ P 4096 ∧ P 8192 ∧ P 16384 ∧ P 32768 ∧ P 65536 ∧ P 131072 ∧ P 262144 ∧ P 524288 ∧ P 1048576 ∧ P 2097152 ∧ P 4194304 ∧ P 8388608 ∧ P 16777216 ∧ P 33554432 ∧ P 67108864 ∧ P 134217728 ∧ P 268435456 ∧ P 536870912 ∧ P 1073741824 ∧ P 2147483648) : P (hf b) := by
  obtain ⟨h0, h1, h2, h3, h4, h5, h6, h7, h8, h9, h10, h11, h12, h13, h14, h15, h16, h17, h18, h19, h20, h21, h22, h23, h24, h25, h26, h27, h28, h29, h30, h31⟩ := h
  rcases hf_lit b b1 b2 with e | e | e | e | e | e | e | e | e | e | e | e | e | e | e | e | e | e | e | e | e | e | e | e | e | e | e | e | e | e | e | e <;> rw [e] <;> assumption
theorem hf_bd (b : Int) (b1 : 1 ≤ b) (b2 : b ≤ 32) : 1 ≤ hf b ∧ hf b ≤ 2147483648 := by
  refine each32 (P := fun h => 1 ≤ h ∧ h ≤ 2147483648) b b1 b2 ?_
  decide
theorem sh1 (b : Int) (b1 : 1 ≤ b) (b2 : b ≤ 32) : wrap64 (2 ^ (b.toNat - 1)) = hf b := by
  have := hf_bd b b1 b2
  show wrap64 (hf b) = hf b
  unfold wrap64; omega
theorem pow2 (b : Int) (b1 : 1 ≤ b) : (2 : Int) ^ b.toNat = 2 * hf b := by
  unfold hf
  obtain ⟨n, hn⟩ : ∃ n, b.toNat = n + 1 := ⟨b.toNat - 1, by omega⟩
  rw [hn, Int.pow_succ, Nat.add_sub_cancel, Int.mul_comm]
theorem sh0 (b : Int) (b1 : 1 ≤ b) (b2 : b ≤ 32) : wrap64 (2 ^ b.toNat) = 2 * hf b := by
  have := hf_bd b b1 b2
  rw [pow2 b b1]; unfold wrap64; omega
theorem wrap_cut (b n : Int) (b1 : 1 ≤ b) (b2 : b ≤ 32) : wrap64 n % (2 * hf b) = n % (2 * hf b) := by
  refine each32 (P := fun h => wrap64 n % (2 * h) = n % (2 * h)) b b1 b2 ?_
  unfold wrap64
  refine ⟨?_, ?_, ?_, ?_, ?_, ?_, ?_, ?_, ?_, ?_, ?_, ?_, ?_, ?_, ?_, ?_, ?_, ?_, ?_, ?_, ?_, ?_, ?_, ?_, ?_, ?_, ?_, ?_, ?_, ?_, ?_, ?_⟩ <;> omega
theorem and_cut (b n : Int) (b1 : 1 ≤ b) (b2 : b ≤ 32) : bits .and .i64 n (2 * hf b - 1) = n % (2 * hf b) := by
  have hb := hf_bd b b1 b2
  have e0 : 2 * hf b - 1 = ((2 ^ b.toNat - 1 : Nat) : Int) := by
    rw [← pow2 b b1]
    have h1 : 1 ≤ 2 ^ b.toNat := Nat.one_le_two_pow
    rw [Int.ofNat_sub h1]; simp
  have hp : 2 ^ b.toNat ≤ 2 ^ 32 := Nat.pow_le_pow_right (by decide) (by omega)
  have hm : (BitVec.ofInt 64 (2 * hf b - 1)).toNat = 2 ^ b.toNat - 1 := by
    rw [e0, BitVec.ofInt_natCast, BitVec.toNat_ofNat]
    exact Nat.mod_eq_of_lt (by omega)
  have key : (BitVec.ofInt 64 n &&& BitVec.ofInt 64 (2 * hf b - 1)).toNat = (n % ((2 ^ 64 : Nat) : Int)).toNat % 2 ^ b.toNat := by
    rw [BitVec.toNat_and, BitVec.toNat_ofInt, hm, Nat.and_two_pow_sub_one_eq_mod]
  show IntKind.i64.wrap ((BitVec.ofInt 64 n &&& BitVec.ofInt 64 (2 * hf b - 1)).toNat : Nat) = n % (2 * hf b)
  rw [key, IntKind.wrap_i64]
  have c1 : (((n % ((2 ^ 64 : Nat) : Int)).toNat % 2 ^ b.toNat : Nat) : Int) = (n % 18446744073709551616) % (2 * hf b) := by
    rw [← pow2 b b1, Int.natCast_emod, Int.toNat_of_nonneg (by omega)]; rfl
  rw [c1]
  have c2 : n % 18446744073709551616 % (2 * hf b) = n % (2 * hf b) := by
    refine each32 (P := fun h => n % 18446744073709551616 % (2 * h) = n % (2 * h)) b b1 b2 ?_
    refine ⟨?_, ?_, ?_, ?_, ?_, ?_, ?_, ?_, ?_, ?_, ?_, ?_, ?_, ?_, ?_, ?_, ?_, ?_, ?_, ?_, ?_, ?_, ?_, ?_, ?_, ?_, ?_, ?_, ?_, ?_, ?_, ?_⟩ <;> omega
  rw [c2]
  have c3 := Int.emod_nonneg n (show 2 * hf b ≠ 0 by omega)
  have c4 := Int.emod_lt_of_pos n (show 0 < 2 * hf b by omega)
  omega
theorem tm_eq (n m : Int) (hm : 0 < m) : n.tmod m = n % m ∨ n.tmod m = n % m - m := by
  rw [Int.tmod_eq_emod]
  split <;> omega
theorem tm_bd (n m : Int) (hm : 0 < m) : -m < n.tmod m ∧ n.tmod m < m :=
  ⟨Int.lt_tmod_of_pos n hm, Int.tmod_lt_of_pos n hm⟩
theorem tm_mod (n m : Int) (hm : 0 < m) : (n.tmod m + m).tmod m = n % m := by
  have := tm_bd n m hm
  rw [Int.tmod_eq_emod_of_nonneg (by omega)]
  rcases tm_eq n m hm with h | h <;> rw [h] <;> simp
theorem tm_sub (a b m : Int) (hm : 0 < m) : (a.tmod m - b.tmod m) % m = (a - b) % m := by
  rcases tm_eq a m hm with h | h <;> rcases tm_eq b m hm with k | k <;> rw [h, k] <;> simp [Int.sub_emod, Int.emod_emod_of_dvd]
end Go.Proofs.YtdhbakknplnnkaaGreat.Nk
namespace Go.Proofs.YtdhbakknplnnkaaGreat.Nk
open Go.RowKit

/-- A call's Below, carried on from an elder world. -/
theorem carry {P : Program} {f : Nat} {args : Array Value} {w w0 : World} {Q : Ending → Prop} (hb : Below w0.heap.size w0 w) (h : Calls P f args w fun e w' => Q e ∧ Below w.heap.size w w') :
    Calls P f args w fun e w' => Q e ∧ Below w0.heap.size w0 w' :=
  h.mono fun _ _ ⟨hq, hk⟩ => ⟨hq, hb.trans (hk.mono hb.size)⟩
theorem below_drewN {B : Nat} {w w1 : World} (h : Below B w w1) (n : Nat) : Below B w (w1.drewN n) := ⟨h.os, h.tape, h.output, h.size, h.block⟩

theorem ret_no {p : Prop} [Decidable p] (h : ¬ p) : Ending.returned (.bool (decide p)) = .returned (.bool false) := by rw [decide_eq_false h]
/-- What last is held to. -/
def clV (a : Int) : Int := if a < -1152921504606846976 then -1152921504606846976 else if 1152921504606846976 < a then 1152921504606846976 else a
theorem cl_bd (a : Int) : -1152921504606846976 ≤ clV a ∧ clV a ≤ 1152921504606846976 := by unfold clV; repeat' split <;> omega
/-- The nearest number to l with v's lower bits; h is half the way round. -/
def nV (h l v : Int) : Int := if (v - l) % (2 * h) ≤ h then l + (v - l) % (2 * h) else l + (v - l) % (2 * h) - 2 * h
/-- Is a behind b? -/
def aV (h a b : Int) : Bool := decide (0 < (a - b) % (2 * h) ∧ (a - b) % (2 * h) < h)

theorem known_yes (b : Int) (b1 : 1 ≤ b) (b2 : b ≤ 32) (w : World) :
    Calls Tryz.prog 99 #[.int .i64 b] w fun e w' => e = .returned (.bool true) ∧ w' = w := by
  go_enter Tryz.func99, Tryz.ntmps99
  go_wp2
  go_ret
  exact ⟨rfl, rfl⟩
theorem known_no (b : Int) (h : b < 1 ∨ 32 < b) (w : World) :
    Calls Tryz.prog 99 #[.int .i64 b] w fun e w' => e = .returned (.bool false) ∧ w' = w := by
  rcases h with h | h
  · go_enter Tryz.func99, Tryz.ntmps99
    go_wp2
    go_ret
    exact ⟨rfl, rfl⟩
  · have h2 : ¬ b ≤ 32 := by omega
    go_enter Tryz.func99, Tryz.ntmps99
    go_wp2
    go_ret
    exact ⟨by first | rfl | exact ret_no h2, rfl⟩
theorem half_any (b : Int) (b1 : 1 ≤ b) (b2 : b ≤ 32) (w : World) :
    Calls Tryz.prog 108 #[.int .i64 b] w fun e w' => e = .returned (.int .i64 (hf b)) ∧ w' = w := by
  have e := sh1 b b1 b2
  go_enter Tryz.func108, Tryz.ntmps108
  go_wp2
  go_ret
  exact ⟨by first | rfl | exact ret_i e, rfl⟩
theorem halfi_any (b : Int) (b1 : 1 ≤ b) (b2 : b ≤ 32) (w : World) :
    Calls Tryz.prog 102 #[.int .i64 b] w fun e w' => e = .returned (.int .i64 (hf b)) ∧ w' = w := by
  have e := sh1 b b1 b2
  go_enter Tryz.func102, Tryz.ntmps102
  go_wp2
  go_ret
  exact ⟨by first | rfl | exact ret_i e, rfl⟩
theorem cut_any (n b : Int) (b1 : 1 ≤ b) (b2 : b ≤ 32) (w : World) :
    Calls Tryz.prog 105 #[.int .i64 n, .int .i64 b] w fun e w' => e = .returned (.int .i64 (n % (2 * hf b))) ∧ w' = w := by
  have C := mkHid (half_any b b1 b2)
  have e := and_cut b n b1 b2
  have k := hf_bd b b1 b2
  generalize hf b = h at *
  go_enter Tryz.func105, Tryz.ntmps105
  go_wp2_with fail
  refine (C.out _).mono ?_
  rintro e w1 ⟨rfl, rfl⟩
  go_wp2
  go_ret
  exact ⟨by first | rfl | exact ret_i e, rfl⟩
theorem cuti_any (n b : Int) (b1 : 1 ≤ b) (b2 : b ≤ 32) (w : World) :
    Calls Tryz.prog 101 #[.int .i64 n, .int .i64 b] w fun e w' => e = .returned (.int .i64 (n % (2 * hf b))) ∧ w' = w := by
  have C := mkHid (halfi_any b b1 b2)
  have e := and_cut b n b1 b2
  have k := hf_bd b b1 b2
  generalize hf b = h at *
  go_enter Tryz.func101, Tryz.ntmps101
  go_wp2_with fail
  refine (C.out _).mono ?_
  rintro e w1 ⟨rfl, rfl⟩
  go_wp2
  go_ret
  exact ⟨by first | rfl | exact ret_i e, rfl⟩
theorem crop_any (n b : Int) (b1 : 1 ≤ b) (b2 : b ≤ 32) (w : World) :
    Calls Tryz.prog 98 #[.int .i64 n, .int .i64 b] w fun e w' => e = .returned (.int .i64 (n % (2 * hf b))) ∧ w' = w := by
  have K := mkHid (known_yes b b1 b2)
  have C := mkHid (cut_any n b b1 b2)
  generalize n % (2 * hf b) = c at *
  go_enter Tryz.func98, Tryz.ntmps98
  go_wp2_with fail
  refine (K.out _).mono ?_
  rintro e w1 ⟨rfl, rfl⟩
  go_wp2_with fail
  refine (C.out _).mono ?_
  rintro e w1 ⟨rfl, rfl⟩
  go_wp2
  go_ret
  exact ⟨rfl, rfl⟩
theorem crop_no (n b : Int) (h : b < 1 ∨ 32 < b) (w : World) :
    Calls Tryz.prog 98 #[.int .i64 n, .int .i64 b] w fun e w' => e = .returned (.int .i64 0) ∧ w' = w := by
  have K := mkHid (known_no b h)
  go_enter Tryz.func98, Tryz.ntmps98
  go_wp2_with fail
  refine (K.out _).mono ?_
  rintro e w1 ⟨rfl, rfl⟩
  go_wp2
  go_ret
  exact ⟨rfl, rfl⟩

theorem within_any (n b : Int) (b1 : 1 ≤ b) (b2 : b ≤ 32) (w : World) :
    Calls Tryz.prog 100 #[.int .i64 n, .int .i64 b] w fun e w' => e = .returned (.bool (decide (n % (2 * hf b) = n))) ∧ w' = w := by
  have C := mkHid (cuti_any n b b1 b2)
  generalize n % (2 * hf b) = c at *
  go_enter Tryz.func100, Tryz.ntmps100
  go_wp2_with fail
  refine (C.out _).mono ?_
  rintro e w1 ⟨rfl, rfl⟩
  go_wp2
  go_ret
  exact ⟨rfl, rfl⟩
/-- Lies n in the first turn? -/
theorem in_turn (n m : Int) (hm : 0 < m) (h : n < 0 ∨ m ≤ n) : ¬ n % m = n := by
  have h1 := Int.emod_nonneg n (show m ≠ 0 by omega)
  have h2 := Int.emod_lt_of_pos n hm
  omega
theorem within_yes (n b : Int) (b1 : 1 ≤ b) (b2 : b ≤ 32) (n1 : 0 ≤ n) (n2 : n < 2 * hf b) (w : World) :
    Calls Tryz.prog 100 #[.int .i64 n, .int .i64 b] w fun e w' => e = .returned (.bool true) ∧ w' = w := by
  have C := within_any n b b1 b2 w
  rw [decide_eq_true (Int.emod_eq_of_lt n1 n2)] at C
  exact C
theorem within_no (n b : Int) (b1 : 1 ≤ b) (b2 : b ≤ 32) (h : n < 0 ∨ 2 * hf b ≤ n) (w : World) :
    Calls Tryz.prog 100 #[.int .i64 n, .int .i64 b] w fun e w' => e = .returned (.bool false) ∧ w' = w := by
  have C := within_any n b b1 b2 w
  have k := hf_bd b b1 b2
  rw [decide_eq_false (in_turn n (2 * hf b) (by omega) h)] at C
  exact C

theorem after_bad (a b k : Int) (h : k < 1 ∨ 32 < k) (w : World) :
    Calls Tryz.prog 94 #[.int .i64 a, .int .i64 b, .int .i64 k] w fun e w' => e = .returned (.bool false) ∧ w' = w := by
  have K := mkHid (known_no k h)
  go_enter Tryz.func94, Tryz.ntmps94
  go_wp2_with fail
  refine (K.out _).mono ?_
  rintro e w1 ⟨rfl, rfl⟩
  go_wp2
  go_ret
  exact ⟨rfl, rfl⟩
theorem after_no1 (a b k : Int) (k1 : 1 ≤ k) (k2 : k ≤ 32) (h : a < 0 ∨ 2 * hf k ≤ a) (w : World) :
    Calls Tryz.prog 94 #[.int .i64 a, .int .i64 b, .int .i64 k] w fun e w' => e = .returned (.bool false) ∧ w' = w := by
  have K := mkHid (known_yes k k1 k2)
  have C1 := mkHid (within_no a k k1 k2 h)
  clear h
  go_enter Tryz.func94, Tryz.ntmps94
  go_wp2_with fail
  refine (K.out _).mono ?_
  rintro e w1 ⟨rfl, rfl⟩
  go_wp2_with fail
  refine (C1.out _).mono ?_
  rintro e w1 ⟨rfl, rfl⟩
  go_wp2
  go_ret
  exact ⟨rfl, rfl⟩
theorem after_no2 (a b k : Int) (k1 : 1 ≤ k) (k2 : k ≤ 32) (a1 : 0 ≤ a) (a2 : a < 2 * hf k) (h : b < 0 ∨ 2 * hf k ≤ b) (w : World) :
    Calls Tryz.prog 94 #[.int .i64 a, .int .i64 b, .int .i64 k] w fun e w' => e = .returned (.bool false) ∧ w' = w := by
  have K := mkHid (known_yes k k1 k2)
  have C1 := mkHid (within_yes a k k1 k2 a1 a2)
  have C2 := mkHid (within_no b k k1 k2 h)
  clear h
  go_enter Tryz.func94, Tryz.ntmps94
  go_wp2_with fail
  refine (K.out _).mono ?_
  rintro e w1 ⟨rfl, rfl⟩
  go_wp2_with fail
  refine (C1.out _).mono ?_
  rintro e w1 ⟨rfl, rfl⟩
  go_wp2_with fail
  refine (C2.out _).mono ?_
  rintro e w1 ⟨rfl, rfl⟩
  go_wp2
  go_ret
  exact ⟨rfl, rfl⟩
set_option maxHeartbeats 400000 in
theorem after_any (a b k : Int) (k1 : 1 ≤ k) (k2 : k ≤ 32) (a1 : 0 ≤ a) (a2 : a < 2 * hf k) (c1 : 0 ≤ b) (c2 : b < 2 * hf k) (w : World) :
    Calls Tryz.prog 94 #[.int .i64 a, .int .i64 b, .int .i64 k] w fun e w' => e = .returned (.bool (aV (hf k) a b)) ∧ w' = w := by
  have K := mkHid (known_yes k k1 k2)
  have C1 := mkHid (within_yes a k k1 k2 a1 a2)
  have C2 := mkHid (within_yes b k k1 k2 c1 c2)
  have C3 := mkHid (cuti_any (a - b) k k1 k2)
  have C4 := mkHid (halfi_any k k1 k2)
  have kh := hf_bd k k1 k2
  unfold aV
  generalize hf k = h at *
  have u0 := Int.emod_nonneg (a - b) (show 2 * h ≠ 0 by omega)
  generalize (a - b) % (2 * h) = u at *
  by_cases hu : 0 < u
  · go_enter Tryz.func94, Tryz.ntmps94
    go_wp2_with fail
    refine (K.out _).mono ?_
    rintro e w1 ⟨rfl, rfl⟩
    go_wp2_with fail
    refine (C1.out _).mono ?_
    rintro e w1 ⟨rfl, rfl⟩
    go_wp2_with fail
    refine (C2.out _).mono ?_
    rintro e w1 ⟨rfl, rfl⟩
    go_wp2_with fail
    refine (C3.out _).mono ?_
    rintro e w1 ⟨rfl, rfl⟩
    go_wp2_with fail
    refine (C4.out _).mono ?_
    rintro e w1 ⟨rfl, rfl⟩
    go_wp2
    go_ret
    exact ⟨ret_b (decide_eq_decide.mpr (by omega)), rfl⟩
  · go_enter Tryz.func94, Tryz.ntmps94
    go_wp2_with fail
    refine (K.out _).mono ?_
    rintro e w1 ⟨rfl, rfl⟩
    go_wp2_with fail
    refine (C1.out _).mono ?_
    rintro e w1 ⟨rfl, rfl⟩
    go_wp2_with fail
    refine (C2.out _).mono ?_
    rintro e w1 ⟨rfl, rfl⟩
    go_wp2_with fail
    refine (C3.out _).mono ?_
    rintro e w1 ⟨rfl, rfl⟩
    go_wp2
    go_ret
    exact ⟨ret_b (by rw [decide_eq_false (show ¬ 0 < u by omega), Bool.false_and]), rfl⟩

theorem same_below {P : Program} {f : Nat} {args : Array Value} {w : World} {Q : Ending → Prop} (h : Calls P f args w fun e w' => Q e ∧ w' = w) :
    Calls P f args w fun e w' => Q e ∧ Below w.heap.size w w' :=
  h.mono fun _ _ ⟨hq, hk⟩ => ⟨hq, hk ▸ Below.refl _ _⟩
end Go.Proofs.YtdhbakknplnnkaaGreat.Nk
namespace Go.Proofs.YtdhbakknplnnkaaGreat.Nk
open Go.RowKit

theorem rmod_any (n m : Int) (m1 : 0 < m) (m2 : m ≤ 4294967296) (w : World) :
    Calls Tryz.prog 69 #[.int .i64 n, .int .i64 m] w fun e w' => e = .returned (.int .i64 (n % m)) ∧ w' = w := by
  have k := tm_bd n m m1
  have e := tm_mod n m m1
  have hne : ¬ m = 0 := by omega
  have h0 := Int.emod_nonneg n hne
  have h1 := Int.emod_lt_of_pos n m1
  go_enter Tryz.func69, Tryz.ntmps69
  go_wp2
  go_ret
  exact ⟨by first | rfl | exact ret_i e, rfl⟩
theorem rcrop_any (n b : Int) (b1 : 1 ≤ b) (b2 : b ≤ 32) (w : World) :
    Calls Tryz.prog 47 #[.int .i64 n, .int .i64 b] w fun e w' => e = .returned (.int .i64 (n % (2 * hf b))) ∧ w' = w := by
  have k := hf_bd b b1 b2
  have C := mkHid (rmod_any n (2 * hf b) (by omega) (by omega))
  have e := sh0 b b1 b2
  generalize n % (2 * hf b) = c at *
  generalize 2 * hf b = m at *
  go_enter Tryz.func47, Tryz.ntmps47
  go_wp2_with fail
  refine (C.out _).mono ?_
  rintro e w1 ⟨rfl, rfl⟩
  go_wp2
  go_ret
  exact ⟨rfl, rfl⟩
theorem rcrop_no (n b : Int) (h : b < 1 ∨ 32 < b) (w : World) :
    Calls Tryz.prog 47 #[.int .i64 n, .int .i64 b] w fun e w' => e = .returned (.int .i64 0) ∧ w' = w := by
  rcases h with h | h
  · go_enter Tryz.func47, Tryz.ntmps47
    go_wp2
    go_ret
    exact ⟨rfl, rfl⟩
  · go_enter Tryz.func47, Tryz.ntmps47
    go_wp2
    go_ret
    exact ⟨rfl, rfl⟩
theorem rafter_bad (a b k : Int) (h : k < 1 ∨ 32 < k) (w : World) :
    Calls Tryz.prog 71 #[.int .i64 a, .int .i64 b, .int .i64 k] w fun e w' => e = .returned (.bool false) ∧ w' = w := by
  rcases h with h | h
  · go_enter Tryz.func71, Tryz.ntmps71
    go_wp2
    go_ret
    exact ⟨rfl, rfl⟩
  · go_enter Tryz.func71, Tryz.ntmps71
    go_wp2
    go_ret
    exact ⟨rfl, rfl⟩
set_option maxHeartbeats 400000 in
theorem rafter_no (a b k : Int) (k1 : 1 ≤ k) (k2 : k ≤ 32) (h : a < 0 ∨ 2 * hf k ≤ a ∨ b < 0 ∨ 2 * hf k ≤ b) (w : World) :
    Calls Tryz.prog 71 #[.int .i64 a, .int .i64 b, .int .i64 k] w fun e w' => e = .returned (.bool false) ∧ w' = w := by
  have s := sh0 k k1 k2
  have kh := hf_bd k k1 k2
  have hm0 : 0 < 2 * hf k := by omega
  generalize 2 * hf k = m at *
  clear kh
  by_cases ha : a < 0
  · clear h
    go_enter Tryz.func71, Tryz.ntmps71
    go_wp2
    go_ret
    exact ⟨rfl, rfl⟩
  by_cases hb : b < 0
  · clear h
    go_enter Tryz.func71, Tryz.ntmps71
    go_wp2
    go_ret
    exact ⟨rfl, rfl⟩
  by_cases hc : m ≤ a
  · clear h
    go_enter Tryz.func71, Tryz.ntmps71
    go_wp2
    go_ret
    exact ⟨rfl, rfl⟩
  have hd : m ≤ b := by omega
  clear h
  go_enter Tryz.func71, Tryz.ntmps71
  go_wp2
  go_ret
  exact ⟨rfl, rfl⟩
set_option maxHeartbeats 400000 in
theorem rafter_any (a b k : Int) (k1 : 1 ≤ k) (k2 : k ≤ 32) (a1 : 0 ≤ a) (a2 : a < 2 * hf k) (c1 : 0 ≤ b) (c2 : b < 2 * hf k) (w : World) :
    Calls Tryz.prog 71 #[.int .i64 a, .int .i64 b, .int .i64 k] w fun e w' => e = .returned (.bool (aV (hf k) a b)) ∧ w' = w := by
  have s := sh0 k k1 k2
  have s1 := sh1 k k1 k2
  have kh := hf_bd k k1 k2
  have C := mkHid (rcrop_any (a - b) k k1 k2)
  have u0 := Int.emod_nonneg (a - b) (show 2 * hf k ≠ 0 by omega)
  unfold aV
  generalize (a - b) % (2 * hf k) = u at *
  have m1 : 2 * hf k ≤ 4294967296 := by omega
  generalize 2 * hf k = m at *
  generalize hf k = h at *
  by_cases hu : 0 < u
  · have hu1 : 1 ≤ u := hu
    go_enter Tryz.func71, Tryz.ntmps71
    go_wp2_with fail
    refine (C.out _).mono ?_
    rintro e w1 ⟨rfl, rfl⟩
    go_wp2
    go_ret
    exact ⟨ret_b (decide_eq_decide.mpr (by omega)), rfl⟩
  · have hu1 : ¬ 1 ≤ u := by omega
    go_enter Tryz.func71, Tryz.ntmps71
    go_wp2_with fail
    refine (C.out _).mono ?_
    rintro e w1 ⟨rfl, rfl⟩
    go_wp2
    go_ret
    exact ⟨ret_b (by rw [decide_eq_false (show ¬ 0 < u by omega), Bool.false_and]), rfl⟩
end Go.Proofs.YtdhbakknplnnkaaGreat.Nk
