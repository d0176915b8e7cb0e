/-
  Lists that a call makes: their rows, what an append does to them; packets and sources that lie in memory.
-/
import Derived.Test.YtdhbakknplnnkaaGreatCc1
import Derived.Laws.MakeOwn
import Derived.Deep.LoopGhost
namespace Go.Proofs.YtdhbakknplnnkaaGreat.Cc
open Go.RowKit

/-- A slice value that holds n elements of so many cells each, the cells xs; it may be nil. -/
def SrcN (w : World) (size : Nat) (v : Value) (n : Nat) (xs : List Value) : Prop :=
  (∃ c, v = .slice none 0 c ∧ n = 0 ∧ xs = []) ∨ ∃ ad c, v = .slice (some ad) n c ∧ xs.length = n * size ∧ ∀ j u, xs[j]? = some u → w.cell? (ad.add j) = some u
section
variable {P : Program} (w : World)
theorem run_append_onto (base : Nat) (t ty e : TypeId) (i : TypeInfo) (z : Value) (size bytes : Nat) (ht : P.underlying t = some (.slice e)) (hi : P.info? e = some i) (hz : i.zero = some z)
    (hsize : i.size = size) (hby : i.bytes = bytes) (hzs : z.cells.size = size) (hsz : 0 < size)
    (v : Value) (n : Nat) (xs : List Value) (hown : w.ownsRow base e size v n xs)
    (s : Value) (m : Nat) (news : List Value) (hs : SrcN w size s m news) (h1 : ∀ u ∈ news, u.oneCell' = true)
    (h63 : n + m ≤ maxLen) (hbytes : (n + m) * bytes ≤ 140737488355328) (hbase : base ≤ w.heap.size) :
    ∃ v' w', (Builtin.append_ #[t, t] ty #[v, s]).run P w = .ok v' w' ∧ w'.ownsRow base e size v' (n + m) (xs ++ news) ∧ w.grownBy w' v.ownBlock := by
  rcases hs with ⟨c, rfl, rfl, rfl⟩ | ⟨ad, c, rfl, hl, hcell⟩
  · refine ⟨v, w, ?_, by simpa using hown, ⟨rfl, rfl, rfl, Nat.le_refl _, fun _ _ _ => rfl⟩⟩
    rcases hown.2 with ⟨rfl, rfl⟩ | ⟨g, cap, cur, rfl, hb, hg, hn, h2, h3, h4⟩
    · simp [Builtin.append_, run_underlying ht, sizeOf, typeInfo, hi, Builtin.lenOf, Builtin.firstCells]
    · simp [Builtin.append_, run_underlying ht, sizeOf, typeInfo, hi, Builtin.lenOf, Builtin.firstCells, hn, storeCells]
  · obtain ⟨v', w', a, b, c', _⟩ := run_append_own (P := P) w base t ty e i z size bytes ht hi hz hsize hby hzs hsz v n xs hown ad m c news hl hcell h1 h63 hbytes hbase
    exact ⟨v', w', a, b, c'⟩
theorem wpList_append_onto {ops : Array Oper} {rest : List Oper} {o : Oper} {a : Act} {Q : Exit → Act → World → Prop} (hgd : o.guard = none) (s x : Operand) (t : TypeId)
    (ho : o.op = .call { callee := .builtin .append, args := #[s, x], argTypes := #[t, t] })
    (base : Nat) (e : TypeId) (i : TypeInfo) (z : Value) (size bytes : Nat) (ht : P.underlying t = some (.slice e)) (hi : P.info? e = some i) (hz : i.zero = some z)
    (hsize : i.size = size) (hby : i.bytes = bytes) (hzs : z.cells.size = size) (hsz : 0 < size)
    (v : Value) (n : Nat) (xs : List Value) (hs : a.eval s = v) (hown : w.ownsRow base e size v n xs)
    (u : Value) (m : Nat) (news : List Value) (hx : a.eval x = u) (hsrc : SrcN w size u m news) (h1 : ∀ u ∈ news, u.oneCell' = true)
    (h63 : n + m ≤ maxLen) (hbytes : (n + m) * bytes ≤ 140737488355328) (hbase : base ≤ w.heap.size)
    (h : ∀ v' w', w'.ownsRow base e size v' (n + m) (xs ++ news) → w.grownBy w' v.ownBlock → wpList P ops Q rest (a.put o.dst v') w') : wpList P ops Q (o :: rest) a w :=
  wpList_plain hgd fun K hK => by
    obtain ⟨v', w', hr, h2, h3⟩ := run_append_onto (P := P) w base t o.type e i z size bytes ht hi hz hsize hby hzs hsz v n xs hown u m news hsrc h1 h63 hbytes hbase
    unfold Oper.wp execOp
    simp only [ho, resolve, invoke, builtin, Sem.run_bind, Sem.run_pure, Result.andThen_ok, List.map_toArray, List.map_cons, List.map_nil, hs, hx, hr]
    exact hK _ _ (h v' w' h2 h3)
end
theorem ownsRow_apart {w w' : World} {X : Nat → Prop} {base : Nat} {e : TypeId} {size : Nat} {v : Value} {n : Nat} {xs : List Value} (h : w.ownsRow base e size v n xs) (ha : Apart X w w') (hx : ∀ k, base ≤ k → ¬ X k) : w'.ownsRow base e size v n xs := by
  refine ⟨h.1, ?_⟩
  rcases h.2 with hn | ⟨g, cap, cur, rfl, hg, hh, r⟩
  · exact .inl hn
  · exact .inr ⟨g, cap, cur, rfl, hg, ha.heap hh (hx g hg), r⟩
theorem ownsRow_base {w : World} {base base' : Nat} {e : TypeId} {size : Nat} {v : Value} {n : Nat} {xs : List Value} (h : w.ownsRow base e size v n xs) (hb : base' ≤ base) : w.ownsRow base' e size v n xs := by
  refine ⟨h.1, ?_⟩
  rcases h.2 with hn | ⟨g, cap, cur, rfl, hg, hh, r⟩
  · exact .inl hn
  · exact .inr ⟨g, cap, cur, rfl, by omega, hh, r⟩
theorem ownsRow_slice {w : World} {base : Nat} {e : TypeId} {size : Nat} {v : Value} {n : Nat} {xs : List Value} (h : w.ownsRow base e size v n xs) : ∃ a c, v = .slice a n c := by
  rcases h.2 with ⟨rfl, rfl⟩ | ⟨g, cap, cur, rfl, _⟩
  · exact ⟨none, 0, rfl⟩
  · exact ⟨_, _, rfl⟩
theorem own_empty (w : World) (base : Nat) (e : TypeId) (size : Nat) (hb : base ≤ w.heap.size) : (w.alloc (.cells #[] e)).ownsRow base e size (.slice (some ⟨w.heap.size, 0, none⟩) 0 0) 0 [] :=
  ⟨by simp, .inr ⟨w.heap.size, 0, #[], rfl, hb, heap_alloc_new _ _, Nat.le_refl _, by unfold maxLen; omega, by simp, by simp⟩⟩
theorem ownsRow_apart2 {w w' : World} {X : Nat → Prop} {base : Nat} {e : TypeId} {size : Nat} {v : Value} {n : Nat} {xs : List Value} (h : w.ownsRow base e size v n xs) (ha : Apart X w w') (hx : ∀ k, v.ownBlock = some k → ¬ X k) : w'.ownsRow base e size v n xs := by
  refine ⟨h.1, ?_⟩
  rcases h.2 with hn | ⟨g, cap, cur, rfl, hg, hh, r⟩
  · exact .inl hn
  · exact .inr ⟨g, cap, cur, rfl, hg, ha.heap hh (hx g rfl), r⟩
theorem ownsRow_below {w w' : World} {B base : Nat} {e : TypeId} {size : Nat} {v : Value} {n : Nat} {xs : List Value} (h : w.ownsRow base e size v n xs) (ha : Below B w w') (hx : ∀ k, v.ownBlock = some k → k < B) : w'.ownsRow base e size v n xs := by
  refine ⟨h.1, ?_⟩
  rcases h.2 with hn | ⟨g, cap, cur, rfl, hg, hh, r⟩
  · exact .inl hn
  · exact .inr ⟨g, cap, cur, rfl, hg, (ha.block g (hx g rfl)).trans hh, r⟩
/-- The cells of packets. -/
def mC : List Mt → List Value
  | [] => []
  | m :: l => .bool m.g :: .int .i64 m.e :: .int .i64 m.a :: mC l
@[simp] theorem mC_len (l : List Mt) : (mC l).length = l.length * 3 := by induction l with | nil => rfl | cons p l ih => simp [mC, ih]; omega
theorem mC_app (l k : List Mt) : mC (l ++ k) = mC l ++ mC k := by induction l with | nil => rfl | cons p l ih => simp [mC, ih]
theorem mC_get (l : List Mt) (i : Nat) (m : Mt) (h : l[i]? = some m) : (mC l)[i * 3]? = some (.bool m.g) ∧ (mC l)[i * 3 + 1]? = some (.int .i64 m.e) ∧ (mC l)[i * 3 + 2]? = some (.int .i64 m.a) := by
  induction l generalizing i with
  | nil => simp at h
  | cons x l ih =>
    cases i with
    | zero => simp at h; subst h; exact ⟨rfl, rfl, rfl⟩
    | succ i =>
      obtain ⟨h0, h1, h2⟩ := ih i (by simpa using h)
      rw [show (i + 1) * 3 = i * 3 + 1 + 1 + 1 by omega, show i * 3 + 1 + 1 + 1 + 1 = (i * 3 + 1) + 1 + 1 + 1 by omega, show i * 3 + 1 + 1 + 1 + 2 = (i * 3 + 2) + 1 + 1 + 1 by omega]
      simp only [mC, List.getElem?_cons_succ]
      exact ⟨h0, h1, h2⟩
theorem mC_one (l : List Mt) : ∀ u ∈ mC l, u.oneCell' = true := by
  induction l with
  | nil => simp [mC]
  | cons p l ih =>
    intro u hu
    simp only [mC, List.mem_cons] at hu
    rcases hu with rfl | rfl | rfl | hu
    · rfl
    · rfl
    · rfl
    · exact ih u hu
theorem ma_src {B : Nat} {w : World} {a : Option Addr} {l : List Mt} {cap : Nat} (h : MA B w a l) : SrcN w 3 (.slice a l.length cap) l.length (mC l) := by
  rcases h.2 with h0 | ⟨b, off, rfl, hb, hc⟩
  · subst h0
    cases a with
    | none => exact .inl ⟨cap, rfl, rfl, rfl⟩
    | some ad => exact .inr ⟨ad, cap, rfl, rfl, fun j u hj => by simp [mC] at hj⟩
  · refine .inr ⟨_, cap, rfl, by simp, fun j u hj => ?_⟩
    have hl : j < l.length * 3 := by have := (List.getElem?_eq_some_iff.1 hj).1; simpa using this
    have hi : j / 3 < l.length := by omega
    obtain ⟨c0, c1, c2⟩ := hc (j / 3) _ (List.getElem?_eq_getElem hi)
    obtain ⟨g0, g1, g2⟩ := mC_get l (j / 3) _ (List.getElem?_eq_getElem hi)
    rw [Addr.add_lit, ← hj]
    rcases (by omega : j = j / 3 * 3 ∨ j = j / 3 * 3 + 1 ∨ j = j / 3 * 3 + 2) with e | e | e
    · rw [e, c0, g0]
    · rw [e, ← Nat.add_assoc, c1, g1]
    · rw [e, ← Nat.add_assoc, c2, g2]
/-- Packets that lie in a block that is none of X. -/
def MX (X : Nat → Prop) (w : World) (a : Option Addr) (l : List Mt) : Prop :=
  l.length ≤ maxLen ∧ (l = [] ∨ ∃ b off, a = some ⟨b, off, none⟩ ∧ b < w.heap.size ∧ ¬ X b ∧ ∀ i m, l[i]? = some m → MC w b (off + i * 3) m)
theorem MX.kept {X X' Y : Nat → Prop} {w w' : World} {a : Option Addr} {l : List Mt} (h : MX X w a l) (ha : Apart Y w w') (hY : ∀ b, b < w.heap.size → Y b → X b) (hX : ∀ b, b < w.heap.size → X' b → X b) : MX X' w' a l := by
  refine ⟨h.1, ?_⟩
  rcases h.2 with h0 | ⟨b, off, rfl, hb, hx, hc⟩
  · exact .inl h0
  · have hn : ¬ Y b := fun e => hx (hY b hb e)
    refine .inr ⟨b, off, rfl, by have := ha.size; omega, fun e => hx (hX b hb e), fun i m hi => ?_⟩
    obtain ⟨c0, c1, c2⟩ := hc i m hi
    exact ⟨by rw [ha.cell (p := ⟨b, off + i * 3, none⟩) hb hn]; exact c0, by rw [ha.cell (p := ⟨b, off + i * 3 + 1, none⟩) hb hn]; exact c1, by rw [ha.cell (p := ⟨b, off + i * 3 + 2, none⟩) hb hn]; exact c2⟩
theorem MX.ma {X : Nat → Prop} {w : World} {a : Option Addr} {l : List Mt} (h : MX X w a l) : MA w.heap.size w a l := by
  refine ⟨h.1, ?_⟩
  rcases h.2 with h0 | ⟨b, off, rfl, hb, hx, hc⟩
  · exact .inl h0
  · exact .inr ⟨b, off, rfl, hb, hc⟩
theorem own_mx {w : World} {base : Nat} {v : Value} {l : List Mt} {X : Nat → Prop} (h : w.ownsRow base 45 3 v l.length (mC l)) (hm : l.length ≤ maxLen) (hX : ∀ k, v.ownBlock = some k → ¬ X k) : ∃ a c, v = .slice a l.length c ∧ MX X w a l := by
  rcases h.2 with ⟨rfl, h0⟩ | ⟨g, cap, cur, rfl, hg, hh, r⟩
  · obtain rfl := List.eq_nil_of_length_eq_zero h0
    exact ⟨none, 0, rfl, hm, .inl rfl⟩
  · refine ⟨_, cap, rfl, hm, .inr ⟨g, 0, rfl, lt_of_heap hh, hX g rfl, fun i m hi => ?_⟩⟩
    have hl : i < l.length := (List.getElem?_eq_some_iff.1 hi).1
    obtain ⟨g0, g1, g2⟩ := mC_get l i m hi
    refine ⟨?_, ?_, ?_⟩
    · rw [Nat.zero_add, h.cellAt _ (by omega), g0]
    · rw [Nat.zero_add, h.cellAt _ (by omega), g1]
    · rw [Nat.zero_add, h.cellAt _ (by omega), g2]
/-- A source and where its packets lie. -/
structure Kx where
  k : Bk
  a : Option Addr
  c : Nat
/-- The cells of sources. -/
def kC : List Kx → List Value
  | [] => []
  | x :: l => .int .u32 x.k.s :: .int .i64 x.k.f :: .slice x.a x.k.m.length x.c :: kC l
@[simp] theorem kC_len (l : List Kx) : (kC l).length = l.length * 3 := by induction l with | nil => rfl | cons p l ih => simp [kC, ih]; omega
theorem kC_app (l k : List Kx) : kC (l ++ k) = kC l ++ kC k := by induction l with | nil => rfl | cons p l ih => simp [kC, ih]
theorem kC_get (l : List Kx) (i : Nat) (x : Kx) (h : l[i]? = some x) : (kC l)[i * 3]? = some (.int .u32 x.k.s) ∧ (kC l)[i * 3 + 1]? = some (.int .i64 x.k.f) ∧ (kC l)[i * 3 + 2]? = some (.slice x.a x.k.m.length x.c) := by
  induction l generalizing i with
  | nil => simp at h
  | cons x l ih =>
    cases i with
    | zero => simp at h; subst h; exact ⟨rfl, rfl, rfl⟩
    | succ i =>
      obtain ⟨h0, h1, h2⟩ := ih i (by simpa using h)
      rw [show (i + 1) * 3 = i * 3 + 1 + 1 + 1 by omega, show i * 3 + 1 + 1 + 1 + 1 = (i * 3 + 1) + 1 + 1 + 1 by omega, show i * 3 + 1 + 1 + 1 + 2 = (i * 3 + 2) + 1 + 1 + 1 by omega]
      simp only [kC, List.getElem?_cons_succ]
      exact ⟨h0, h1, h2⟩
/-- All of them: their packets lie in blocks that are none of X. -/
def KX (X : Nat → Prop) (w : World) (l : List Kx) : Prop := ∀ x ∈ l, MX X w x.a x.k.m ∧ 0 ≤ x.k.s ∧ x.k.s < 4294967296
theorem KX.nil (X : Nat → Prop) (w : World) : KX X w [] := fun x hx => by cases hx
theorem KX.kept {X X' Y : Nat → Prop} {w w' : World} {l : List Kx} (h : KX X w l) (ha : Apart Y w w') (hY : ∀ b, b < w.heap.size → Y b → X b) (hX : ∀ b, b < w.heap.size → X' b → X b) : KX X' w' l :=
  fun x hx => ⟨(h x hx).1.kept ha hY hX, (h x hx).2⟩
theorem KX.snoc {X : Nat → Prop} {w : World} {l : List Kx} (h : KX X w l) (x : Kx) (hx : MX X w x.a x.k.m) (h0 : 0 ≤ x.k.s) (h1 : x.k.s < 4294967296) : KX X w (l ++ [x]) := by
  intro y hy
  rcases List.mem_append.1 hy with hy | hy
  · exact h y hy
  · simp at hy; subst hy; exact ⟨hx, h0, h1⟩
theorem own_ba {w : World} {base : Nat} {v : Value} {l : List Kx} {X : Nat → Prop} (h : w.ownsRow base 49 3 v l.length (kC l)) (hm : l.length ≤ maxLen) (hk : KX X w l) : ∃ a c, v = .slice a l.length c ∧ BA w.heap.size w a (l.map (·.k)) := by
  rcases h.2 with ⟨rfl, h0⟩ | ⟨g, cap, cur, rfl, hg, hh, r⟩
  · obtain rfl := List.eq_nil_of_length_eq_zero h0
    exact ⟨none, 0, rfl, BA.nil _ _ _⟩
  · refine ⟨_, cap, rfl, by simpa using hm, .inr ⟨g, 0, rfl, lt_of_heap hh, fun i k hi => ?_⟩⟩
    rw [List.getElem?_map] at hi
    obtain ⟨x, hx, rfl⟩ := Option.map_eq_some_iff.1 hi
    have hl : i < l.length := (List.getElem?_eq_some_iff.1 hx).1
    obtain ⟨g0, g1, g2⟩ := kC_get l i x hx
    obtain ⟨q0, q1⟩ := hk x (List.mem_of_getElem? hx)
    refine ⟨?_, ?_, ⟨x.a, x.c, ?_, q0.ma⟩, q1⟩
    · rw [Nat.zero_add, h.cellAt _ (by omega), g0]
    · rw [Nat.zero_add, h.cellAt _ (by omega), g1]
    · rw [Nat.zero_add, h.cellAt _ (by omega), g2]
theorem info44 : (Tryz.prog.info? 49).map (fun i => (i.zero, i.size, i.bytes)) = some (some (.agg #[.int .u32 0, .int .i64 0, .slice none 0 0]), 3, 40) := by kernel_rfl
theorem info47 : (Tryz.prog.info? 45).map (fun i => (i.zero, i.size, i.bytes)) = some (some (.agg #[.bool false, .int .i64 0, .int .i64 0]), 3, 24) := by kernel_rfl
theorem cell_three_new (w : World) (x y z : Value) (t : TypeId) : ∀ j u, [x, y, z][j]? = some u → (w.alloc (.cells #[x, y, z] t)).cell? ((⟨w.heap.size, 0, none⟩ : Addr).add j) = some u := by
  intro j u hj
  rw [Addr.add_lit, Nat.zero_add, cell_of_row _ w.heap.size j _ t _ (heap_alloc_new w _)]
  simpa using hj
/-- Three cells stored one behind the other. -/
def put3 (w : World) (b o : Nat) (x y z : Value) : World := ((w.setCell ⟨b, o, none⟩ x).setCell ⟨b, o + 1, none⟩ y).setCell ⟨b, o + 2, none⟩ z
theorem put3_eq (w : World) (b o : Nat) (x y z : Value) : ((w.setCell ⟨b, o, none⟩ x).setCell ⟨b, o + 1, none⟩ y).setCell ⟨b, o + 2, none⟩ z = put3 w b o x y z := rfl
theorem put3_ap (w : World) (b o : Nat) (x y z : Value) : Apart (· = b) w (put3 w b o x y z) := by
  refine Apart.setCell (X := (· = b)) (p := ⟨b, o + 2, none⟩) ?_ (fun _ => rfl) _
  refine Apart.setCell (X := (· = b)) (p := ⟨b, o + 1, none⟩) ?_ (fun _ => rfl) _
  exact Apart.setCell (X := (· = b)) (p := ⟨b, o, none⟩) (Apart.refl _ _) (fun _ => rfl) _
theorem put3_is {w : World} {b : Nat} {u0 u1 u2 : Value} {T : TypeId} (h : w.heap[b]? = some (.cells #[u0, u1, u2] T (0, 0))) (x y z : Value) : (put3 w b 0 x y z).heap[b]? = some (.cells #[x, y, z] T (0, 0)) := by
  have h0 := heap_setCell_same _ b 0 _ T x h
  have h1 := heap_setCell_same _ b (0 + 1) _ T y h0
  have h2 := heap_setCell_same _ b (0 + 2) _ T z h1
  unfold put3
  rw [h2]; rfl
theorem ap_set (w : World) (b o : Nat) (v : Value) : Apart (· = b) w (w.setCell ⟨b, o, none⟩ v) := Apart.setCell (X := (· = b)) (p := ⟨b, o, none⟩) (Apart.refl _ _) (fun _ => rfl) _
theorem set0 {w : World} {b : Nat} {u0 u1 u2 : Value} {T : TypeId} (h : w.heap[b]? = some (.cells #[u0, u1, u2] T (0, 0))) (x : Value) : (w.setCell ⟨b, 0, none⟩ x).heap[b]? = some (.cells #[x, u1, u2] T (0, 0)) := by rw [heap_setCell_same _ b 0 _ T x h]; rfl
theorem set1 {w : World} {b : Nat} {u0 u1 u2 : Value} {T : TypeId} (h : w.heap[b]? = some (.cells #[u0, u1, u2] T (0, 0))) (x : Value) : (w.setCell ⟨b, 1, none⟩ x).heap[b]? = some (.cells #[u0, x, u2] T (0, 0)) := by rw [heap_setCell_same _ b 1 _ T x h]; rfl
theorem set2 {w : World} {b : Nat} {u0 u1 u2 : Value} {T : TypeId} (h : w.heap[b]? = some (.cells #[u0, u1, u2] T (0, 0))) (x : Value) : (w.setCell ⟨b, 2, none⟩ x).heap[b]? = some (.cells #[u0, u1, x] T (0, 0)) := by rw [heap_setCell_same _ b 2 _ T x h]; rfl
end Go.Proofs.YtdhbakknplnnkaaGreat.Cc
namespace Go.Proofs.YtdhbakknplnnkaaGreat.Cc
open Go.RowKit

theorem get_fit (b : Nat) (s : ByteArray) (hs : s.size ≤ 1000000) (p : Nat) (n : Int) (m : Nat) (e : n = m) (h1 : m ≤ 32) (h2 : p + m ≤ 8 * s.size) (w : World) (h : Rd 143 w b s (some p)) :
    Calls Tryz.prog 58 #[.pointer (some ⟨b, 0, none⟩), .int .i64 n] w fun e w' => e = .returned (.int .u32 (gv s p m)) ∧ Rd 143 w' b s (some (p + m)) ∧ Apart (· = b) w w' := by
  subst e
  exact get_ok b s hs p m h1 h2 w h
theorem holds_any (b : Nat) (s : ByteArray) (hs : s.size ≤ 1000000) (p : Nat) (n : Nat) (hn : n ≤ 1000000) (w : World) (h : Rd 143 w b s (some p)) :
    Calls Tryz.prog 78 #[.pointer (some ⟨b, 0, none⟩), .int .i64 (n : Int)] w fun e w' => e = .returned (.bool (decide (n + 4 ≤ (8 * s.size - p) / 8))) ∧ ∃ k, w' = w.drewN k := by
  have L := mkHid (left_any b s hs (some p) w h)
  have hp := h.2
  obtain ⟨g, HG⟩ : ∃ g : Int, Hid (gleft s (some p) = g) := ⟨_, rfl⟩
  have e1 : g = 8 * (s.size : Int) - p := by rw [← HG.out]; rfl
  rw [HG.out] at L
  have g0 : 0 ≤ g := by omega
  have g1 : g ≤ 8000000 := by omega
  have hn' : (n : Int) ≤ 1000000 := by omega
  have HE := mkHid (show decide (n + 4 ≤ (8 * s.size - p) / 8) = decide ((n : Int) + 4 ≤ g / 8) by rw [decide_eq_decide]; omega)
  rw [HE.out]
  clear e1 h hp
  go_enter Tryz.func78, Tryz.ntmps78
  go_wp2_with fail
  refine (L.out).mono ?_
  rintro e w1 ⟨rfl, k, rfl⟩
  go_wp2
  go_ret
  exact ⟨rfl, k, rfl⟩
theorem holds_at (b : Nat) (s : ByteArray) (hs : s.size ≤ 1000000) (p : Nat) (n : Int) (m : Nat) (e : n = m) (hn : m ≤ 1000000) (B : Bool) (hB : B = decide (m + 4 ≤ (8 * s.size - p) / 8)) (w : World) (h : Rd 143 w b s (some p)) :
    Calls Tryz.prog 78 #[.pointer (some ⟨b, 0, none⟩), .int .i64 n] w fun e w' => e = .returned (.bool B) ∧ ∃ k, w' = w.drewN k := by
  subst e hB
  exact holds_any b s hs p m hn w h
theorem cells3' {w : World} {b : Nat} {v0 v1 v2 : Value} {T : TypeId} (h : w.heap[b]? = some (.cells #[v0, v1, v2] T (0, 0))) :
    (w.cell? ⟨b, 0, none⟩ = some v0 ∧ w.cell? ⟨b, 1, none⟩ = some v1 ∧ w.cell? ⟨b, 2, none⟩ = some v2) ∧ w.frozen? ⟨b, 0, none⟩ = false ∧ w.frozen? ⟨b, 1, none⟩ = false ∧ w.frozen? ⟨b, 2, none⟩ = false := by
  obtain ⟨h0, h1, h2, h3, h4, h5⟩ := cells3 h
  exact ⟨⟨h0, h1, h2⟩, h3, h4, h5⟩
theorem res51 {W : World} {bx : Nat} {g : Bool} {e a : Int} (tmps : Array Value) (h2 : tmps.getD 2 undef = .pointer (some ⟨bx, 0, none⟩)) (hd : W.heap[bx]? = some (.cells #[.bool g, .int .i64 e, .int .i64 a] 45 (0, 0))) :
    (results Tryz.f95 tmps).run Tryz.prog W = .ok (.agg #[.bool g, .int .i64 e, .int .i64 a]) W := by
  obtain ⟨⟨c0, c1, c2⟩, _⟩ := cells3' hd
  clear hd
  have h2' : tmps[2]?.getD undef = .pointer (some ⟨bx, 0, none⟩) := by rw [← h2]; simp
  simp [results, Tryz.results95, h2', c0, c1, c2, go_sem]
set_option maxRecDepth 100000 in
set_option maxHeartbeats 400000 in
theorem getmetric_any (b : Nat) (s : ByteArray) (hs : s.size ≤ 1000000) (p : Nat) (hp : p + 16 ≤ 8 * s.size) (w : World) (h : Rd 143 w b s (some p)) :
    Calls Tryz.prog 95 #[.pointer (some ⟨b, 0, none⟩)] w fun e w' => e = .returned (mv (mtAt s p)) ∧ Rd 143 w' b s (some (p + 16)) ∧ Apart (· = b) w w' := by
  have hbl := h.heap
  have H := mkHid (h.kept ((Apart.refl (fun _ => False) _).alloc (.cells #[.bool false, .int .i64 0, .int .i64 0] 45)) (fun h => h))
  have N0 := mkHid (heap_alloc_new w (.cells #[.bool false, .int .i64 0, .int .i64 0] 45))
  have A0 := mkHid ((Apart.refl (· = b) w).alloc (.cells #[.bool false, .int .i64 0, .int .i64 0] 45))
  obtain ⟨q, HQ⟩ : ∃ q, Hid (w.heap.size = q) := ⟨_, rfl⟩
  obtain ⟨W, HW⟩ : ∃ W, Hid (w.alloc (.cells #[.bool false, .int .i64 0, .int .i64 0] 45) = W) := ⟨_, rfl⟩
  rw [HQ.out] at hbl
  rw [HQ.out, HW.out] at N0
  rw [HW.out] at H A0
  have hne : ¬ b = q := by omega
  have hne' : ¬ q = b := by omega
  have HS := mkHid hs
  have HP := mkHid hp
  obtain ⟨g0, G0⟩ : ∃ g0, Hid (gv s p 1 = g0) := ⟨_, rfl⟩
  obtain ⟨g1, G1⟩ : ∃ g1, Hid (gv s (p + 1) 2 = g1) := ⟨_, rfl⟩
  obtain ⟨g2, G2⟩ : ∃ g2, Hid (gv s (p + 3) 13 = g2) := ⟨_, rfl⟩
  have l0 : (g0 : Int) < 2 := by have := gv_lt s p 1; rw [G0.out] at this; omega
  have l1 : (g1 : Int) < 4 := by have := gv_lt s (p + 1) 2; rw [G1.out] at this; omega
  have l2 : (g2 : Int) < 8192 := by have := gv_lt s (p + 3) 13; rw [G2.out] at this; omega
  clear h hs hp
  go_enter Tryz.func95, Tryz.ntmps95
  go_wp2_with fail
  rw [HW.out, HQ.out]
  have K1 := get_fit b s HS.out p 1 1 rfl (by omega) (by have := HP.out; omega) _ H.out
  rw [G0.out] at K1
  refine K1.mono ?_
  clear K1
  rintro e w1 ⟨rfl, r1, a1⟩
  have D1 := mkHid (a1.heap N0.out hne')
  have R1 := mkHid (r1.kept (ap_set w1 q 0 (.bool ((g0 : Int) == 1))) hne)
  have A1 := mkHid ((A0.out.trans a1 (fun _ _ h => h)).trans (ap_set w1 q 0 (.bool ((g0 : Int) == 1))) (fun i hi e => by rw [HQ.out] at hi; omega))
  have E1 := mkHid (set0 D1.out (.bool ((g0 : Int) == 1)))
  obtain ⟨⟨c0, c1, c2⟩, f0, f1, f2⟩ := cells3' D1.out
  clear r1 a1 H N0 A0
  go_wp2_with fail
  have K1 := get_fit b s HS.out (p + 1) 2 2 rfl (by omega) (by have := HP.out; omega) _ R1.out
  rw [G1.out] at K1
  refine K1.mono ?_
  clear K1
  rintro e w2 ⟨rfl, r2, a2⟩
  have D2 := mkHid (a2.heap E1.out hne')
  have R2 := mkHid (r2.kept (ap_set w2 q 1 (.int .i64 (g1 : Int))) hne)
  have A2 := mkHid ((A1.out.trans a2 (fun _ _ h => h)).trans (ap_set w2 q 1 (.int .i64 (g1 : Int))) (fun i hi e => by rw [HQ.out] at hi; omega))
  have E2 := mkHid (set1 D2.out (.int .i64 (g1 : Int)))
  clear r2 a2 R1 A1 E1 D1 c0 c1 c2 f0 f1 f2
  obtain ⟨⟨c0, c1, c2⟩, f0, f1, f2⟩ := cells3' D2.out
  go_wp2_with fail
  have K1 := get_fit b s HS.out (p + 3) 13 13 rfl (by omega) (by have := HP.out; omega) _ R2.out
  rw [G2.out] at K1
  refine K1.mono ?_
  clear K1
  rintro e w3 ⟨rfl, r3, a3⟩
  have D3 := mkHid (a3.heap E2.out hne')
  have R3 := mkHid r3
  have A3 := mkHid (A2.out.trans a3 (fun _ _ h => h))
  clear r3 a3 R2 A2 E2 D2 c0 c1 c2 f0 f1 f2
  obtain ⟨⟨c0, c1, c2⟩, f0, f1, f2⟩ := cells3' D3.out
  go_wp2
  have dd := put3_is (set2 D3.out (.int .i64 (g2 : Int))) (.bool ((g0 : Int) == 1)) (.int .i64 (g1 : Int)) (.int .i64 (g2 : Int))
  have ap := (ap_set w3 q 2 (.int .i64 (g2 : Int))).trans (put3_ap _ q 0 (.bool ((g0 : Int) == 1)) (.int .i64 (g1 : Int)) (.int .i64 (g2 : Int))) (fun _ _ h => h)
  refine bodyPost_ret (res51 _ rfl dd) rfl ⟨?_, ?_, ?_⟩
  · have e : ((g0 : Int) == 1) = decide (g0 = 1) := by
      rw [Bool.eq_iff_iff]; simp; omega
    unfold mv mtAt
    rw [G0.out, G1.out, G2.out, e]
  · exact R3.out.kept ap hne
  · exact A3.out.trans ap (fun i hi e => by rw [HQ.out] at hi; omega)

/-- A row of n packets in block g, the first ones laid. -/
def MRow (w : World) (g n : Nat) (l : List Mt) : Prop := ∃ cs : Array Value, w.heap[g]? = some (.cells cs 45 (0, 0)) ∧ cs.size = n * 3 ∧ ∀ i m, l[i]? = some m → cs[i * 3]? = some (.bool m.g) ∧ cs[i * 3 + 1]? = some (.int .i64 m.e) ∧ cs[i * 3 + 2]? = some (.int .i64 m.a)
theorem MRow.kept {X : Nat → Prop} {w w' : World} {g n : Nat} {l : List Mt} (h : MRow w g n l) (ha : Apart X w w') (hx : ¬ X g) : MRow w' g n l := by
  obtain ⟨cs, h0, h1⟩ := h
  exact ⟨cs, ha.heap h0 hx, h1⟩
theorem MRow.at {w : World} {g n : Nat} {l : List Mt} (h : MRow w g n l) (k : Nat) (hk : k < n) : ∃ x0 x1 x2, (w.cell? ⟨g, k * 3, none⟩ = some x0 ∧ w.cell? ⟨g, k * 3 + 1, none⟩ = some x1 ∧ w.cell? ⟨g, k * 3 + 2, none⟩ = some x2) ∧ w.frozen? ⟨g, k * 3, none⟩ = false ∧ w.frozen? ⟨g, k * 3 + 1, none⟩ = false ∧ w.frozen? ⟨g, k * 3 + 2, none⟩ = false := by
  obtain ⟨cs, h0, h1, _⟩ := h
  refine ⟨cs[k * 3]'(by omega), cs[k * 3 + 1]'(by omega), cs[k * 3 + 2]'(by omega), ⟨?_, ?_, ?_⟩, frozen_of_row w g _ _ 45 h0, frozen_of_row w g _ _ 45 h0, frozen_of_row w g _ _ 45 h0⟩
  · rw [cell_of_row w g _ _ 45 _ h0, Array.getElem?_eq_getElem]
  · rw [cell_of_row w g _ _ 45 _ h0, Array.getElem?_eq_getElem]
  · rw [cell_of_row w g _ _ 45 _ h0, Array.getElem?_eq_getElem]
theorem MRow.next {w : World} {g n : Nat} {l : List Mt} (h : MRow w g n l) (hk : l.length < n) (m : Mt) : MRow (put3 w g (l.length * 3) (.bool m.g) (.int .i64 m.e) (.int .i64 m.a)) g n (l ++ [m]) := by
  obtain ⟨cs, h0, h1, h2⟩ := h
  have k0 := heap_setCell_same w g (l.length * 3) _ 45 (.bool m.g) h0
  have k1 := heap_setCell_same _ g (l.length * 3 + 1) _ 45 (.int .i64 m.e) k0
  have k2 := heap_setCell_same _ g (l.length * 3 + 2) _ 45 (.int .i64 m.a) k1
  refine ⟨_, k2, by simp [h1], fun i x hi => ?_⟩
  by_cases hl : i < l.length
  · rw [List.getElem?_append_left hl] at hi
    obtain ⟨q0, q1, q2⟩ := h2 i x hi
    simp only [Array.getElem?_setIfInBounds]
    refine ⟨?_, ?_, ?_⟩
    · rw [if_neg (by omega), if_neg (by omega), if_neg (by omega)]; exact q0
    · rw [if_neg (by omega), if_neg (by omega), if_neg (by omega)]; exact q1
    · rw [if_neg (by omega), if_neg (by omega), if_neg (by omega)]; exact q2
  · have hi2 : i < (l ++ [m]).length := (List.getElem?_eq_some_iff.1 hi).1
    obtain rfl : i = l.length := by simp at hi2; omega
    simp at hi
    subst hi
    simp only [Array.getElem?_setIfInBounds, Array.size_setIfInBounds]
    refine ⟨?_, ?_, ?_⟩
    · rw [if_neg (by omega), if_neg (by omega), if_pos trivial, if_pos (by omega)]
    · rw [if_neg (by omega), if_pos trivial, if_pos (by omega)]
    · rw [if_pos trivial, if_pos (by omega)]
theorem MRow.mx {w : World} {g n : Nat} {l : List Mt} {X : Nat → Prop} (h : MRow w g n l) (hn : n ≤ maxLen) (hl : l.length = n) (hX : ¬ X g) : MX X w (some ⟨g, 0, none⟩) l := by
  obtain ⟨cs, h0, h1, h2⟩ := h
  refine ⟨by omega, .inr ⟨g, 0, rfl, lt_of_heap h0, hX, fun i m hi => ?_⟩⟩
  obtain ⟨q0, q1, q2⟩ := h2 i m hi
  refine ⟨?_, ?_, ?_⟩
  · rw [Nat.zero_add, cell_of_row w g _ _ 45 _ h0, q0]
  · rw [Nat.zero_add, cell_of_row w g _ _ 45 _ h0, q1]
  · rw [Nat.zero_add, cell_of_row w g _ _ 45 _ h0, q2]
theorem mk_row (n : Nat) (hn : n ≤ 1000000) (w : World) :
    (Instr.makeSlice 46 (.int .i64 (n : Int)) (.int .i64 (n : Int))).run Tryz.prog w = .ok (.slice (some ⟨w.heap.size, 0, none⟩) n n) (w.alloc (.cells (madeCells #[.bool false, .int .i64 0, .int .i64 0] (n * 3)) 45)) := by
  obtain ⟨i0, hi, hz0, hz1, hz2⟩ := info_parts info47
  have := run_make (P := Tryz.prog) w 46 45 i0 (.agg #[.bool false, .int .i64 0, .int .i64 0]) Tryz.underlying46 hi hz0 .i64 .i64 n n (by omega) (by omega) (by rw [hz2]; omega) (by omega)
  rw [this, hz1]
  simp only [Int.toNat_natCast]
  rfl
def mE (s : ByteArray) (p n : Nat) : Int := if (msAt s p n).all mtOk = true then (if gv s (p + 16 * n) (16 * (n % 2)) = 0 then 0 else 91) else 70
/-- What getMetrics leaves behind. -/
def GmPost (b : Nat) (s : ByteArray) (p n : Nat) (w : World) (e : Ending) (w' : World) : Prop :=
  ((mE s p n = 0 ∧ e = .returned (.tuple #[.slice (some ⟨w.heap.size, 0, none⟩) n n, .int .i64 0]) ∧ Rd 143 w' b s (some (p + 8 * mb n)) ∧ MRow w' w.heap.size n (msAt s p n)) ∨ (¬ mE s p n = 0 ∧ e = .returned (.tuple #[.slice none 0 0, .int .i64 (mE s p n)]))) ∧ Apart (· = b) w w'
theorem mt_at {s : ByteArray} {p n k : Nat} (h : k < n) : (msAt s p n)[k]? = some (mtAt s (p + 16 * k)) := by
  rw [msAt, List.getElem?_map, List.getElem?_range h]; rfl
set_option maxRecDepth 100000 in
set_option maxHeartbeats 400000 in
theorem getmetrics_any (b : Nat) (s : ByteArray) (hs : s.size ≤ 1000000) (p n : Nat) (hn : n ≤ 4096) (hp : p + 8 * mb n ≤ 8 * s.size) (w : World) (h : Rd 143 w b s (some p)) :
    Calls Tryz.prog 90 #[.pointer (some ⟨b, 0, none⟩), .int .i64 (n : Int)] w (GmPost b s p n w) := by
  have hbl := h.heap
  have hmk := mk_row n (by omega)
  have H := mkHid (h.kept ((Apart.refl (fun _ => False) _).alloc (.cells (madeCells #[.bool false, .int .i64 0, .int .i64 0] (n * 3)) 45)) (fun h => h))
  have N0 := mkHid (show MRow (w.alloc (.cells (madeCells #[.bool false, .int .i64 0, .int .i64 0] (n * 3)) 45)) w.heap.size n [] from ⟨_, heap_alloc_new w _, size_madeCells _ _, fun i m hi => by simp at hi⟩)
  have A0 := mkHid ((Apart.refl (· = b) w).alloc (.cells (madeCells #[.bool false, .int .i64 0, .int .i64 0] (n * 3)) 45))
  obtain ⟨q, HQ⟩ : ∃ q, Hid (w.heap.size = q) := ⟨_, rfl⟩
  obtain ⟨W, HW⟩ : ∃ W, Hid (w.alloc (.cells (madeCells #[.bool false, .int .i64 0, .int .i64 0] (n * 3)) 45) = W) := ⟨_, rfl⟩
  rw [HQ.out] at hbl
  rw [HQ.out, HW.out] at N0
  rw [HW.out] at H A0
  have hne : ¬ b = q := by omega
  have hne' : ¬ q = b := by omega
  have HS := mkHid hs
  have HP := mkHid hp
  have HNN := mkHid hn
  have hn' : (n : Int) ≤ 4096 := by omega
  have MB := mkHid (mbytes_any n (by omega))
  obtain ⟨mbn, HMB⟩ : ∃ mbn : Nat, Hid (mb n = mbn) := ⟨_, rfl⟩
  have HME := mkHid (show (mbn : Int) = ((n : Int) + 1) / 2 * 4 by rw [← HMB.out]; unfold mb; omega)
  have hmb : (mbn : Int) ≤ 9000 := by have := HME.out; omega
  rw [HMB.out] at MB
  clear h hs hp hn
  go_enter Tryz.func90, Tryz.ntmps90
  go_wp2
  rw [HW.out, HQ.out]
  clear hmk
  go_loopw [12] (fun i wr => ∃ k : Nat, k ≤ n ∧ i = .int .i64 (k : Int) ∧ Rd 143 wr b s (some (p + 16 * k)) ∧ MRow wr q n (msAt s p k) ∧ Apart (· = b) w wr ∧ (msAt s p k).all mtOk = true) (fun i _ => n - (intOf i).toNat)
  case atStart => exact ⟨0, Nat.zero_le _, rfl, H.out, N0.out, A0.out, rfl⟩
  case round =>
    obtain ⟨k, hk, rfl, hr, hrow, ha, hall⟩ := hrel
    have HR := mkHid hr
    have HROW := mkHid hrow
    have HA := mkHid ha
    have HALL := mkHid hall
    clear hr hrow ha hall H N0 A0
    by_cases hlt : k < n
    · have GM := mkHid (getmetric_any b s HS.out (p + 16 * k) (by have := HP.out; unfold mb at this; omega) _ HR.out)
      have HMT := mkHid (mt_at (s := s) (p := p) hlt)
      have HSU := mkHid (msAt_succ s p k)
      obtain ⟨m, HM⟩ : ∃ m, Hid (mtAt s (p + 16 * k) = m) := ⟨_, rfl⟩
      rw [HM.out] at GM HMT HSU
      have IM := mkHid (ismetric_any m)
      have NX := mkHid (fun (w1 : World) (h : MRow w1 q n (msAt s p k)) => h.next (by rw [msAt_len]; exact hlt) m)
      obtain ⟨g, ec, ag⟩ := m
      unfold mv at GM IM
      simp only [msAt_len] at GM IM NX
      go_wp2_with fail
      refine (GM.out).mono ?_
      rintro e w1 ⟨rfl, r1, a1⟩
      have ROW1 := mkHid (HROW.out.kept a1 hne')
      obtain ⟨x0, x1, x2, ⟨c0, c1, c2⟩, f0, f1, f2⟩ := ROW1.out.at k hlt
      have R1 := mkHid r1
      have A1 := mkHid (HA.out.trans a1 (fun _ _ h => h))
      clear r1 a1 GM
      go_wp2_with fail
      rw [put3_eq]
      have ROW2 := mkHid (NX.out w1 ROW1.out)
      have R2 := mkHid (R1.out.kept (put3_ap w1 q (k * 3) (.bool g) (.int .i64 ec) (.int .i64 ag)) hne)
      have A2 := mkHid (A1.out.trans (put3_ap w1 q (k * 3) (.bool g) (.int .i64 ec) (.int .i64 ag)) (fun i hi e => by rw [HQ.out] at hi; omega))
      refine (IM.out _).mono ?_
      rintro e w2 ⟨rfl, a2⟩
      have ROW3 := mkHid (ROW2.out.kept a2 (fun h => h))
      have R3 := mkHid (R2.out.kept a2 (fun h => h))
      have A3 := mkHid (A2.out.trans a2 (fun _ _ h => h.elim))
      clear a2 c0 c1 c2 f0 f1 f2 R2 A2 ROW2 ROW1 R1 A1
      cases ho : mtOk ⟨g, ec, ag⟩ with
      | false =>
        have HF := mkHid (show mE s p n = 70 by unfold mE; rw [if_neg (by rw [all_not HMT.out ho]; decide)])
        go_wp2
        go_ret2
        exact ⟨.inr ⟨by rw [HF.out]; decide, by rw [HF.out]; rfl⟩, A3.out⟩
      | true =>
        have HT := mkHid (show (msAt s p (k + 1)).all mtOk = true by rw [HSU.out, List.all_append, HALL.out]; simp [ho])
        go_wp2
        go_roundw
        case rel =>
          refine ⟨k + 1, by omega, by go_num, ?_, ?_, A3.out, HT.out⟩
          · exact R3.out
          · rw [HSU.out]; exact ROW3.out
        case measure => simp [intOf]; omega
    · obtain rfl : k = n := by omega
      obtain ⟨d, HD⟩ : ∃ d : Int, Hid ((16 * (k % 2) : Nat) = d) := ⟨_, rfl⟩
      have hd : (mbn : Int) * 8 - k * 16 = d := by have := HD.out; have := HME.out; omega
      have GT := mkHid (get_fit b s HS.out (p + 16 * k) d (16 * (k % 2)) HD.out.symm (by omega) (by have := HP.out; unfold mb at this; omega) _ HR.out)
      have HGL := mkHid (gv_lt s (p + 16 * k) (16 * (k % 2)))
      have HE := mkHid (show mE s p k = if gv s (p + 16 * k) (16 * (k % 2)) = 0 then 0 else 91 by unfold mE; rw [if_pos HALL.out])
      obtain ⟨z, HZ⟩ : ∃ z, Hid (gv s (p + 16 * k) (16 * (k % 2)) = z) := ⟨_, rfl⟩
      rw [HZ.out] at GT HE
      go_wp2_with fail
      refine (MB.out _).mono ?_
      rintro e w2 ⟨rfl, rfl⟩
      go_wp2_with fail
      refine (GT.out).mono ?_
      rintro e w3 ⟨rfl, r3, a3⟩
      have R3 := mkHid r3
      have A3 := mkHid (HA.out.trans a3 (fun _ _ h => h))
      have ROW3 := mkHid (HROW.out.kept a3 hne')
      clear r3 a3
      by_cases hz : (z : Int) = 0
      · have HF := mkHid (show mE s p k = 0 by rw [HE.out, if_pos (by omega)])
        go_wp2
        go_ret2
        refine ⟨.inl ⟨HF.out, by rw [HQ.out]; rfl, ?_, by rw [HQ.out]; exact ROW3.out⟩, A3.out⟩
        have e : p + 8 * mb k = p + 16 * k + 16 * (k % 2) := by unfold mb; omega
        rw [e]; exact R3.out
      · have HF := mkHid (show mE s p k = 91 by rw [HE.out, if_neg (by omega)])
        go_wp2
        go_ret2
        exact ⟨.inr ⟨by rw [HF.out]; decide, by rw [HF.out]; rfl⟩, A3.out⟩
end Go.Proofs.YtdhbakknplnnkaaGreat.Cc
namespace Go.Proofs.YtdhbakknplnnkaaGreat.Cc
open Go.RowKit

/-- What getBlock leaves behind. -/
def GbPost (b : Nat) (s : ByteArray) (p : Nat) (w : World) (e : Ending) (w' : World) : Prop :=
  ((bkE s p = 0 ∧ ∃ g c, e = .returned (.tuple #[kv (bkAt s p) (some ⟨g, 0, none⟩) c, .int .i64 0]) ∧ Rd 143 w' b s (some (bkN s p)) ∧ w.heap.size ≤ g ∧ MRow w' g (cnt s p) (msAt s (p + 64) (cnt s p))) ∨
   (¬ bkE s p = 0 ∧ ∃ k ma mc, e = .returned (.tuple #[kv k ma mc, .int .i64 (bkE s p)]))) ∧ Apart (· = b) w w'
theorem res48 {W : World} {bx : Nat} {ss f : Int} {ma : Option Addr} {n mc : Nat} (tmps : Array Value) (h2 : tmps.getD 2 undef = .pointer (some ⟨bx, 0, none⟩)) (hd : W.heap[bx]? = some (.cells #[.int .u32 ss, .int .i64 f, .slice ma n mc] 49 (0, 0))) :
    (results Tryz.f79 tmps).run Tryz.prog W = .ok (.tuple #[.agg #[.int .u32 ss, .int .i64 f, .slice ma n mc], tmps.getD 3 undef]) W := by
  obtain ⟨⟨c0, c1, c2⟩, _⟩ := cells3' hd
  clear hd
  have h2' : tmps[2]?.getD undef = .pointer (some ⟨bx, 0, none⟩) := by rw [← h2]; simp
  simp [results, Tryz.results79, h2', c0, c1, c2, go_sem]
theorem bkE_met {s : ByteArray} {p : Nat} (h1 : p + 96 ≤ 8 * s.size) (h2 : cnt s p ≤ 4096) (h3 : bkN s p + 32 ≤ 8 * s.size) : bkE s p = mE s (p + 64) (cnt s p) := by
  unfold bkN at h3
  unfold bkE mE; rw [if_neg (by omega), if_neg (by omega), if_neg (by omega)]
set_option maxRecDepth 100000 in
set_option maxHeartbeats 1000000 in
theorem getblock_any (b : Nat) (s : ByteArray) (hs : s.size ≤ 1000000) (p : Nat) (w : World) (h : Rd 143 w b s (some p)) :
    Calls Tryz.prog 79 #[.pointer (some ⟨b, 0, none⟩)] w (GbPost b s p w) := by
  have hbl := h.heap
  have H := mkHid (h.kept ((Apart.refl (fun _ => False) _).alloc (.cells #[.int .u32 0, .int .i64 0, .slice none 0 0] 49)) (fun h => h))
  have N0 := mkHid (heap_alloc_new w (.cells #[.int .u32 0, .int .i64 0, .slice none 0 0] 49))
  have A0 := mkHid ((Apart.refl (· = b) w).alloc (.cells #[.int .u32 0, .int .i64 0, .slice none 0 0] 49))
  obtain ⟨q, HQ⟩ : ∃ q, Hid (w.heap.size = q) := ⟨_, rfl⟩
  obtain ⟨W, HW⟩ : ∃ W, Hid (w.alloc (.cells #[.int .u32 0, .int .i64 0, .slice none 0 0] 49) = W) := ⟨_, rfl⟩
  rw [HQ.out] at hbl
  rw [HQ.out, HW.out] at N0
  rw [HW.out] at H A0
  have hne : ¬ b = q := by omega
  have hne' : ¬ q = b := by omega
  have HS := mkHid hs
  have HPL := mkHid h.2
  clear h hs
  by_cases h1 : p + 96 ≤ 8 * s.size
  · have H1 := mkHid h1
    have HO1 := mkHid (holds_at b s HS.out p 8 8 rfl (by omega) true (by simp; omega) _ H.out)
    obtain ⟨g0, G0⟩ : ∃ g0, Hid (gv s p 32 = g0) := ⟨_, rfl⟩
    obtain ⟨g1, G1⟩ : ∃ g1, Hid (gv s (p + 32) 16 = g1) := ⟨_, rfl⟩
    obtain ⟨n, G2⟩ : ∃ n, Hid (gv s (p + 48) 16 = n) := ⟨_, rfl⟩
    have HCN := mkHid (show cnt s p = n from G2.out)
    have l0 : (g0 : Int) < 4294967296 := by have := gv_lt s p 32; rw [G0.out] at this; omega
    have l1 : (g1 : Int) < 65536 := by have := gv_lt s (p + 32) 16; rw [G1.out] at this; omega
    obtain ⟨N, GN⟩ : ∃ N : Int, Hid ((n : Int) = N) := ⟨_, rfl⟩
    have l2 : N < 65536 := by have := gv_lt s (p + 48) 16; rw [G2.out] at this; have := GN.out; omega
    have l3 : 0 ≤ N := by have := GN.out; omega
    clear h1
    go_enter Tryz.func79, Tryz.ntmps79
    go_wp2_with fail
    rw [HW.out, HQ.out]
    refine (HO1.out).mono ?_
    rintro e w0 ⟨rfl, k0, rfl⟩
    have H0 := mkHid (drew_rd k0 H.out)
    have N1 := mkHid (show (W.drewN k0).heap[q]? = _ from N0.out)
    have A1 := mkHid (A0.out.drewN k0)
    clear H N0 A0 HO1
    obtain ⟨w0, HW0⟩ : ∃ w0, Hid (W.drewN k0 = w0) := ⟨_, rfl⟩
    rw [HW0.out] at H0 N1 A1 ⊢
    go_wp2_with fail
    have K1 := get_fit b s HS.out p 32 32 rfl (by omega) (by have := H1.out; omega) _ H0.out
    rw [G0.out] at K1
    refine K1.mono ?_
    clear K1
    rintro e w1 ⟨rfl, r1, a1⟩
    have D1 := mkHid (a1.heap N1.out hne')
    have R1 := mkHid (r1.kept (ap_set w1 q 0 (.int .u32 (g0 : Int))) hne)
    have A2 := mkHid ((A1.out.trans a1 (fun _ _ h => h)).trans (ap_set w1 q 0 (.int .u32 (g0 : Int))) (fun i hi e => by rw [HQ.out] at hi; omega))
    have E1 := mkHid (set0 D1.out (.int .u32 (g0 : Int)))
    obtain ⟨⟨c0, c1, c2⟩, f0, f1, f2⟩ := cells3' D1.out
    clear r1 a1 H0 N1 A1
    go_wp2_with fail
    have K1 := get_fit b s HS.out (p + 32) 16 16 rfl (by omega) (by have := H1.out; omega) _ R1.out
    rw [G1.out] at K1
    refine K1.mono ?_
    clear K1
    rintro e w2 ⟨rfl, r2, a2⟩
    have D2 := mkHid (a2.heap E1.out hne')
    have R2 := mkHid (r2.kept (ap_set w2 q 1 (.int .i64 (g1 : Int))) hne)
    have A3 := mkHid ((A2.out.trans a2 (fun _ _ h => h)).trans (ap_set w2 q 1 (.int .i64 (g1 : Int))) (fun i hi e => by rw [HQ.out] at hi; omega))
    have E2 := mkHid (set1 D2.out (.int .i64 (g1 : Int)))
    clear r2 a2 R1 A2 E1 D1 c0 c1 c2 f0 f1 f2
    obtain ⟨⟨c0, c1, c2⟩, f0, f1, f2⟩ := cells3' D2.out
    go_wp2_with fail
    have K1 := get_fit b s HS.out (p + 48) 16 16 rfl (by omega) (by have := H1.out; omega) _ R2.out
    rw [G2.out, GN.out] at K1
    refine K1.mono ?_
    clear K1
    rintro e w3 ⟨rfl, r3, a3⟩
    have D3 := mkHid (a3.heap E2.out hne')
    have R3 := mkHid (show Rd 143 w3 b s (some (p + 64)) from r3)
    have A4 := mkHid (A3.out.trans a3 (fun _ _ h => h))
    clear r3 a3 R2 A3 E2 D2 c0 c1 c2 f0 f1 f2
    obtain ⟨⟨c0, c1, c2⟩, f0, f1, f2⟩ := cells3' D3.out
    by_cases h2 : 4096 < N
    · have HF := mkHid (show bkE s p = 3 from bkE_many H1.out (by rw [HCN.out]; have := GN.out; omega))
      go_wp2
      have dd := put3_is D3.out (.int .u32 (g0 : Int)) (.int .i64 (g1 : Int)) (.slice none 0 0)
      refine bodyPost_ret (res48 _ rfl dd) rfl ⟨.inr ⟨by rw [HF.out]; decide, ⟨g0, g1, []⟩, none, 0, by rw [HF.out]; rfl⟩, ?_⟩
      exact A4.out.trans (put3_ap _ q 0 _ _ _) (fun i hi e => by rw [HQ.out] at hi; omega)
    · have MB := mkHid (mbytes_any n (by have := GN.out; omega))
      obtain ⟨mbn, HMB⟩ : ∃ mbn : Nat, Hid (mb n = mbn) := ⟨_, rfl⟩
      have HME := mkHid (show (mbn : Int) = ((n : Int) + 1) / 2 * 4 by rw [← HMB.out]; unfold mb; omega)
      rw [HMB.out, GN.out] at MB
      have HBN := mkHid (show bkN s p = p + 64 + 8 * mbn by unfold bkN; rw [HCN.out, HMB.out])
      have HN4 := mkHid (show n ≤ 4096 by have := GN.out; omega)
      have h2' : N ≤ 4096 := by omega
      clear h2 l0 l1
      go_wp2_with fail
      refine (MB.out _).mono ?_
      rintro e w4 ⟨rfl, rfl⟩
      by_cases h3 : p + 64 + 8 * mbn + 32 ≤ 8 * s.size
      · have HO2 := mkHid (holds_at b s HS.out (p + 64) mbn mbn rfl (by have := HME.out; have := HN4.out; omega) true (by simp; omega) _ R3.out)
        have H3 := mkHid h3
        clear h3
        go_wp2_with fail
        refine (HO2.out).mono ?_
        rintro e w5 ⟨rfl, k5, rfl⟩
        have R5 := mkHid (drew_rd k5 R3.out)
        have D5 := mkHid (show (w4.drewN k5).heap[q]? = _ from D3.out)
        have A5 := mkHid (A4.out.drewN k5)
        clear HO2 R3 D3 A4 c0 c1 c2 f0 f1 f2
        obtain ⟨w5, HW5⟩ : ∃ w5, Hid (w4.drewN k5 = w5) := ⟨_, rfl⟩
        rw [HW5.out] at R5 D5 A5 ⊢
        have GM := mkHid (getmetrics_any b s HS.out (p + 64) n HN4.out (by rw [HMB.out]; have := H3.out; omega) _ R5.out)
        have HE := mkHid (show bkE s p = mE s (p + 64) n by rw [bkE_met H1.out (by rw [HCN.out]; exact HN4.out) (by rw [HBN.out]; exact H3.out), HCN.out])
        unfold GmPost at GM
        rw [GN.out] at GM
        have hq5 : q < w5.heap.size := lt_of_heap D5.out
        have hq5' : q ≤ w5.heap.size := by omega
        obtain ⟨g, HG⟩ : ∃ g, Hid (w5.heap.size = g) := ⟨_, rfl⟩
        rw [HG.out] at GM hq5 hq5'
        obtain ⟨E, HEE⟩ : ∃ E, Hid (mE s (p + 64) n = E) := ⟨_, rfl⟩
        rw [HEE.out] at GM HE
        have hgq : ¬ g = q := by omega
        go_wp2_with fail
        refine (GM.out).mono ?_
        rintro e w6 ⟨(⟨he, rfl, r6, row6⟩ | ⟨he, rfl⟩), a6⟩
        · have D6 := mkHid (a6.heap D5.out hne')
          have A6 := mkHid (A5.out.trans a6 (fun _ _ h => h))
          have R6 := mkHid r6
          have ROW6 := mkHid row6
          have HEZ := mkHid (show bkE s p = 0 by rw [HE.out]; exact he)
          clear r6 row6 a6 GM he
          obtain ⟨⟨c0, c1, c2⟩, f0, f1, f2⟩ := cells3' D6.out
          go_wp2
          have dd := put3_is (set2 D6.out (.slice (some ⟨g, 0, none⟩) n n)) (.int .u32 (g0 : Int)) (.int .i64 (g1 : Int)) (.slice (some ⟨g, 0, none⟩) n n)
          have ap := (ap_set w6 q 2 (.slice (some ⟨g, 0, none⟩) n n)).trans (put3_ap _ q 0 (.int .u32 (g0 : Int)) (.int .i64 (g1 : Int)) (.slice (some ⟨g, 0, none⟩) n n)) (fun _ _ h => h)
          refine bodyPost_ret (res48 _ rfl dd) rfl ⟨.inl ⟨HEZ.out, g, n, ?_, ?_, by rw [HQ.out]; exact hq5', ?_⟩, ?_⟩
          · unfold kv bkAt
            simp only [msAt_len]
            rw [G0.out, G1.out, HCN.out]; rfl
          · rw [HBN.out, ← HMB.out]; exact R6.out.kept ap hne
          · rw [HCN.out]; exact ROW6.out.kept ap hgq
          · exact A6.out.trans ap (fun i hi e => by rw [HQ.out] at hi; omega)
        · have D6 := mkHid (a6.heap D5.out hne')
          have A6 := mkHid (A5.out.trans a6 (fun _ _ h => h))
          have HEZ := mkHid he
          clear a6 GM he
          obtain ⟨⟨c0, c1, c2⟩, f0, f1, f2⟩ := cells3' D6.out
          go_wp2
          have dd := put3_is (set2 D6.out (.slice none 0 0)) (.int .u32 (g0 : Int)) (.int .i64 (g1 : Int)) (.slice none 0 0)
          have ap := (ap_set w6 q 2 (.slice none 0 0)).trans (put3_ap _ q 0 (.int .u32 (g0 : Int)) (.int .i64 (g1 : Int)) (.slice none 0 0)) (fun _ _ h => h)
          refine bodyPost_ret (res48 _ rfl dd) rfl ⟨.inr ⟨by rw [HE.out]; exact HEZ.out, ⟨g0, g1, []⟩, none, 0, by rw [HE.out]; rfl⟩, ?_⟩
          exact A6.out.trans ap (fun i hi e => by rw [HQ.out] at hi; omega)
      · have HO2 := mkHid (holds_at b s HS.out (p + 64) mbn mbn rfl (by have := HME.out; have := HN4.out; omega) false (by simp; omega) _ R3.out)
        have HF := mkHid (show bkE s p = 60 from bkE_lacks H1.out (by rw [HCN.out]; exact HN4.out) (by rw [HBN.out]; omega))
        clear h3
        go_wp2_with fail
        refine (HO2.out).mono ?_
        rintro e w5 ⟨rfl, k5, rfl⟩
        go_wp2
        have dd := put3_is (show (w4.drewN k5).heap[q]? = _ from D3.out) (.int .u32 (g0 : Int)) (.int .i64 (g1 : Int)) (.slice none 0 0)
        refine bodyPost_ret (res48 _ rfl dd) rfl ⟨.inr ⟨by rw [HF.out]; decide, ⟨g0, g1, []⟩, none, 0, by rw [HF.out]; rfl⟩, ?_⟩
        exact (A4.out.drewN k5).trans (put3_ap _ q 0 _ _ _) (fun i hi e => by rw [HQ.out] at hi; omega)
  · have HO1 := mkHid (holds_at b s HS.out p 8 8 rfl (by omega) false (by simp; omega) _ H.out)
    have HF := mkHid (show bkE s p = 60 from bkE_short (by omega))
    obtain ⟨⟨c0, c1, c2⟩, f0, f1, f2⟩ := cells3' N0.out
    clear h1
    go_enter Tryz.func79, Tryz.ntmps79
    go_wp2_with fail
    rw [HW.out, HQ.out]
    refine (HO1.out).mono ?_
    rintro e w5 ⟨rfl, k5, rfl⟩
    go_wp2
    have dd := put3_is (show (W.drewN k5).heap[q]? = _ from N0.out) (.int .u32 0) (.int .i64 0) (.slice none 0 0)
    refine bodyPost_ret (res48 _ rfl dd) rfl ⟨.inr ⟨by rw [HF.out]; decide, ⟨0, 0, []⟩, none, 0, by rw [HF.out]; rfl⟩, ?_⟩
    exact (A0.out.drewN k5).trans (put3_ap _ q 0 _ _ _) (fun i hi e => by rw [HQ.out] at hi; omega)
end Go.Proofs.YtdhbakknplnnkaaGreat.Cc
namespace Go.Proofs.YtdhbakknplnnkaaGreat.Cc
open Go.RowKit

def lenV : Value → Nat
  | .slice _ n _ => n
  | _ => 0
/-- What getBlocks leaves behind. -/
def GsPost (b : Nat) (s : ByteArray) (w : World) (e : Ending) (w' : World) : Prop :=
  ((dE s 16 32 = 0 ∧ ∃ (a : Option Addr) (c : Nat) (acc : List Kx), acc.map (·.k) = dL s 16 32 ∧ e = .returned (.tuple #[.slice a acc.length c, .int .i64 0]) ∧ Rd 143 w' b s (some (8 * s.size - 32)) ∧ w'.ownsRow w.heap.size 49 3 (.slice a acc.length c) acc.length (kC acc) ∧ KX (fun k => k < w.heap.size ∨ (Value.slice a acc.length c).ownBlock = some k) w' acc) ∨
   (¬ dE s 16 32 = 0 ∧ e = .returned (.tuple #[.slice none 0 0, .int .i64 (dE s 16 32)]))) ∧ Apart (· = b) w w'
theorem frame26 (a : Act) (hs : a.tmps.size = 26) (hd : a.defers = []) : ∃ u : Nat → Value, (∀ i, a.tmps.getD i undef = u i) ∧ a = { tmps := #[u 0, u 1, u 2, u 3, u 4, u 5, u 6, u 7, u 8, u 9, u 10, u 11, u 12, u 13, u 14, u 15, u 16, u 17, u 18, u 19, u 20, u 21, u 22, u 23, u 24, u 25], defers := [] } := frame_of a 26 hs hd
theorem bkN_mod {s : ByteArray} {p : Nat} (h : p % 32 = 0) : bkN s p % 32 = 0 := by unfold bkN mb; omega
set_option maxRecDepth 100000 in
set_option maxHeartbeats 1000000 in
theorem getblocks_any (b : Nat) (s : ByteArray) (hs : s.size ≤ 65536) (h4 : s.size % 4 = 0) (h8 : 8 ≤ s.size) (w : World) (h : Rd 143 w b s (some 32)) :
    Calls Tryz.prog 59 #[.pointer (some ⟨b, 0, none⟩)] w (GsPost b s w) := by
  have hbl := h.heap
  obtain ⟨B, HB⟩ : ∃ B, Hid (w.heap.size = B) := ⟨_, rfl⟩
  rw [HB.out] at hbl
  obtain ⟨i0, hi, hz0, hz1, hz2⟩ := info_parts info44
  have HS := mkHid (show s.size ≤ 1000000 by omega)
  have HS2 := mkHid hs
  have H4 := mkHid h4
  have H8 := mkHid h8
  have H := mkHid h
  clear hs h4 h8 h
  go_enter Tryz.func59, Tryz.ntmps59
  go_wp2
  refine wp_scope_label 0 (fun a' w' => ∃ (p : Nat) (acc : List Kx) (v : Value), (a'.tmps.size = 26 ∧ a'.defers = [] ∧ a'.tmps.getD 0 undef = .pointer (some ⟨b, 0, none⟩) ∧ a'.tmps.getD 2 undef = .slice none 0 0 ∧ a'.tmps.getD 3 undef = .int .i64 0 ∧ a'.tmps.getD 4 undef = v) ∧ acc.length ≤ 16 ∧ p % 32 = 0 ∧ p + 32 ≤ 8 * s.size ∧ dE s 16 32 = dE s (16 - acc.length) p ∧ dL s 16 32 = acc.map (·.k) ++ dL s (16 - acc.length) p ∧ Rd 143 w' b s (some p) ∧ w'.ownsRow B 49 3 v acc.length (kC acc) ∧ KX (fun k => k < B ∨ v.ownBlock = some k) w' acc ∧ Apart (· = b) w w') (fun a' _ => 17 - lenV (a'.tmps.getD 4 undef)) rfl ?_ ?_
  · intro Q' hh
    have HH := mkHid hh
    clear hh
    go_wp2
    go_step3
    refine ‹∀ a w, Code.wp _ _ _ a w → _› _ _ (HH.out _ _ ?_)
    exact ⟨32, [], .slice none 0 0, ⟨rfl, rfl, rfl, rfl, rfl, rfl⟩, by simp, rfl, by have := H8.out; omega, rfl, rfl, H.out, World.ownsRow_nil _ _ _ _, KX.nil _ _, Apart.refl _ _⟩
  · rintro a' w' ⟨p, acc, v, ⟨z, d, e0, e2, e3, e4⟩, hal, hpm, hpl, hE, hL, hr, how, hkx, hap⟩
    obtain ⟨u, hu, ha⟩ := frame26 a' z d
    rw [hu] at e0 e2 e3 e4
    rw [e0, e2, e3, e4] at ha
    clear z d hu e0 e2 e3 e4
    subst ha
    have HPM := mkHid hpm
    have HPL := mkHid hpl
    have HE := mkHid hE
    have HL := mkHid hL
    have HR := mkHid hr
    have HOW := mkHid how
    have HKX := mkHid hkx
    have HAP := mkHid hap
    have HAL := mkHid hal
    obtain ⟨va, vc, HV⟩ := ownsRow_slice how
    subst HV
    have hBw : B ≤ w'.heap.size := by rw [← HB.out]; exact hap.size
    clear hpm hpl hE hL hr how hkx hap H
    obtain ⟨n, HN⟩ : ∃ n, Hid (acc.length = n) := ⟨_, rfl⟩
    rw [HN.out] at hal HE HL
    have HVN := mkHid (show (.slice va acc.length vc : Value) = .slice va n vc by rw [HN.out])
    rw [HVN.out] at HOW HKX ⊢
    by_cases h1 : p + 32 < 8 * s.size
    · have HO := mkHid (holds_at b s HS.out p 1 1 rfl (by omega) true (by have := HPM.out; have := H4.out; simp; omega) _ HR.out)
      have H1 := mkHid h1
      clear h1
      go_wp2_with fail
      refine (HO.out).mono ?_
      rintro e w1 ⟨rfl, k1, rfl⟩
      have R1 := mkHid (drew_rd k1 HR.out)
      have A1 := mkHid (HAP.out.drewN k1)
      have O1 := mkHid (show (w'.drewN k1).ownsRow B 49 3 (.slice va n vc) acc.length (kC acc) from HOW.out)
      have K1 := mkHid (HKX.out.kept (X' := (fun k => k < B ∨ (Value.slice va n vc).ownBlock = some k)) ((Apart.refl (fun _ => False) w').drewN k1) (fun _ _ h => h.elim) (fun _ _ h => h))
      have hBw1 : B ≤ (w'.drewN k1).heap.size := hBw
      clear HO HR HAP HOW HKX hBw
      obtain ⟨w1, HW1⟩ : ∃ w1, Hid (w'.drewN k1 = w1) := ⟨_, rfl⟩
      rw [HW1.out] at R1 A1 O1 K1 hBw1 ⊢
      by_cases h16 : n = 16
      · subst h16
        have HF := mkHid (show dE s 16 32 = 3 by rw [HE.out]; exact dE_many H1.out)
        go_wp2
        simp only [Exit.jump]
        go_ret2
        exact ⟨.inr ⟨by rw [HF.out]; decide, by rw [HF.out]; rfl⟩, A1.out⟩
      · have h16' : ¬ (n : Int) = 16 := by omega
        have HN16 := mkHid (show 16 - n = 15 - n + 1 by omega)
        have GB := mkHid (getblock_any b s HS.out p _ R1.out)
        unfold GbPost at GB
        go_wp2_with fail
        refine (GB.out).mono ?_
        rintro e w2 ⟨(⟨he, g, c, rfl, r2, hg2, row2⟩ | ⟨he, k, ma, mc, rfl⟩), a2⟩
        · have HEZ := mkHid he
          have R2 := mkHid r2
          have A2 := mkHid (A1.out.trans a2 (fun _ _ h => h))
          have O2 := mkHid (ownsRow_apart O1.out a2 (by intro k hk e; omega))
          have K2 := mkHid (K1.out.kept (X' := (fun k => k < B ∨ (Value.slice va n vc).ownBlock = some k)) a2 (fun k _ e => .inl (by omega)) (fun _ _ h => h))
          have hgB : B ≤ g := by omega
          have hgo : ∀ k, (Value.slice va n vc).ownBlock = some k → k < g := fun k e => by have := (O1.out.lt k e).2; omega
          have HGO := mkHid hgo
          have MX2 := mkHid (row2.mx (X := (fun k => k < B ∨ (Value.slice va n vc).ownBlock = some k)) (by have := (bkE_zero he).2.1; unfold maxLen; omega) (by simp) (by
            rintro (e | e)
            · omega
            · have := hgo g e; omega))
          have HGL := mkHid (show 0 ≤ (bkAt s p).s ∧ (bkAt s p).s < 4294967296 from ⟨by simp [bkAt], by have := gv_lt s p 32; simp only [bkAt]; omega⟩)
          have hBw2 : B ≤ w2.heap.size := by have := a2.size; omega
          have HBM := mkHid (show (bkAt s p).m = msAt s (p + 64) (cnt s p) from rfl)
          rw [← HBM.out] at MX2
          clear he r2 a2 row2 hg2 hgo GB R1 A1 O1 K1
          unfold kv
          obtain ⟨x, HX⟩ : ∃ x, Hid (bkAt s p = x) := ⟨_, rfl⟩
          rw [HX.out] at HGL MX2 ⊢
          have HPQ := mkHid (show kC acc ++ [.int .u32 x.s, .int .i64 x.f, .slice (some ⟨g, 0, none⟩) x.m.length c] = kC (acc ++ [(⟨x, some ⟨g, 0, none⟩, c⟩ : Kx)]) by rw [kC_app]; rfl)
          have HML := mkHid MX2.out.1
          obtain ⟨ss, f, ml⟩ := x
          simp only at HPQ MX2 HGL HML ⊢
          obtain ⟨M, HM⟩ : ∃ M, Hid (ml.length = M) := ⟨_, rfl⟩
          rw [HM.out] at HPQ HML ⊢
          have hcn := cell_three_new (w2.alloc (.cells #[.int .u32 ss, .int .i64 f, .slice (some ⟨g, 0, none⟩) M c] 49)) (.int .u32 ss) (.int .i64 f) (.slice (some ⟨g, 0, none⟩) M c) 49
          simp only [World.size_alloc] at hcn
          have HCN := mkHid hcn
          have HAL2 := mkHid (show n ≤ 16 from hal)
          clear hcn hal
          go_wp2_with (at_builtin; refine wpList_append_own2 _ rfl (.tmp 22) (.tmp 24) 50 rfl B 49 i0 (.agg #[.int .u32 0, .int .i64 0, .slice none 0 0]) 3 40 Tryz.underlying50 hi hz0 hz1 hz2 rfl (by decide) (.slice va n vc) acc.length (kC acc) rfl ((O2.out.alloc _).alloc _) ⟨w2.heap.size + 1, 0, none⟩ 1 1 [.int .u32 ss, .int .i64 f, .slice (some ⟨g, 0, none⟩) M c] rfl rfl HCN.out (by intro u hu; simp at hu; rcases hu with rfl | rfl | rfl <;> rfl) (by unfold maxLen; have := HAL.out; omega) (by have := HAL.out; omega) (by simp; omega) ?_; intro v3 w3 hown3 hgrow3 hnew3; obtain ⟨va3, vc3, hv3⟩ := ownsRow_slice hown3; subst hv3; have OW3 := mkHid hown3; have GR3 := mkHid hgrow3; have NW3 := mkHid hnew3; clear hown3 hgrow3 hnew3)
          have A3 := Apart.grown (X := fun k => (Value.slice va n vc).ownBlock = some k) (((Apart.refl _ w2).alloc (.cells #[.int .u32 ss, .int .i64 f, .slice (some ⟨g, 0, none⟩) M c] 49)).alloc (.cells #[.int .u32 ss, .int .i64 f, .slice (some ⟨g, 0, none⟩) M c] 49)) GR3.out (fun k _ e => e)
          have hown : ∀ k, k < w2.heap.size → (Value.slice va3 (acc.length + 1) vc3).ownBlock = some k → (Value.slice va n vc).ownBlock = some k := by
            intro k hk e
            rcases NW3.out k e with e | e
            · exact e
            · simp at e; omega
          have K3 := K2.out.kept (X' := (fun k => k < B ∨ (Value.slice va3 (acc.length + 1) vc3).ownBlock = some k)) A3 (fun k _ e => .inr e) (fun k hk e => e.imp id (hown k hk))
          have M3 := MX2.out.kept (X' := (fun k => k < B ∨ (Value.slice va3 (acc.length + 1) vc3).ownBlock = some k)) A3 (fun k _ e => .inr e) (fun k hk e => e.imp id (hown k hk))
          have K4 := mkHid (K3.snoc ⟨⟨ss, f, ml⟩, some ⟨g, 0, none⟩, c⟩ M3 HGL.out.1 HGL.out.2)
          have R3 := mkHid (R2.out.kept A3 (fun e => by have := (O2.out.lt b e).1; omega))
          have A4 := mkHid (A2.out.trans A3 (fun k hk e => by have := (O2.out.lt k e).1; rw [HB.out] at hk; omega))
          have O3 := OW3.out
          rw [HPQ.out] at O3
          have HO3 := mkHid O3
          clear O3 K3 M3 A3 hown
          go_step3
          have hm := dE_more (k := 15 - n) H1.out HEZ.out
          rw [← HN16.out] at hm
          refine ⟨rfl, ⟨bkN s p, acc ++ [⟨⟨ss, f, ml⟩, some ⟨g, 0, none⟩, c⟩], .slice va3 (acc.length + 1) vc3, ⟨rfl, rfl, rfl, rfl, rfl, rfl⟩, ?_, bkN_mod HPM.out, (bkE_zero HEZ.out).2.2.1, ?_, ?_, R3.out, ?_, K4.out, A4.out⟩, ?_⟩
          · have := HAL2.out; rw [List.length_append, HN.out]; simp; omega
          · rw [HE.out, hm.1, List.length_append, HN.out]; simp
          · rw [HL.out, hm.2, HX.out, List.length_append, HN.out]; simp
          · rw [List.length_append]; exact HO3.out
          · have := HAL2.out
            have := HN.out
            show 17 - (acc.length + 1) < 17 - n
            omega
        · have HF := mkHid (show dE s 16 32 = bkE s p by rw [HE.out, HN16.out]; exact dE_wrong H1.out he)
          have A2 := mkHid (A1.out.trans a2 (fun _ _ h => h))
          have HEN := mkHid he
          clear a2
          obtain ⟨E, HEE⟩ : ∃ E, Hid (bkE s p = E) := ⟨_, rfl⟩
          rw [HEE.out] at he HF ⊢
          clear HEN
          have HEN := mkHid he
          unfold kv
          go_wp2
          simp only [Exit.jump]
          go_ret2
          exact ⟨.inr ⟨by rw [HF.out]; exact HEN.out, by rw [HF.out]; rfl⟩, A2.out.alloc _⟩
    · have HO := mkHid (holds_at b s HS.out p 1 1 rfl (by omega) false (by have := HPL.out; simp; omega) _ HR.out)
      have HF := mkHid (show dE s 16 32 = 0 by rw [HE.out]; exact (dE_end h1).1)
      have HFL := mkHid (show acc.map (·.k) = dL s 16 32 by rw [HL.out, (dE_end h1).2, List.append_nil])
      have HPE := mkHid (show p = 8 * s.size - 32 by have := HPL.out; omega)
      clear h1
      go_wp2_with fail
      refine (HO.out).mono ?_
      rintro e w1 ⟨rfl, k1, rfl⟩
      go_wp2
      simp only [Exit.jump]
      go_ret2
      refine ⟨.inl ⟨HF.out, va, vc, acc, HFL.out, by rw [HN.out]; rfl, ?_, ?_, ?_⟩, HAP.out.drewN k1⟩
      · rw [← HPE.out]; exact drew_rd k1 HR.out
      · rw [HB.out, HVN.out]; exact HOW.out
      · rw [HB.out, HVN.out]; exact HKX.out.kept ((Apart.refl (fun _ => False) w').drewN k1) (fun _ _ h => h.elim) (fun _ _ h => h)
end Go.Proofs.YtdhbakknplnnkaaGreat.Cc
namespace Go.Proofs.YtdhbakknplnnkaaGreat.Cc
open Go.RowKit

theorem lenerr_any (n : Nat) (hn : (n : Int) ≤ 9223372036854775807) (w : World) : Calls Tryz.prog 57 #[.int .i64 (n : Int)] w fun e w' => e = .returned (.int .i64 (lenE n)) ∧ w' = w := by
  by_cases h1 : (65536 : Int) < n
  · have HF := mkHid (show lenE n = 2 by unfold lenE; rw [if_pos (by omega)])
    rw [HF.out]
    go_enter Tryz.func57, Tryz.ntmps57
    go_wp2
    go_ret
    exact ⟨rfl, rfl⟩
  · by_cases h2 : (n : Int) % 4 = 0
    · by_cases h3 : (n : Int) < 8
      · have HF := mkHid (show lenE n = 60 by unfold lenE; rw [if_neg (by omega), if_neg (by omega), if_pos (by omega)])
        rw [HF.out]
        go_enter Tryz.func57, Tryz.ntmps57
        go_wp2
        go_ret
        exact ⟨rfl, rfl⟩
      · have HF := mkHid (show lenE n = 0 by unfold lenE; rw [if_neg (by omega), if_neg (by omega), if_neg (by omega)])
        rw [HF.out]
        go_enter Tryz.func57, Tryz.ntmps57
        go_wp2
        go_ret
        exact ⟨rfl, rfl⟩
    · have HF := mkHid (show lenE n = 90 by unfold lenE; rw [if_neg (by omega), if_pos (by omega)])
      rw [HF.out]
      go_enter Tryz.func57, Tryz.ntmps57
      go_wp2
      go_ret
      exact ⟨rfl, rfl⟩
theorem res16 {W : World} {bx : Nat} {sd st : Int} {a : Option Addr} {n c : Nat} (tmps : Array Value) (h2 : tmps.getD 2 undef = .pointer (some ⟨bx, 0, none⟩)) (hd : W.heap[bx]? = some (.cells #[.int .u32 sd, .slice a n c, .int .u32 st] 53 (0, 0))) :
    (results Tryz.f39 tmps).run Tryz.prog W = .ok (.tuple #[rv sd a n c st, tmps.getD 3 undef]) W := by
  obtain ⟨⟨c0, c1, c2⟩, _⟩ := cells3' hd
  clear hd
  have h2' : tmps[2]?.getD undef = .pointer (some ⟨bx, 0, none⟩) := by rw [← h2]; simp
  unfold rv
  simp [results, Tryz.results39, h2', c0, c1, c2, go_sem]
/-- What Decode leaves behind. -/
def DecPost (s : ByteArray) (w : World) (e : Ending) (w' : World) : Prop :=
  (∃ a c, e = .returned (.tuple #[rv (decSd s) a (decL s).length c (decSt s), .int .i64 (decE s)]) ∧ BA w'.heap.size w' a (decL s)) ∧ Below w.heap.size w w'
theorem decE_len {s : ByteArray} (h : ¬ lenE s.size = 0) : decE s = lenE s.size := by unfold decE; rw [if_neg h]
theorem decE_in {s : ByteArray} (h : lenE s.size = 0) : decE s = dE s 16 32 := by unfold decE; rw [if_pos h]
/-- The end of a body that is none. -/
theorem dec_none {s : ByteArray} {w W : World} {e : Ending} (h : ¬ decE s = 0) (he : e = .returned (.tuple #[rv 0 none 0 0 0, .int .i64 (decE s)])) (hb : Below w.heap.size w W) : DecPost s w e W := by
  obtain ⟨h1, h2, h3⟩ := decL_none h
  refine ⟨⟨none, 0, ?_, by rw [h1]; exact BA.nil _ _ _⟩, hb⟩
  rw [he, h1, h2, h3]; rfl
set_option maxRecDepth 100000 in
set_option maxHeartbeats 1000000 in
theorem dec_any (s : ByteArray) (hs : s.size ≤ 1000000) (w : World) : Calls Tryz.prog 39 #[.string s] w (DecPost s w) := by
  have N0 := mkHid (heap_alloc_new w (.cells #[.int .u32 0, .slice none 0 0, .int .u32 0] 53))
  have A0 := mkHid ((Apart.refl (fun _ => False) w).alloc (.cells #[.int .u32 0, .slice none 0 0, .int .u32 0] 53))
  have Z0 := mkHid (show (w.alloc (.cells #[.int .u32 0, .slice none 0 0, .int .u32 0] 53)).heap.size = w.heap.size + 1 by simp)
  obtain ⟨q, HQ⟩ : ∃ q, Hid (w.heap.size = q) := ⟨_, rfl⟩
  obtain ⟨W, HW⟩ : ∃ W, Hid (w.alloc (.cells #[.int .u32 0, .slice none 0 0, .int .u32 0] 53) = W) := ⟨_, rfl⟩
  rw [HQ.out, HW.out] at N0 Z0
  rw [HW.out] at A0
  have HS := mkHid hs
  have hs' : (s.size : Int) ≤ 9223372036854775807 := by omega
  have LE := mkHid (lenerr_any s.size hs')
  obtain ⟨E, HE⟩ : ∃ E, Hid (lenE s.size = E) := ⟨_, rfl⟩
  rw [HE.out] at LE
  obtain ⟨⟨c0, c1, c2⟩, f0, f1, f2⟩ := cells3' N0.out
  clear hs
  by_cases hE : E = 0
  · subst hE
    have HEL := mkHid (lenE_zero HE.out)
    have HDE := mkHid (decE_in HE.out)
    go_enter Tryz.func39, Tryz.ntmps39
    go_wp2_with fail
    rw [HW.out, HQ.out]
    refine (LE.out _).mono ?_
    rintro e w1 ⟨rfl, rfl⟩
    go_wp2_with fail
    refine (read_any s _).mono ?_
    rw [Z0.out]
    rintro e w2 ⟨rfl, r2, a2, z2⟩
    have R2 := mkHid r2
    have N2 := mkHid (a2.heap N0.out (fun h => h))
    have A2 := mkHid (A0.out.zz a2)
    clear r2 a2 z2 N0 A0 c0 c1 c2 f0 f1 f2
    obtain ⟨g0, G0⟩ : ∃ g0, Hid (gv s 0 32 = g0) := ⟨_, rfl⟩
    have l0 : (g0 : Int) < 4294967296 := by have := gv_lt s 0 32; rw [G0.out] at this; omega
    go_wp2_with fail
    have K1 := get_fit (q + 1) s HS.out 0 32 32 rfl (by omega) (by have := HEL.out; omega) _ R2.out
    rw [G0.out] at K1
    refine K1.mono ?_
    clear K1
    rintro e w3 ⟨rfl, r3, a3⟩
    have R3 := mkHid (show Rd 143 w3 (q + 1) s (some 32) from r3)
    have N3 := mkHid (a3.heap N2.out (by omega))
    have A3 := mkHid (A2.out.trans a3 (fun i hi e => by rw [HQ.out] at hi; omega))
    clear r3 a3 R2 N2 A2
    have GS := mkHid (getblocks_any (q + 1) s HEL.out.1 HEL.out.2.1 HEL.out.2.2 _ R3.out)
    unfold GsPost at GS
    have hq3 : q + 1 < w3.heap.size := R3.out.heap
    go_wp2_with fail
    refine (GS.out).mono ?_
    rintro e w4 ⟨(⟨he, a, c, acc, hacc, rfl, r4, o4, k4⟩ | ⟨he, rfl⟩), a4⟩
    · have HEZ := mkHid (show decE s = 0 by rw [HDE.out]; exact he)
      have HAC := mkHid hacc
      have R4 := mkHid r4
      have O4 := mkHid o4
      have K4 := mkHid k4
      have N4 := mkHid (a4.heap N3.out (by omega))
      have A4 := mkHid (A3.out.trans a4 (fun i hi e => by rw [HQ.out] at hi; omega))
      have HSZ := mkHid (show acc.length ≤ 16 by have := dL_len s 16 32; rw [← hacc] at this; simpa using this)
      clear he hacc r4 o4 k4 a4 GS R3 N3 A3
      obtain ⟨B, HB⟩ : ∃ B, Hid (w3.heap.size = B) := ⟨_, rfl⟩
      rw [HB.out] at O4 K4 hq3
      obtain ⟨n, HN⟩ : ∃ n, Hid (acc.length = n) := ⟨_, rfl⟩
      have HVN := mkHid (show (.slice a acc.length c : Value) = .slice a n c by rw [HN.out])
      rw [HVN.out] at O4 K4 ⊢
      obtain ⟨g1, G1⟩ : ∃ g1, Hid (gv s (8 * s.size - 32) 32 = g1) := ⟨_, rfl⟩
      have l1 : (g1 : Int) < 4294967296 := by have := gv_lt s (8 * s.size - 32) 32; rw [G1.out] at this; omega
      go_wp2_with fail
      have K1 := get_fit (q + 1) s HS.out (8 * s.size - 32) 32 32 rfl (by omega) (by have := HEL.out; omega) _ R4.out
      rw [G1.out] at K1
      refine K1.mono ?_
      clear K1
      rintro e w5 ⟨rfl, r5, a5⟩
      have N5 := mkHid (a5.heap N4.out (by omega))
      have A5 := mkHid (A4.out.trans a5 (fun i hi e => by rw [HQ.out] at hi; omega))
      have O5 := mkHid (ownsRow_apart O4.out a5 (by intro k hk e; omega))
      have K5 := mkHid (K4.out.kept (X' := (fun k => k < B ∨ (Value.slice a n c).ownBlock = some k)) a5 (fun k _ e => .inl (by omega)) (fun _ _ h => h))
      clear r5 a5 R4 N4 A4 O4 K4
      obtain ⟨⟨c0, c1, c2⟩, f0, f1, f2⟩ := cells3' N5.out
      go_wp2
      have dd := put3_is N5.out (.int .u32 (g0 : Int)) (.slice a n c) (.int .u32 (g1 : Int))
      have ap := put3_ap w5 q 0 (.int .u32 (g0 : Int)) (.slice a n c) (.int .u32 (g1 : Int))
      have o6 := ownsRow_apart O5.out ap (by intro k hk e; omega)
      have k6 := K5.out.kept (X' := (fun k => k < B ∨ (Value.slice a n c).ownBlock = some k)) ap (fun k _ e => .inl (by omega)) (fun _ _ h => h)
      obtain ⟨a', c', hv, hba⟩ := own_ba o6 (by have := HSZ.out; unfold maxLen; omega) k6
      have hl : decL s = acc.map (·.k) := by unfold decL; rw [if_pos HEZ.out, HAC.out]
      simp only [Value.slice.injEq] at hv
      obtain ⟨rfl, _, rfl⟩ := hv
      refine bodyPost_ret (res16 _ rfl dd) rfl ⟨⟨a, c, ?_, by rw [hl]; exact hba⟩, ?_⟩
      · unfold decSd decSt
        rw [if_pos HEZ.out, if_pos HEZ.out, HEZ.out, hl, List.length_map, HN.out, G0.out, G1.out]
        rfl
      · exact (A5.out.trans ap (fun i hi e => by rw [HQ.out] at hi; omega)).belowZ
    · have HEZ := mkHid (show ¬ decE s = 0 by rw [HDE.out]; exact he)
      have N4 := mkHid (a4.heap N3.out (by omega))
      have A4 := mkHid (A3.out.trans a4 (fun i hi e => by rw [HQ.out] at hi; omega))
      clear a4 GS R3 N3 A3 l0
      obtain ⟨F, HF⟩ : ∃ F, Hid (dE s 16 32 = F) := ⟨_, rfl⟩
      rw [HF.out] at he HDE ⊢
      obtain ⟨⟨c0, c1, c2⟩, f0, f1, f2⟩ := cells3' N4.out
      go_wp2
      have dd := put3_is N4.out (.int .u32 0) (.slice none 0 0) (.int .u32 0)
      have ap := put3_ap w4 q 0 (.int .u32 0) (.slice none 0 0) (.int .u32 0)
      refine bodyPost_ret (res16 _ rfl dd) rfl (dec_none HEZ.out (by rw [HDE.out]; rfl) ?_)
      exact (A4.out.trans ap (fun i hi e => by rw [HQ.out] at hi; omega)).belowZ
  · have HDE := mkHid (show decE s = E by rw [decE_len (by rw [HE.out]; exact hE), HE.out])
    have HEN := mkHid (show ¬ decE s = 0 by rw [HDE.out]; exact hE)
    go_enter Tryz.func39, Tryz.ntmps39
    go_wp2_with fail
    rw [HW.out, HQ.out]
    refine (LE.out _).mono ?_
    rintro e w1 ⟨rfl, rfl⟩
    go_wp2
    have dd := put3_is N0.out (.int .u32 0) (.slice none 0 0) (.int .u32 0)
    have ap := put3_ap w1 q 0 (.int .u32 0) (.slice none 0 0) (.int .u32 0)
    refine bodyPost_ret (res16 _ rfl dd) rfl (dec_none HEN.out (by rw [HDE.out]; rfl) ?_)
    exact (A0.out.trans ap (fun i hi e => by rw [HQ.out] at hi; omega)).belowZ
end Go.Proofs.YtdhbakknplnnkaaGreat.Cc
namespace Go.Proofs.YtdhbakknplnnkaaGreat.Cc
open Go.RowKit

theorem rget_fit (b : Nat) (s : ByteArray) (hs : s.size ≤ 1000000) (p : Nat) (n : Int) (m : Nat) (e : n = m) (h1 : m ≤ 32) (h2 : p + m ≤ 8 * s.size) (w : World) (h : Rd 136 w b s (some p)) :
    Calls Tryz.prog 44 #[.pointer (some ⟨b, 0, none⟩), .int .i64 n] w fun e w' => e = .returned (.int .u32 (gv s p m)) ∧ Rd 136 w' b s (some (p + m)) ∧ Apart (· = b) w w' := by
  subst e
  exact rget_ok b s hs p m h1 h2 w h
theorem rleft_at (b : Nat) (s : ByteArray) (hs : s.size ≤ 1000000) (p : Nat) (w : World) (h : Rd 136 w b s (some p)) (L : Int) (hL : 8 * (s.size : Int) - p = L) :
    Calls Tryz.prog 45 #[.pointer (some ⟨b, 0, none⟩)] w fun e w' => e = .returned (.int .i64 L) ∧ ∃ n, w' = w.drewN n := by
  have := rleft_any b s hs (some p) w h
  have e : gleft s (some p) = L := hL
  rw [e] at this
  exact this
theorem res17 {W : World} {bx : Nat} {sd st : Int} {a : Option Addr} {n c : Nat} (tmps : Array Value) (h2 : tmps.getD 2 undef = .pointer (some ⟨bx, 0, none⟩)) (hd : W.heap[bx]? = some (.cells #[.int .u32 sd, .slice a n c, .int .u32 st] 53 (0, 0))) :
    (results Tryz.f23 tmps).run Tryz.prog W = .ok (.tuple #[rv sd a n c st, tmps.getD 3 undef]) W := by
  obtain ⟨⟨c0, c1, c2⟩, _⟩ := cells3' hd
  clear hd
  have h2' : tmps[2]?.getD undef = .pointer (some ⟨bx, 0, none⟩) := by rw [← h2]; simp
  unfold rv
  simp [results, Tryz.results23, h2', c0, c1, c2, go_sem]
/-- Where the reference's Decode stands: the result, the reader, what is put together. -/
structure Dw (w wr : World) (q rb ob B : Nat) (s : ByteArray) (p : Nat) (g0 : Int) (va : Option Addr) (n vc : Nat) (acc : List Kx) : Prop where
  rd : Rd 136 wr rb s (some p)
  o : wr.heap[ob]? = some (.cells #[.int .u32 g0, .slice va n vc, .int .u32 0] 53 (0, 0))
  r : wr.heap[q]? = some (.cells #[.int .u32 0, .slice none 0 0, .int .u32 0] 53 (0, 0))
  ow : wr.ownsRow B 49 3 (.slice va n vc) acc.length (kC acc)
  kx : KX (fun j => j < B ∨ (Value.slice va n vc).ownBlock = some j) wr acc
  a : Apart (fun _ => False) w wr
  z : w.heap.size ≤ q ∧ q < rb ∧ rb < ob ∧ ob < B
theorem Dw.move {w wr w2 : World} {q rb ob B : Nat} {s : ByteArray} {p p2 : Nat} {g0 : Int} {va : Option Addr} {n vc : Nat} {acc : List Kx} (h : Dw w wr q rb ob B s p g0 va n vc acc) (ha : Apart (· = rb) wr w2) (hr : Rd 136 w2 rb s (some p2)) : Dw w w2 q rb ob B s p2 g0 va n vc acc := by
  obtain ⟨z0, z1, z2, z3⟩ := h.z
  exact ⟨hr, ha.heap h.o (by omega), ha.heap h.r (by omega), ownsRow_apart h.ow ha (by intro k hk e; omega), h.kx.kept ha (fun j _ e => .inl (by omega)) (fun _ _ h => h), h.a.trans ha (fun i hi e => by omega), h.z⟩
theorem Dw.drewN {w wr : World} {q rb ob B : Nat} {s : ByteArray} {p : Nat} {g0 : Int} {va : Option Addr} {n vc : Nat} {acc : List Kx} (h : Dw w wr q rb ob B s p g0 va n vc acc) (k : Nat) : Dw w (wr.drewN k) q rb ob B s p g0 va n vc acc :=
  h.move ((Apart.refl _ _).drewN k) (drew_rd k h.rd)
/-- The end where something is wrong. -/
theorem Dw.bad {w wr : World} {q rb ob B : Nat} {s : ByteArray} {p : Nat} {g0 : Int} {va : Option Addr} {n vc : Nat} {acc : List Kx} (h : Dw w wr q rb ob B s p g0 va n vc acc) {E : Int} (hE : decE s = E) (h0 : ¬ E = 0) (tmps : Array Value) (h2 : tmps.getD 2 undef = .pointer (some ⟨q, 0, none⟩)) (h3 : tmps.getD 3 undef = .int .i64 E) (d : List Deferred) (hd : d = []) :
    bodyPost Tryz.prog Tryz.f23 (DecPost s w) Exit.ret { tmps := tmps, defers := d } (put3 wr q 0 (.int .u32 0) (.slice none 0 0) (.int .u32 0)) := by
  subst hd
  refine bodyPost_ret (res17 _ h2 (put3_is h.r (.int .u32 0) (.slice none 0 0) (.int .u32 0))) rfl (dec_none (by rw [hE]; exact h0) (by rw [hE, h3]) ?_)
  obtain ⟨z0, z1, z2, z3⟩ := h.z
  exact (h.a.trans (put3_ap wr q 0 _ _ _) (fun i hi e => by omega)).belowZ
end Go.Proofs.YtdhbakknplnnkaaGreat.Cc
