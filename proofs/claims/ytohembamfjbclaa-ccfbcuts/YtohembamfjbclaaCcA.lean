/-
  Lists that a call makes: their rows, what an append does to them; packets and sources that lie in memory.
-/
import Derived.Test.YtohembamfjbclaaCcM
import Derived.Laws.MakeOwn
namespace Go.Proofs.Ytohembamfjbclaa
open Go.RowKit

/-- A slice value that holds n elements of so many cells each, the cells xs; it may be nil. -/
def SrcN (w : World) (size : Nat) (v : Value) (n : Nat) (xs : List Value) : Prop :=
  (∃ c, v = .slice none 0 c ∧ n = 0 ∧ xs = []) ∨ ∃ ad c, v = .slice (some ad) n c ∧ xs.length = n * size ∧ ∀ j u, xs[j]? = some u → w.cell? (ad.add j) = some u
section
variable {P : Program} (w : World)
theorem run_append_onto (base : Nat) (t ty e : TypeId) (i : TypeInfo) (z : Value) (size bytes : Nat) (ht : P.underlying t = some (.slice e)) (hi : P.info? e = some i) (hz : i.zero = some z)
    (hsize : i.size = size) (hby : i.bytes = bytes) (hzs : z.cells.size = size) (hsz : 0 < size)
    (v : Value) (n : Nat) (xs : List Value) (hown : w.ownsRow base e size v n xs)
    (s : Value) (m : Nat) (news : List Value) (hs : SrcN w size s m news) (h1 : ∀ u ∈ news, u.oneCell' = true)
    (h63 : n + m ≤ maxLen) (hbytes : (n + m) * bytes ≤ 140737488355328) (hbase : base ≤ w.heap.size) :
    ∃ v' w', (Builtin.append_ #[t, t] ty #[v, s]).run P w = .ok v' w' ∧ w'.ownsRow base e size v' (n + m) (xs ++ news) ∧ w.grownBy w' v.ownBlock := by
  rcases hs with ⟨c, rfl, rfl, rfl⟩ | ⟨ad, c, rfl, hl, hcell⟩
  · refine ⟨v, w, ?_, by simpa using hown, ⟨rfl, rfl, rfl, Nat.le_refl _, fun _ _ _ => rfl⟩⟩
    rcases hown.2 with ⟨rfl, rfl⟩ | ⟨g, cap, cur, rfl, hb, hg, hn, h2, h3, h4⟩
    · simp [Builtin.append_, run_underlying ht, sizeOf, typeInfo, hi, Builtin.lenOf, Builtin.firstCells]
    · simp [Builtin.append_, run_underlying ht, sizeOf, typeInfo, hi, Builtin.lenOf, Builtin.firstCells, hn, storeCells]
  · obtain ⟨v', w', a, b, c', _⟩ := run_append_own (P := P) w base t ty e i z size bytes ht hi hz hsize hby hzs hsz v n xs hown ad m c news hl hcell h1 h63 hbytes hbase
    exact ⟨v', w', a, b, c'⟩
theorem wpList_append_onto {ops : Array Oper} {rest : List Oper} {o : Oper} {a : Act} {Q : Exit → Act → World → Prop} (hgd : o.guard = none) (s x : Operand) (t : TypeId)
    (ho : o.op = .call { callee := .builtin .append, args := #[s, x], argTypes := #[t, t] })
    (base : Nat) (e : TypeId) (i : TypeInfo) (z : Value) (size bytes : Nat) (ht : P.underlying t = some (.slice e)) (hi : P.info? e = some i) (hz : i.zero = some z)
    (hsize : i.size = size) (hby : i.bytes = bytes) (hzs : z.cells.size = size) (hsz : 0 < size)
    (v : Value) (n : Nat) (xs : List Value) (hs : a.eval s = v) (hown : w.ownsRow base e size v n xs)
    (u : Value) (m : Nat) (news : List Value) (hx : a.eval x = u) (hsrc : SrcN w size u m news) (h1 : ∀ u ∈ news, u.oneCell' = true)
    (h63 : n + m ≤ maxLen) (hbytes : (n + m) * bytes ≤ 140737488355328) (hbase : base ≤ w.heap.size)
    (h : ∀ v' w', w'.ownsRow base e size v' (n + m) (xs ++ news) → w.grownBy w' v.ownBlock → wpList P ops Q rest (a.put o.dst v') w') : wpList P ops Q (o :: rest) a w :=
  wpList_plain hgd fun K hK => by
    obtain ⟨v', w', hr, h2, h3⟩ := run_append_onto (P := P) w base t o.type e i z size bytes ht hi hz hsize hby hzs hsz v n xs hown u m news hsrc h1 h63 hbytes hbase
    unfold Oper.wp execOp
    simp only [ho, resolve, invoke, builtin, Sem.run_bind, Sem.run_pure, Result.andThen_ok, List.map_toArray, List.map_cons, List.map_nil, hs, hx, hr]
    exact hK _ _ (h v' w' h2 h3)
end
theorem ownsRow_apart {w w' : World} {X : Nat → Prop} {base : Nat} {e : TypeId} {size : Nat} {v : Value} {n : Nat} {xs : List Value} (h : w.ownsRow base e size v n xs) (ha : Apart X w w') (hx : ∀ k, base ≤ k → ¬ X k) : w'.ownsRow base e size v n xs := by
  refine ⟨h.1, ?_⟩
  rcases h.2 with hn | ⟨g, cap, cur, rfl, hg, hh, r⟩
  · exact .inl hn
  · exact .inr ⟨g, cap, cur, rfl, hg, ha.heap hh (hx g hg), r⟩
theorem ownsRow_base {w : World} {base base' : Nat} {e : TypeId} {size : Nat} {v : Value} {n : Nat} {xs : List Value} (h : w.ownsRow base e size v n xs) (hb : base' ≤ base) : w.ownsRow base' e size v n xs := by
  refine ⟨h.1, ?_⟩
  rcases h.2 with hn | ⟨g, cap, cur, rfl, hg, hh, r⟩
  · exact .inl hn
  · exact .inr ⟨g, cap, cur, rfl, by omega, hh, r⟩
theorem ownsRow_slice {w : World} {base : Nat} {e : TypeId} {size : Nat} {v : Value} {n : Nat} {xs : List Value} (h : w.ownsRow base e size v n xs) : ∃ a c, v = .slice a n c := by
  rcases h.2 with ⟨rfl, rfl⟩ | ⟨g, cap, cur, rfl, _⟩
  · exact ⟨none, 0, rfl⟩
  · exact ⟨_, _, rfl⟩
theorem own_empty (w : World) (base : Nat) (e : TypeId) (size : Nat) (hb : base ≤ w.heap.size) : (w.alloc (.cells #[] e)).ownsRow base e size (.slice (some ⟨w.heap.size, 0, none⟩) 0 0) 0 [] :=
  ⟨by simp, .inr ⟨w.heap.size, 0, #[], rfl, hb, heap_alloc_new _ _, Nat.le_refl _, by unfold maxLen; omega, by simp, by simp⟩⟩
theorem ownsRow_apart2 {w w' : World} {X : Nat → Prop} {base : Nat} {e : TypeId} {size : Nat} {v : Value} {n : Nat} {xs : List Value} (h : w.ownsRow base e size v n xs) (ha : Apart X w w') (hx : ∀ k, v.ownBlock = some k → ¬ X k) : w'.ownsRow base e size v n xs := by
  refine ⟨h.1, ?_⟩
  rcases h.2 with hn | ⟨g, cap, cur, rfl, hg, hh, r⟩
  · exact .inl hn
  · exact .inr ⟨g, cap, cur, rfl, hg, ha.heap hh (hx g rfl), r⟩
theorem ownsRow_below {w w' : World} {B base : Nat} {e : TypeId} {size : Nat} {v : Value} {n : Nat} {xs : List Value} (h : w.ownsRow base e size v n xs) (ha : Below B w w') (hx : ∀ k, v.ownBlock = some k → k < B) : w'.ownsRow base e size v n xs := by
  refine ⟨h.1, ?_⟩
  rcases h.2 with hn | ⟨g, cap, cur, rfl, hg, hh, r⟩
  · exact .inl hn
  · exact .inr ⟨g, cap, cur, rfl, hg, (ha.block g (hx g rfl)).trans hh, r⟩
/-- The cells of packets. -/
def mC : List Mt → List Value
  | [] => []
  | m :: l => .bool m.g :: .int .i64 m.e :: .int .i64 m.a :: mC l
@[simp] theorem mC_len (l : List Mt) : (mC l).length = l.length * 3 := by induction l with | nil => rfl | cons p l ih => simp [mC, ih]; omega
theorem mC_app (l k : List Mt) : mC (l ++ k) = mC l ++ mC k := by induction l with | nil => rfl | cons p l ih => simp [mC, ih]
theorem mC_get (l : List Mt) (i : Nat) (m : Mt) (h : l[i]? = some m) : (mC l)[i * 3]? = some (.bool m.g) ∧ (mC l)[i * 3 + 1]? = some (.int .i64 m.e) ∧ (mC l)[i * 3 + 2]? = some (.int .i64 m.a) := by
  induction l generalizing i with
  | nil => simp at h
  | cons x l ih =>
    cases i with
    | zero => simp at h; subst h; exact ⟨rfl, rfl, rfl⟩
    | succ i =>
      obtain ⟨h0, h1, h2⟩ := ih i (by simpa using h)
      rw [show (i + 1) * 3 = i * 3 + 1 + 1 + 1 by omega, show i * 3 + 1 + 1 + 1 + 1 = (i * 3 + 1) + 1 + 1 + 1 by omega, show i * 3 + 1 + 1 + 1 + 2 = (i * 3 + 2) + 1 + 1 + 1 by omega]
      simp only [mC, List.getElem?_cons_succ]
      exact ⟨h0, h1, h2⟩
theorem mC_one (l : List Mt) : ∀ u ∈ mC l, u.oneCell' = true := by
  induction l with
  | nil => simp [mC]
  | cons p l ih =>
    intro u hu
    simp only [mC, List.mem_cons] at hu
    rcases hu with rfl | rfl | rfl | hu
    · rfl
    · rfl
    · rfl
    · exact ih u hu
theorem ma_src {B : Nat} {w : World} {a : Option Addr} {l : List Mt} {cap : Nat} (h : MA B w a l) : SrcN w 3 (.slice a l.length cap) l.length (mC l) := by
  rcases h.2 with h0 | ⟨b, off, rfl, hb, hc⟩
  · subst h0
    cases a with
    | none => exact .inl ⟨cap, rfl, rfl, rfl⟩
    | some ad => exact .inr ⟨ad, cap, rfl, rfl, fun j u hj => by simp [mC] at hj⟩
  · refine .inr ⟨_, cap, rfl, by simp, fun j u hj => ?_⟩
    have hl : j < l.length * 3 := by have := (List.getElem?_eq_some_iff.1 hj).1; simpa using this
    have hi : j / 3 < l.length := by omega
    obtain ⟨c0, c1, c2⟩ := hc (j / 3) _ (List.getElem?_eq_getElem hi)
    obtain ⟨g0, g1, g2⟩ := mC_get l (j / 3) _ (List.getElem?_eq_getElem hi)
    rw [Addr.add_lit, ← hj]
    rcases (by omega : j = j / 3 * 3 ∨ j = j / 3 * 3 + 1 ∨ j = j / 3 * 3 + 2) with e | e | e
    · rw [e, c0, g0]
    · rw [e, ← Nat.add_assoc, c1, g1]
    · rw [e, ← Nat.add_assoc, c2, g2]
/-- Packets that lie in a block that is none of X. -/
def MX (X : Nat → Prop) (w : World) (a : Option Addr) (l : List Mt) : Prop :=
  l.length ≤ maxLen ∧ (l = [] ∨ ∃ b off, a = some ⟨b, off, none⟩ ∧ b < w.heap.size ∧ ¬ X b ∧ ∀ i m, l[i]? = some m → MC w b (off + i * 3) m)
theorem MX.kept {X X' Y : Nat → Prop} {w w' : World} {a : Option Addr} {l : List Mt} (h : MX X w a l) (ha : Apart Y w w') (hY : ∀ b, b < w.heap.size → Y b → X b) (hX : ∀ b, b < w.heap.size → X' b → X b) : MX X' w' a l := by
  refine ⟨h.1, ?_⟩
  rcases h.2 with h0 | ⟨b, off, rfl, hb, hx, hc⟩
  · exact .inl h0
  · have hn : ¬ Y b := fun e => hx (hY b hb e)
    refine .inr ⟨b, off, rfl, by have := ha.size; omega, fun e => hx (hX b hb e), fun i m hi => ?_⟩
    obtain ⟨c0, c1, c2⟩ := hc i m hi
    exact ⟨by rw [ha.cell (p := ⟨b, off + i * 3, none⟩) hb hn]; exact c0, by rw [ha.cell (p := ⟨b, off + i * 3 + 1, none⟩) hb hn]; exact c1, by rw [ha.cell (p := ⟨b, off + i * 3 + 2, none⟩) hb hn]; exact c2⟩
theorem MX.ma {X : Nat → Prop} {w : World} {a : Option Addr} {l : List Mt} (h : MX X w a l) : MA w.heap.size w a l := by
  refine ⟨h.1, ?_⟩
  rcases h.2 with h0 | ⟨b, off, rfl, hb, hx, hc⟩
  · exact .inl h0
  · exact .inr ⟨b, off, rfl, hb, hc⟩
theorem own_mx {w : World} {base : Nat} {v : Value} {l : List Mt} {X : Nat → Prop} (h : w.ownsRow base 47 3 v l.length (mC l)) (hm : l.length ≤ maxLen) (hX : ∀ k, v.ownBlock = some k → ¬ X k) : ∃ a c, v = .slice a l.length c ∧ MX X w a l := by
  rcases h.2 with ⟨rfl, h0⟩ | ⟨g, cap, cur, rfl, hg, hh, r⟩
  · obtain rfl := List.eq_nil_of_length_eq_zero h0
    exact ⟨none, 0, rfl, hm, .inl rfl⟩
  · refine ⟨_, cap, rfl, hm, .inr ⟨g, 0, rfl, lt_of_heap hh, hX g rfl, fun i m hi => ?_⟩⟩
    have hl : i < l.length := (List.getElem?_eq_some_iff.1 hi).1
    obtain ⟨g0, g1, g2⟩ := mC_get l i m hi
    refine ⟨?_, ?_, ?_⟩
    · rw [Nat.zero_add, h.cellAt _ (by omega), g0]
    · rw [Nat.zero_add, h.cellAt _ (by omega), g1]
    · rw [Nat.zero_add, h.cellAt _ (by omega), g2]
/-- A source and where its packets lie. -/
structure Kx where
  k : Bk
  a : Option Addr
  c : Nat
/-- The cells of sources. -/
def kC : List Kx → List Value
  | [] => []
  | x :: l => .int .u32 x.k.s :: .int .i64 x.k.f :: .slice x.a x.k.m.length x.c :: kC l
@[simp] theorem kC_len (l : List Kx) : (kC l).length = l.length * 3 := by induction l with | nil => rfl | cons p l ih => simp [kC, ih]; omega
theorem kC_app (l k : List Kx) : kC (l ++ k) = kC l ++ kC k := by induction l with | nil => rfl | cons p l ih => simp [kC, ih]
theorem kC_get (l : List Kx) (i : Nat) (x : Kx) (h : l[i]? = some x) : (kC l)[i * 3]? = some (.int .u32 x.k.s) ∧ (kC l)[i * 3 + 1]? = some (.int .i64 x.k.f) ∧ (kC l)[i * 3 + 2]? = some (.slice x.a x.k.m.length x.c) := by
  induction l generalizing i with
  | nil => simp at h
  | cons x l ih =>
    cases i with
    | zero => simp at h; subst h; exact ⟨rfl, rfl, rfl⟩
    | succ i =>
      obtain ⟨h0, h1, h2⟩ := ih i (by simpa using h)
      rw [show (i + 1) * 3 = i * 3 + 1 + 1 + 1 by omega, show i * 3 + 1 + 1 + 1 + 1 = (i * 3 + 1) + 1 + 1 + 1 by omega, show i * 3 + 1 + 1 + 1 + 2 = (i * 3 + 2) + 1 + 1 + 1 by omega]
      simp only [kC, List.getElem?_cons_succ]
      exact ⟨h0, h1, h2⟩
/-- All of them: their packets lie in blocks that are none of X. -/
def KX (X : Nat → Prop) (w : World) (l : List Kx) : Prop := ∀ x ∈ l, MX X w x.a x.k.m ∧ 0 ≤ x.k.s ∧ x.k.s < 4294967296
theorem KX.nil (X : Nat → Prop) (w : World) : KX X w [] := fun x hx => by cases hx
theorem KX.kept {X X' Y : Nat → Prop} {w w' : World} {l : List Kx} (h : KX X w l) (ha : Apart Y w w') (hY : ∀ b, b < w.heap.size → Y b → X b) (hX : ∀ b, b < w.heap.size → X' b → X b) : KX X' w' l :=
  fun x hx => ⟨(h x hx).1.kept ha hY hX, (h x hx).2⟩
theorem KX.snoc {X : Nat → Prop} {w : World} {l : List Kx} (h : KX X w l) (x : Kx) (hx : MX X w x.a x.k.m) (h0 : 0 ≤ x.k.s) (h1 : x.k.s < 4294967296) : KX X w (l ++ [x]) := by
  intro y hy
  rcases List.mem_append.1 hy with hy | hy
  · exact h y hy
  · simp at hy; subst hy; exact ⟨hx, h0, h1⟩
theorem own_ba {w : World} {base : Nat} {v : Value} {l : List Kx} {X : Nat → Prop} (h : w.ownsRow base 44 3 v l.length (kC l)) (hm : l.length ≤ maxLen) (hk : KX X w l) : ∃ a c, v = .slice a l.length c ∧ BA w.heap.size w a (l.map (·.k)) := by
  rcases h.2 with ⟨rfl, h0⟩ | ⟨g, cap, cur, rfl, hg, hh, r⟩
  · obtain rfl := List.eq_nil_of_length_eq_zero h0
    exact ⟨none, 0, rfl, BA.nil _ _ _⟩
  · refine ⟨_, cap, rfl, by simpa using hm, .inr ⟨g, 0, rfl, lt_of_heap hh, fun i k hi => ?_⟩⟩
    rw [List.getElem?_map] at hi
    obtain ⟨x, hx, rfl⟩ := Option.map_eq_some_iff.1 hi
    have hl : i < l.length := (List.getElem?_eq_some_iff.1 hx).1
    obtain ⟨g0, g1, g2⟩ := kC_get l i x hx
    obtain ⟨q0, q1⟩ := hk x (List.mem_of_getElem? hx)
    refine ⟨?_, ?_, ⟨x.a, x.c, ?_, q0.ma⟩, q1⟩
    · rw [Nat.zero_add, h.cellAt _ (by omega), g0]
    · rw [Nat.zero_add, h.cellAt _ (by omega), g1]
    · rw [Nat.zero_add, h.cellAt _ (by omega), g2]
theorem info44 : (Try.prog.info? 44).map (fun i => (i.zero, i.size, i.bytes)) = some (some (.agg #[.int .u32 0, .int .i64 0, .slice none 0 0]), 3, 40) := by kernel_rfl
theorem info47 : (Try.prog.info? 47).map (fun i => (i.zero, i.size, i.bytes)) = some (some (.agg #[.bool false, .int .i64 0, .int .i64 0]), 3, 24) := by kernel_rfl
theorem cell_three_new (w : World) (x y z : Value) (t : TypeId) : ∀ j u, [x, y, z][j]? = some u → (w.alloc (.cells #[x, y, z] t)).cell? ((⟨w.heap.size, 0, none⟩ : Addr).add j) = some u := by
  intro j u hj
  rw [Addr.add_lit, Nat.zero_add, cell_of_row _ w.heap.size j _ t _ (heap_alloc_new w _)]
  simpa using hj
/-- Three cells stored one behind the other. -/
def put3 (w : World) (b o : Nat) (x y z : Value) : World := ((w.setCell ⟨b, o, none⟩ x).setCell ⟨b, o + 1, none⟩ y).setCell ⟨b, o + 2, none⟩ z
theorem put3_eq (w : World) (b o : Nat) (x y z : Value) : ((w.setCell ⟨b, o, none⟩ x).setCell ⟨b, o + 1, none⟩ y).setCell ⟨b, o + 2, none⟩ z = put3 w b o x y z := rfl
theorem put3_ap (w : World) (b o : Nat) (x y z : Value) : Apart (· = b) w (put3 w b o x y z) := by
  refine Apart.setCell (X := (· = b)) (p := ⟨b, o + 2, none⟩) ?_ (fun _ => rfl) _
  refine Apart.setCell (X := (· = b)) (p := ⟨b, o + 1, none⟩) ?_ (fun _ => rfl) _
  exact Apart.setCell (X := (· = b)) (p := ⟨b, o, none⟩) (Apart.refl _ _) (fun _ => rfl) _
theorem put3_is {w : World} {b : Nat} {u0 u1 u2 : Value} {T : TypeId} (h : w.heap[b]? = some (.cells #[u0, u1, u2] T (0, 0))) (x y z : Value) : (put3 w b 0 x y z).heap[b]? = some (.cells #[x, y, z] T (0, 0)) := by
  have h0 := heap_setCell_same _ b 0 _ T x h
  have h1 := heap_setCell_same _ b (0 + 1) _ T y h0
  have h2 := heap_setCell_same _ b (0 + 2) _ T z h1
  unfold put3
  rw [h2]; rfl
theorem ap_set (w : World) (b o : Nat) (v : Value) : Apart (· = b) w (w.setCell ⟨b, o, none⟩ v) := Apart.setCell (X := (· = b)) (p := ⟨b, o, none⟩) (Apart.refl _ _) (fun _ => rfl) _
theorem set0 {w : World} {b : Nat} {u0 u1 u2 : Value} {T : TypeId} (h : w.heap[b]? = some (.cells #[u0, u1, u2] T (0, 0))) (x : Value) : (w.setCell ⟨b, 0, none⟩ x).heap[b]? = some (.cells #[x, u1, u2] T (0, 0)) := by rw [heap_setCell_same _ b 0 _ T x h]; rfl
theorem set1 {w : World} {b : Nat} {u0 u1 u2 : Value} {T : TypeId} (h : w.heap[b]? = some (.cells #[u0, u1, u2] T (0, 0))) (x : Value) : (w.setCell ⟨b, 1, none⟩ x).heap[b]? = some (.cells #[u0, x, u2] T (0, 0)) := by rw [heap_setCell_same _ b 1 _ T x h]; rfl
theorem set2 {w : World} {b : Nat} {u0 u1 u2 : Value} {T : TypeId} (h : w.heap[b]? = some (.cells #[u0, u1, u2] T (0, 0))) (x : Value) : (w.setCell ⟨b, 2, none⟩ x).heap[b]? = some (.cells #[u0, u1, x] T (0, 0)) := by rw [heap_setCell_same _ b 2 _ T x h]; rfl
end Go.Proofs.Ytohembamfjbclaa
