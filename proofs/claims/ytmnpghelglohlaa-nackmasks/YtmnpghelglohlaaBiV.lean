/-
  A writer's memory: its block, and the row of its bytes; what a write does to them.
-/
import Derived.Test.YtmnpghelglohlaaBiW
import Derived.BigRegion
import Derived.Deep.DeepCutAuto
import Derived.Deep.CutBlock
namespace Go.Proofs.Ytmnpghelglohlaa
open Go.RowKit

section
variable {P : Program} (w : World)
/-- An append onto a row of the call's own: the new row is the old one, or a new block. -/
theorem run_append_own2 (base : Nat) (t ty e : TypeId) (i : TypeInfo) (z : Value) (size bytes : Nat) (ht : P.underlying t = some (.slice e)) (hi : P.info? e = some i) (hz : i.zero = some z)
    (hsize : i.size = size) (hby : i.bytes = bytes) (hzs : z.cells.size = size) (hsz : 0 < size)
    (v : Value) (n : Nat) (xs : List Value) (hown : w.ownsRow base e size v n xs)
    (a : Addr) (m c : Nat) (news : List Value) (hl : news.length = m * size) (hnews : ∀ j u, news[j]? = some u → w.cell? (a.add j) = some u) (h1 : ∀ u ∈ news, u.oneCell' = true)
    (h63 : n + m ≤ maxLen) (hbytes : (n + m) * bytes ≤ 140737488355328) (hbase : base ≤ w.heap.size) :
    ∃ v' w', (Builtin.append_ #[t, t] ty #[v, .slice (some a) m c]).run P w = .ok v' w' ∧ w'.ownsRow base e size v' (n + m) (xs ++ news) ∧ w.grownBy w' v.ownBlock ∧
      (∀ k, v'.ownBlock = some k → v.ownBlock = some k ∨ w.heap.size ≤ k) := by
  have down : ∀ {w' : World} {v' : Value}, w'.ownsRow w.heap.size e size v' (n + m) (xs ++ news) → w'.ownsRow base e size v' (n + m) (xs ++ news) := by
    intro w' v' h
    refine ⟨h.1, ?_⟩
    rcases h.2 with hn | ⟨g, cap, cur, hv, hg, r⟩
    · exact .inl hn
    · exact .inr ⟨g, cap, cur, hv, by omega, r⟩
  rcases hown.2 with ⟨rfl, rfl⟩ | ⟨g, cap, cur, rfl, hb, hg, hnc, hcm, hcs, htake⟩
  · obtain ⟨v', w', r1, r2, r3, _⟩ := run_append_own (P := P) w w.heap.size t ty e i z size bytes ht hi hz hsize hby hzs hsz (.slice none 0 0) 0 xs ⟨hown.1, .inl ⟨rfl, rfl⟩⟩ a m c news hl hnews h1 h63 hbytes (Nat.le_refl _)
    exact ⟨v', w', r1, down r2, r3, fun k hk => .inr (r2.lt k hk).1⟩
  · by_cases hr : n + m ≤ cap
    · obtain ⟨w', r1, r2, r3⟩ := run_append_fits (P := P) w base t ty e i size ht hi hsize g n cap xs hown a m c news hl hnews h1 hr
      exact ⟨_, w', r1, r2, r3, fun k hk => .inl hk⟩
    · obtain ⟨v', w', r1, r2, r3⟩ := run_append_arg_grows (P := P) w t ty e i z size bytes ht hi hz hsize hby hzs hsz ⟨g, 0, none⟩ n cap xs hown.1 (fun j u hu => hown.cells (g := g) rfl j u hu) a m c news hl hnews (by omega) h63 hbytes
      exact ⟨v', w', r1, down r2, ⟨r3.os, r3.tape, r3.output, r3.size, fun k hk _ => r3.block k hk (by simp)⟩, fun k hk => .inr (r2.lt k hk).1⟩
theorem wpList_append_own2 {ops : Array Oper} {rest : List Oper} {o : Oper} {a : Act} {Q : Exit → Act → World → Prop} (hgd : o.guard = none) (s x : Operand) (t : TypeId)
    (ho : o.op = .call { callee := .builtin .append, args := #[s, x], argTypes := #[t, t] })
    (base : Nat) (e : TypeId) (i : TypeInfo) (z : Value) (size bytes : Nat) (ht : P.underlying t = some (.slice e)) (hi : P.info? e = some i) (hz : i.zero = some z)
    (hsize : i.size = size) (hby : i.bytes = bytes) (hzs : z.cells.size = size) (hsz : 0 < size)
    (v : Value) (n : Nat) (xs : List Value) (hs : a.eval s = v) (hown : w.ownsRow base e size v n xs)
    (ad : Addr) (m c : Nat) (news : List Value) (hx : a.eval x = .slice (some ad) m c) (hl : news.length = m * size) (hnews : ∀ j u, news[j]? = some u → w.cell? (ad.add j) = some u) (h1 : ∀ u ∈ news, u.oneCell' = true)
    (h63 : n + m ≤ maxLen) (hbytes : (n + m) * bytes ≤ 140737488355328) (hbase : base ≤ w.heap.size)
    (h : ∀ v' w', w'.ownsRow base e size v' (n + m) (xs ++ news) → w.grownBy w' v.ownBlock → (∀ k, v'.ownBlock = some k → v.ownBlock = some k ∨ w.heap.size ≤ k) → wpList P ops Q rest (a.put o.dst v') w') : wpList P ops Q (o :: rest) a w :=
  wpList_plain hgd fun _ hK => by
    obtain ⟨v', w', hrun, h2, h3, h4⟩ := run_append_own2 (P := P) w base t o.type e i z size bytes ht hi hz hsize hby hzs hsz v n xs hown ad m c news hl hnews h1 h63 hbytes hbase
    unfold Oper.wp execOp
    simp only [ho, resolve, invoke, builtin, Sem.run_bind, Sem.run_pure, Result.andThen_ok, List.map_toArray, List.map_cons, List.map_nil, hs, hx, hrun]
    exact hK _ _ (h v' w' h2 h3 h4)
end

def vb (x : Nat) : Value := .int .u8 (x : Int)
/-- A writer in block b whose text is v; it has written the bits l. -/
structure Wr (T : TypeId) (w : World) (b : Nat) (v : Value) (l : List Bool) : Prop where
  head : w.heap[b]? = some (.cells #[v, .int .i64 (l.length : Int)] T (0, 0))
  own : w.ownsRow (b + 1) 5 1 v ((l.length + 7) / 8) ((pk l).map vb)
  most : l.length ≤ 524288
/-- A writer whose last byte stands, with bits to spare. -/
structure Mid (T : TypeId) (w : World) (b g cap : Nat) (l : List Bool) (xs : List Nat) : Prop where
  head : w.heap[b]? = some (.cells #[.slice (some ⟨g, 0, none⟩) (l.length / 8 + 1) cap, .int .i64 (l.length : Int)] T (0, 0))
  own : w.ownsRow (b + 1) 5 1 (.slice (some ⟨g, 0, none⟩) (l.length / 8 + 1) cap) (l.length / 8 + 1) (xs.map vb)
  last : xs[l.length / 8]? = some (bv l (l.length / 8))
  next : ∀ c k, 0 < k → l.length % 8 + k ≤ 8 → pk (l ++ bitsOf c k) = xs.set (l.length / 8) (bv l (l.length / 8) ||| c % 2 ^ k * 2 ^ (8 - k) / 2 ^ (l.length % 8))
/-- From w to w' only block b, the row of v, and new ones have turned; the row of v' is v's or new. -/
structure Tch (b : Nat) (v v' : Value) (w w' : World) : Prop where
  ap : Apart (fun k => k = b ∨ v.ownBlock = some k) w w'
  own : ∀ k, v'.ownBlock = some k → v.ownBlock = some k ∨ w.heap.size ≤ k
theorem Tch.refl (b : Nat) (v : Value) (w : World) : Tch b v v w w := ⟨Apart.refl _ _, fun _ h => .inl h⟩
theorem Tch.trans {b : Nat} {v v' v'' : Value} {w w' w'' : World} (h : Tch b v v' w w') (k : Tch b v' v'' w' w'') : Tch b v v'' w w'' := by
  refine ⟨h.ap.trans k.ap ?_, ?_⟩
  · rintro i hi (rfl | e)
    · exact .inl rfl
    · rcases h.own i e with e | e
      · exact .inr e
      · omega
  · intro i e
    rcases k.own i e with e | e
    · exact h.own i e
    · have := h.ap.size; exact .inr (by omega)
theorem Wr.lt {T : TypeId} {w : World} {b : Nat} {v : Value} {l : List Bool} (h : Wr T w b v l) : b < w.heap.size := lt_of_heap h.head
theorem Wr.ownlt {T : TypeId} {w : World} {b : Nat} {v : Value} {l : List Bool} (h : Wr T w b v l) : ∀ k, v.ownBlock = some k → b < k ∧ k < w.heap.size := fun k hk => by
  have := h.own.lt k hk; exact ⟨by omega, this.2⟩
theorem Wr.kept {T : TypeId} {w w' : World} {b : Nat} {v : Value} {l : List Bool} {X : Nat → Prop} (h : Wr T w b v l) (ha : Apart X w w') (hb : ¬ X b) (hv : ∀ k, v.ownBlock = some k → ¬ X k) : Wr T w' b v l := by
  refine ⟨ha.heap h.head hb, ⟨h.own.1, ?_⟩, h.most⟩
  rcases h.own.2 with hn | ⟨g, cap, cur, rfl, hg, hh, r⟩
  · exact .inl hn
  · exact .inr ⟨g, cap, cur, rfl, hg, ha.heap hh (hv g rfl), r⟩

/-- Where the last byte has bits to spare. -/
theorem Wr.mid {T : TypeId} {w : World} {b : Nat} {v : Value} {l : List Bool} (h : Wr T w b v l) (hf : l.length % 8 ≠ 0) : ∃ g cap, v = .slice (some ⟨g, 0, none⟩) (l.length / 8 + 1) cap ∧ Mid T w b g cap l (pk l) := by
  have e : (l.length + 7) / 8 = l.length / 8 + 1 := by omega
  have hd := h.head
  have ho := h.own
  rw [e] at ho
  rcases ho.2 with ⟨_, hn⟩ | ⟨g, cap, cur, rfl, _⟩
  · omega
  · exact ⟨g, cap, rfl, hd, ho, pk_get l _ (by omega), fun c k hk hs => pk_more l c k hk hs hf⟩
/-- Behind the append of a byte. -/
theorem Wr.grown {T : TypeId} {w w1 : World} {b : Nat} {v v1 : Value} {l : List Bool} (h : Wr T w b v l) (hf : l.length % 8 = 0) (o : Obj)
    (ho : w1.ownsRow (b + 1) 5 1 v1 ((l.length + 7) / 8 + 1) ((pk l).map vb ++ [.int .u8 0])) (hg : (w.alloc o).grownBy w1 v.ownBlock) (hn : ∀ k, v1.ownBlock = some k → v.ownBlock = some k ∨ (w.alloc o).heap.size ≤ k) :
    (w1.heap[b]? = some (.cells #[v, .int .i64 (l.length : Int)] T (0, 0))) ∧ ∃ g cap, v1 = .slice (some ⟨g, 0, none⟩) (l.length / 8 + 1) cap ∧ Mid T (w1.setCell ⟨b, 0, none⟩ v1) b g cap l (pk l ++ [0]) ∧ Tch b v v1 w (w1.setCell ⟨b, 0, none⟩ v1) := by
  have hlt := h.lt
  have h1 : w1.heap[b]? = some (.cells #[v, .int .i64 (l.length : Int)] T (0, 0)) := by
    rw [hg.block b (by simp; omega) (fun e => by have := h.ownlt b e.symm; omega), Below.heap_alloc _ _ _ hlt]
    exact h.head
  refine ⟨h1, ?_⟩
  have e : (l.length + 7) / 8 + 1 = l.length / 8 + 1 := by omega
  rw [e] at ho
  have ha : Apart (fun k => k = b ∨ v.ownBlock = some k) w (w1.setCell ⟨b, 0, none⟩ v1) :=
    Apart.setCell (Apart.grown ((Apart.refl _ w).alloc o) hg (fun k _ e => .inr e)) (p := ⟨b, 0, none⟩) (fun _ => .inl rfl) _
  have hs := heap_setCell_same w1 b 0 _ T v1 h1
  have ho2 : (w1.setCell ⟨b, 0, none⟩ v1).ownsRow (b + 1) 5 1 v1 (l.length / 8 + 1) ((pk l).map vb ++ [.int .u8 0]) := ownsRow_setCell_below ho (by simp) _
  have hm : ((pk l).map vb ++ [.int .u8 0]) = (pk l ++ [0]).map vb := by simp [vb]
  rw [hm] at ho2
  rcases ho.2 with ⟨_, hx⟩ | ⟨g, cap, cur, rfl, hgb, hgg, _⟩
  · omega
  · refine ⟨g, cap, rfl, ⟨?_, ho2, ?_, fun c k hk hs => ?_⟩, ha, fun k hk => ?_⟩
    · rw [hs]; rfl
    · rw [List.getElem?_append_right (by simp; omega), pk_end l hf]
      have : l.length / 8 - (pk l).length = 0 := by simp; omega
      rw [this]; rfl
    · rw [pk_new l c k hk (by omega) hf, pk_end l hf]
    · rcases hn k hk with e | e
      · exact .inl e
      · simp at e; exact .inr (by omega)
theorem Mid.lt {T : TypeId} {w : World} {b g cap : Nat} {l : List Bool} {xs : List Nat} (h : Mid T w b g cap l xs) : b < g ∧ g < w.heap.size := by
  have := h.own.lt g rfl; omega
/-- Behind the store of the last byte and of the size. -/
theorem Mid.done {T : TypeId} {w : World} {b g cap : Nat} {l : List Bool} {xs : List Nat} (h : Mid T w b g cap l xs) (c k : Nat) (hk : 0 < k) (hs : l.length % 8 + k ≤ 8) (hm : l.length + k ≤ 524288)
    (x y : Int) (hx : x = ((bv l (l.length / 8) ||| c % 2 ^ k * 2 ^ (8 - k) / 2 ^ (l.length % 8) : Nat) : Int)) (hy : y = (l.length : Int) + k) :
    Wr T (((w.setCell ⟨g, l.length / 8, none⟩ (.int .u8 x)).drew).setCell ⟨b, 1, none⟩ (.int .i64 y)) b (.slice (some ⟨g, 0, none⟩) (l.length / 8 + 1) cap) (l ++ bitsOf c k) ∧
    Tch b (.slice (some ⟨g, 0, none⟩) (l.length / 8 + 1) cap) (.slice (some ⟨g, 0, none⟩) (l.length / 8 + 1) cap) w (((w.setCell ⟨g, l.length / 8, none⟩ (.int .u8 x)).drew).setCell ⟨b, 1, none⟩ (.int .i64 y)) := by
  obtain ⟨hbg, hg⟩ := h.lt
  have h1 : ((w.setCell ⟨g, l.length / 8, none⟩ (.int .u8 x)).drew).heap[b]? = some (.cells #[.slice (some ⟨g, 0, none⟩) (l.length / 8 + 1) cap, .int .i64 (l.length : Int)] T (0, 0)) := by
    show (w.setCell ⟨g, l.length / 8, none⟩ (.int .u8 x)).heap[b]? = _
    rw [Below.heap_setCell _ _ _ _ (by simp; omega)]; exact h.head
  have h2 := heap_setCell_same _ b 1 _ T (.int .i64 y) h1
  have o1 : ((w.setCell ⟨g, l.length / 8, none⟩ (.int .u8 x)).drew).ownsRow (b + 1) 5 1 (.slice (some ⟨g, 0, none⟩) (l.length / 8 + 1) cap) (l.length / 8 + 1) ((xs.map vb).set (l.length / 8) (.int .u8 x)) := (h.own.stored (l.length / 8) (.int .u8 x)).1
  have o2 := ownsRow_setCell_below o1 (a := ⟨b, 1, none⟩) (by simp) (.int .i64 y)
  have e1 : (xs.map vb).set (l.length / 8) (.int .u8 x) = (pk (l ++ bitsOf c k)).map vb := by
    rw [h.next c k hk hs, List.map_set, hx]; rfl
  rw [e1] at o2
  refine ⟨⟨?_, ?_, ?_⟩, ?_, fun k hk => .inl hk⟩
  · rw [h2, hy]; simp
  · have e2 : ((l ++ bitsOf c k).length + 7) / 8 = l.length / 8 + 1 := by simp; omega
    rw [e2]; exact o2
  · simp; omega
  · exact Apart.setCell (Apart.drew (Apart.setCell (Apart.refl _ w) (p := ⟨g, l.length / 8, none⟩) (fun _ => .inr rfl) _)) (p := ⟨b, 1, none⟩) (fun _ => .inl rfl) _
theorem or_byte (B y k f : Nat) (hB : B < 256) (hk : k ≤ 8) :
    bits .or .u8 (B : Int) (IntKind.u64.wrap ((y : Int) * 2 ^ (8 - k)) % 256 / 2 ^ f) = ((B ||| y % 2 ^ k * 2 ^ (8 - k) / 2 ^ f : Nat) : Int) := by
  have e1 : (256 : Nat) = 2 ^ k * 2 ^ (8 - k) := by
    rw [← Nat.pow_add]
    have : k + (8 - k) = 8 := by omega
    rw [this]
  have e2 : IntKind.u64.wrap ((y : Int) * 2 ^ (8 - k)) % 256 = ((y % 2 ^ k * 2 ^ (8 - k) : Nat) : Int) := by
    rw [← Nat.mul_mod_mul_right, ← e1, IntKind.wrap_u64, Int.emod_emod_of_dvd _ (by decide)]
    simp
  have l1 : y % 2 ^ k * 2 ^ (8 - k) / 2 ^ f < 256 := by
    have : y % 2 ^ k * 2 ^ (8 - k) < 256 := by
      rw [e1]
      have e3 : 2 ^ k * 2 ^ (8 - k) = 256 := e1.symm
      exact Nat.mul_lt_mul_of_pos_right (Nat.mod_lt _ (Nat.two_pow_pos _)) (Nat.two_pow_pos _)
    exact Nat.lt_of_le_of_lt (Nat.div_le_self _ _) this
  rw [e2]
  have e4 : ((y % 2 ^ k * 2 ^ (8 - k) : Nat) : Int) / 2 ^ f = ((y % 2 ^ k * 2 ^ (8 - k) / 2 ^ f : Nat) : Int) := by simp
  rw [e4, u8_or_nat _ _ hB l1]
end Go.Proofs.Ytmnpghelglohlaa
