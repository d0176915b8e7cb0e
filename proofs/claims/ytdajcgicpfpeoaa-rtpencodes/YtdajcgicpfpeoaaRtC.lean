/-
  A header copied into new memory.
-/
import Derived.Test.YtdajcgicpfpeoaaRtD
namespace Go.Proofs.Ytdajcgicpfpeoaa
open Go.RowKit

/-- A slice value that holds n elements of so many cells each, the cells xs; it may be nil. -/
def SrcN (w : World) (size : Nat) (v : Value) (n : Nat) (xs : List Value) : Prop :=
  (∃ c, v = .slice none 0 c ∧ n = 0 ∧ xs = []) ∨ ∃ ad c, v = .slice (some ad) n c ∧ xs.length = n * size ∧ ∀ j u, xs[j]? = some u → w.cell? (ad.add j) = some u
section
variable {P : Program} (w : World)
theorem run_append_onto (base : Nat) (t ty e : TypeId) (i : TypeInfo) (z : Value) (size bytes : Nat) (ht : P.underlying t = some (.slice e)) (hi : P.info? e = some i) (hz : i.zero = some z)
    (hsize : i.size = size) (hby : i.bytes = bytes) (hzs : z.cells.size = size) (hsz : 0 < size)
    (v : Value) (n : Nat) (xs : List Value) (hown : w.ownsRow base e size v n xs)
    (s : Value) (m : Nat) (news : List Value) (hs : SrcN w size s m news) (h1 : ∀ u ∈ news, u.oneCell' = true)
    (h63 : n + m ≤ maxLen) (hbytes : (n + m) * bytes ≤ 140737488355328) (hbase : base ≤ w.heap.size) :
    ∃ v' w', (Builtin.append_ #[t, t] ty #[v, s]).run P w = .ok v' w' ∧ w'.ownsRow base e size v' (n + m) (xs ++ news) ∧ w.grownBy w' v.ownBlock := by
  rcases hs with ⟨c, rfl, rfl, rfl⟩ | ⟨ad, c, rfl, hl, hcell⟩
  · refine ⟨v, w, ?_, by simpa using hown, ⟨rfl, rfl, rfl, Nat.le_refl _, fun _ _ _ => rfl⟩⟩
    rcases hown.2 with ⟨rfl, rfl⟩ | ⟨g, cap, cur, rfl, hb, hg, hn, h2, h3, h4⟩
    · simp [Builtin.append_, run_underlying ht, sizeOf, typeInfo, hi, Builtin.lenOf, Builtin.firstCells]
    · simp [Builtin.append_, run_underlying ht, sizeOf, typeInfo, hi, Builtin.lenOf, Builtin.firstCells, hn, storeCells]
  · obtain ⟨v', w', a, b, c', _⟩ := run_append_own (P := P) w base t ty e i z size bytes ht hi hz hsize hby hzs hsz v n xs hown ad m c news hl hcell h1 h63 hbytes hbase
    exact ⟨v', w', a, b, c'⟩
theorem wpList_append_onto {ops : Array Oper} {rest : List Oper} {o : Oper} {a : Act} {Q : Exit → Act → World → Prop} (hgd : o.guard = none) (s x : Operand) (t : TypeId)
    (ho : o.op = .call { callee := .builtin .append, args := #[s, x], argTypes := #[t, t] })
    (base : Nat) (e : TypeId) (i : TypeInfo) (z : Value) (size bytes : Nat) (ht : P.underlying t = some (.slice e)) (hi : P.info? e = some i) (hz : i.zero = some z)
    (hsize : i.size = size) (hby : i.bytes = bytes) (hzs : z.cells.size = size) (hsz : 0 < size)
    (v : Value) (n : Nat) (xs : List Value) (hs : a.eval s = v) (hown : w.ownsRow base e size v n xs)
    (u : Value) (m : Nat) (news : List Value) (hx : a.eval x = u) (hsrc : SrcN w size u m news) (h1 : ∀ u ∈ news, u.oneCell' = true)
    (h63 : n + m ≤ maxLen) (hbytes : (n + m) * bytes ≤ 140737488355328) (hbase : base ≤ w.heap.size)
    (h : ∀ v' w', w'.ownsRow base e size v' (n + m) (xs ++ news) → w.grownBy w' v.ownBlock → wpList P ops Q rest (a.put o.dst v') w') : wpList P ops Q (o :: rest) a w :=
  wpList_plain hgd fun K hK => by
    obtain ⟨v', w', hr, h2, h3⟩ := run_append_onto (P := P) w base t o.type e i z size bytes ht hi hz hsize hby hzs hsz v n xs hown u m news hsrc h1 h63 hbytes hbase
    unfold Oper.wp execOp
    simp only [ho, resolve, invoke, builtin, Sem.run_bind, Sem.run_pure, Result.andThen_ok, List.map_toArray, List.map_cons, List.map_nil, hs, hx, hr]
    exact hK _ _ (h v' w' h2 h3)
end
/-- The cells of sources. -/
def sCells (S : Nat → Int) (n : Nat) : List Value := (List.range n).map fun i => .int .u32 (S i)
/-- The cells of extensions. -/
def xC (I : Nat → Int) (D : Nat → ByteArray) : Nat → List Value
  | 0 => []
  | k + 1 => xC I D k ++ [.int .i64 (I k), .string (D k)]
@[simp] theorem sCells_len (S : Nat → Int) (n : Nat) : (sCells S n).length = n := by simp [sCells]
@[simp] theorem xC_len (I : Nat → Int) (D : Nat → ByteArray) (n : Nat) : (xC I D n).length = n * 2 := by induction n with | zero => rfl | succ n ih => simp [xC, ih]; omega
theorem xC_get (I : Nat → Int) (D : Nat → ByteArray) (n i : Nat) (h : i < n) : (xC I D n)[i * 2]? = some (.int .i64 (I i)) ∧ (xC I D n)[i * 2 + 1]? = some (.string (D i)) := by
  induction n with
  | zero => omega
  | succ n ih =>
    rw [xC]
    by_cases e : i = n
    · subst e
      rw [List.getElem?_append_right (by simp), List.getElem?_append_right (by simp)]
      simp
    · rw [List.getElem?_append_left (by simp; omega), List.getElem?_append_left (by simp; omega)]
      exact ih (by omega)
theorem xC_one (I : Nat → Int) (D : Nat → ByteArray) (n : Nat) : ∀ u ∈ xC I D n, u.oneCell' = true := by
  induction n with
  | zero => simp [xC]
  | succ n ih =>
    intro u hu
    rw [xC, List.mem_append] at hu
    rcases hu with hu | hu
    · exact ih u hu
    · simp at hu; rcases hu with rfl | rfl <;> rfl
theorem sCells_one (S : Nat → Int) (n : Nat) : ∀ u ∈ sCells S n, u.oneCell' = true := by
  intro u hu
  simp only [sCells, List.mem_map] at hu
  obtain ⟨i, _, rfl⟩ := hu
  rfl
theorem sa_src {B : Nat} {w : World} {a : Option Addr} {n cap : Nat} {S : Nat → Int} (h : SA B w a n S) : SrcN w 1 (.slice a n cap) n (sCells S n) := by
  rcases h.2 with h0 | ⟨b, off, rfl, hb, hc⟩
  · subst h0
    cases a with
    | none => exact .inl ⟨cap, rfl, rfl, rfl⟩
    | some ad => exact .inr ⟨ad, cap, rfl, rfl, fun j u hj => by simp [sCells] at hj⟩
  · refine .inr ⟨_, cap, rfl, by simp, fun j u hj => ?_⟩
    have hl : j < n := by have := (List.getElem?_eq_some_iff.1 hj).1; simpa using this
    rw [Addr.add_lit, (hc j hl).1]
    rw [← hj]
    simp [sCells, hl]
theorem xa_src {B : Nat} {w : World} {a : Option Addr} {n cap : Nat} {I : Nat → Int} {D : Nat → ByteArray} (h : XA B w a n I D) : SrcN w 2 (.slice a n cap) n (xC I D n) := by
  rcases h.2 with h0 | ⟨b, off, rfl, hb, hc⟩
  · subst h0
    cases a with
    | none => exact .inl ⟨cap, rfl, rfl, rfl⟩
    | some ad => exact .inr ⟨ad, cap, rfl, rfl, fun j u hj => by simp [xC] at hj⟩
  · refine .inr ⟨_, cap, rfl, by simp, fun j u hj => ?_⟩
    have hl : j < n * 2 := by have := (List.getElem?_eq_some_iff.1 hj).1; simpa using this
    obtain ⟨c0, c1, _⟩ := hc (j / 2) (by omega)
    obtain ⟨g0, g1⟩ := xC_get I D n (j / 2) (by omega)
    rw [Addr.add_lit, ← hj]
    rcases (by omega : j = j / 2 * 2 ∨ j = j / 2 * 2 + 1) with e | e
    · rw [e, c0, g0]
    · rw [e, ← Nat.add_assoc, c1, g1]
theorem own_sa {w : World} {base B n : Nat} {v : Value} {S : Nat → Int} (h : w.ownsRow base 22 1 v n (sCells S n)) (hb : w.heap.size ≤ B) (hm : n ≤ maxLen) (hS : ∀ i, i < n → 0 ≤ S i ∧ S i < 4294967296) : ∃ a c, v = .slice a n c ∧ SA B w a n S := by
  rcases h.2 with ⟨rfl, rfl⟩ | ⟨g, cap, cur, rfl, hg, hh, r⟩
  · exact ⟨none, 0, rfl, by unfold maxLen; omega, .inl rfl⟩
  · refine ⟨_, cap, rfl, hm, .inr ⟨g, 0, rfl, by have := lt_of_heap hh; omega, fun i hi => ⟨?_, hS i hi⟩⟩⟩
    rw [Nat.zero_add, h.cellAt i (by omega)]
    simp [sCells, hi]
theorem own_xa {w : World} {base B n : Nat} {v : Value} {I : Nat → Int} {D : Nat → ByteArray} (h : w.ownsRow base 47 2 v n (xC I D n)) (hb : w.heap.size ≤ B) (hm : n ≤ maxLen) (hD : ∀ i, i < n → (D i).size ≤ maxLen) : ∃ a c, v = .slice a n c ∧ XA B w a n I D := by
  rcases h.2 with ⟨rfl, rfl⟩ | ⟨g, cap, cur, rfl, hg, hh, r⟩
  · exact ⟨none, 0, rfl, by unfold maxLen; omega, .inl rfl⟩
  · refine ⟨_, cap, rfl, hm, .inr ⟨g, 0, rfl, by have := lt_of_heap hh; omega, fun i hi => ⟨?_, ?_, hD i hi⟩⟩⟩
    · rw [Nat.zero_add, h.cellAt _ (by omega), (xC_get I D n i hi).1]
    · rw [Nat.zero_add, h.cellAt _ (by omega), (xC_get I D n i hi).2]
theorem res10 {W : World} {bx : Nat} {mk : Bool} {ty sq tm ss : Int} {sa ea : Option Addr} {ns sc ne ec : Nat} (tmps : Array Value) (h2 : tmps.getD 2 undef = .pointer (some ⟨bx, 0, none⟩)) (hd : Hd W bx mk ty sq tm ss (.slice sa ns sc) (.slice ea ne ec)) :
    (results Try.f10 tmps).run Try.prog W = .ok (hdr mk ty sq tm ss (.slice sa ns sc) (.slice ea ne ec)) W := by
  obtain ⟨⟨c0, c1, c2, c3, c4, c5, c6⟩, _⟩ := hd.cells
  clear hd
  have h2' : tmps[2]?.getD undef = .pointer (some ⟨bx, 0, none⟩) := by rw [← h2]; simp
  simp [results, Try.results10, h2', c0, c1, c2, c3, c4, c5, c6, go_sem]
end Go.Proofs.Ytdajcgicpfpeoaa
