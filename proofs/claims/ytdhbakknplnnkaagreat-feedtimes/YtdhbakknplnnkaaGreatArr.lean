/-
  An array of integers, by value, as an argument: its numbers, and that they are read again.
-/
import Derived.Test.YtdhbakknplnnkaaGreatRows
import Derived.OpenShut
import Derived.ProofKit
namespace Go.Proofs.YtdhbakknplnnkaaGreat
open Go.ChangeShapes Go.WideShapes

variable {H : Type} {enc : TypeId × Value → H} {P : Program} {w : World} {base : Nat} {spare : Nat → Bool} {held : Bool}

theorem okWide_array {r : Reach} {b0 : Nat} {t e : TypeId} {n : Nat} {v : Value} (ht : P.underlying t = some (.array n e)) (h : Value.okWide P w r b0 t v) : ∃ cs, v = .agg cs ∧ cs.size = P.cellsOf t := by
  simp only [Value.okWide, ht] at h
  obtain ⟨cs, h1, h2, _⟩ := h
  exact ⟨cs, h1, h2⟩

/-- The numbers of cells that are read as integers. -/
theorem ints_of {k : IntKind} {e : TypeId} {m : Nat} (he : P.underlying e = some (.int k)) : ∀ (cs : List Value) (xs : List (DataW H × List MemPlace)), cs.length = xs.length →
    (∀ (i : Nat), i < cs.length → DataW.trod enc P w base spare held m e ((cs.drop i).take 1) = xs[i]?) →
    ∃ zs : List Int, zs.length = cs.length ∧ cs = zs.map (.int k) ∧ xs.map (·.1) = zs.map (fun z => .lit (.int k z)) ∧ xs.flatMap (·.2) = [] ∧ ∀ z ∈ zs, (Lit.int k z).wf = true
  | [], xs, hl, _ => by
    obtain rfl : xs = [] := by cases xs with | nil => rfl | cons => simp at hl
    exact ⟨[], rfl, rfl, rfl, rfl, by simp⟩
  | c :: cs, xs, hl, h => by
    cases xs with
    | nil => simp at hl
    | cons x xs =>
      obtain ⟨z, hz, hx, hw⟩ := DataW.trod_int he (show DataW.trod enc P w base spare held m e [c] = some x by simpa using h 0 (by simp))
      obtain ⟨zs, a, b, cc, d, f⟩ := ints_of he cs xs (by simpa using hl) (fun i hi => by simpa using h (i + 1) (by simpa using hi))
      subst hx
      refine ⟨z :: zs, by simp [a], by simp at hz; simp [hz, b], by simp [cc], by simp [d], ?_⟩
      intro y hy
      simp at hy
      rcases hy with rfl | hy
      · exact hw
      · exact f y hy

/-- An array of n integers, opened. -/
theorem open_ints {r : Reach} {b0 : Nat} {t e : TypeId} {n : Nat} {k : IntKind} {v : Value} {d : DataW H} {p : List MemPlace} (ht : P.underlying t = some (.array n e)) (he : P.underlying e = some (.int k)) (ce : P.cellsOf e = 1) (ct : P.cellsOf t = n)
    (hv : Value.okWide P w r b0 t v) (h : DataW.Trod enc P w base spare held t v d p) :
    ∃ zs : List Int, zs.length = n ∧ v = .agg (zs.map (Value.int k)).toArray ∧ d = .agg (zs.map (fun z => .lit (.int k z))) ∧ p = [] ∧ ∀ z ∈ zs, (Lit.int k z).wf = true := by
  obtain ⟨cs, rfl, hsz⟩ := okWide_array ht hv
  obtain ⟨fuel, hf⟩ := h
  obtain ⟨xs, m, _, hx, hl, hn, hi⟩ := DataW.trod_array ht hf
  simp only [ce, Nat.mul_one, Value.cells] at hi hl
  simp only [Prod.mk.injEq] at hx
  obtain ⟨zs, a, b, c, dd, f⟩ := ints_of he cs.toList xs (by simp [hn]; omega) (fun i h => hi i (by simp at h; omega))
  refine ⟨zs, by simp at a; omega, ?_, by rw [hx.1, c], by rw [hx.2, dd], f⟩
  rw [← b]

theorem mapM_ints {α : Type} {f : Nat → Option α} : ∀ (l : List Nat) (g : Nat → α), (∀ i ∈ l, f i = some (g i)) → l.mapM f = some (l.map g)
  | [], _, _ => rfl
  | i :: l, g, h => by
    rw [List.mapM_cons, h i (by simp)]
    simp [mapM_ints l g (fun j hj => h j (by simp [hj]))]

theorem trod_array_mk {t e : TypeId} {n m : Nat} {cs : List Value} {xs : List (DataW H × List MemPlace)} (ht : P.underlying t = some (.array n e)) (hl : cs.length = P.cellsOf t)
    (hp : (List.range n).mapM (fun i => DataW.trod enc P w base spare held m e ((cs.drop (i * P.cellsOf e)).take (P.cellsOf e))) = some xs) :
    DataW.trod enc P w base spare held (m + 1) t cs = some (.agg (xs.map (·.1)), xs.flatMap (·.2)) := by
  unfold DataW.trod
  rw [ht]
  split <;> simp_all
/-- And shut. -/
theorem shut_ints {t e : TypeId} {n : Nat} {k : IntKind} {zs : List Int} (ht : P.underlying t = some (.array n e)) (he : P.underlying e = some (.int k)) (ce : P.cellsOf e = 1) (ct : P.cellsOf t = n) (hl : zs.length = n)
    (hz : ∀ z ∈ zs, (Lit.int k z).wf = true) : DataW.Trod enc P w base spare held t (.agg (zs.map (Value.int k)).toArray) (.agg (zs.map (fun z => .lit (.int k z)))) [] := by
  refine ⟨2, ?_⟩
  have hm : (List.range n).mapM (fun i => DataW.trod enc P w base spare held 1 e (((zs.map (Value.int k)).drop (i * P.cellsOf e)).take (P.cellsOf e))) = some ((List.range n).map (fun i => ((.lit (.int k (zs.getD i 0)) : DataW H), ([] : List MemPlace)))) := by
    refine mapM_ints _ _ fun i hi => ?_
    have hi' : i < zs.length := by simp at hi; omega
    rw [ce, Nat.mul_one, List.drop_eq_getElem_cons (by simpa using hi')]
    simp only [List.take_succ_cons, List.take_zero, List.getElem_map]
    rw [trod_int_mk 0 he (hz _ (List.getElem_mem hi'))]
    simp [List.getD_eq_getElem?_getD, hi']
  have e1 : (List.range n).map (fun i => (.lit (.int k (zs.getD i 0)) : DataW H)) = zs.map (fun z => .lit (.int k z)) := by
    apply List.ext_getElem (by simp [hl])
    intro i h1 h2
    simp at h1 h2 ⊢
    simp [h2]
  have ts := trod_array_mk (cs := zs.map (Value.int k)) ht (by simp [hl, ct]) hm
  simp only [List.map_map, Function.comp_def, e1] at ts
  rw [show ((List.range n).map fun i => ((.lit (.int k (zs.getD i 0)) : DataW H), ([] : List MemPlace))).flatMap (·.2) = [] by simp [List.flatMap_eq_nil_iff]] at ts
  simpa [Value.cells] using ts
end Go.Proofs.YtdhbakknplnnkaaGreat
