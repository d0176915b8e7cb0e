/-
  Rows in a ring and samples in a list, as plain numbers: when both tell the same least delay.
-/
import Derived.Test.YtnjghgbaffkafaaRows
namespace Go.Proofs.Ytnjghgbaffkafaa

/-- A row: its number, the least delay within it, whether it holds any. -/
abbrev Rw := Int × Int × Bool
/-- A sample: its row, its delay. -/
abbrev Sp := Int × Int
/-- Of the first rows that hold any and whose number is above t: the least delay, and whether there is one. -/
def ld (R : Nat → Rw) (t : Int) : Nat → Int × Bool
  | 0 => (0, false)
  | i + 1 => if (R i).2.2 = true ∧ t < (R i).1 then (if (ld R t i).2 = false ∨ (R i).2.1 < (ld R t i).1 then ((R i).2.1, true) else ld R t i) else ld R t i
def mnL : List Sp → Int → Int
  | [], m => m
  | s :: l, m => mnL l (min m s.2)
/-- The least delay of samples. -/
def lm : List Sp → Int × Bool
  | [] => (0, false)
  | s :: l => (mnL l s.2, true)
/-- The least of what S holds of, and whether there is any. -/
def Lst (S : Int → Prop) (r : Int × Bool) : Prop := (r.2 = true ∧ S r.1 ∧ ∀ x, S x → r.1 ≤ x) ∨ (r = (0, false) ∧ ∀ x, ¬ S x)
theorem Lst.one {S T : Int → Prop} {r q : Int × Bool} (h : Lst S r) (g : Lst T q) (h1 : ∀ x, S x → T x) (h2 : ∀ x, T x → ∃ y, S y ∧ y ≤ x) : r = q := by
  obtain ⟨r1, r2⟩ := r
  obtain ⟨q1, q2⟩ := q
  rcases h with ⟨a, b, c⟩ | ⟨a, b⟩ <;> rcases g with ⟨d, e, f⟩ | ⟨d, e⟩
  · simp only at a b c d e f
    subst a d
    obtain ⟨y, hy, hle⟩ := h2 _ e
    have p1 := f _ (h1 _ b)
    have p2 := c _ hy
    have : r1 = q1 := by omega
    rw [this]
  · exact absurd (h1 _ b) (e _)
  · obtain ⟨y, hy, _⟩ := h2 _ e
    exact absurd hy (b _)
  · rw [a, d]
theorem ld_lst (R : Nat → Rw) (t : Int) : ∀ k, Lst (fun x => ∃ i, i < k ∧ (R i).2.2 = true ∧ t < (R i).1 ∧ (R i).2.1 = x) (ld R t k)
  | 0 => .inr ⟨rfl, fun x ⟨i, hi, _⟩ => absurd hi (Nat.not_lt_zero i)⟩
  | k + 1 => by
    have ih := ld_lst R t k
    unfold ld
    by_cases h1 : (R k).2.2 = true ∧ t < (R k).1
    · rw [if_pos h1]
      by_cases h2 : (ld R t k).2 = false ∨ (R k).2.1 < (ld R t k).1
      · rw [if_pos h2]
        refine .inl ⟨rfl, ⟨k, Nat.lt_succ_self k, h1.1, h1.2, rfl⟩, ?_⟩
        rintro x ⟨i, hi, g1, g2, g3⟩
        by_cases hik : i = k
        · subst hik; omega
        · rcases ih with ⟨a, b, c⟩ | ⟨a, b⟩
          · have := c x ⟨i, by omega, g1, g2, g3⟩
            rcases h2 with h2 | h2
            · rw [a] at h2; cases h2
            · simp only; omega
          · exact absurd ⟨i, by omega, g1, g2, g3⟩ (b x)
      · rw [if_neg h2]
        rcases ih with ⟨a, ⟨j, j1, j2⟩, c⟩ | ⟨a, b⟩
        · refine .inl ⟨a, ⟨j, by omega, j2⟩, ?_⟩
          rintro x ⟨i, hi, g1, g2, g3⟩
          by_cases hik : i = k
          · subst hik
            have : ¬ (R i).2.1 < (ld R t i).1 := fun h => h2 (.inr h)
            omega
          · exact c x ⟨i, by omega, g1, g2, g3⟩
        · exact absurd (.inl (by rw [a])) h2
    · rw [if_neg h1]
      rcases ih with ⟨a, ⟨j, j1, j2⟩, c⟩ | ⟨a, b⟩
      · refine .inl ⟨a, ⟨j, by omega, j2⟩, ?_⟩
        rintro x ⟨i, hi, g1, g2, g3⟩
        by_cases hik : i = k
        · subst hik; exact absurd ⟨g1, g2⟩ h1
        · exact c x ⟨i, by omega, g1, g2, g3⟩
      · refine .inr ⟨a, ?_⟩
        rintro x ⟨i, hi, g1, g2, g3⟩
        by_cases hik : i = k
        · subst hik; exact absurd ⟨g1, g2⟩ h1
        · exact b x ⟨i, by omega, g1, g2, g3⟩
theorem mnL_spec : ∀ (l : List Sp) (m : Int), mnL l m ≤ m ∧ (∀ s ∈ l, mnL l m ≤ s.2) ∧ (mnL l m = m ∨ ∃ s ∈ l, s.2 = mnL l m)
  | [], m => ⟨Int.le_refl _, fun s h => absurd h (List.not_mem_nil), .inl rfl⟩
  | s :: l, m => by
    obtain ⟨a, b, c⟩ := mnL_spec l (min m s.2)
    show mnL l (min m s.2) ≤ m ∧ _ ∧ _
    refine ⟨by omega, ?_, ?_⟩
    · intro x hx
      rcases List.mem_cons.1 hx with rfl | hx
      · show mnL l (min m x.2) ≤ x.2
        omega
      · exact b x hx
    · rcases c with c | ⟨x, hx, e⟩
      · by_cases h : m ≤ s.2
        · left; show mnL l (min m s.2) = m; omega
        · right; exact ⟨s, List.mem_cons_self, by show s.2 = mnL l (min m s.2); omega⟩
      · right; exact ⟨x, List.mem_cons_of_mem _ hx, e⟩
theorem lm_lst (l : List Sp) : Lst (fun x => ∃ s ∈ l, s.2 = x) (lm l) := by
  match l with
  | [] => exact .inr ⟨rfl, fun x ⟨s, h, _⟩ => absurd h (List.not_mem_nil)⟩
  | s :: l =>
    obtain ⟨a, b, c⟩ := mnL_spec l s.2
    refine .inl ⟨rfl, ?_, ?_⟩
    · rcases c with c | ⟨x, hx, e⟩
      · exact ⟨s, List.mem_cons_self, c.symm⟩
      · exact ⟨x, List.mem_cons_of_mem _ hx, e⟩
    · rintro x ⟨y, hy, rfl⟩
      rcases List.mem_cons.1 hy with rfl | hy
      · exact a
      · exact b y hy
theorem lm_ok (l : List Sp) : (lm l).2 = true ↔ l ≠ [] := by cases l <;> simp [lm]

/-- A ring of k rows and the list of the samples that count, when N is the newest row. -/
structure Inv (k : Nat) (R : Nat → Rw) (N : Int) (L : List Sp) : Prop where
  k0 : 1 ≤ k
  k1 : k ≤ 64
  n0 : 0 ≤ N
  n1 : N ≤ 1125899906842624
  inL : ∀ s ∈ L, N - k < s.1 ∧ s.1 ≤ N ∧ 0 ≤ s.1 ∧ -1125899906842624 ≤ s.2 ∧ s.2 ≤ 1125899906842624
  row : ∀ s ∈ L, ∃ i : Nat, i < k ∧ (i : Int) = s.1 % k ∧ (R i).2.2 = true ∧ (R i).1 = s.1 ∧ (R i).2.1 ≤ s.2
  ring : ∀ i, i < k → (R i).2.2 = true → N - k < (R i).1 → ((R i).1, (R i).2.1) ∈ L
theorem Inv.least {k : Nat} {R : Nat → Rw} {N : Int} {L : List Sp} (h : Inv k R N L) : ld R (N - k) k = lm L := by
  refine (ld_lst R (N - k) k).one (lm_lst L) ?_ ?_
  · rintro x ⟨i, hi, g1, g2, g3⟩
    exact ⟨_, h.ring i hi g1 g2, g3⟩
  · rintro x ⟨s, hs, rfl⟩
    obtain ⟨i, hi, -, g1, g2, g3⟩ := h.row s hs
    exact ⟨_, ⟨i, hi, g1, by rw [g2]; exact (h.inL s hs).1, rfl⟩, g3⟩
theorem Inv.bound {k : Nat} {R : Nat → Rw} {N : Int} {L : List Sp} (h : Inv k R N L) : -1125899906842624 ≤ (lm L).1 ∧ (lm L).1 ≤ 1125899906842624 := by
  rcases lm_lst L with ⟨_, ⟨s, hs, e⟩, _⟩ | ⟨e, _⟩
  · rw [← e]; exact ⟨(h.inL s hs).2.2.2.1, (h.inL s hs).2.2.2.2⟩
  · rw [e]; simp
/-- The samples whose row is above t. -/
def stay (t : Int) (L : List Sp) : List Sp := L.filter (fun s => decide (t < s.1))
theorem mem_stay {t : Int} {L : List Sp} {s : Sp} : s ∈ stay t L ↔ s ∈ L ∧ t < s.1 := by simp [stay]
def upd (R : Nat → Rw) (i : Nat) (r : Rw) : Nat → Rw := fun j => if j = i then r else R j
/-- What stands in a row's place behind a sample. -/
def rowOf (r : Rw) (n d : Int) : Rw := (n, if r.2.2 = true ∧ r.1 = n then min r.2.1 d else d, true)
theorem emod_same {a b k : Int} (hk : 0 < k) (h : a % k = b % k) (h1 : a - b < k) (h2 : b - a < k) : a = b := by
  have e1 := Int.mul_ediv_add_emod a k
  have e2 := Int.mul_ediv_add_emod b k
  have e3 : a - b = k * (a / k - b / k) := by rw [Int.mul_sub]; omega
  generalize a / k - b / k = q at e3
  have q1 : q < 1 := by
    by_cases hq : q < 1
    · exact hq
    · have := Int.mul_le_mul_of_nonneg_left (show (1 : Int) ≤ q by omega) (show 0 ≤ k by omega)
      omega
  have q2 : -1 < q := by
    by_cases hq : -1 < q
    · exact hq
    · have := Int.mul_le_mul_of_nonneg_left (show q ≤ -1 by omega) (show 0 ≤ k by omega)
      omega
  have : q = 0 := by omega
  subst this
  omega
/-- A sample is added that counts. -/
theorem Inv.add {k : Nat} {R : Nat → Rw} {N : Int} {L : List Sp} (h : Inv k R N L) (n d : Int) (i : Nat) (n0 : 0 ≤ n) (n1 : n ≤ 1125899906842624) (d0 : -1125899906842624 ≤ d) (d1 : d ≤ 1125899906842624)
    (hi : (i : Int) = n % k) (hc : max N n - k < n) : Inv k (upd R i (rowOf (R i) n d)) (max N n) (stay (max N n - k) (L ++ [(n, d)])) := by
  have hk := h.k0
  have hN := h.n0
  have hN1 := h.n1
  have hik : i < k := by have := Int.emod_lt_of_pos n (show (0 : Int) < k by omega); omega
  refine ⟨h.k0, h.k1, by omega, by omega, ?_, ?_, ?_⟩
  · intro s hs
    obtain ⟨hs, ht⟩ := mem_stay.1 hs
    rcases List.mem_append.1 hs with hs | hs
    · have := h.inL s hs
      omega
    · obtain rfl : s = (n, d) := by simpa using hs
      simp only at ht ⊢
      omega
  · intro s hs
    obtain ⟨hs, ht⟩ := mem_stay.1 hs
    rcases List.mem_append.1 hs with hs | hs
    · obtain ⟨j, j1, j2, j3, j4, j5⟩ := h.row s hs
      have hin := h.inL s hs
      refine ⟨j, j1, j2, ?_⟩
      by_cases hji : j = i
      · subst hji
        have e : s.1 = n := emod_same (show (0 : Int) < k by omega) (by omega) (by omega) (by omega)
        have e2 : (R j).1 = n := by omega
        unfold upd rowOf
        rw [if_pos rfl, if_pos ⟨j3, e2⟩]
        refine ⟨rfl, e.symm, ?_⟩
        simp only
        omega
      · unfold upd
        rw [if_neg hji]
        exact ⟨j3, j4, j5⟩
    · obtain rfl : s = (n, d) := by simpa using hs
      refine ⟨i, hik, hi, ?_⟩
      unfold upd rowOf
      rw [if_pos rfl]
      refine ⟨rfl, rfl, ?_⟩
      simp only
      split <;> omega
  · intro j hj f1 f2
    rw [mem_stay]
    refine ⟨?_, f2⟩
    unfold upd at f1 f2 ⊢
    by_cases hji : j = i
    · subst hji
      simp only [↓reduceIte] at f1 f2 ⊢
      unfold rowOf at f2 ⊢
      simp only at f2 ⊢
      by_cases hr : (R j).2.2 = true ∧ (R j).1 = n
      · rw [if_pos hr]
        by_cases hm : (R j).2.1 ≤ d
        · have := h.ring j hj hr.1 (by rw [hr.2]; omega)
          rw [hr.2] at this
          rw [Int.min_eq_left hm]
          exact List.mem_append_left _ this
        · rw [Int.min_eq_right (by omega)]
          simp
      · rw [if_neg hr]
        simp
    · rw [if_neg hji] at f1 f2 ⊢
      exact List.mem_append_left _ (h.ring j hj f1 (by omega))
/-- A sample is added that does not. -/
theorem Inv.pass {k : Nat} {R : Nat → Rw} {N : Int} {L : List Sp} (h : Inv k R N L) (n d : Int) (hc : ¬ max N n - k < n) : max N n = N ∧ stay (max N n - k) (L ++ [(n, d)]) = L := by
  have hk := h.k0
  have e : max N n = N := by omega
  refine ⟨e, ?_⟩
  rw [e] at hc ⊢
  unfold stay
  rw [List.filter_append, List.filter_eq_self.2 (fun s hs => by simpa using (h.inL s hs).1)]
  simp only [List.filter_cons, List.filter_nil, decide_eq_true_eq]
  rw [if_neg hc, List.append_nil]
theorem Inv.none (k : Nat) (h1 : 1 ≤ k) (h2 : k ≤ 64) : Inv k (fun _ => (0, 0, false)) 0 [] :=
  ⟨h1, h2, by omega, by omega, fun s h => absurd h (List.not_mem_nil), fun s h => absurd h (List.not_mem_nil), fun i _ h => by simp at h⟩
/-- The samples that count behind one more. -/
def addL (k : Nat) (N : Int) (L : List Sp) (n d : Int) : List Sp := stay (max N n - k) (L ++ [(n, d)])
/-- How far a sample is above the least. -/
def quE (k : Nat) (N : Int) (L : List Sp) (n d : Int) : Int := if max N n - k < n then d - (lm (addL k N L n d)).1 else 0
end Go.Proofs.Ytnjghgbaffkafaa
