/-
  Two meters of one window that take in the same samples in different orders.
-/
import Derived.Test.YtjeffjpenhhnnaaRaAe
namespace Go.Proofs.Ytjeffjpenhhnnaa
open Go.RowKit

def eaF : List Sm → Int
  | [] => 1125899906842624
  | s :: l => min s.1 (eaF l)
def enF : List Sm → Int
  | [] => -1125899906842624
  | s :: l => max s.1 (enF l)
theorem eaF_snoc (l : List Sm) (s : Sm) (h : s.1 ≤ 1125899906842624) : eaF (l ++ [s]) = min (eaF l) s.1 := by
  induction l with
  | nil => simp only [List.nil_append, eaF]; omega
  | cons t l ih => simp only [List.cons_append, eaF, ih]; omega
theorem enF_snoc (l : List Sm) (s : Sm) (h : -1125899906842624 ≤ s.1) : enF (l ++ [s]) = max (enF l) s.1 := by
  induction l with
  | nil => simp only [List.nil_append, enF]; omega
  | cons t l ih => simp only [List.cons_append, enF, ih]; omega
theorem eaF_perm {L M : List Sm} (h : L.Perm M) : eaF L = eaF M := by
  induction h with
  | nil => rfl
  | cons s _ ih => simp only [eaF, ih]
  | swap s t l => simp only [eaF]; omega
  | trans _ _ h1 h2 => rw [h1, h2]
theorem enF_perm {L M : List Sm} (h : L.Perm M) : enF L = enF M := by
  induction h with
  | nil => rfl
  | cons s _ ih => simp only [enF, ih]
  | swap s t l => simp only [enF]; omega
  | trans _ _ h1 h2 => rw [h1, h2]
/-- Samples of small times and sizes. -/
def Ok16 (S : List Sm) : Prop := ∀ s ∈ S, 0 ≤ s.1 ∧ s.1 ≤ 65535 ∧ 0 ≤ s.2 ∧ s.2 ≤ 1500
theorem Ok16.snoc {S : List Sm} (h : Ok16 S) {x z : Int} (x0 : 0 ≤ x) (x1 : x ≤ 65535) (z0 : 0 ≤ z) (z1 : z ≤ 1500) : Ok16 (S ++ [(x, z)]) := by
  intro s hs
  rcases List.mem_append.1 hs with h1 | h1
  · exact h s h1
  · rw [List.mem_singleton] at h1; subst h1; exact ⟨x0, x1, z0, z1⟩
theorem Ok16.bd {S : List Sm} (h : Ok16 S) : 0 ≤ eaF S ∧ eaF S ≤ 1125899906842624 ∧ -1125899906842624 ≤ enF S ∧ enF S ≤ 65535 := by
  induction S with
  | nil => simp only [eaF, enF]; omega
  | cons s l ih =>
    have h1 := h s (by simp)
    have h2 := ih (fun t ht => h t (by simp [ht]))
    simp only [eaF, enF]
    omega
/-- A meter that holds all of S. -/
def Om (N : Nat → Prop) (w : World) (b : Nat) (S : List Sm) : Prop := ∃ L F, Mt N w b 1048576 (eaF S) (enF S) L F ∧ L.Perm S ∧ Ok16 S ∧ S.length ≤ 200
theorem Om.kept {N : Nat → Prop} {w w' : World} {b : Nat} {S : List Sm} {Y : Nat → Prop} (h : Om N w b S) (ha : Apart Y w w') (hx : ∀ k, N k → ¬ Y k) : Om N w' b S := by
  obtain ⟨L, F, h1, h2⟩ := h
  exact ⟨L, F, h1.kept ha hx, h2⟩
theorem Om.own {N : Nat → Prop} {w : World} {b : Nat} {S : List Sm} (h : Om N w b S) : N b ∧ ∀ k, N k → k < w.heap.size := by
  obtain ⟨L, F, h1, h2⟩ := h
  exact h1.own
theorem Om.bd {N : Nat → Prop} {w : World} {b : Nat} {S : List Sm} (h : Om N w b S) : Bd 1048576 (eaF S) (enF S) := by
  obtain ⟨L, F, _, _, h, _⟩ := h
  have := h.bd
  unfold Bd; omega
theorem om_new {w : World} {b : Nat} {N : Nat → Prop} (h : Mt N w b 1048576 1125899906842624 (-1125899906842624) [] []) : Om N w b [] := ⟨[], [], h, List.Perm.refl _, (fun _ h => by cases h), Nat.zero_le _⟩
theorem om_got {N : Nat → Prop} {w : World} {b : Nat} {S : List Sm} (h : Om N w b S) {x z : Int} (x0 : 0 ≤ x) (x1 : x ≤ 65535) (z0 : 0 ≤ z) (z1 : z ≤ 1500) (hl : S.length < 200) :
    Calls Try.prog 10 #[.pointer (some ⟨b, 0, none⟩), .int .i64 x, .int .i64 z] w fun e w' => e = .returned (.tuple #[]) ∧ (∃ N', Om N' w' b (S ++ [(x, z)]) ∧ ∀ q, N' q → N q ∨ w.heap.size ≤ q) ∧ Apart N w w' := by
  have D := h.bd
  obtain ⟨L, F, h1, h2, h3, h4⟩ := h
  have hb := h3.bd
  refine (got_mt h1 D (by rw [h2.length_eq]; omega) z0 z1 (by omega) (by omega)).mono ?_
  rintro e w' ⟨rfl, L', N', hp, hm, hn, ha⟩
  refine ⟨rfl, ⟨N', ⟨L', _, by rw [eaF_snoc _ _ (by simp only; omega), enF_snoc _ _ (by simp only; omega)]; exact hm, ?_, h3.snoc x0 x1 z0 z1, by rw [List.length_append, List.length_singleton]; omega⟩, hn⟩, ha⟩
  have e : stF 1048576 (enF S) L x z = L ++ [(x, z)] := by
    unfold stF
    refine (List.filter_eq_self (p := inW 1048576 (max (enF S) x))).2 (fun s hs => ?_)
    have := (h3.snoc x0 x1 z0 z1) s ((h2.append_right [(x, z)]).mem_iff.1 hs)
    exact decide_eq_true (by omega)
  rw [e] at hp
  exact hp.trans (h2.append_right _)
theorem om_bytes {N : Nat → Prop} {w : World} {b : Nat} {S : List Sm} (h : Om N w b S) : Calls Try.prog 16 #[.pointer (some ⟨b, 0, none⟩)] w fun e w' => e = .returned (.int .i64 (sz S)) ∧ Apart (fun _ => False) w w' := by
  obtain ⟨L, F, h1, h2, h3, h4⟩ := h
  rw [← sz_perm h2]
  exact bytes_mt h1
theorem om_rate {N : Nat → Prop} {w : World} {b : Nat} {S : List Sm} (h : Om N w b S) : Calls Try.prog 14 #[.pointer (some ⟨b, 0, none⟩)] w fun e w' => e = .returned (.int .i64 (rtV 1048576 (eaF S) (enF S) S)) ∧ Apart (fun _ => False) w w' := by
  have D := h.bd
  obtain ⟨L, F, h1, h2, h3, h4⟩ := h
  rw [← rtV_perm h2]
  exact rate_mt h1 D (by rw [h2.length_eq]; omega)
theorem om_full {N : Nat → Prop} {w : World} {b : Nat} {S : List Sm} (h : Om N w b S) : Calls Try.prog 18 #[.pointer (some ⟨b, 0, none⟩)] w fun e w' => e = .returned (.bool (decide (1048576 ≤ enF S - eaF S))) ∧ Apart (fun _ => False) w w' := by
  have D := h.bd
  obtain ⟨L, F, h1, h2, h3, h4⟩ := h
  exact full_mt h1 D

/-- Two meters and an order. -/
structure Oj (w0 : World) (b1 b2 ob : Nat) (S1 S2 : List Sm) (P : List Nat) (N1 N2 : Nat → Prop) (wr : World) : Prop where
  m1 : Om N1 wr b1 S1
  m2 : Om N2 wr b2 S2
  o : wr.heap[ob]? = some (.cells (oC P) 3 (0, 0))
  n1 : ∀ q, N1 q → w0.heap.size ≤ q ∧ q ≠ ob ∧ ¬ N2 q
  n2 : ∀ q, N2 q → w0.heap.size ≤ q ∧ q ≠ ob
  oo : w0.heap.size ≤ ob
  ap : Apart (fun q => w0.heap.size ≤ q) w0 wr
section
variable {w0 wr wr' : World} {b1 b2 ob : Nat} {S1 S2 S' : List Sm} {P P' : List Nat} {N1 N2 N' : Nat → Prop}
theorem Oj.keep (h : Oj w0 b1 b2 ob S1 S2 P N1 N2 wr) (ha : Apart (fun _ => False) wr wr') : Oj w0 b1 b2 ob S1 S2 P N1 N2 wr' :=
  ⟨h.m1.kept ha (fun _ _ h => h), h.m2.kept ha (fun _ _ h => h), ha.heap h.o (fun h => h), h.n1, h.n2, h.oo, h.ap.trans ha (fun _ _ h => h.elim)⟩
theorem Oj.turn (h : Oj w0 b1 b2 ob S1 S2 P N1 N2 wr) (ha : Apart (fun k => k = ob) wr wr') (ho : wr'.heap[ob]? = some (.cells (oC P') 3 (0, 0))) : Oj w0 b1 b2 ob S1 S2 P' N1 N2 wr' :=
  ⟨h.m1.kept ha (fun k hk e => (h.n1 k hk).2.1 e), h.m2.kept ha (fun k hk e => (h.n2 k hk).2 e), ho, h.n1, h.n2, h.oo, h.ap.trans ha (fun k _ e => by rw [show k = ob from e]; exact h.oo)⟩
theorem Oj.got1 (h : Oj w0 b1 b2 ob S1 S2 P N1 N2 wr) (ha : Apart N1 wr wr') (hm : Om N' wr' b1 S') (hn : ∀ q, N' q → N1 q ∨ wr.heap.size ≤ q) : Oj w0 b1 b2 ob S' S2 P N' N2 wr' := by
  have hob := lt_of_heap h.o
  refine ⟨hm, h.m2.kept ha (fun k hk e => (h.n1 k e).2.2 hk), ha.heap h.o (fun e => (h.n1 ob e).2.1 rfl), ?_, h.n2, h.oo, h.ap.trans ha (fun k _ hk => (h.n1 k hk).1)⟩
  intro q hq
  rcases hn q hq with h1 | h1
  · exact h.n1 q h1
  · exact ⟨by have := h.ap.size; omega, by omega, fun h2 => by have := h.m2.own.2 q h2; omega⟩
theorem Oj.got2 (h : Oj w0 b1 b2 ob S1 S2 P N1 N2 wr) (ha : Apart N2 wr wr') (hm : Om N' wr' b2 S') (hn : ∀ q, N' q → N2 q ∨ wr.heap.size ≤ q) : Oj w0 b1 b2 ob S1 S' P N1 N' wr' := by
  have hob := lt_of_heap h.o
  refine ⟨h.m1.kept ha (fun k hk e => (h.n1 k hk).2.2 e), hm, ha.heap h.o (fun e => (h.n2 ob e).2 rfl), ?_, ?_, h.oo, h.ap.trans ha (fun k _ hk => (h.n2 k hk).1)⟩
  · intro q hq
    refine ⟨(h.n1 q hq).1, (h.n1 q hq).2.1, fun h2 => ?_⟩
    rcases hn q h2 with h1 | h1
    · exact (h.n1 q hq).2.2 h1
    · have := h.m1.own.2 q hq; omega
  · intro q hq
    rcases hn q hq with h1 | h1
    · exact h.n2 q h1
    · exact ⟨by have := h.ap.size; omega, by omega⟩
end
end Go.Proofs.Ytjeffjpenhhnnaa
