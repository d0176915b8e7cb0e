/-
  Lists of numbers in memory; the bits of numbers; lengths; whether a list may be.
-/
import Derived.Test.YtmnpghelglohlaaTwA
import Derived.Test.YtmnpghelglohlaaWrA
import Derived.Test.YtmnpghelglohlaaNkP
namespace Go.Proofs.Ytmnpghelglohlaa
open Go.RowKit

/-- A list of numbers, in a block below B. -/
def IA (B : Nat) (w : World) (a : Option Addr) (c : Nat) (l : List Int) : Prop :=
  l.length ≤ c ∧ c ≤ maxLen ∧ (l = [] ∨ ∃ b off, a = some ⟨b, off, none⟩ ∧ b < B ∧ ∀ i x, l[i]? = some x → w.cell? ⟨b, off + i, none⟩ = some (.int .i64 x))
theorem IA.kept {B : Nat} {w w' : World} {a : Option Addr} {c : Nat} {l : List Int} (h : IA B w a c l) (hb : Below B w w') : IA B w' a c l := by
  refine ⟨h.1, h.2.1, ?_⟩
  rcases h.2.2 with h0 | ⟨b, off, ha, hl, hc⟩
  · exact .inl h0
  · exact .inr ⟨b, off, ha, hl, fun i x hi => by rw [hb.cell (p := ⟨b, off + i, none⟩) hl]; exact hc i x hi⟩
theorem IA.up {B B' : Nat} {w : World} {a : Option Addr} {c : Nat} {l : List Int} (h : IA B w a c l) (hb : B ≤ B') : IA B' w a c l := by
  refine ⟨h.1, h.2.1, ?_⟩
  rcases h.2.2 with h0 | ⟨b, off, ha, hl, hc⟩
  · exact .inl h0
  · exact .inr ⟨b, off, ha, by omega, hc⟩
theorem IA.on {w w' : World} {a : Option Addr} {c : Nat} {l : List Int} (h : IA w.heap.size w a c l) (hb : Below w.heap.size w w') : IA w'.heap.size w' a c l := (h.kept hb).up hb.size
theorem IA.at {B : Nat} {w : World} {a : Option Addr} {c : Nat} {l : List Int} (h : IA B w a c l) (i : Nat) (hi : i < l.length) : ∃ b off x, a = some ⟨b, off, none⟩ ∧ b < B ∧ l[i]? = some x ∧ w.cell? ⟨b, off + i, none⟩ = some (.int .i64 x) := by
  rcases h.2.2 with h0 | ⟨b, off, ha, hl, hc⟩
  · subst h0; simp at hi
  · exact ⟨b, off, l[i], ha, hl, List.getElem?_eq_getElem hi, hc i _ (List.getElem?_eq_getElem hi)⟩
theorem IA.drop {B : Nat} {w : World} {b off c : Nat} {l : List Int} (h : IA B w (some ⟨b, off, none⟩) c l) (k : Nat) (hk : k ≤ c) : IA B w (some ⟨b, off + k, none⟩) (c - k) (l.drop k) := by
  refine ⟨by have := h.1; simp; omega, by have := h.2.1; omega, ?_⟩
  rcases h.2.2 with h0 | ⟨b', off', ha, hl, hc⟩
  · left; subst h0; simp
  · simp only [Option.some.injEq, Addr.mk.injEq, and_true] at ha
    obtain ⟨rfl, rfl⟩ := ha
    refine .inr ⟨b, off + k, rfl, hl, fun i x hi => ?_⟩
    rw [List.getElem?_drop] at hi
    rw [Nat.add_assoc]
    exact hc _ x hi
theorem IA.tail {B : Nat} {w : World} {b off c : Nat} {l : List Int} (h : IA B w (some ⟨b, off, none⟩) c l) (k : Nat) (hk : k ≤ c) : IA B w (if c = k then some ⟨b, off, none⟩ else some ⟨b, off + k, none⟩) (c - k) (l.drop k) := by
  split
  · rename_i e
    have h1 := h.1
    rw [List.drop_of_length_le (by omega)]
    exact ⟨Nat.zero_le _, by have := h.2.1; omega, .inl rfl⟩
  · exact h.drop k hk
theorem IA.take {B : Nat} {w : World} {a : Option Addr} {c : Nat} {l : List Int} (h : IA B w a c l) (k : Nat) : IA B w a c (l.take k) := by
  refine ⟨by have := h.1; simp; omega, h.2.1, ?_⟩
  rcases h.2.2 with h0 | ⟨b, off, ha, hl, hc⟩
  · left; subst h0; simp
  · refine .inr ⟨b, off, ha, hl, fun i x hi => hc i x ?_⟩
    rw [List.getElem?_take] at hi
    split at hi
    · exact hi
    · cases hi
theorem IA.nil (B : Nat) (w : World) (a : Option Addr) (c : Nat) (hc : c ≤ maxLen) : IA B w a c [] := ⟨Nat.zero_le _, hc, .inl rfl⟩
theorem IA.len {B : Nat} {w : World} {a : Option Addr} {c : Nat} {l : List Int} (h : IA B w a c l) : (l.length : Int) ≤ 9223372036854775807 := by
  have h1 := h.1
  have h2 := h.2.1
  unfold maxLen at h2
  omega
/-- Numbers as cells. -/
def IC (l : List Int) : List Value := l.map fun x => .int .i64 x
@[simp] theorem IC_len (l : List Int) : (IC l).length = l.length := by simp [IC]
theorem IC_app (l r : List Int) : IC (l ++ r) = IC l ++ IC r := by simp [IC]
theorem IC_one {l : List Int} : ∀ u ∈ IC l, u.oneCell' = true := by
  intro u hu
  obtain ⟨x, _, rfl⟩ := List.mem_map.1 hu
  rfl
theorem info3 : (Try.prog.info? 3).map (fun i => (i.zero, i.size, i.bytes)) = some (some (.int .i64 0), 1, 8) := by kernel_rfl
theorem own_ia {w : World} {B : Nat} {v : Value} {n : Nat} {l : List Int} (h : w.ownsRow B 3 1 v n (IC l)) : ∃ a c, v = .slice a l.length c ∧ IA w.heap.size w a c l := by
  have hl : l.length = n := by have := h.1; simpa using this
  rcases h.2 with ⟨rfl, rfl⟩ | ⟨g, cap, cur, rfl, _, hg, hn, hc, _, ht⟩
  · obtain rfl := List.eq_nil_of_length_eq_zero hl
    exact ⟨none, 0, rfl, IA.nil _ _ _ _ (Nat.zero_le _)⟩
  · refine ⟨some ⟨g, 0, none⟩, cap, by rw [hl], by omega, hc, .inr ⟨g, 0, rfl, lt_of_heap hg, fun i x hi => ?_⟩⟩
    have hin : i < n := by rw [← hl]; exact (List.getElem?_eq_some_iff.1 hi).1
    rw [Nat.zero_add, cell_of_row w g i cur 3 _ hg]
    have e : (cur.toList.take (n * 1))[i]? = (IC l)[i]? := by rw [ht]
    rw [List.getElem?_take, if_pos (by omega)] at e
    rw [← Array.getElem?_toList, e]
    simp [IC, hi]
theorem info3' : ∃ i, Try.prog.info? 3 = some i ∧ i.zero = some (.int .i64 0) ∧ i.size = 1 ∧ i.bytes = 8 := by
  obtain ⟨i, hi, hh⟩ := Option.map_eq_some_iff.1 info3
  simp only [Prod.mk.injEq] at hh
  exact ⟨i, hi, hh.1, hh.2.1, hh.2.2⟩
theorem below_apart {w w' : World} (h : Below w.heap.size w w') : Apart (fun _ => False) w w' := ⟨h.os, h.tape, h.output, h.size, fun k hk _ => h.block k hk⟩
theorem addr0 (g j : Nat) : (⟨g, 0, none⟩ : Addr).add j = ⟨g, j, none⟩ := by simp [Addr.add]; intro h; exact h.symm
theorem ia_src {B : Nat} {w : World} {a : Option Addr} {c : Nat} {l : List Int} (h : IA B w a c l) : SrcN w 1 (.slice a l.length c) l.length (IC l) := by
  rcases h.2.2 with h0 | ⟨b, off, rfl, hb, hc⟩
  · subst h0
    cases a with
    | none => exact .inl ⟨c, rfl, rfl, rfl⟩
    | some ad => exact .inr ⟨ad, c, rfl, rfl, fun j u hj => by simp [IC] at hj⟩
  · refine .inr ⟨⟨b, off, none⟩, c, rfl, by simp, fun j u hj => ?_⟩
    have hj' : ∃ x, l[j]? = some x ∧ u = .int .i64 x := by
      unfold IC at hj
      rw [List.getElem?_map] at hj
      cases hx : l[j]? with
      | none => rw [hx] at hj; cases hj
      | some x => rw [hx] at hj; exact ⟨x, rfl, (Option.some.inj hj).symm⟩
    obtain ⟨x, hx, rfl⟩ := hj'
    have := hc j x hx
    have e : (⟨b, off, none⟩ : Addr).add j = ⟨b, off + j, none⟩ := by
      unfold Addr.add
      split
      · rename_i h; subst h; simp
      · rfl
    rw [e]; exact this
theorem own_srcn {w : World} {B : Nat} {v : Value} {n : Nat} {l : List Int} (h : w.ownsRow B 3 1 v n (IC l)) : SrcN w 1 v n (IC l) := by
  rcases h.2 with ⟨rfl, rfl⟩ | ⟨g, cap, cur, rfl, _, hg, hn, hc, _, ht⟩
  · have hl : l.length = 0 := by have := h.1; simpa using this
    obtain rfl := List.eq_nil_of_length_eq_zero hl
    exact .inl ⟨0, rfl, rfl, rfl⟩
  · refine .inr ⟨⟨g, 0, none⟩, cap, rfl, h.1, fun j u hj => ?_⟩
    rw [addr0, cell_of_row w g j cur 3 _ hg]
    rw [← ht, List.getElem?_take] at hj
    split at hj
    · rw [← Array.getElem?_toList]; exact hj
    · cases hj
theorem drop_at {l : List Int} {i : Nat} {x : Int} (h : l[i]? = some x) : l.drop i = x :: l.drop (i + 1) := by
  obtain ⟨hi, rfl⟩ := List.getElem?_eq_some_iff.1 h
  exact List.drop_eq_getElem_cons hi

theorem hf16 : hf 16 = 32768 := by decide
theorem after16 (a b : Int) (w : World) : Calls Try.prog 34 #[.int .i64 a, .int .i64 b, .int .i64 16] w fun e w' => e = .returned (.bool (af a b)) ∧ w' = w := by
  by_cases h1 : a < 0 ∨ 65536 ≤ a
  · have e : af a b = false := by rw [Bool.eq_false_iff]; intro h; have := (af_iff _ _).1 h; omega
    rw [e]
    exact after_no1 a b 16 (by omega) (by omega) (by rw [hf16]; omega) w
  · by_cases h2 : b < 0 ∨ 65536 ≤ b
    · have e : af a b = false := by rw [Bool.eq_false_iff]; intro h; have := (af_iff _ _).1 h; omega
      rw [e]
      exact after_no2 a b 16 (by omega) (by omega) (by omega) (by rw [hf16]; omega) (by rw [hf16]; omega) w
    · have e : af a b = aV (hf 16) a b := by
        unfold af aV; rw [hf16, show (2 : Int) * 32768 = 65536 by rfl, decide_eq_decide]; omega
      rw [e]
      exact after_any a b 16 (by omega) (by omega) (by omega) (by rw [hf16]; omega) (by omega) (by rw [hf16]; omega) w
theorem crop16 (n : Int) (w : World) : Calls Try.prog 51 #[.int .i64 n, .int .i64 16] w fun e w' => e = .returned (.int .i64 (n % 65536)) ∧ w' = w := by
  have := crop_any n 16 (by omega) (by omega) w
  rw [hf16] at this
  exact this
theorem bitof_any (x v : Int) (x0 : 0 ≤ x) (x1 : x < 65536) (v0 : 0 ≤ v) (v1 : v < 65536) (w : World) : Calls Try.prog 49 #[.int .i64 x, .int .i64 v] w fun e w' => e = .returned (.int .i64 ((v - x) % 65536 - 1)) ∧ w' = w := by
  have C := mkHid (crop16 (v - x))
  obtain ⟨d, hd⟩ : ∃ d, (v - x) % 65536 = d := ⟨_, rfl⟩
  have d0 : 0 ≤ d := by omega
  have d1 : d < 65536 := by omega
  rw [hd] at C ⊢
  clear hd
  go_enter Try.func49, Try.ntmps49
  go_wp2_with fail
  refine (C.out _).mono ?_
  rintro e w1 ⟨rfl, rfl⟩
  go_wp2
  go_ret
  exact ⟨rfl, rfl⟩
theorem numof_any (x : Int) (i : Nat) (x0 : 0 ≤ x) (x1 : x < 65536) (i1 : i < 16) (w : World) : Calls Try.prog 50 #[.int .i64 x, .int .i64 (i : Int)] w fun e w' => e = .returned (.int .i64 ((x + i + 1) % 65536)) ∧ w' = w := by
  have C := mkHid (crop16 (x + i + 1))
  have i2 : (i : Int) < 16 := by omega
  have i0 : (0 : Int) ≤ i := by omega
  obtain ⟨d, hd⟩ : ∃ d, (x + i + 1) % 65536 = d := ⟨_, rfl⟩
  rw [hd] at C ⊢
  clear hd i1
  go_enter Try.func50, Try.ntmps50
  go_wp2_with fail
  refine (C.out _).mono ?_
  rintro e w1 ⟨rfl, rfl⟩
  go_wp2
  go_ret
  exact ⟨rfl, rfl⟩
/-- What is wrong of a body of n bytes by its length alone. -/
def lenE (n : Nat) : Int := if 65536 < n then 2 else if n % 4 ≠ 0 then 90 else if n < 12 then 60 else 0
theorem lenerr_any (n : Nat) (hn : (n : Int) ≤ 9223372036854775807) (w : World) : Calls Try.prog 26 #[.int .i64 (n : Int)] w fun e w' => e = .returned (.int .i64 (lenE n)) ∧ w' = w := by
  have n0 : (0 : Int) ≤ n := by omega
  unfold lenE
  by_cases h1 : (65536 : Int) < n
  · rw [if_pos (by omega)]
    go_enter Try.func26, Try.ntmps26
    go_wp2
    go_ret
    exact ⟨rfl, rfl⟩
  · rw [if_neg (by omega)]
    by_cases h2 : n % 4 = 0
    · have h2' : ((n : Int) % 4 != 0) = false := by simp; omega
      rw [if_neg (by omega)]
      by_cases h3 : (n : Int) < 12
      · rw [if_pos (by omega)]
        go_enter Try.func26, Try.ntmps26
        go_wp2
        go_ret
        exact ⟨rfl, rfl⟩
      · rw [if_neg (by omega)]
        go_enter Try.func26, Try.ntmps26
        go_wp2
        go_ret
        exact ⟨rfl, rfl⟩
    · have h2' : ((n : Int) % 4 != 0) = true := by simp; omega
      rw [if_pos h2]
      clear h2
      go_enter Try.func26, Try.ntmps26
      go_wp2
      go_ret
      exact ⟨rfl, rfl⟩
end Go.Proofs.Ytmnpghelglohlaa
