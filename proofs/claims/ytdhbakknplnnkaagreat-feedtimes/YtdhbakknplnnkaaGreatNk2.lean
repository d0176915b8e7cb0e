/-
  Lists of numbers in memory; the bits of numbers; lengths; whether a list may be.
-/
import Derived.Test.YtdhbakknplnnkaaGreatNk1
import Derived.BigQuiet
namespace Go.Proofs.YtdhbakknplnnkaaGreat.Nk
open Go.RowKit

/-- A list of numbers, in a block below B. -/
def IA (B : Nat) (w : World) (a : Option Addr) (c : Nat) (l : List Int) : Prop :=
  l.length ≤ c ∧ c ≤ maxLen ∧ (l = [] ∨ ∃ b off, a = some ⟨b, off, none⟩ ∧ b < B ∧ ∀ i x, l[i]? = some x → w.cell? ⟨b, off + i, none⟩ = some (.int .i64 x))
theorem IA.kept {B : Nat} {w w' : World} {a : Option Addr} {c : Nat} {l : List Int} (h : IA B w a c l) (hb : Below B w w') : IA B w' a c l := by
  refine ⟨h.1, h.2.1, ?_⟩
  rcases h.2.2 with h0 | ⟨b, off, ha, hl, hc⟩
  · exact .inl h0
  · exact .inr ⟨b, off, ha, hl, fun i x hi => by rw [hb.cell (p := ⟨b, off + i, none⟩) hl]; exact hc i x hi⟩
theorem IA.up {B B' : Nat} {w : World} {a : Option Addr} {c : Nat} {l : List Int} (h : IA B w a c l) (hb : B ≤ B') : IA B' w a c l := by
  refine ⟨h.1, h.2.1, ?_⟩
  rcases h.2.2 with h0 | ⟨b, off, ha, hl, hc⟩
  · exact .inl h0
  · exact .inr ⟨b, off, ha, by omega, hc⟩
theorem IA.on {w w' : World} {a : Option Addr} {c : Nat} {l : List Int} (h : IA w.heap.size w a c l) (hb : Below w.heap.size w w') : IA w'.heap.size w' a c l := (h.kept hb).up hb.size
theorem IA.at {B : Nat} {w : World} {a : Option Addr} {c : Nat} {l : List Int} (h : IA B w a c l) (i : Nat) (hi : i < l.length) : ∃ b off x, a = some ⟨b, off, none⟩ ∧ b < B ∧ l[i]? = some x ∧ w.cell? ⟨b, off + i, none⟩ = some (.int .i64 x) := by
  rcases h.2.2 with h0 | ⟨b, off, ha, hl, hc⟩
  · subst h0; simp at hi
  · exact ⟨b, off, l[i], ha, hl, List.getElem?_eq_getElem hi, hc i _ (List.getElem?_eq_getElem hi)⟩
theorem IA.drop {B : Nat} {w : World} {b off c : Nat} {l : List Int} (h : IA B w (some ⟨b, off, none⟩) c l) (k : Nat) (hk : k ≤ c) : IA B w (some ⟨b, off + k, none⟩) (c - k) (l.drop k) := by
  refine ⟨by have := h.1; simp; omega, by have := h.2.1; omega, ?_⟩
  rcases h.2.2 with h0 | ⟨b', off', ha, hl, hc⟩
  · left; subst h0; simp
  · simp only [Option.some.injEq, Addr.mk.injEq, and_true] at ha
    obtain ⟨rfl, rfl⟩ := ha
    refine .inr ⟨b, off + k, rfl, hl, fun i x hi => ?_⟩
    rw [List.getElem?_drop] at hi
    rw [Nat.add_assoc]
    exact hc _ x hi
theorem IA.tail {B : Nat} {w : World} {b off c : Nat} {l : List Int} (h : IA B w (some ⟨b, off, none⟩) c l) (k : Nat) (hk : k ≤ c) : IA B w (if c = k then some ⟨b, off, none⟩ else some ⟨b, off + k, none⟩) (c - k) (l.drop k) := by
  split
  · rename_i e
    have h1 := h.1
    rw [List.drop_of_length_le (by omega)]
    exact ⟨Nat.zero_le _, by have := h.2.1; omega, .inl rfl⟩
  · exact h.drop k hk
theorem IA.take {B : Nat} {w : World} {a : Option Addr} {c : Nat} {l : List Int} (h : IA B w a c l) (k : Nat) : IA B w a c (l.take k) := by
  refine ⟨by have := h.1; simp; omega, h.2.1, ?_⟩
  rcases h.2.2 with h0 | ⟨b, off, ha, hl, hc⟩
  · left; subst h0; simp
  · refine .inr ⟨b, off, ha, hl, fun i x hi => hc i x ?_⟩
    rw [List.getElem?_take] at hi
    split at hi
    · exact hi
    · cases hi
theorem IA.nil (B : Nat) (w : World) (a : Option Addr) (c : Nat) (hc : c ≤ maxLen) : IA B w a c [] := ⟨Nat.zero_le _, hc, .inl rfl⟩
theorem IA.len {B : Nat} {w : World} {a : Option Addr} {c : Nat} {l : List Int} (h : IA B w a c l) : (l.length : Int) ≤ 9223372036854775807 := by
  have h1 := h.1
  have h2 := h.2.1
  unfold maxLen at h2
  omega
/-- Numbers as cells. -/
def IC (l : List Int) : List Value := l.map fun x => .int .i64 x
@[simp] theorem IC_len (l : List Int) : (IC l).length = l.length := by simp [IC]
theorem IC_app (l r : List Int) : IC (l ++ r) = IC l ++ IC r := by simp [IC]
theorem IC_one {l : List Int} : ∀ u ∈ IC l, u.oneCell' = true := by
  intro u hu
  obtain ⟨x, _, rfl⟩ := List.mem_map.1 hu
  rfl
theorem info3 : (Tryz.prog.info? 3).map (fun i => (i.zero, i.size, i.bytes)) = some (some (.int .i64 0), 1, 8) := by kernel_rfl
theorem own_ia {w : World} {B : Nat} {v : Value} {n : Nat} {l : List Int} (h : w.ownsRow B 3 1 v n (IC l)) : ∃ a c, v = .slice a l.length c ∧ IA w.heap.size w a c l := by
  have hl : l.length = n := by have := h.1; simpa using this
  rcases h.2 with ⟨rfl, rfl⟩ | ⟨g, cap, cur, rfl, _, hg, hn, hc, _, ht⟩
  · obtain rfl := List.eq_nil_of_length_eq_zero hl
    exact ⟨none, 0, rfl, IA.nil _ _ _ _ (Nat.zero_le _)⟩
  · refine ⟨some ⟨g, 0, none⟩, cap, by rw [hl], by omega, hc, .inr ⟨g, 0, rfl, lt_of_heap hg, fun i x hi => ?_⟩⟩
    have hin : i < n := by rw [← hl]; exact (List.getElem?_eq_some_iff.1 hi).1
    rw [Nat.zero_add, cell_of_row w g i cur 3 _ hg]
    have e : (cur.toList.take (n * 1))[i]? = (IC l)[i]? := by rw [ht]
    rw [List.getElem?_take, if_pos (by omega)] at e
    rw [← Array.getElem?_toList, e]
    simp [IC, hi]
theorem info3' : ∃ i, Tryz.prog.info? 3 = some i ∧ i.zero = some (.int .i64 0) ∧ i.size = 1 ∧ i.bytes = 8 := by
  obtain ⟨i, hi, hh⟩ := Option.map_eq_some_iff.1 info3
  simp only [Prod.mk.injEq] at hh
  exact ⟨i, hi, hh.1, hh.2.1, hh.2.2⟩
theorem below_apart {w w' : World} (h : Below w.heap.size w w') : Apart (fun _ => False) w w' := ⟨h.os, h.tape, h.output, h.size, fun k hk _ => h.block k hk⟩
theorem addr0 (g j : Nat) : (⟨g, 0, none⟩ : Addr).add j = ⟨g, j, none⟩ := by simp [Addr.add]; intro h; exact h.symm
theorem ia_src {B : Nat} {w : World} {a : Option Addr} {c : Nat} {l : List Int} (h : IA B w a c l) : SrcN w 1 (.slice a l.length c) l.length (IC l) := by
  rcases h.2.2 with h0 | ⟨b, off, rfl, hb, hc⟩
  · subst h0
    cases a with
    | none => exact .inl ⟨c, rfl, rfl, rfl⟩
    | some ad => exact .inr ⟨ad, c, rfl, rfl, fun j u hj => by simp [IC] at hj⟩
  · refine .inr ⟨⟨b, off, none⟩, c, rfl, by simp, fun j u hj => ?_⟩
    have hj' : ∃ x, l[j]? = some x ∧ u = .int .i64 x := by
      unfold IC at hj
      rw [List.getElem?_map] at hj
      cases hx : l[j]? with
      | none => rw [hx] at hj; cases hj
      | some x => rw [hx] at hj; exact ⟨x, rfl, (Option.some.inj hj).symm⟩
    obtain ⟨x, hx, rfl⟩ := hj'
    have := hc j x hx
    have e : (⟨b, off, none⟩ : Addr).add j = ⟨b, off + j, none⟩ := by
      unfold Addr.add
      split
      · rename_i h; subst h; simp
      · rfl
    rw [e]; exact this
theorem own_srcn {w : World} {B : Nat} {v : Value} {n : Nat} {l : List Int} (h : w.ownsRow B 3 1 v n (IC l)) : SrcN w 1 v n (IC l) := by
  rcases h.2 with ⟨rfl, rfl⟩ | ⟨g, cap, cur, rfl, _, hg, hn, hc, _, ht⟩
  · have hl : l.length = 0 := by have := h.1; simpa using this
    obtain rfl := List.eq_nil_of_length_eq_zero hl
    exact .inl ⟨0, rfl, rfl, rfl⟩
  · refine .inr ⟨⟨g, 0, none⟩, cap, rfl, h.1, fun j u hj => ?_⟩
    rw [addr0, cell_of_row w g j cur 3 _ hg]
    rw [← ht, List.getElem?_take] at hj
    split at hj
    · rw [← Array.getElem?_toList]; exact hj
    · cases hj
theorem drop_at {l : List Int} {i : Nat} {x : Int} (h : l[i]? = some x) : l.drop i = x :: l.drop (i + 1) := by
  obtain ⟨hi, rfl⟩ := List.getElem?_eq_some_iff.1 h
  exact List.drop_eq_getElem_cons hi

theorem hf16 : hf 16 = 32768 := by decide
theorem after16 (a b : Int) (w : World) : Calls Tryz.prog 94 #[.int .i64 a, .int .i64 b, .int .i64 16] w fun e w' => e = .returned (.bool (af a b)) ∧ w' = w := by
  by_cases h1 : a < 0 ∨ 65536 ≤ a
  · have e : af a b = false := by rw [Bool.eq_false_iff]; intro h; have := (af_iff _ _).1 h; omega
    rw [e]
    exact after_no1 a b 16 (by omega) (by omega) (by rw [hf16]; omega) w
  · by_cases h2 : b < 0 ∨ 65536 ≤ b
    · have e : af a b = false := by rw [Bool.eq_false_iff]; intro h; have := (af_iff _ _).1 h; omega
      rw [e]
      exact after_no2 a b 16 (by omega) (by omega) (by omega) (by rw [hf16]; omega) (by rw [hf16]; omega) w
    · have e : af a b = aV (hf 16) a b := by
        unfold af aV; rw [hf16, show (2 : Int) * 32768 = 65536 by rfl, decide_eq_decide]; omega
      rw [e]
      exact after_any a b 16 (by omega) (by omega) (by omega) (by rw [hf16]; omega) (by omega) (by rw [hf16]; omega) w
theorem crop16 (n : Int) (w : World) : Calls Tryz.prog 98 #[.int .i64 n, .int .i64 16] w fun e w' => e = .returned (.int .i64 (n % 65536)) ∧ w' = w := by
  have := crop_any n 16 (by omega) (by omega) w
  rw [hf16] at this
  exact this
theorem numof_any (x : Int) (i : Nat) (x0 : 0 ≤ x) (x1 : x < 65536) (i1 : i < 16) (w : World) : Calls Tryz.prog 93 #[.int .i64 x, .int .i64 (i : Int)] w fun e w' => e = .returned (.int .i64 ((x + i + 1) % 65536)) ∧ w' = w := by
  have C := mkHid (crop16 (x + i + 1))
  have i2 : (i : Int) < 16 := by omega
  have i0 : (0 : Int) ≤ i := by omega
  obtain ⟨d, hd⟩ : ∃ d, (x + i + 1) % 65536 = d := ⟨_, rfl⟩
  rw [hd] at C ⊢
  clear hd i1
  go_enter Tryz.func93, Tryz.ntmps93
  go_wp2_with fail
  refine (C.out _).mono ?_
  rintro e w1 ⟨rfl, rfl⟩
  go_wp2
  go_ret
  exact ⟨rfl, rfl⟩
/-- What is wrong of a body of n bytes by its length alone. -/
def lenE (n : Nat) : Int := if 65536 < n then 2 else if n % 4 ≠ 0 then 90 else if n < 12 then 60 else 0
theorem lenerr_any (n : Nat) (hn : (n : Int) ≤ 9223372036854775807) (w : World) : Calls Tryz.prog 66 #[.int .i64 (n : Int)] w fun e w' => e = .returned (.int .i64 (lenE n)) ∧ w' = w := by
  have n0 : (0 : Int) ≤ n := by omega
  unfold lenE
  by_cases h1 : (65536 : Int) < n
  · rw [if_pos (by omega)]
    go_enter Tryz.func66, Tryz.ntmps66
    go_wp2
    go_ret
    exact ⟨rfl, rfl⟩
  · rw [if_neg (by omega)]
    by_cases h2 : n % 4 = 0
    · have h2' : ((n : Int) % 4 != 0) = false := by simp; omega
      rw [if_neg (by omega)]
      by_cases h3 : (n : Int) < 12
      · rw [if_pos (by omega)]
        go_enter Tryz.func66, Tryz.ntmps66
        go_wp2
        go_ret
        exact ⟨rfl, rfl⟩
      · rw [if_neg (by omega)]
        go_enter Tryz.func66, Tryz.ntmps66
        go_wp2
        go_ret
        exact ⟨rfl, rfl⟩
    · have h2' : ((n : Int) % 4 != 0) = true := by simp; omega
      rw [if_pos h2]
      clear h2
      go_enter Tryz.func66, Tryz.ntmps66
      go_wp2
      go_ret
      exact ⟨rfl, rfl⟩
end Go.Proofs.YtdhbakknplnnkaaGreat.Nk
namespace Go.Proofs.YtdhbakknplnnkaaGreat.Nk
open Go.RowKit

theorem isL_long {l : List Int} (h : 4096 < l.length) : isL l = false := by
  rw [Bool.eq_false_iff]; intro h'; have := ((isL_iff l).1 h').2.1; omega
theorem isL_cons (f : Int) (t : List Int) : isL (f :: t) = (decide (t.length < 4096) && (decide (0 ≤ f) && (decide (f < 65536) && okL f f t))) := rfl
set_option maxRecDepth 100000 in
set_option maxHeartbeats 1000000 in
theorem islist_any (B : Nat) (w : World) (a : Option Addr) (c : Nat) (l : List Int) (h : IA B w a c l) :
    Calls Tryz.prog 85 #[.slice a l.length c] w fun e w' => e = .returned (.bool (isL l)) ∧ w' = w := by
  have m1 := h.len
  by_cases h1 : (4096 : Int) < l.length
  · rw [isL_long (by omega)]
    obtain ⟨n, HN⟩ : ∃ n, Hid (l.length = n) := ⟨_, rfl⟩
    rw [HN.out] at m1 h1 ⊢
    clear h
    go_enter Tryz.func85, Tryz.ntmps85
    go_wp2
    go_ret
    exact ⟨rfl, rfl⟩
  · cases l with
    | nil =>
      clear h h1
      simp only [List.length_nil] at *
      go_enter Tryz.func85, Tryz.ntmps85
      go_wp2
      go_ret
      exact ⟨rfl, rfl⟩
    | cons f t =>
      obtain ⟨b, off, f', rfl, _, hf, c0⟩ := h.at 0 (by simp)
      obtain rfl : f = f' := by simpa using hf
      have H := mkHid h
      rw [Nat.add_zero] at c0
      obtain ⟨n, HN⟩ : ∃ n, Hid (t.length = n) := ⟨_, rfl⟩
      have hc := h.1
      simp only [List.length_cons] at m1 h1 hc ⊢
      rw [isL_cons]
      rw [HN.out] at m1 h1 hc ⊢
      rw [decide_eq_true (show n < 4096 by omega), Bool.true_and]
      obtain ⟨m, HM⟩ : ∃ m, Hid (n + 1 = m) := ⟨_, rfl⟩
      rw [HM.out] at m1 h1 hc ⊢
      have hm1 : (1 : Int) ≤ m := by have := HM.out; omega
      have hm2 : (m : Int) ≤ 4096 := by omega
      have hm3 : (m : Int) ≤ c := by omega
      clear h hf h1 hc
      by_cases h2 : f < 0
      · rw [decide_eq_false (show ¬ 0 ≤ f by omega), Bool.false_and]
        go_enter Tryz.func85, Tryz.ntmps85
        go_wp2
        go_ret
        exact ⟨rfl, rfl⟩
      · by_cases h3 : (65535 : Int) < f
        · rw [decide_eq_true (show 0 ≤ f by omega), decide_eq_false (show ¬ f < 65536 by omega), Bool.true_and, Bool.false_and]
          go_enter Tryz.func85, Tryz.ntmps85
          go_wp2
          go_ret
          exact ⟨rfl, rfl⟩
        · rw [decide_eq_true (show 0 ≤ f by omega), decide_eq_true (show f < 65536 by omega), Bool.true_and, Bool.true_and]
          obtain ⟨r, HR⟩ : ∃ r, Hid (okL f f t = r) := ⟨_, rfl⟩
          rw [HR.out]
          have hm4 : ((m : Int) == 0) = false := by simp; omega
          have hm5 : ((m - 1 : Nat) : Int) = n := by have := HM.out; omega
          by_cases hc1 : c = 1
          · subst hc1
            obtain rfl : m = 1 := by omega
            obtain rfl : n = 0 := by have := HM.out; omega
            obtain rfl := List.eq_nil_of_length_eq_zero HN.out
            obtain rfl : true = r := HR.out
            go_enter Tryz.func85, Tryz.ntmps85
            go_wp2
            go_loopw [3, 5, 32] (fun la v i wr => wr = w ∧ i = .int .i64 0) (fun _ _ _ _ => 0)
            case atStart => exact ⟨rfl, rfl⟩
            case round =>
              obtain ⟨rfl, rfl⟩ := hrel
              go_wp2
              go_ret
              exact ⟨rfl, rfl⟩
          · go_enter Tryz.func85, Tryz.ntmps85
            go_wp2
            go_loopw [3, 5, 32] (fun la v i wr => wr = w ∧ ∃ (k : Nat) (x : Int), k ≤ n ∧ i = .int .i64 (k : Int) ∧ la = .int .i64 x ∧ okL f x (t.drop k) = r) (fun _ _ i _ => n - (intOf i).toNat)
            case atStart => exact ⟨rfl, 0, f, Nat.zero_le _, rfl, rfl, HR.out⟩
            case round =>
              obtain ⟨rfl, k, x, hk, rfl, rfl, hr⟩ := hrel
              have HRK := mkHid hr
              clear hr
              by_cases hlt : k < n
              · obtain ⟨b', off', v, hb, _, hv, cv⟩ := H.out.at (k + 1) (by rw [List.length_cons, HN.out]; omega)
                simp only [Option.some.injEq, Addr.mk.injEq, and_true] at hb
                obtain ⟨rfl, rfl⟩ := hb
                rw [List.getElem?_cons_succ] at hv
                have HV := mkHid (drop_at hv)
                rw [show off + (k + 1) = off + 1 + k by omega] at cv
                have k0 : (0 : Int) ≤ k := by omega
                have k1 : (k : Int) < n := by omega
                have A1 := mkHid (after16 v x)
                have A2 := mkHid (after16 v f)
                have HRR := mkHid (show (af v x && (af v f && okL f v (t.drop (k + 1)))) = r by have := HRK.out; rw [HV.out, okL] at this; exact this)
                obtain ⟨p, HP⟩ : ∃ p, Hid (af v x = p) := ⟨_, rfl⟩
                obtain ⟨q, HQ⟩ : ∃ q, Hid (af v f = q) := ⟨_, rfl⟩
                rw [HP.out] at A1 HRR
                rw [HQ.out] at A2 HRR
                clear hv
                cases p with
                | false =>
                  obtain rfl : false = r := HRR.out
                  go_wp2_with fail
                  refine (A1.out _).mono ?_
                  rintro e w1 ⟨rfl, rfl⟩
                  go_wp2
                  go_ret
                  exact ⟨rfl, rfl⟩
                | true =>
                  cases q with
                  | false =>
                    obtain rfl : false = r := HRR.out
                    go_wp2_with fail
                    refine (A1.out _).mono ?_
                    rintro e w1 ⟨rfl, rfl⟩
                    go_wp2_with fail
                    refine (A2.out _).mono ?_
                    rintro e w1 ⟨rfl, rfl⟩
                    go_wp2
                    go_ret
                    exact ⟨rfl, rfl⟩
                  | true =>
                    go_wp2_with fail
                    refine (A1.out _).mono ?_
                    rintro e w1 ⟨rfl, rfl⟩
                    go_wp2_with fail
                    refine (A2.out _).mono ?_
                    rintro e w1 ⟨rfl, rfl⟩
                    go_wp2
                    go_roundw
                    case rel => exact ⟨by trivial, k + 1, v, by omega, by go_num, rfl, HRR.out⟩
                    case measure => simp [intOf]; omega
              · obtain rfl : k = n := by omega
                obtain rfl : true = r := by have := HRK.out; rw [← HN.out, List.drop_length] at this; exact this
                go_wp2
                go_ret
                exact ⟨rfl, rfl⟩
theorem losterr_any (B : Nat) (w : World) (a : Option Addr) (c : Nat) (l : List Int) (h : IA B w a c l) :
    Calls Tryz.prog 68 #[.slice a l.length c] w fun e w' => e = .returned (.int .i64 (if 4096 < l.length then 3 else if isL l = true then 0 else 110)) ∧ w' = w := by
  have m1 := h.len
  have I := mkHid (islist_any B w a c l h)
  obtain ⟨n, HN⟩ : ∃ n, Hid (l.length = n) := ⟨_, rfl⟩
  rw [HN.out] at m1 I ⊢
  obtain ⟨r, HR⟩ : ∃ r, Hid (isL l = r) := ⟨_, rfl⟩
  rw [HR.out] at I ⊢
  clear h
  by_cases h1 : (4096 : Int) < n
  · rw [if_pos (by omega)]
    go_enter Tryz.func68, Tryz.ntmps68
    go_wp2
    go_ret
    exact ⟨rfl, rfl⟩
  · rw [if_neg (by omega)]
    cases r with
    | false =>
      go_enter Tryz.func68, Tryz.ntmps68
      go_wp2_with fail
      refine (I.out).mono ?_
      rintro e w1 ⟨rfl, rfl⟩
      go_wp2
      go_ret
      exact ⟨rfl, rfl⟩
    | true =>
      go_enter Tryz.func68, Tryz.ntmps68
      go_wp2_with fail
      refine (I.out).mono ?_
      rintro e w1 ⟨rfl, rfl⟩
      go_wp2
      go_ret
      exact ⟨rfl, rfl⟩
end Go.Proofs.YtdhbakknplnnkaaGreat.Nk
namespace Go.Proofs.YtdhbakknplnnkaaGreat.Nk
open Go.RowKit

theorem frame29 (a : Act) (hs : a.tmps.size = 29) (hd : a.defers = []) : ∃ u : Nat → Value, (∀ i, a.tmps.getD i undef = u i) ∧ a = { tmps := #[u 0, u 1, u 2, u 3, u 4, u 5, u 6, u 7, u 8, u 9, u 10, u 11, u 12, u 13, u 14, u 15, u 16, u 17, u 18, u 19, u 20, u 21, u 22, u 23, u 24, u 25, u 26, u 27, u 28], defers := [] } := frame_of a 29 hs hd
theorem or_bit32 (m : Nat) (hm : m < 65536) (i : Int) (i0 : 0 ≤ i) (i1 : i < 16) : bits .or .u32 (m : Int) (2 ^ i.toNat % 4294967296) = ((m ||| 2 ^ i.toNat : Nat) : Int) := by
  have h := Nat.pow_lt_pow_right (a := 2) (by decide) (show i.toNat < 16 by omega)
  have e : (2 : Int) ^ i.toNat = ((2 ^ i.toNat : Nat) : Int) := by simp
  rw [e]
  generalize 2 ^ i.toNat = p at *
  rw [show (p : Int) % 4294967296 = (p : Int) by omega, u32_or_nat _ _ (by omega) (by omega)]
end Go.Proofs.YtdhbakknplnnkaaGreat.Nk
namespace Go.Proofs.YtdhbakknplnnkaaGreat.Nk
open Go.RowKit

theorem ia_tch {b : Nat} {v v' : Value} {w w' : World} {L : List Bool} {a : Option Addr} {c : Nat} {l : List Int} (h : IA b w a c l) (t : Tch b v v' w w') (hw : Wr 67 w b v L) : IA b w' a c l := h.kept (t.below hw b (Nat.le_refl _))
end Go.Proofs.YtdhbakknplnnkaaGreat.Nk
namespace Go.Proofs.YtdhbakknplnnkaaGreat.Nk
open Go.RowKit

/-- A list with its two senders, as a value. -/
def nv (r : Nk) (a : Option Addr) (n c : Nat) : Value := .agg #[.int .u32 r.sd, .int .u32 r.md, .slice a n c]
def slen : Value → Nat
  | .slice _ n _ => n
  | _ => 0
theorem encE_no {r : Nk} (h : isL r.lo = false) : encE r = 1 ∧ encS r = ⟨#[]⟩ := by unfold encE encS; rw [h]; exact ⟨rfl, rfl⟩
theorem encE_yes {r : Nk} (h : isL r.lo = true) : encE r = 0 ∧ encS r = packS (nkB r) := by unfold encE encS; rw [h]; exact ⟨rfl, rfl⟩
end Go.Proofs.YtdhbakknplnnkaaGreat.Nk
namespace Go.Proofs.YtdhbakknplnnkaaGreat.Nk
open Go.RowKit

theorem frame24 (a : Act) (hs : a.tmps.size = 24) (hd : a.defers = []) : ∃ u : Nat → Value, (∀ i, a.tmps.getD i undef = u i) ∧ a = { tmps := #[u 0, u 1, u 2, u 3, u 4, u 5, u 6, u 7, u 8, u 9, u 10, u 11, u 12, u 13, u 14, u 15, u 16, u 17, u 18, u 19, u 20, u 21, u 22, u 23], defers := [] } := frame_of a 24 hs hd
/-- A row of numbers of one's own. -/
def OI (B : Nat) (w : World) (v : Value) (l : List Int) : Prop := w.ownsRow B 3 1 v l.length (IC l)
theorem OI.below {B : Nat} {w w' : World} {v : Value} {l : List Int} (h : OI B w v l) (hb : Below w.heap.size w w') : OI B w' v l := ownsRow_below h hb (fun k hk => (h.lt k hk).2)
theorem OI.nil (B : Nat) (w : World) : OI B w (.slice none 0 0) [] := World.ownsRow_nil _ _ _ _
theorem OI.grown {B : Nat} {w' : World} {v' : Value} {n : Nat} {l : List Int} {y : Int} (ho : w'.ownsRow B 3 1 v' (n + 1) (IC l ++ [.int .i64 y])) (hn : n = l.length) : OI B w' v' (l ++ [y]) := by
  subst hn
  unfold OI
  rw [IC_app, List.length_append]
  exact ho
/-- What a row of one's own that grows by one leaves as it was. -/
theorem own_below {B : Nat} {w w' : World} {v : Value} {l : List Int} {o : Obj} (h : OI B w v l) (hB : B ≤ w.heap.size) (hg : (w.alloc o).grownBy w' v.ownBlock) : Below B w w' :=
  ((Below.refl B w).alloc hB o).trans ⟨hg.os, hg.tape, hg.output, hg.size, fun k hk => hg.block k (by simp; omega) (fun e => by have := (h.lt k e.symm).1; omega)⟩
theorem and_bit32 (M i : Nat) (hM : M < 65536) : bits .and .u32 ((M : Int) / 2 ^ i) 1 = ((M / 2 ^ i % 2 : Nat) : Int) := by
  have e1 : ((M : Int) / 2 ^ i) = ((M / 2 ^ i : Nat) : Int) := by simp
  have l1 : M / 2 ^ i < 4294967296 := Nat.lt_of_le_of_lt (Nat.div_le_self _ _) (by omega)
  have e2 := u32_and_nat (M / 2 ^ i) 1 l1 (by decide)
  rw [Nat.and_one_is_mod] at e2
  rw [e1]; exact e2
set_option maxRecDepth 100000 in
set_option maxHeartbeats 1000000 in
theorem appmask_any (B : Nat) (v : Value) (l : List Int) (x : Int) (M : Nat) (x0 : 0 ≤ x) (x1 : x < 65536) (hM : M < 65536) (hl : l.length ≤ 5000) (w : World) (hB : B ≤ w.heap.size) (h : OI B w v l) :
    Calls Tryz.prog 84 #[v, .int .i64 x, .int .u32 (M : Int)] w fun e w' => (∃ v', e = .returned v' ∧ OI B w' v' (l ++ tl x M 0 16)) ∧ Below B w w' := by
  have H := mkHid h
  have HM := mkHid hM
  have HL := mkHid hl
  obtain ⟨R, HR⟩ : ∃ R, Hid (l ++ tl x M 0 16 = R) := ⟨_, rfl⟩
  obtain ⟨i0, hi, hz0, hz1, hz2⟩ := info3'
  rw [HR.out]
  clear h hM hl
  go_enter Tryz.func84, Tryz.ntmps84
  go_wp2
  refine wp_scope_label 0 (fun a' w' => ∃ (i : Nat) (va : Value) (q : List Int), (a'.tmps.size = 24 ∧ a'.defers = [] ∧ a'.tmps.getD 0 undef = va ∧ a'.tmps.getD 1 undef = .int .i64 x ∧ a'.tmps.getD 2 undef = .int .u32 (M : Int) ∧ a'.tmps.getD 7 undef = .int .i64 (i : Int)) ∧ i ≤ 16 ∧ q.length ≤ 5000 + i ∧ q ++ tl x M i (16 - i) = R ∧ OI B w' va q ∧ Below B w w') (fun a' _ => 16 - (intOf (a'.tmps.getD 7 undef)).toNat) rfl ?_ ?_
  · intro Q' hh
    have HH := mkHid hh
    clear hh
    go_wp2
    go_step3
    refine ‹∀ a w, Code.wp _ _ _ a w → _› _ _ (HH.out _ _ ?_)
    exact ⟨0, v, l, ⟨rfl, rfl, rfl, rfl, rfl, rfl⟩, by decide, HL.out, HR.out, H.out, Below.refl _ _⟩
  · rintro a' w' ⟨i, va, q, ⟨z, d, e0, e1, e2, e7⟩, hi16, hq, hqr, ho, hb⟩
    obtain ⟨u, hu, ha⟩ := frame24 a' z d
    rw [hu] at e0 e1 e2 e7
    rw [e0, e1, e2, e7] at ha
    clear z d hu e0 e1 e2 e7
    subst ha
    have HQ := mkHid hq
    have HQR := mkHid hqr
    have HO := mkHid ho
    have HB := mkHid hb
    have hbs := hb.size
    have hbs' : B ≤ w'.heap.size := Nat.le_trans hB hbs
    obtain ⟨ad, cp, rfl⟩ := ownsRow_slice ho
    clear hq hqr ho hb H
    by_cases h16 : i = 16
    · subst h16
      go_wp2
      simp only [Exit.jump]
      go_ret
      refine ⟨⟨_, rfl, ?_⟩, HB.out⟩
      have := HQR.out
      rw [Nat.sub_self, tl, List.append_nil] at this
      subst this
      exact HO.out
    · have hne : ((i : Int) == 16) = false := by simp; omega
      have ib := mkHid (and_bit32 M i HM.out)
      obtain ⟨bt, HBT⟩ : ∃ bt, Hid (M / 2 ^ i % 2 = bt) := ⟨_, rfl⟩
      rw [HBT.out] at ib
      have hbt : bt < 2 := by rw [← HBT.out]; exact Nat.mod_lt _ (by decide)
      have HTL := mkHid (show tl x M i (16 - i) = (if bt = 1 then [(x + i + 1) % 65536] else []) ++ tl x M (i + 1) (16 - (i + 1)) by
        rw [show 16 - i = (16 - (i + 1)) + 1 by omega, tl, HBT.out])
      have ii0 : (0 : Int) ≤ i := by omega
      rcases (by omega : bt = 0 ∨ bt = 1) with rfl | rfl
      · have ib' : bits .and .u32 ((M : Int) / 2 ^ i) 1 = 0 := ib.out
        obtain ⟨n, HN⟩ : ∃ n, Hid (q.length = n) := ⟨_, rfl⟩
        rw [HN.out]
        go_wp2
        go_step3
        refine ⟨rfl, ⟨i + 1, _, q, ⟨rfl, rfl, rfl, rfl, rfl, rfl⟩, by omega, by have := HQ.out; omega, ?_, by rw [← HN.out]; exact HO.out, HB.out⟩, ?_⟩
        · have := HQR.out
          rw [HTL.out, if_neg (by decide)] at this
          exact this
        · simp [intOf]; omega
      · have ib' : bits .and .u32 ((M : Int) / 2 ^ i) 1 = 1 := ib.out
        have NO := mkHid (numof_any x i x0 x1 (by omega))
        obtain ⟨y, HY⟩ : ∃ y, Hid ((x + i + 1) % 65536 = y) := ⟨_, rfl⟩
        rw [HY.out] at NO HTL
        obtain ⟨n, HN⟩ : ∃ n, Hid (q.length = n) := ⟨_, rfl⟩
        rw [HN.out]
        have HO' := mkHid (show w'.ownsRow B 3 1 (.slice ad n cp) n (IC q) by rw [← HN.out]; exact HO.out)
        have HNB := mkHid (show n ≤ 5016 by have := HQ.out; rw [HN.out] at this; omega)
        go_wp2_with (first | (go_at_call 93; refine (NO.out _).mono ?_; rintro e w2 ⟨rfl, rfl⟩) | (at_builtin; refine wpList_append_own2 _ rfl (.tmp 16) (.tmp 20) 24 rfl B 3 i0 (.int .i64 0) 1 8 Tryz.underlying24 hi hz0 hz1 hz2 rfl (by decide) (.slice ad n cp) n (IC q) rfl (HO'.out.alloc _) ⟨w2.heap.size, 0, none⟩ 1 1 [.int .i64 y] rfl rfl (cell_one_new _ _ _) (by intro u hu; simp at hu; subst hu; rfl) (by unfold maxLen; have := HNB.out; omega) (by have := HNB.out; omega) (by simp; omega) ?_; intro v4 w4 hown4 hgrow4 _; have OW4 := mkHid hown4; have GR4 := mkHid hgrow4; clear hown4 hgrow4))
        go_step3
        refine ⟨rfl, ⟨i + 1, _, q ++ [y], ⟨rfl, rfl, rfl, rfl, rfl, rfl⟩, by omega, by have := HQ.out; simp; omega, ?_, OI.grown OW4.out HN.out.symm, HB.out.trans (own_below (v := .slice ad n cp) (by rw [← HN.out]; exact HO.out) hbs' GR4.out)⟩, ?_⟩
        · have := HQR.out
          rw [HTL.out, if_pos trivial] at this
          rw [List.append_assoc]
          exact this
        · simp [intOf]; omega
end Go.Proofs.YtdhbakknplnnkaaGreat.Nk
namespace Go.Proofs.YtdhbakknplnnkaaGreat.Nk
open Go.RowKit

theorem deL_len (s : ByteArray) (n : Nat) : ∀ p, n ≤ (deL s p n).length := by
  induction n with
  | zero => intro p; exact Nat.zero_le _
  | succ n ih => intro p; have := ih (p + 32); simp [deL]; omega
theorem gleft_at (s : ByteArray) (p : Nat) : gleft s (some p) = 8 * s.size - p := rfl
theorem left_at (b : Nat) (s : ByteArray) (hs : s.size ≤ 1000000) (p : Nat) (w : World) (h : Rd 143 w b s (some p)) (L : Int) (hL : 8 * (s.size : Int) - p = L) :
    Calls Tryz.prog 56 #[.pointer (some ⟨b, 0, none⟩)] w fun e w' => e = .returned (.int .i64 L) ∧ ∃ n, w' = w.drewN n := by
  have := left_any b s hs (some p) w h
  have e : gleft s (some p) = L := hL
  rw [e] at this
  exact this
theorem OI.drewN {B : Nat} {w : World} {v : Value} {l : List Int} (h : OI B w v l) (n : Nat) : OI B (w.drewN n) v l := h.below (below_drewN (Below.refl _ _) n)
set_option maxRecDepth 100000 in
set_option maxHeartbeats 1000000 in
theorem getlost_any (b : Nat) (s : ByteArray) (hs : s.size ≤ 65536) (N : Nat) (hN : 8 * s.size = 64 + 32 * N) (w : World) (h : Rd 143 w b s (some 64)) :
    Calls Tryz.prog 67 #[.pointer (some ⟨b, 0, none⟩)] w fun e w' => (∃ v q, e = .returned v ∧ OI w.heap.size w' v q ∧ (q = deL s 64 N ∨ 4096 < q.length ∧ 4096 < (deL s 64 N).length)) ∧ Apart (· = b) w w' := by
  have hbl := h.heap
  have H := mkHid h
  have HN := mkHid hN
  have HS := mkHid hs
  obtain ⟨R, HR⟩ : ∃ R, Hid (deL s 64 N = R) := ⟨_, rfl⟩
  obtain ⟨B, HB⟩ : ∃ B, Hid (w.heap.size = B) := ⟨_, rfl⟩
  obtain ⟨i0, hi, hz0, hz1, hz2⟩ := info3'
  rw [HR.out, HB.out]
  rw [HB.out] at hbl
  clear h hN hs
  go_enter Tryz.func67, Tryz.ntmps67
  go_wp2
  go_loopw [3, 4] (fun v x wr => ∃ (j : Nat) (q : List Int), j ≤ N ∧ q.length ≤ 4113 ∧ q ++ deL s (64 + 32 * j) (N - j) = R ∧ OI B wr v q ∧ Rd 143 wr b s (some (64 + 32 * j)) ∧ Apart (· = b) w wr ∧ slen v = q.length) (fun v _ _ => 5000 - slen v)
  case atStart => exact ⟨0, [], Nat.zero_le _, Nat.zero_le _, HR.out, OI.nil _ _, H.out, Apart.refl _ _, rfl⟩
  case round =>
    obtain ⟨j, q, hj, hq, hqr, ho, hrd, ha, hsl⟩ := hrel
    obtain ⟨ad, cp, rfl⟩ := ownsRow_slice ho
    have HQ := mkHid hq
    have HQR := mkHid hqr
    have HO := mkHid ho
    have HRD := mkHid hrd
    have HA := mkHid ha
    obtain ⟨n, HNN⟩ : ∃ n, Hid (q.length = n) := ⟨_, rfl⟩
    rw [HNN.out] at hq ⊢
    have HO' := mkHid (show wr.ownsRow B 3 1 (.slice ad n cp) n (IC q) by have := ho; unfold OI at this; rw [HNN.out] at this; exact this)
    have n1 : (n : Int) ≤ 9223372036854775807 := by omega
    have hbs : B ≤ wr.heap.size := by rw [← HB.out]; exact ha.size
    clear hqr ho hrd ha hsl H hq
    obtain ⟨L, HL⟩ : ∃ L : Int, Hid (8 * (s.size : Int) - (64 + 32 * j : Nat) = L) := ⟨_, rfl⟩
    have LF := mkHid (left_at b s (by have := HS.out; omega) (64 + 32 * j) wr HRD.out L HL.out)
    by_cases hjN : j = N
    · have hL0 : L = 0 := by have := HL.out; have := HN.out; omega
      rw [hL0] at LF
      clear hL0
      have HQE := mkHid (show q = R by have := HQR.out; rw [hjN, Nat.sub_self, deL, List.append_nil] at this; exact this)
      go_wp2_with fail
      refine (LF.out).mono ?_
      rintro e w1 ⟨rfl, nd, rfl⟩
      go_wp2
      go_ret
      exact ⟨⟨_, q, rfl, by rw [← HNN.out]; exact OI.drewN HO.out nd, .inl HQE.out⟩, HA.out.drewN nd⟩
    · have hL0 : (0 : Int) < L := by have := HL.out; have := HN.out; omega
      by_cases hn : (n : Int) ≤ 4096
      · have HNJ := mkHid (show N - j = (N - (j + 1)) + 1 by omega)
        have HP := mkHid (show 64 + 32 * j + 32 ≤ 8 * s.size by have := HN.out; omega)
        have HQ2 := mkHid (show n ≤ 4096 by omega)
        obtain ⟨p, HPP⟩ : ∃ p, Hid (64 + 32 * j = p) := ⟨_, rfl⟩
        rw [HPP.out] at HRD HP
        obtain ⟨x, HX⟩ : ∃ x, Hid (gv s p 16 = x) := ⟨_, rfl⟩
        obtain ⟨M, HM⟩ : ∃ M, Hid (gv s (p + 16) 16 = M) := ⟨_, rfl⟩
        have hx := gv_lt s p 16
        have hM := gv_lt s (p + 16) 16
        rw [HX.out] at hx
        rw [HM.out] at hM
        have HXL := mkHid (show x < 65536 from hx)
        have HML := mkHid (show M < 65536 from hM)
        have hxi : ((x : Nat) : Int) ≤ 65535 := by omega
        have hx0 : (0 : Int) ≤ x := by omega
        have HQN := mkHid (show (q ++ [(x : Int)] ++ tl (x : Int) M 0 16) ++ deL s (64 + 32 * (j + 1)) (N - (j + 1)) = R by
          have := HQR.out
          rw [HNJ.out, deL, HPP.out, HX.out, HM.out] at this
          rw [show 64 + 32 * (j + 1) = p + 32 by have := HPP.out; omega]
          simpa [List.append_assoc] using this)
        clear hx hM HQR
        go_wp2_with fail
        refine (LF.out).mono ?_
        rintro e w1 ⟨rfl, nd, rfl⟩
        have G1 := mkHid (get_fit b s (by have := HS.out; omega) p 16 16 rfl (by omega) (by have := HP.out; omega) (wr.drewN nd) (drew_rd nd HRD.out))
        rw [HX.out] at G1
        go_wp2_with fail
        refine (G1.out).mono ?_
        rintro e w2 ⟨rfl, r2, a2⟩
        have R2 := mkHid r2
        have A2 := mkHid ((HA.out.drewN nd).trans a2 (fun _ _ h => h))
        have hbs2 : B ≤ w2.heap.size := Nat.le_trans hbs a2.size
        have O2 := mkHid (show w2.ownsRow B 3 1 (.slice ad n cp) n (IC q) from ownsRow_apart (w := wr.drewN nd) (X := (· = b)) HO'.out a2 (fun k hk e => by omega))
        clear r2 a2 G1 LF HO' HO HRD HA
        go_upto_region 5 with (at_builtin; refine wpList_append_own2 _ rfl (.tmp 16) (.tmp 18) 24 rfl B 3 i0 (.int .i64 0) 1 8 Tryz.underlying24 hi hz0 hz1 hz2 rfl (by decide) (.slice ad n cp) n (IC q) rfl (O2.out.alloc _) ⟨w2.heap.size, 0, none⟩ 1 1 [.int .i64 (x : Int)] rfl rfl (cell_one_new _ _ _) (by intro u hu; simp at hu; subst hu; rfl) (by unfold maxLen; have := HQ2.out; omega) (by have := HQ2.out; omega) (by simp; omega) ?_; intro v4 w4 hown4 hgrow4 _; have OW4 := mkHid hown4; have GR4 := mkHid hgrow4; clear hown4 hgrow4)
        have B4 := mkHid (own_below (v := .slice ad n cp) (l := q) (by unfold OI; rw [HNN.out]; exact O2.out) hbs2 GR4.out)
        have O4 := mkHid (OI.grown OW4.out HNN.out.symm)
        have R4 := mkHid (R2.out.kept (X := (B ≤ ·)) ⟨B4.out.os, B4.out.tape, B4.out.output, B4.out.size, fun k _ hx => B4.out.block k (by omega)⟩ (by omega))
        have G5 := mkHid (get_fit b s (by have := HS.out; omega) (p + 16) 16 16 rfl (by omega) (by have := HP.out; omega) w4 R4.out)
        rw [HM.out] at G5
        have A4 := mkHid (A2.out.trans (Y := (B ≤ ·)) ⟨B4.out.os, B4.out.tape, B4.out.output, B4.out.size, fun k _ hx => B4.out.block k (by omega)⟩ (fun i hi e => by rw [HB.out] at hi; omega))
        have hbs4 : B ≤ w4.heap.size := Nat.le_trans hbs2 B4.out.size
        clear OW4 GR4 O2 R2 A2 B4
        go_wp2_with fail
        refine (G5.out).mono ?_
        rintro e w5 ⟨rfl, r5, a5⟩
        have R5 := mkHid r5
        have A5 := mkHid (A4.out.trans a5 (fun _ _ h => h))
        have hbs5 : B ≤ w5.heap.size := Nat.le_trans hbs4 a5.size
        have O5 := mkHid (show OI B w5 v4 (q ++ [(x : Int)]) from ownsRow_apart O4.out a5 (fun k hk e => by omega))
        have AM := mkHid (appmask_any B v4 (q ++ [(x : Int)]) x M hx0 (by have := HXL.out; omega) HML.out (by rw [List.length_append, HNN.out]; simp; have := HQ2.out; omega) w5 hbs5 O5.out)
        clear r5 a5 G5 R4 A4 O4
        go_wp2_with fail
        refine (AM.out).mono ?_
        obtain ⟨q6, HQ6⟩ : ∃ q6, Hid (q ++ [(x : Int)] ++ tl (x : Int) M 0 16 = q6) := ⟨_, rfl⟩
        have HT4 := mkHid (tl_len (x : Int) M 16 0)
        have HQ6L := mkHid (show q6.length = n + 1 + (tl (x : Int) M 0 16).length by rw [← HQ6.out, List.length_append, List.length_append, HNN.out]; simp)
        rw [HQ6.out]
        rw [HQ6.out] at HQN
        rintro e w6 ⟨⟨v6, rfl, o6⟩, b6⟩
        have O6 := mkHid o6
        have X6 := mkHid (show Apart (B ≤ ·) w5 w6 from ⟨b6.os, b6.tape, b6.output, b6.size, fun k _ hx => b6.block k (by omega)⟩)
        have R6 := mkHid (R5.out.kept X6.out (by omega))
        have A6 := mkHid (A5.out.trans X6.out (fun i hi e => by rw [HB.out] at hi; omega))
        obtain ⟨ad6, cp6, hv6⟩ := ownsRow_slice o6
        obtain ⟨m6, HM6⟩ : ∃ m6, Hid (q6.length = m6) := ⟨_, rfl⟩
        rw [HM6.out] at hv6
        subst hv6
        clear o6 b6 AM R5 A5 O5
        go_wp2
        go_roundw
        case rel =>
          refine ⟨j + 1, q6, by omega, ?_, HQN.out, O6.out, ?_, A6.out, HM6.out.symm⟩
          · have := HQ6L.out; have := HT4.out; have := HQ2.out; omega
          · rw [show 64 + 32 * (j + 1) = p + 16 + 16 by have := HPP.out; omega]; exact R6.out
        case measure =>
          show 5000 - m6 < 5000 - n
          have := HQ6L.out; have := HQ2.out; have := HM6.out; omega
      · have HQL := mkHid (show 4096 < q.length by rw [HNN.out]; omega)
        have HRL := mkHid (show 4096 < R.length by have h1 := congrArg List.length HQR.out; simp at h1; have := HQL.out; omega)
        have hn' : ¬ (n : Int) ≤ 4096 := hn
        go_wp2_with fail
        refine (LF.out).mono ?_
        rintro e w1 ⟨rfl, nd, rfl⟩
        go_wp2
        go_ret
        exact ⟨⟨_, q, rfl, by rw [← HNN.out]; exact OI.drewN HO.out nd, .inr ⟨HQL.out, HRL.out⟩⟩, HA.out.drewN nd⟩
end Go.Proofs.YtdhbakknplnnkaaGreat.Nk
namespace Go.Proofs.YtdhbakknplnnkaaGreat.Nk
open Go.RowKit

/-- A list in block bx. -/
def Td (w : World) (bx : Nat) (v0 v1 v2 : Value) : Prop := w.heap[bx]? = some (.cells #[v0, v1, v2] 78 (0, 0))
section
variable {w w' : World} {bx : Nat} {v0 v1 v2 : Value}
theorem Td.kept {X : Nat → Prop} (h : Td w bx v0 v1 v2) (ha : Apart X w w') (hx : ¬ X bx) : Td w' bx v0 v1 v2 := ha.heap h hx
theorem Td.c (h : Td w bx v0 v1 v2) : w.cell? ⟨bx, 0, none⟩ = some v0 ∧ w.cell? ⟨bx, 1, none⟩ = some v1 ∧ w.cell? ⟨bx, 2, none⟩ = some v2 := ⟨(cells3 h).1, (cells3 h).2.1, (cells3 h).2.2.1⟩
theorem Td.f (h : Td w bx v0 v1 v2) : w.frozen? ⟨bx, 0, none⟩ = false ∧ w.frozen? ⟨bx, 1, none⟩ = false ∧ w.frozen? ⟨bx, 2, none⟩ = false := (cells3 h).2.2.2
theorem Td.set0 (h : Td w bx v0 v1 v2) (x : Value) : Td (w.setCell ⟨bx, 0, none⟩ x) bx x v1 v2 := by unfold Td; rw [heap_setCell_same _ bx 0 _ 78 _ h]; rfl
theorem Td.set1 (h : Td w bx v0 v1 v2) (x : Value) : Td (w.setCell ⟨bx, 1, none⟩ x) bx v0 x v2 := by unfold Td; rw [heap_setCell_same _ bx 1 _ 78 _ h]; rfl
theorem Td.set2 (h : Td w bx v0 v1 v2) (x : Value) : Td (w.setCell ⟨bx, 2, none⟩ x) bx v0 v1 x := by unfold Td; rw [heap_setCell_same _ bx 2 _ 78 _ h]; rfl
theorem Td.box (w : World) (v0 v1 v2 : Value) : Td (w.alloc (.cells #[v0, v1, v2] 78)) w.heap.size v0 v1 v2 := heap_alloc_new _ _
end
def put3 (w : World) (bx : Nat) (v0 v1 v2 : Value) : World := ((w.setCell ⟨bx, 0, none⟩ v0).setCell ⟨bx, 1, none⟩ v1).setCell ⟨bx, 2, none⟩ v2
theorem put3_is {w : World} {bx : Nat} {u0 u1 u2 : Value} (h : Td w bx u0 u1 u2) (v0 v1 v2 : Value) : Td (put3 w bx v0 v1 v2) bx v0 v1 v2 := ((h.set0 v0).set1 v1).set2 v2
theorem put3_ap (w : World) (bx : Nat) (v0 v1 v2 : Value) : Apart (· = bx) w (put3 w bx v0 v1 v2) :=
  ((ap_set w bx 0 v0).trans (ap_set _ bx 1 v1) (fun _ _ h => h)).trans (ap_set _ bx 2 v2) (fun _ _ h => h)
/-- A list as a value, of any numbers. -/
def tv (sd md : Int) (v2 : Value) : Value := .agg #[.int .u32 sd, .int .u32 md, v2]
theorem res13 {W : World} {bx : Nat} {sd md : Int} {a : Option Addr} {n c : Nat} (tmps : Array Value) (h2 : tmps.getD 2 undef = .pointer (some ⟨bx, 0, none⟩)) (hd : Td W bx (.int .u32 sd) (.int .u32 md) (.slice a n c)) :
    (results Tryz.f41 tmps).run Tryz.prog W = .ok (.tuple #[tv sd md (.slice a n c), tmps.getD 3 undef]) W := by
  obtain ⟨c0, c1, c2⟩ := hd.c
  clear hd
  have h2' : tmps[2]?.getD undef = .pointer (some ⟨bx, 0, none⟩) := by rw [← h2]; simp
  unfold tv
  simp [results, Tryz.results41, h2', c0, c1, c2, go_sem]
def DecPost (s : ByteArray) (w : World) (e : Ending) (w' : World) : Prop :=
  (∃ a c, e = .returned (.tuple #[nv (decR s) a (decR s).lo.length c, .int .i64 (decE s)]) ∧ IA w'.heap.size w' a c (decR s).lo) ∧ Below w.heap.size w w'
/-- Where Decode stands: its reader in b, what it makes in nb, its result in q. -/
structure Sw (w wr : World) (q nb b : Nat) (s : ByteArray) (p : Nat) (v0 v1 v2 : Value) : Prop where
  rd : Rd 143 wr b s (some p)
  r : Td wr q (.int .u32 0) (.int .u32 0) (.slice none 0 0)
  t : Td wr nb v0 v1 v2
  a : Apart (fun _ => False) w wr
  z : w.heap.size ≤ q ∧ q < nb ∧ nb < b
section
variable {w wr w2 : World} {q nb b p p2 : Nat} {s : ByteArray} {v0 v1 v2 : Value}
theorem Sw.get (h : Sw w wr q nb b s p v0 v1 v2) (a : Apart (· = b) wr w2) (r : Rd 143 w2 b s (some p2)) : Sw w w2 q nb b s p2 v0 v1 v2 :=
  ⟨r, h.r.kept a (by have := h.z; omega), h.t.kept a (by have := h.z; omega), h.a.trans a (fun i hi e => by have := h.z; omega), h.z⟩
theorem Sw.put (h : Sw w wr q nb b s p v0 v1 v2) {u0 u1 u2 : Value} (a : Apart (· = nb) wr w2) (t : Td w2 nb u0 u1 u2) : Sw w w2 q nb b s p u0 u1 u2 :=
  ⟨h.rd.kept a (by have := h.z; omega), h.r.kept a (by have := h.z; omega), t, h.a.trans a (fun i hi e => by have := h.z; omega), h.z⟩
end
/-- What is left of Sw where the reader isn't wanted any more. -/
structure Bw (w wr : World) (q : Nat) : Prop where
  r : Td wr q (.int .u32 0) (.int .u32 0) (.slice none 0 0)
  a : Apart (fun _ => False) w wr
  z : w.heap.size ≤ q
theorem dec_none {s : ByteArray} {w w' : World} {e : Ending} (h0 : ¬ decE s = 0) (he : e = .returned (.tuple #[tv 0 0 (.slice none 0 0), .int .i64 (decE s)])) (hb : Below w.heap.size w w') : DecPost s w e w' := by
  have hr : decR s = ⟨0, 0, []⟩ := by unfold decR; rw [if_neg h0]
  refine ⟨⟨none, 0, ?_, ?_⟩, hb⟩
  · rw [hr, he]; rfl
  · rw [hr]; exact IA.nil _ _ _ _ (Nat.zero_le _)
/-- The end where something is wrong. -/
theorem Bw.no {w wr : World} {q : Nat} {s : ByteArray} (h : Bw w wr q) {E : Int} (hE : decE s = E) (h0 : ¬ E = 0) (tmps : Array Value) (h2 : tmps.getD 2 undef = .pointer (some ⟨q, 0, none⟩)) (h3 : tmps.getD 3 undef = .int .i64 E) (d : List Deferred) (hd : d = []) :
    bodyPost Tryz.prog Tryz.f41 (DecPost s w) Exit.ret { tmps := tmps, defers := d } (put3 wr q (.int .u32 0) (.int .u32 0) (.slice none 0 0)) := by
  subst hd
  refine bodyPost_ret (res13 _ h2 (put3_is h.r _ _ _)) rfl (dec_none (by rw [hE]; exact h0) (by rw [hE, h3]) ?_)
  exact (h.a.trans (put3_ap wr q _ _ _) (fun i hi e => by have := h.z; omega)).belowZ
theorem lenE_zero {n : Nat} (h : lenE n = 0) : n ≤ 65536 ∧ n % 4 = 0 ∧ 12 ≤ n := by
  unfold lenE at h
  split at h
  · omega
  · split at h
    · omega
    · split at h <;> omega
theorem decE_len {s : ByteArray} (h : ¬ lenE s.size = 0) : decE s = lenE s.size := by
  unfold decE
  unfold lenE at h ⊢
  split
  · rfl
  · split
    · rfl
    · split
      · rfl
      · rename_i h1 h2 h3
        rw [if_neg h1, if_neg h2, if_neg h3] at h
        exact (h rfl).elim
theorem decE_fit {s : ByteArray} (h : lenE s.size = 0) : decE s = if 4096 < (lost s).length then 3 else if isL (lost s) = true then 0 else 110 := by
  obtain ⟨h1, h2, h3⟩ := lenE_zero h
  unfold decE
  rw [if_neg (by omega), if_neg (by omega), if_neg (by omega)]
set_option maxRecDepth 100000 in
set_option maxHeartbeats 2000000 in
theorem dec_any (s : ByteArray) (hs : (s.size : Int) ≤ 9223372036854775807) (w : World) : Calls Tryz.prog 41 #[.string s] w (DecPost s w) := by
  have N0 := mkHid (Td.box w (.int .u32 0) (.int .u32 0) (.slice none 0 0))
  have A0 := mkHid ((Apart.refl (fun _ => False) w).alloc (.cells #[.int .u32 0, .int .u32 0, .slice none 0 0] 78))
  have Z0 := mkHid (show (w.alloc (.cells #[.int .u32 0, .int .u32 0, .slice none 0 0] 78)).heap.size = w.heap.size + 1 by simp)
  obtain ⟨q, HQ⟩ : ∃ q, Hid (w.heap.size = q) := ⟨_, rfl⟩
  obtain ⟨W, HW⟩ : ∃ W, Hid (w.alloc (.cells #[.int .u32 0, .int .u32 0, .slice none 0 0] 78) = W) := ⟨_, rfl⟩
  rw [HQ.out, HW.out] at N0 Z0
  rw [HW.out] at A0
  have LE := mkHid (lenerr_any s.size hs)
  obtain ⟨E, HE⟩ : ∃ E, Hid (lenE s.size = E) := ⟨_, rfl⟩
  rw [HE.out] at LE
  have BW0 := mkHid (show Bw w W q from ⟨N0.out, A0.out, by rw [HQ.out]; exact Nat.le_refl _⟩)
  by_cases hE : E = 0
  · subst hE
    have HEL := mkHid (lenE_zero HE.out)
    have HDE := mkHid (decE_fit HE.out)
    go_enter Tryz.func41, Tryz.ntmps41
    go_wp2_with fail
    rw [HW.out, HQ.out]
    refine (LE.out _).mono ?_
    rintro e w1 ⟨rfl, rfl⟩
    have N1 := mkHid (Td.box w1 (.int .u32 0) (.int .u32 0) (.slice none 0 0))
    have P1 := mkHid ((Apart.refl (fun _ => False) w1).alloc (.cells #[.int .u32 0, .int .u32 0, .slice none 0 0] 78))
    have Z1 := mkHid (show (w1.alloc (.cells #[.int .u32 0, .int .u32 0, .slice none 0 0] 78)).heap.size = w1.heap.size + 1 by simp)
    obtain ⟨nb, HNB⟩ : ∃ nb, Hid (w1.heap.size = nb) := ⟨_, rfl⟩
    obtain ⟨W1, HW1⟩ : ∃ W1, Hid (w1.alloc (.cells #[.int .u32 0, .int .u32 0, .slice none 0 0] 78) = W1) := ⟨_, rfl⟩
    rw [HNB.out, HW1.out] at N1 Z1
    rw [HW1.out] at P1
    have M1 := mkHid (N0.out.kept P1.out (fun h => h))
    have A1 := mkHid (A0.out.zz P1.out)
    have HQN := mkHid (show q < nb by have := Z0.out; have := HNB.out; omega)
    clear N0 A0 P1 BW0 LE
    go_wp2_with fail
    rw [HW1.out, HNB.out]
    refine (read_any s _).mono ?_
    rw [Z1.out]
    rintro e w2 ⟨rfl, r2, a2, z2⟩
    obtain ⟨b, HBB⟩ : ∃ b, Hid (nb + 1 = b) := ⟨_, rfl⟩
    rw [HBB.out] at r2 ⊢
    have S2 := mkHid (show Sw w w2 q nb b s 0 (.int .u32 0) (.int .u32 0) (.slice none 0 0) from ⟨r2, M1.out.kept a2 (fun h => h), N1.out.kept a2 (fun h => h), A1.out.zz a2, by rw [HQ.out]; exact Nat.le_refl _, HQN.out, by have := HBB.out; omega⟩)
    clear r2 a2 z2 M1 N1 A1
    obtain ⟨sd, HSD⟩ : ∃ x : Int, Hid ((gv s 0 32 : Int) = x) := ⟨_, rfl⟩
    obtain ⟨md, HMD⟩ : ∃ x : Int, Hid ((gv s 32 32 : Int) = x) := ⟨_, rfl⟩
    have G1 := mkHid (get_fit b s (by have := HEL.out; omega) 0 32 32 rfl (by omega) (by have := HEL.out; omega) w2 S2.out.rd)
    rw [HSD.out] at G1
    go_wp2_with fail
    refine (G1.out).mono ?_
    rintro e w3 ⟨rfl, r3, a3⟩
    have S3 := mkHid (S2.out.get a3 r3)
    have S4 := mkHid (S3.out.put (ap_set w3 nb 0 (.int .u32 sd)) (S3.out.t.set0 (.int .u32 sd)))
    obtain ⟨c0, c1, c2⟩ := S3.out.t.c
    obtain ⟨f0, f1, f2⟩ := S3.out.t.f
    clear r3 a3 G1 S2 S3
    have G2 := mkHid (get_fit b s (by have := HEL.out; omega) 32 32 32 rfl (by omega) (by have := HEL.out; omega) _ S4.out.rd)
    rw [HMD.out] at G2
    go_wp2_with fail
    refine (G2.out).mono ?_
    rintro e w5 ⟨rfl, r5, a5⟩
    have S5 := mkHid (S4.out.get a5 r5)
    have S6 := mkHid (S5.out.put (ap_set w5 nb 1 (.int .u32 md)) (S5.out.t.set1 (.int .u32 md)))
    clear c0 c1 c2 f0 f1 f2
    obtain ⟨c0, c1, c2⟩ := S5.out.t.c
    obtain ⟨f0, f1, f2⟩ := S5.out.t.f
    clear r5 a5 G2 S4 S5
    have HZB := mkHid (S6.out.rd.heap)
    have GL := mkHid (getlost_any b s HEL.out.1 (s.size / 4 - 2) (by have := HEL.out; omega) _ S6.out.rd)
    have HLO := mkHid (show deL s 64 (s.size / 4 - 2) = lost s from rfl)
    rw [HLO.out] at GL
    go_wp2_with fail
    refine (GL.out).mono ?_
    obtain ⟨BB, HBBB⟩ : ∃ BB, Hid ((w5.setCell ⟨nb, 1, none⟩ (.int .u32 md)).heap.size = BB) := ⟨_, rfl⟩
    rw [HBBB.out] at HZB ⊢
    rintro e w7 ⟨⟨v7, l7, rfl, o7, hl7⟩, a7⟩
    obtain ⟨ad, cp, rfl⟩ := ownsRow_slice o7
    obtain ⟨n, HN⟩ : ∃ n, Hid (l7.length = n) := ⟨_, rfl⟩
    obtain ⟨F, HF⟩ : ∃ F : Int, Hid ((if 4096 < l7.length then (3 : Int) else if isL l7 = true then 0 else 110) = F) := ⟨_, rfl⟩
    have HDF := mkHid (show decE s = F by
      rw [HDE.out, ← HF.out]
      rcases hl7 with rfl | ⟨h1, h2⟩
      · rfl
      · rw [if_pos h1, if_pos h2])
    have HDR := mkHid (show F = 0 → decR s = ⟨sd, md, l7⟩ by
      intro h0
      unfold decR
      rw [if_pos (by rw [HDF.out]; exact h0), HSD.out, HMD.out]
      rcases hl7 with rfl | ⟨h1, h2⟩
      · rfl
      · have := HF.out; rw [if_pos h1] at this; omega)
    have hz6 := S6.out.z
    have T7 := S6.out.t.kept a7 (by omega)
    have R7 := S6.out.r.kept a7 (by omega)
    have A7 := S6.out.a.trans a7 (fun i hi e => by omega)
    have O8 := mkHid (show OI BB (w7.setCell ⟨nb, 2, none⟩ (.slice ad l7.length cp)) (.slice ad l7.length cp) l7 from ownsRow_apart o7 (ap_set w7 nb 2 _) (fun k hk e => by have := HZB.out; omega))
    have T8 := mkHid (T7.set2 (.slice ad l7.length cp))
    have R8 := mkHid (R7.kept (ap_set w7 nb 2 (.slice ad l7.length cp)) (by omega))
    have A8 := mkHid (A7.trans (ap_set w7 nb 2 (.slice ad l7.length cp)) (fun i hi e => by omega))
    obtain ⟨ad', cp', hv8, I8'⟩ := own_ia O8.out
    simp only [Value.slice.injEq] at hv8
    obtain ⟨rfl, -, rfl⟩ := hv8
    have I8 := mkHid I8'
    have HBB2 := mkHid (show nb < BB by have := HZB.out; omega)
    have HQZ := mkHid (show w.heap.size ≤ q ∧ q < nb from ⟨hz6.1, hz6.2.1⟩)
    have LO := mkHid (losterr_any _ _ ad cp l7 I8.out)
    rw [HF.out] at LO
    clear c0 c1 c2 f0 f1 f2
    obtain ⟨c0, c1, c2⟩ := T7.c
    obtain ⟨f0, f1, f2⟩ := T7.f
    clear hl7 o7 a7 hz6 T7 R7 A7 I8' GL S6
    rw [HN.out] at O8 T8 R8 A8 I8 LO ⊢
    go_wp2_with fail
    refine (LO.out).mono ?_
    rintro e w8 ⟨rfl, hw8⟩
    have HW8 := mkHid hw8.symm
    clear hw8
    rw [HW8.out] at O8 T8 R8 A8 I8
    clear c0 c1 c2 f0 f1 f2 LO
    by_cases hF : F = 0
    · subst hF
      have DR := mkHid (HDR.out rfl)
      obtain ⟨c0, c1, c2⟩ := T8.out.c
      obtain ⟨f0, f1, f2⟩ := R8.out.f
      obtain ⟨b0, b1, b2⟩ := R8.out.c
      go_wp2
      have dd := put3_is R8.out (.int .u32 sd) (.int .u32 md) (.slice ad n cp)
      have ap := put3_ap w8 q (.int .u32 sd) (.int .u32 md) (.slice ad n cp)
      have o10 := ownsRow_apart O8.out ap (by intro k hk e; have := HBB2.out; have := HQZ.out; omega)
      obtain ⟨_, _, hv1, ia1⟩ := own_ia o10
      simp only [Value.slice.injEq] at hv1
      obtain ⟨rfl, _, rfl⟩ := hv1
      refine bodyPost_ret (res13 _ rfl dd) rfl ⟨⟨ad, cp, ?_, by rw [DR.out]; exact ia1⟩, ?_⟩
      · rw [DR.out, HDF.out]
        simp only
        rw [HN.out]
        rfl
      · exact (A8.out.trans ap (fun i hi e => by have := HQZ.out; omega)).belowZ
    · have BW := mkHid (show Bw w w8 q from ⟨R8.out, A8.out, HQZ.out.1⟩)
      obtain ⟨f0, f1, f2⟩ := BW.out.r.f
      obtain ⟨b0, b1, b2⟩ := BW.out.r.c
      go_wp2
      exact BW.out.no HDF.out hF _ rfl rfl _ rfl
  · have HDE := mkHid (show decE s = E by rw [decE_len (by rw [HE.out]; exact hE), HE.out])
    obtain ⟨f0, f1, f2⟩ := BW0.out.r.f
    obtain ⟨b0, b1, b2⟩ := BW0.out.r.c
    go_enter Tryz.func41, Tryz.ntmps41
    go_wp2_with fail
    rw [HW.out, HQ.out]
    refine (LE.out _).mono ?_
    rintro e w1 ⟨rfl, rfl⟩
    go_wp2
    exact BW0.out.no HDE.out hE _ rfl rfl _ rfl
end Go.Proofs.YtdhbakknplnnkaaGreat.Nk
namespace Go.Proofs.YtdhbakknplnnkaaGreat.Nk
open Go.RowKit

/-- The world ahead of the append. -/
def cw0 (w : World) (v0 v1 v2 : Value) : World := (w.alloc (.cells #[v0, v1, v2] 78)).alloc (.cells #[.int .u32 0, .int .u32 0, .slice none 0 0] 78)
theorem cw0_is (w : World) (v0 v1 v2 : Value) : (cw0 w v0 v1 v2).heap.size = w.heap.size + 1 + 1 ∧ Td (cw0 w v0 v1 v2) w.heap.size v0 v1 v2 ∧ Td (cw0 w v0 v1 v2) (w.heap.size + 1) (.int .u32 0) (.int .u32 0) (.slice none 0 0) ∧ Apart (fun _ => False) w (cw0 w v0 v1 v2) := by
  refine ⟨by simp [cw0], ?_, ?_, ((Apart.refl _ _).alloc _).alloc _⟩
  · exact Td.kept (w := w.alloc _) (X := fun _ => False) (heap_alloc_new _ _) ((Apart.refl _ _).alloc _) (fun h => h)
  · have := heap_alloc_new (w.alloc (.cells #[v0, v1, v2] 78)) (.cells #[.int .u32 0, .int .u32 0, .slice none 0 0] 78)
    rw [World.size_alloc] at this
    exact this
set_option maxRecDepth 100000 in
set_option maxHeartbeats 400000 in
theorem ints_self (B : Nat) (a : Option Addr) (c : Nat) (a' : Option Addr) (c' : Nat) (l : List Int) (w : World) (hB : B ≤ w.heap.size) (h : IA B w a c l) (h' : IA B w a' c' l) :
    Calls Tryz.prog 11 #[.slice a l.length c, .slice a' l.length c'] w fun e w' => e = .returned (.bool true) ∧ Apart (fun _ => False) w w' := by
  have H := mkHid h
  have H' := mkHid h'
  have m1 := h.len
  obtain ⟨n, HN⟩ : ∃ n, Hid (l.length = n) := ⟨_, rfl⟩
  rw [HN.out] at m1 ⊢
  clear h h'
  go_enter Tryz.func11, Tryz.ntmps11
  go_wp2
  go_loopw [5] (fun i wr => ∃ k : Nat, k ≤ n ∧ i = .int .i64 (k : Int) ∧ Apart (fun _ => False) w wr) (fun i _ => n - (intOf i).toNat)
  case atStart => exact ⟨0, Nat.zero_le _, rfl, Apart.refl _ _⟩
  case round =>
    obtain ⟨k, hk, rfl, hap⟩ := hrel
    have HAP := mkHid hap
    clear hap
    by_cases hlt : k < n
    · obtain ⟨b, off, x, rfl, _, hx, c0⟩ := (H.out.kept (HAP.out.belowF B hB)).at k (by rw [HN.out]; exact hlt)
      obtain ⟨b', off', x', rfl, _, hx', c1⟩ := (H'.out.kept (HAP.out.belowF B hB)).at k (by rw [HN.out]; exact hlt)
      obtain rfl : x = x' := by rw [hx] at hx'; exact Option.some.inj hx'
      have k0 : (0 : Int) ≤ k := by omega
      have k1 : (k : Int) < n := by omega
      clear hx hx'
      go_wp2_with fail
      go_quiet (fail)
      go_wp2
      go_roundw
      case rel => exact ⟨k + 1, by omega, by go_num, HAP.out.drewN _⟩
      case measure => simp [intOf]; omega
    · obtain rfl : k = n := by omega
      go_wp2
      go_ret
      exact ⟨rfl, HAP.out⟩
end Go.Proofs.YtdhbakknplnnkaaGreat.Nk
