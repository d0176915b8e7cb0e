/-
  A report in memory: where its lists lie; whether it may be.
-/
import Derived.Test.YtcbehpocnnkkeaaTwA
import Derived.Test.YtcbehpocnnkkeaaTwP
namespace Go.Proofs.Ytcbehpocnnkkeaa
open Go.RowKit

/-- A list of numbers, in a block below B. -/
def IA (B : Nat) (w : World) (a : Option Addr) (c : Nat) (l : List Int) : Prop :=
  l.length ≤ c ∧ c ≤ maxLen ∧ (l = [] ∨ ∃ b off, a = some ⟨b, off, none⟩ ∧ b < B ∧ ∀ i x, l[i]? = some x → w.cell? ⟨b, off + i, none⟩ = some (.int .i64 x))
theorem IA.kept {B : Nat} {w w' : World} {a : Option Addr} {c : Nat} {l : List Int} (h : IA B w a c l) (hb : Below B w w') : IA B w' a c l := by
  refine ⟨h.1, h.2.1, ?_⟩
  rcases h.2.2 with h0 | ⟨b, off, ha, hl, hc⟩
  · exact .inl h0
  · exact .inr ⟨b, off, ha, hl, fun i x hi => by rw [hb.cell (p := ⟨b, off + i, none⟩) hl]; exact hc i x hi⟩
theorem IA.up {B B' : Nat} {w : World} {a : Option Addr} {c : Nat} {l : List Int} (h : IA B w a c l) (hb : B ≤ B') : IA B' w a c l := by
  refine ⟨h.1, h.2.1, ?_⟩
  rcases h.2.2 with h0 | ⟨b, off, ha, hl, hc⟩
  · exact .inl h0
  · exact .inr ⟨b, off, ha, by omega, hc⟩
theorem IA.on {w w' : World} {a : Option Addr} {c : Nat} {l : List Int} (h : IA w.heap.size w a c l) (hb : Below w.heap.size w w') : IA w'.heap.size w' a c l := (h.kept hb).up hb.size
theorem IA.at {B : Nat} {w : World} {a : Option Addr} {c : Nat} {l : List Int} (h : IA B w a c l) (i : Nat) (hi : i < l.length) : ∃ b off x, a = some ⟨b, off, none⟩ ∧ b < B ∧ l[i]? = some x ∧ w.cell? ⟨b, off + i, none⟩ = some (.int .i64 x) := by
  rcases h.2.2 with h0 | ⟨b, off, ha, hl, hc⟩
  · subst h0; simp at hi
  · exact ⟨b, off, l[i], ha, hl, List.getElem?_eq_getElem hi, hc i _ (List.getElem?_eq_getElem hi)⟩
theorem IA.drop {B : Nat} {w : World} {b off c : Nat} {l : List Int} (h : IA B w (some ⟨b, off, none⟩) c l) (k : Nat) (hk : k ≤ c) : IA B w (some ⟨b, off + k, none⟩) (c - k) (l.drop k) := by
  refine ⟨by have := h.1; simp; omega, by have := h.2.1; omega, ?_⟩
  rcases h.2.2 with h0 | ⟨b', off', ha, hl, hc⟩
  · left; subst h0; simp
  · simp only [Option.some.injEq, Addr.mk.injEq, and_true] at ha
    obtain ⟨rfl, rfl⟩ := ha
    refine .inr ⟨b, off + k, rfl, hl, fun i x hi => ?_⟩
    rw [List.getElem?_drop] at hi
    rw [Nat.add_assoc]
    exact hc _ x hi
theorem IA.tail {B : Nat} {w : World} {b off c : Nat} {l : List Int} (h : IA B w (some ⟨b, off, none⟩) c l) (k : Nat) (hk : k ≤ c) : IA B w (if c = k then some ⟨b, off, none⟩ else some ⟨b, off + k, none⟩) (c - k) (l.drop k) := by
  split
  · rename_i e
    have h1 := h.1
    rw [List.drop_of_length_le (by omega)]
    exact ⟨Nat.zero_le _, by have := h.2.1; omega, .inl rfl⟩
  · exact h.drop k hk
theorem IA.take {B : Nat} {w : World} {a : Option Addr} {c : Nat} {l : List Int} (h : IA B w a c l) (k : Nat) : IA B w a c (l.take k) := by
  refine ⟨by have := h.1; simp; omega, h.2.1, ?_⟩
  rcases h.2.2 with h0 | ⟨b, off, ha, hl, hc⟩
  · left; subst h0; simp
  · refine .inr ⟨b, off, ha, hl, fun i x hi => hc i x ?_⟩
    rw [List.getElem?_take] at hi
    split at hi
    · exact hi
    · cases hi
theorem IA.nil (B : Nat) (w : World) (a : Option Addr) (c : Nat) (hc : c ≤ maxLen) : IA B w a c [] := ⟨Nat.zero_le _, hc, .inl rfl⟩
theorem IA.len {B : Nat} {w : World} {a : Option Addr} {c : Nat} {l : List Int} (h : IA B w a c l) : (l.length : Int) ≤ 9223372036854775807 := by
  have h1 := h.1
  have h2 := h.2.1
  unfold maxLen at h2
  omega
/-- A report as a value. -/
def rv (r : Rp) (a : Option Addr) (n c : Nat) (a' : Option Addr) (n' c' : Nat) : Value := .agg #[.int .u32 r.sd, .int .u32 r.md, .int .i64 r.fi, .int .i64 r.ba, .int .i64 r.co, .slice a n c, .slice a' n' c']
theorem cells7 {w : World} {b : Nat} {v0 v1 v2 v3 v4 v5 v6 : Value} {T : TypeId} (h : w.heap[b]? = some (.cells #[v0, v1, v2, v3, v4, v5, v6] T (0, 0))) :
    w.cell? ⟨b, 0, none⟩ = some v0 ∧ w.cell? ⟨b, 1, none⟩ = some v1 ∧ w.cell? ⟨b, 2, none⟩ = some v2 ∧ w.cell? ⟨b, 3, none⟩ = some v3 ∧ w.cell? ⟨b, 4, none⟩ = some v4 ∧ w.cell? ⟨b, 5, none⟩ = some v5 ∧ w.cell? ⟨b, 6, none⟩ = some v6 :=
  ⟨cell_of_row w b 0 _ T _ h, cell_of_row w b 1 _ T _ h, cell_of_row w b 2 _ T _ h, cell_of_row w b 3 _ T _ h, cell_of_row w b 4 _ T _ h, cell_of_row w b 5 _ T _ h, cell_of_row w b 6 _ T _ h⟩
theorem frozen7 {w : World} {b : Nat} {v0 v1 v2 v3 v4 v5 v6 : Value} {T : TypeId} (h : w.heap[b]? = some (.cells #[v0, v1, v2, v3, v4, v5, v6] T (0, 0))) :
    w.frozen? ⟨b, 0, none⟩ = false ∧ w.frozen? ⟨b, 1, none⟩ = false ∧ w.frozen? ⟨b, 2, none⟩ = false ∧ w.frozen? ⟨b, 3, none⟩ = false ∧ w.frozen? ⟨b, 4, none⟩ = false ∧ w.frozen? ⟨b, 5, none⟩ = false ∧ w.frozen? ⟨b, 6, none⟩ = false :=
  ⟨frozen_of_row w b 0 _ T h, frozen_of_row w b 1 _ T h, frozen_of_row w b 2 _ T h, frozen_of_row w b 3 _ T h, frozen_of_row w b 4 _ T h, frozen_of_row w b 5 _ T h, frozen_of_row w b 6 _ T h⟩

def wi (n lo hi : Int) : Bool := decide (lo ≤ n) && decide (n ≤ hi)
theorem within_any (n lo hi : Int) (w : World) : Calls Try.prog 30 #[.int .i64 n, .int .i64 lo, .int .i64 hi] w fun e w' => e = .returned (.bool (wi n lo hi)) ∧ w' = w := by
  go_enter Try.func30, Try.ntmps30
  go_wp2
  all_goals go_ret
  all_goals exact ⟨ret_b (by unfold wi; rw [Bool.eq_iff_iff]; simp; omega), rfl⟩
theorem dOk_eq (s d : Int) : dOk s d = if s = 1 then wi d 0 255 else if s = 2 then wi d (-32768) 32767 else false := rfl
theorem isdelta_any (s d : Int) (w : World) : Calls Try.prog 50 #[.int .i64 s, .int .i64 d] w fun e w' => e = .returned (.bool (dOk s d)) ∧ w' = w := by
  rw [dOk_eq]
  obtain ⟨x, HX⟩ : ∃ x, Hid (wi d 0 255 = x) := ⟨_, rfl⟩
  obtain ⟨y, HY⟩ : ∃ y, Hid (wi d (-32768) 32767 = y) := ⟨_, rfl⟩
  have W1 := mkHid (within_any d 0 255)
  have W2 := mkHid (within_any d (-32768) 32767)
  rw [HX.out] at W1 ⊢
  rw [HY.out] at W2 ⊢
  by_cases h1 : s = 1
  · subst h1
    go_enter Try.func50, Try.ntmps50
    go_wp2_with fail
    refine (W1.out _).mono ?_
    rintro e w1 ⟨rfl, rfl⟩
    go_wp2
    go_ret
    exact ⟨rfl, rfl⟩
  · by_cases h2 : s = 2
    · subst h2
      go_enter Try.func50, Try.ntmps50
      go_wp2_with fail
      refine (W2.out _).mono ?_
      rintro e w1 ⟨rfl, rfl⟩
      go_wp2
      go_ret
      exact ⟨rfl, rfl⟩
    · rw [if_neg h1, if_neg h2]
      go_enter Try.func50, Try.ntmps50
      go_wp2
      go_ret
      exact ⟨rfl, rfl⟩
theorem drop_at {l : List Int} {i : Nat} {x : Int} (h : l[i]? = some x) : l.drop i = x :: l.drop (i + 1) := by
  obtain ⟨hi, rfl⟩ := List.getElem?_eq_some_iff.1 h
  exact List.drop_eq_getElem_cons hi
set_option maxRecDepth 100000 in
set_option maxHeartbeats 400000 in
theorem match_any (B : Nat) (w : World) (a : Option Addr) (c : Nat) (st : List Int) (h : IA B w a c st) (a' : Option Addr) (c' : Nat) (dl : List Int) (h' : IA B w a' c' dl) :
    Calls Try.prog 31 #[.slice a st.length c, .slice a' dl.length c'] w fun e w' => e = .returned (.bool (mat st dl)) ∧ w' = w := by
  have H := mkHid h
  have H' := mkHid h'
  have m1 := h.len
  have m2 := h'.len
  obtain ⟨n, HN⟩ : ∃ n, Hid (st.length = n) := ⟨_, rfl⟩
  obtain ⟨m, HM⟩ : ∃ m, Hid (dl.length = m) := ⟨_, rfl⟩
  obtain ⟨r, HR⟩ : ∃ r, Hid (mat st dl = r) := ⟨_, rfl⟩
  rw [HN.out] at m1 ⊢
  rw [HM.out] at m2 ⊢
  rw [HR.out]
  clear h h'
  go_enter Try.func31, Try.ntmps31
  go_wp2
  go_loopw [1, 9] (fun x i wr => wr = w ∧ ∃ (k : Nat) (ad : Option Addr) (cd : Nat) (d : List Int), k ≤ n ∧ i = .int .i64 (k : Int) ∧ x = .slice ad d.length cd ∧ IA B w ad cd d ∧ r = mat (st.drop k) d) (fun _ i _ => n - (intOf i).toNat)
  case atStart => exact ⟨rfl, 0, a', c', dl, Nat.zero_le _, rfl, by rw [HM.out], H'.out, by rw [List.drop_zero, HR.out]⟩
  case round =>
    obtain ⟨rfl, k, ad, cd, d, hk, rfl, rfl, hd, hr⟩ := hrel
    have HD := mkHid hd
    have HRR := mkHid hr
    have m3 := hd.len
    clear hd hr
    by_cases hlt : k < n
    · obtain ⟨b, off, x, rfl, _, hx, c0⟩ := H.out.at k (by rw [HN.out]; exact hlt)
      have HX := mkHid (drop_at hx)
      clear hx
      by_cases h0 : x = 0
      · subst h0
        go_wp2
        go_roundw
        case rel =>
          refine ⟨by trivial, k + 1, ad, cd, d, by omega, by go_num, rfl, HD.out, ?_⟩
          have := HRR.out
          rw [HX.out] at this
          exact this
        case measure => simp [intOf]; omega
      · cases d with
        | nil =>
          obtain rfl : r = false := by
            have := HRR.out
            rw [HX.out, mat, if_neg h0] at this
            exact this
          go_wp2
          go_ret
          exact ⟨rfl, rfl⟩
        | cons y d =>
          obtain ⟨b', off', y', rfl, _, hy, c1⟩ := HD.out.at 0 (by simp)
          simp at hy
          subst hy
          rw [Nat.add_zero] at c1
          have ID := mkHid (isdelta_any x y wr)
          have HMM := mkHid (show r = (dOk x y && mat (st.drop (k + 1)) d) by
            have := HRR.out
            rw [HX.out, mat, if_neg h0] at this
            exact this)
          obtain ⟨q, HQ⟩ : ∃ q, Hid (dOk x y = q) := ⟨_, rfl⟩
          rw [HQ.out] at ID HMM
          have HDD := mkHid (HD.out.tail 1 (by have := HD.out.1; simp at this; omega))
          obtain ⟨z, HZ⟩ : ∃ z, Hid ((y :: d).length = z) := ⟨_, rfl⟩
          rw [HZ.out] at m3 ⊢
          have hz : ¬ (z : Int) = 0 := by have := HZ.out; simp at this; omega
          have hz1 : (1 : Int) ≤ z := by omega
          cases q with
          | false =>
            go_wp2_with fail
            refine (ID.out).mono ?_
            rintro e w1 ⟨rfl, rfl⟩
            go_wp2
            go_ret
            exact ⟨by rw [HMM.out]; rfl, rfl⟩
          | true =>
            go_wp2_with fail
            refine (ID.out).mono ?_
            rintro e w1 ⟨rfl, rfl⟩
            go_wp2
            go_roundw
            case rel =>
              refine ⟨by trivial, k + 1, _, cd - 1, d, by omega, by go_num, ?_, HDD.out, HMM.out⟩
              have := HZ.out
              simp at this
              subst this
              simp
            case measure => simp [intOf]; omega
    · obtain rfl : k = n := by omega
      obtain ⟨z, HZ⟩ : ∃ z, Hid (d.length = z) := ⟨_, rfl⟩
      rw [HZ.out] at m3 ⊢
      go_wp2
      go_ret
      refine ⟨ret_b ?_, rfl⟩
      rw [HRR.out, ← HN.out, List.drop_length, mat]
      cases d with
      | nil => have := HZ.out; simp at this; subst this; rfl
      | cons y d => have := HZ.out; simp at this; subst this; simp; omega
set_option maxRecDepth 100000 in
set_option maxHeartbeats 400000 in
theorem good_any (r : Rp) (a : Option Addr) (c : Nat) (a' : Option Addr) (c' : Nat) (w : World) (h : IA w.heap.size w a c r.st) (h' : IA w.heap.size w a' c' r.dl) :
    Calls Try.prog 13 #[rv r a r.st.length c a' r.dl.length c'] w fun e w' => e = .returned (.bool (goodR r)) ∧ Apart (fun _ => False) w w' := by
  obtain ⟨sd, md, fi, ba, co, st, dl⟩ := r
  unfold rv goodR
  simp only at h h' ⊢
  have m1 := h.len
  have m2 := h'.len
  obtain ⟨n, HN⟩ : ∃ n, Hid (st.length = n) := ⟨_, rfl⟩
  obtain ⟨m, HM⟩ : ∃ m, Hid (dl.length = m) := ⟨_, rfl⟩
  have A0 := mkHid ((Apart.refl (fun _ => False) w).alloc (.cells #[.int .u32 sd, .int .u32 md, .int .i64 fi, .int .i64 ba, .int .i64 co, .slice a st.length c, .slice a' dl.length c'] 25))
  have MT := mkHid (match_any _ _ a c st ((h.kept A0.out.belowZ)) a' c' dl ((h'.kept A0.out.belowZ)))
  have W1 := mkHid (within_any fi 0 65535)
  have W2 := mkHid (within_any ba (-8388608) 8388607)
  have W3 := mkHid (within_any co 0 255)
  have W4 := mkHid (within_any (st.length : Int) 1 4096)
  have e1 : decide (0 ≤ fi ∧ fi ≤ 65535) = wi fi 0 65535 := by unfold wi; simp
  have e2 : decide (-8388608 ≤ ba ∧ ba ≤ 8388607) = wi ba (-8388608) 8388607 := by unfold wi; simp
  have e3 : decide (0 ≤ co ∧ co ≤ 255) = wi co 0 255 := by unfold wi; simp
  have e4 : decide (1 ≤ st.length ∧ st.length ≤ 4096) = wi (st.length : Int) 1 4096 := by unfold wi; rw [← Bool.decide_and, decide_eq_decide]; omega
  rw [e1, e2, e3, e4]
  obtain ⟨b1, H1⟩ : ∃ b, Hid (wi fi 0 65535 = b) := ⟨_, rfl⟩
  obtain ⟨b2, H2⟩ : ∃ b, Hid (wi ba (-8388608) 8388607 = b) := ⟨_, rfl⟩
  obtain ⟨b3, H3⟩ : ∃ b, Hid (wi co 0 255 = b) := ⟨_, rfl⟩
  obtain ⟨b4, H4⟩ : ∃ b, Hid (wi (st.length : Int) 1 4096 = b) := ⟨_, rfl⟩
  obtain ⟨b5, H5⟩ : ∃ b, Hid (mat st dl = b) := ⟨_, rfl⟩
  rw [H1.out] at W1 ⊢
  rw [H2.out] at W2 ⊢
  rw [H3.out] at W3 ⊢
  rw [H4.out] at W4 ⊢
  rw [H5.out] at MT ⊢
  rw [HN.out] at W4 m1 A0 MT ⊢
  rw [HM.out] at m2 A0 MT ⊢
  obtain ⟨⟨c0, c1, c2, c3, c4, c5, c6⟩, N0⟩ : _ ∧ Hid _ := ⟨cells7 (heap_alloc_new w (.cells #[.int .u32 sd, .int .u32 md, .int .i64 fi, .int .i64 ba, .int .i64 co, .slice a n c, .slice a' m c'] 25)), mkHid trivial⟩
  obtain ⟨bx, HBX⟩ : ∃ bx, Hid (w.heap.size = bx) := ⟨_, rfl⟩
  obtain ⟨W, HW⟩ : ∃ W, Hid (w.alloc (.cells #[.int .u32 sd, .int .u32 md, .int .i64 fi, .int .i64 ba, .int .i64 co, .slice a n c, .slice a' m c'] 25) = W) := ⟨_, rfl⟩
  rw [HW.out] at A0 MT c0 c1 c2 c3 c4 c5 c6
  rw [HBX.out] at c0 c1 c2 c3 c4 c5 c6
  clear h h' e1 e2 e3 e4
  go_enter Try.func13, Try.ntmps13
  go_wp2_with fail
  rw [HW.out, HBX.out]
  go_wp2_with fail
  refine (W1.out _).mono ?_
  rintro e w1 ⟨rfl, rfl⟩
  cases b1 with
  | false => go_wp2; go_ret; exact ⟨rfl, A0.out⟩
  | true =>
    go_wp2_with fail
    refine (W2.out _).mono ?_
    rintro e w2 ⟨rfl, rfl⟩
    cases b2 with
    | false => go_wp2; go_ret; exact ⟨rfl, A0.out⟩
    | true =>
      go_wp2_with fail
      refine (W3.out _).mono ?_
      rintro e w3 ⟨rfl, rfl⟩
      cases b3 with
      | false => go_wp2; go_ret; exact ⟨rfl, A0.out⟩
      | true =>
        go_wp2_with fail
        refine (W4.out _).mono ?_
        rintro e w4 ⟨rfl, rfl⟩
        cases b4 with
        | false => go_wp2; go_ret; exact ⟨rfl, A0.out⟩
        | true =>
          go_wp2_with fail
          refine (MT.out).mono ?_
          rintro e w5 ⟨rfl, rfl⟩
          cases b5 with
          | false => go_wp2; go_ret; exact ⟨rfl, A0.out⟩
          | true => go_wp2; go_ret; exact ⟨rfl, A0.out⟩
end Go.Proofs.Ytcbehpocnnkkeaa
