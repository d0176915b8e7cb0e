/-
  What each function of package sat, and of its reference, hands back for every input, and that it turns nothing that was in memory before the call. Conditions: numbers lie in int64, a list's cells are known.
-/
import Derived.Test.YtdmmhhkkiokmiaaDoorRows
import Derived.Test.YtdmmhhkkiokmiaaDoorSatPlain
import Derived.WalkKit
import Derived.WalkSpells
import Derived.WalkLawsBesides
import Derived.Handy
namespace Go.Proofs.YtdmmhhkkiokmiaaDoor.Sat
open Go.RowKit

theorem ret_int {k : IntKind} {a b : Int} (h : a = b) : Ending.returned (.int k a) = .returned (.int k b) := by rw [h]
theorem mkHid {p : Prop} (h : p) : Hid p := h
/-- A call's Below, carried on from an elder world. -/
theorem carry {P : Program} {f : Nat} {args : Array Value} {w w0 : World} {Q : Ending → Prop} (hb : Below w0.heap.size w0 w) (h : Calls P f args w fun e w' => Q e ∧ Below w.heap.size w w') :
    Calls P f args w fun e w' => Q e ∧ Below w0.heap.size w0 w' :=
  h.mono fun _ _ ⟨hq, hk⟩ => ⟨hq, hb.trans (hk.mono hb.size)⟩

theorem add64 (x y c : Int) (hx : 0 ≤ x) (hy : 0 ≤ y) (hc0 : 0 ≤ c) (hc : c ≤ 1) (w : World) : (callFunc 50 #[.int .u64 x, .int .u64 y, .int .u64 c]).run Tryd.prog w =
    .ok (.value (.tuple #[.int .u64 ((x + y + c) % 18446744073709551616), .int .u64 ((x + y + c) / 18446744073709551616)])) w := by
  rw [run_callFunc_extern Tryd.func50 (by kernel_rfl) (by kernel_rfl) (by kernel_rfl) (e := add64Entry) (by kernel_rfl), run_add64 x y c hx hy hc0 hc]
  rfl
theorem add64_0 (x y : Int) (hx : 0 ≤ x) (hy : 0 ≤ y) (w : World) : (callFunc 50 #[.int .u64 x, .int .u64 y, .int .u64 0]).run Tryd.prog w =
    .ok (.value (.tuple #[.int .u64 ((x + y) % 18446744073709551616), .int .u64 ((x + y) / 18446744073709551616)])) w := by
  simpa using add64 x y 0 hx hy (Int.le_refl 0) (by decide) w

set_option maxHeartbeats 400000 in
theorem held_any (hi lo : Int) (h3 : 0 ≤ lo) (h4 : lo < 18446744073709551616) (w : World) :
    Calls Tryd.prog 34 #[.agg #[.int .i64 hi, .int .u64 lo]] w fun e w' => e = .returned (.int .i64 (satH (hi * 18446744073709551616 + lo))) ∧ Below w.heap.size w w' := by
  go_enter Tryd.func34, Tryd.ntmps34
  go_wp2
  · go_ret
    exact ⟨ret_int (held_eq hi lo h3 h4 (by assumption)), by go_grown⟩
  · go_ret
    exact ⟨ret_int (held_lo hi lo h3 h4 (by assumption) (by assumption)), by go_grown⟩
  · go_ret
    exact ⟨ret_int (held_hi hi lo h3 h4 (by assumption) (by assumption)), by go_grown⟩

set_option maxHeartbeats 400000 in
theorem sum_any (b off n cap : Nat) (zs : List Int) (w : World) (hn : n ≤ maxLen) (hl : zs.length = n) (hz : I64s zs) (hc : ∀ i, i < n → w.cell? ⟨b, off + i, none⟩ = some (.int .i64 (zs.getD i 0))) (hb : b < w.heap.size) :
    Calls Tryd.prog 38 #[.slice (some ⟨b, off, none⟩) n cap] w fun e w' => e = .returned (.agg #[.int .i64 (shi zs n), .int .u64 (slo zs n)]) ∧ Below w.heap.size w w' := by
  have hs0 := s_zero zs
  unfold maxLen at hn
  go_enter Tryd.func38, Tryd.ntmps38
  go_wp2
  go_loopw [10] (fun i wr => ∃ k : Nat, k ≤ n ∧ i = .int .i64 k ∧ wr = (w.alloc (.cells #[.int .i64 0, .int .u64 0] 40)).alloc (.cells #[.int .i64 (shi zs k), .int .u64 (slo zs k)] 40)) (fun i _ => n - (intOf i).toNat)
  case atStart => exact ⟨0, Nat.zero_le _, rfl, by rw [hs0.1, hs0.2]⟩
  case round =>
    obtain ⟨k, hk, rfl, rfl⟩ := hrel
    clear hs0
    by_cases hlt : k < n
    · have hcx : ((w.alloc (.cells #[.int .i64 0, .int .u64 0] 40)).alloc (.cells #[.int .i64 (shi zs k), .int .u64 (slo zs k)] 40)).cell? ⟨b, off + k, none⟩ = some (.int .i64 (zs.getD k 0)) := by
        refine (Below.cell (B := w.heap.size) (w := w) ?_ (p := ⟨b, off + k, none⟩) hb).trans (hc k hlt)
        go_grown
      have hzb := getD_bd zs hz k
      have HH := shi_succ zs hz k (by omega)
      have HL := slo_succ zs k (by omega)
      have hsb := shi_bd zs hz k (by omega) (by unfold maxLen; omega)
      have hlb := slo_bd zs k
      have HS : Hid (shi zs (k + 1) = shi zs k + (zs.getD k 0 / 9223372036854775808 + (slo zs k + zs.getD k 0 % 18446744073709551616) / 18446744073709551616) ∧ slo zs (k + 1) = (slo zs k + zs.getD k 0 % 18446744073709551616) % 18446744073709551616) := ⟨HH, HL⟩
      clear HH HL hc
      generalize zs.getD k 0 = z at *
      obtain ⟨z1, z2⟩ := hzb; obtain ⟨s1, s2⟩ := hsb; obtain ⟨l1, l2⟩ := hlb
      have hw0 : 0 ≤ IntKind.u64.wrap z := by rw [IntKind.wrap_u64]; omega
      go_wp2_with (simp only [add64_0 _ _ l1 hw0])
      go_roundw
      case rel =>
        obtain ⟨e1, e2⟩ := HS.out
        refine ⟨k + 1, by omega, by go_num, ?_⟩
        rw [e1, e2, IntKind.wrap_u64]
        have q1 : wrap64 ((slo zs k + z % 18446744073709551616) / 18446744073709551616) = (slo zs k + z % 18446744073709551616) / 18446744073709551616 := by unfold wrap64; omega
        have q2 : wrap64 (z / 9223372036854775808 + (slo zs k + z % 18446744073709551616) / 18446744073709551616) = z / 9223372036854775808 + (slo zs k + z % 18446744073709551616) / 18446744073709551616 := by unfold wrap64; omega
        have q3 : wrap64 (shi zs k + (z / 9223372036854775808 + (slo zs k + z % 18446744073709551616) / 18446744073709551616)) = shi zs k + (z / 9223372036854775808 + (slo zs k + z % 18446744073709551616) / 18446744073709551616) := by unfold wrap64; omega
        rw [q1, q2, q3]
      case measure => simp [intOf]; omega
    · have : k = n := by omega
      subst this
      go_wp2
      go_returns
      exact ⟨rfl, by go_grown⟩

theorem ret_agg {a b a' b' : Int} (h : a = a' ∧ b = b') : Ending.returned (.agg #[.int .i64 a, .int .u64 b]) = .returned (.agg #[.int .i64 a', .int .u64 b']) := by rw [h.1, h.2]
theorem ret_satH {p q : Int} (h : p = q) : Ending.returned (.int .i64 (satH p)) = .returned (.int .i64 (satH q)) := by rw [h]

set_option maxHeartbeats 400000 in
theorem add_any (a b : Int) (a1 : -9223372036854775808 ≤ a) (a2 : a ≤ 9223372036854775807) (b1 : -9223372036854775808 ≤ b) (b2 : b ≤ 9223372036854775807) (w : World) :
    Calls Tryd.prog 28 #[.int .i64 a, .int .i64 b] w fun e w' => e = .returned (.int .i64 (satH (a + b))) ∧ Below w.heap.size w w' := by
  have hz : I64s [a, b] := by intro z hz; simp at hz; rcases hz with rfl | rfl <;> exact ⟨by omega, by omega⟩
  have hl := slo_bd [a, b] 2
  have H := hl
  have hcs : ∀ i, i < 2 → (w.alloc (.cells #[.int .i64 a, .int .i64 b] 2)).cell? ⟨w.heap.size, 0 + i, none⟩ = some (.int .i64 ([a, b].getD i 0)) := by
    intro i hi
    match i, hi with
    | 0, _ => simp
    | 1, _ => simp
  have hbw : Below w.heap.size w (w.alloc (.cells #[.int .i64 a, .int .i64 b] 2)) := by go_grown
  have HSUM := mkHid (sum_any w.heap.size 0 2 2 [a, b] (w.alloc (.cells #[.int .i64 a, .int .i64 b] 2)) (by unfold maxLen; omega) rfl hz hcs (by simp))
  clear hcs hz
  go_enter Tryd.func28, Tryd.ntmps28
  go_wp2_with fail
  refine (carry hbw HSUM.out).mono ?_
  rintro e w1 ⟨rfl, hb1⟩
  go_wp2_with fail
  refine (carry hb1 (held_any _ _ H.1 H.2 _)).mono ?_
  rintro e w2 ⟨rfl, hb2⟩
  go_wp2
  go_ret
  exact ⟨ret_satH (by rw [s_join, sum2]), hb2⟩

set_option maxHeartbeats 400000 in
theorem mul64_any (x y : Int) (x1 : 0 ≤ x) (x2 : x < 18446744073709551616) (y1 : 0 ≤ y) (y2 : y < 18446744073709551616) (w : World) :
    Calls Tryd.prog 39 #[.int .u64 x, .int .u64 y] w fun e w' => e = .returned (.tuple #[.int .u64 (x * y / 18446744073709551616), .int .u64 (x * y % 18446744073709551616)]) ∧ w' = w := by
  go_enter Tryd.func39, Tryd.ntmps39
  go_wp2
  go_ret2
  refine ⟨?_, rfl⟩
  simp only [u64_and32, IntKind.wrap_u64]
  rw [mul_hi x y x1 x2 y1 y2]
  rfl

set_option maxHeartbeats 400000 in
theorem product_any (a b : Int) (a1 : -9223372036854775808 ≤ a) (a2 : a ≤ 9223372036854775807) (b1 : -9223372036854775808 ≤ b) (b2 : b ≤ 9223372036854775807) (w : World) :
    Calls Tryd.prog 33 #[.int .i64 a, .int .i64 b] w fun e w' => e = .returned (.agg #[.int .i64 (a * b / 18446744073709551616), .int .u64 (a * b % 18446744073709551616)]) ∧ Below w.heap.size w w' := by
  have u1 : 0 ≤ IntKind.u64.wrap a ∧ IntKind.u64.wrap a < 18446744073709551616 := by rw [IntKind.wrap_u64]; omega
  have u2 : 0 ≤ IntKind.u64.wrap b ∧ IntKind.u64.wrap b < 18446744073709551616 := by rw [IntKind.wrap_u64]; omega
  go_enter Tryd.func33, Tryd.ntmps33
  go_wp2_with (go_at_call 39; refine (mul64_any _ _ u1.1 u1.2 u2.1 u2.2 _).mono ?_; rintro e w1 ⟨rfl, rfl⟩)
  · go_returns
    exact ⟨ret_agg (prod_nn a b a1 a2 b1 b2 (by assumption) (by assumption)), by go_grown⟩
  · go_returns
    exact ⟨ret_agg (prod_np a b a1 a2 b1 b2 (by assumption)), by go_grown⟩
  · go_returns
    exact ⟨ret_agg (prod_pn a b a1 a2 b1 b2 (by assumption)), by go_grown⟩
  · go_returns
    exact ⟨ret_agg ⟨prod_pp a b a1 a2 b1 b2, rfl⟩, by go_grown⟩

set_option maxHeartbeats 400000 in
theorem mul_any (a b : Int) (a1 : -9223372036854775808 ≤ a) (a2 : a ≤ 9223372036854775807) (b1 : -9223372036854775808 ≤ b) (b2 : b ≤ 9223372036854775807) (w : World) :
    Calls Tryd.prog 24 #[.int .i64 a, .int .i64 b] w fun e w' => e = .returned (.int .i64 (satH (a * b))) ∧ Below w.heap.size w w' := by
  have H : 0 ≤ a * b % 18446744073709551616 ∧ a * b % 18446744073709551616 < 18446744073709551616 := by omega
  go_enter Tryd.func24, Tryd.ntmps24
  go_wp2_with fail
  refine (product_any a b a1 a2 b1 b2 _).mono ?_
  rintro e w1 ⟨rfl, hb1⟩
  go_wp2_with fail
  refine (carry hb1 (held_any _ _ H.1 H.2 _)).mono ?_
  rintro e w2 ⟨rfl, hb2⟩
  go_wp2
  go_ret
  exact ⟨ret_satH (mul_join _), hb2⟩

set_option maxHeartbeats 400000 in
theorem sub_any (a b : Int) (a1 : -9223372036854775808 ≤ a) (a2 : a ≤ 9223372036854775807) (b1 : -9223372036854775808 ≤ b) (b2 : b ≤ 9223372036854775807) (w : World) :
    Calls Tryd.prog 29 #[.int .i64 a, .int .i64 b] w fun e w' => e = .returned (.int .i64 (satH (a - b))) ∧ Below w.heap.size w w' := by
  have hx := i64_not_any b b1 b2
  have hz : I64s [a, -1 - b, 1] := by intro z hz; simp at hz; rcases hz with rfl | rfl | rfl <;> exact ⟨by omega, by omega⟩
  have H := slo_bd [a, -1 - b, 1] 3
  have hcs : ∀ i, i < 3 → (w.alloc (.cells #[.int .i64 a, .int .i64 (-1 - b), .int .i64 1] 2)).cell? ⟨w.heap.size, 0 + i, none⟩ = some (.int .i64 ([a, -1 - b, 1].getD i 0)) := by
    intro i hi
    match i, hi with
    | 0, _ => simp
    | 1, _ => simp
    | 2, _ => simp
  have hbw : Below w.heap.size w (w.alloc (.cells #[.int .i64 a, .int .i64 (-1 - b), .int .i64 1] 2)) := by go_grown
  have HSUM := mkHid (sum_any w.heap.size 0 3 3 [a, -1 - b, 1] (w.alloc (.cells #[.int .i64 a, .int .i64 (-1 - b), .int .i64 1] 2)) (by unfold maxLen; omega) rfl hz hcs (by simp))
  clear hcs hz
  go_enter Tryd.func29, Tryd.ntmps29
  go_wp2_with fail
  refine (carry hbw HSUM.out).mono ?_
  rintro e w1 ⟨rfl, hb1⟩
  go_wp2_with fail
  refine (carry hb1 (held_any _ _ H.1 H.2 _)).mono ?_
  rintro e w2 ⟨rfl, hb2⟩
  go_wp2
  go_ret
  exact ⟨ret_satH (by rw [s_join, sum3]; omega), hb2⟩

set_option maxHeartbeats 400000 in
theorem radd_any (a b : Int) (a1 : -9223372036854775808 ≤ a) (a2 : a ≤ 9223372036854775807) (b1 : -9223372036854775808 ≤ b) (b2 : b ≤ 9223372036854775807) (w : World) :
    Calls Tryd.prog 30 #[.int .i64 a, .int .i64 b] w fun e w' => e = .returned (.int .i64 (satH (a + b))) ∧ w' = w := by
  go_each [0 < b, b < 0, 9223372036854775807 - b < a, a < -9223372036854775808 - b] => (
    go_enter Tryd.func30, Tryd.ntmps30
    go_wp2
    go_ret
    exact ⟨ret_int (by unfold satH; (try unfold wrap64); repeat' split <;> omega), rfl⟩)

set_option maxHeartbeats 400000 in
theorem rsub_any (a b : Int) (a1 : -9223372036854775808 ≤ a) (a2 : a ≤ 9223372036854775807) (b1 : -9223372036854775808 ≤ b) (b2 : b ≤ 9223372036854775807) (w : World) :
    Calls Tryd.prog 31 #[.int .i64 a, .int .i64 b] w fun e w' => e = .returned (.int .i64 (satH (a - b))) ∧ w' = w := by
  go_each [0 < b, b < 0, 9223372036854775807 + b < a, a < -9223372036854775808 + b] => (
    go_enter Tryd.func31, Tryd.ntmps31
    go_wp2
    go_ret
    exact ⟨ret_int (by unfold satH; (try unfold wrap64); repeat' split <;> omega), rfl⟩)

set_option maxHeartbeats 400000 in
theorem rneg_any (a : Int) (a1 : -9223372036854775808 ≤ a) (a2 : a ≤ 9223372036854775807) (w : World) :
    Calls Tryd.prog 40 #[.int .i64 a] w fun e w' => e = .returned (.int .i64 (satH (-a))) ∧ w' = w := by
  go_enter Tryd.func40, Tryd.ntmps40
  go_wp2_with (go_at_call 31; refine (rsub_any 0 a (by omega) (by omega) a1 a2 _).mono ?_; rintro e w1 ⟨rfl, rfl⟩)
  go_ret
  exact ⟨ret_satH (by omega), rfl⟩

set_option maxHeartbeats 400000 in
theorem rabs_any (a : Int) (a1 : -9223372036854775808 ≤ a) (a2 : a ≤ 9223372036854775807) (w : World) :
    Calls Tryd.prog 35 #[.int .i64 a] w fun e w' => e = .returned (.int .i64 (satA a)) ∧ w' = w := by
  go_enter Tryd.func35, Tryd.ntmps35
  go_wp2_with (go_at_call 40; refine (rneg_any a a1 a2 _).mono ?_; rintro e w1 ⟨rfl, rfl⟩)
  · go_ret
    exact ⟨ret_int (satA_lt a (by assumption)), rfl⟩
  · go_ret
    exact ⟨ret_int (satA_ge a a2 (by assumption)), rfl⟩

/-- A number held between two. -/
def satC (a lo hi : Int) : Int := if a < lo then lo else if hi < a then hi else a

theorem wake_add (w : World) : Calls Tryd.prog 28 #[.int .i64 9223372036854775807, .int .i64 1] w fun e w' => e = .returned (.int .i64 9223372036854775807) ∧ Below w.heap.size w w' :=
  (add_any 9223372036854775807 1 (by decide) (by decide) (by decide) (by decide) w).mono fun _ _ h => h
theorem wake_mul (w : World) : Calls Tryd.prog 24 #[.int .i64 3, .int .i64 (-4)] w fun e w' => e = .returned (.int .i64 (-12)) ∧ Below w.heap.size w w' :=
  (mul_any 3 (-4) (by decide) (by decide) (by decide) (by decide) w).mono fun _ _ h => h
end Go.Proofs.YtdmmhhkkiokmiaaDoor.Sat
