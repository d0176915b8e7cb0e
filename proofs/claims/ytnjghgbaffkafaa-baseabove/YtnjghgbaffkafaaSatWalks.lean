/-
  What each function of package sat, and of its reference, hands back for every input, and that it turns nothing that was in memory before the call. Conditions: numbers lie in int64, a list's cells are known.
-/
import Derived.Test.YtnjghgbaffkafaaRows
import Derived.Test.YtnjghgbaffkafaaSatPlain
import Derived.WalkKit
import Derived.WalkSpells
import Derived.WalkLawsBesides
import Derived.Handy
namespace Go.Proofs.Ytnjghgbaffkafaa.Sat
open Go.RowKit

theorem ret_int {k : IntKind} {a b : Int} (h : a = b) : Ending.returned (.int k a) = .returned (.int k b) := by rw [h]
theorem mkHid {p : Prop} (h : p) : Hid p := h
/-- A call's Below, carried on from an elder world. -/
theorem carry {P : Program} {f : Nat} {args : Array Value} {w w0 : World} {Q : Ending → Prop} (hb : Below w0.heap.size w0 w) (h : Calls P f args w fun e w' => Q e ∧ Below w.heap.size w w') :
    Calls P f args w fun e w' => Q e ∧ Below w0.heap.size w0 w' :=
  h.mono fun _ _ ⟨hq, hk⟩ => ⟨hq, hb.trans (hk.mono hb.size)⟩

theorem add64 (x y c : Int) (hx : 0 ≤ x) (hy : 0 ≤ y) (hc0 : 0 ≤ c) (hc : c ≤ 1) (w : World) : (callFunc 27 #[.int .u64 x, .int .u64 y, .int .u64 c]).run Try.prog w =
    .ok (.value (.tuple #[.int .u64 ((x + y + c) % 18446744073709551616), .int .u64 ((x + y + c) / 18446744073709551616)])) w := by
  rw [run_callFunc_extern Try.func27 (by kernel_rfl) (by kernel_rfl) (by kernel_rfl) (e := add64Entry) (by kernel_rfl), run_add64 x y c hx hy hc0 hc]
  rfl
theorem add64_0 (x y : Int) (hx : 0 ≤ x) (hy : 0 ≤ y) (w : World) : (callFunc 27 #[.int .u64 x, .int .u64 y, .int .u64 0]).run Try.prog w =
    .ok (.value (.tuple #[.int .u64 ((x + y) % 18446744073709551616), .int .u64 ((x + y) / 18446744073709551616)])) w := by
  simpa using add64 x y 0 hx hy (Int.le_refl 0) (by decide) w

set_option maxHeartbeats 400000 in
theorem held_any (hi lo : Int) (h3 : 0 ≤ lo) (h4 : lo < 18446744073709551616) (w : World) :
    Calls Try.prog 26 #[.agg #[.int .i64 hi, .int .u64 lo]] w fun e w' => e = .returned (.int .i64 (satH (hi * 18446744073709551616 + lo))) ∧ Below w.heap.size w w' := by
  go_enter Try.func26, Try.ntmps26
  go_wp2
  · go_ret
    exact ⟨ret_int (held_eq hi lo h3 h4 (by assumption)), by go_grown⟩
  · go_ret
    exact ⟨ret_int (held_lo hi lo h3 h4 (by assumption) (by assumption)), by go_grown⟩
  · go_ret
    exact ⟨ret_int (held_hi hi lo h3 h4 (by assumption) (by assumption)), by go_grown⟩

set_option maxHeartbeats 400000 in
theorem sum_any (b off n cap : Nat) (zs : List Int) (w : World) (hn : n ≤ maxLen) (hl : zs.length = n) (hz : I64s zs) (hc : ∀ i, i < n → w.cell? ⟨b, off + i, none⟩ = some (.int .i64 (zs.getD i 0))) (hb : b < w.heap.size) :
    Calls Try.prog 25 #[.slice (some ⟨b, off, none⟩) n cap] w fun e w' => e = .returned (.agg #[.int .i64 (shi zs n), .int .u64 (slo zs n)]) ∧ Below w.heap.size w w' := by
  have hs0 := s_zero zs
  unfold maxLen at hn
  go_enter Try.func25, Try.ntmps25
  go_wp2
  go_loopw [10] (fun i wr => ∃ k : Nat, k ≤ n ∧ i = .int .i64 k ∧ wr = (w.alloc (.cells #[.int .i64 0, .int .u64 0] 61)).alloc (.cells #[.int .i64 (shi zs k), .int .u64 (slo zs k)] 61)) (fun i _ => n - (intOf i).toNat)
  case atStart => exact ⟨0, Nat.zero_le _, rfl, by rw [hs0.1, hs0.2]⟩
  case round =>
    obtain ⟨k, hk, rfl, rfl⟩ := hrel
    clear hs0
    by_cases hlt : k < n
    · have hcx : ((w.alloc (.cells #[.int .i64 0, .int .u64 0] 61)).alloc (.cells #[.int .i64 (shi zs k), .int .u64 (slo zs k)] 61)).cell? ⟨b, off + k, none⟩ = some (.int .i64 (zs.getD k 0)) := by
        refine (Below.cell (B := w.heap.size) (w := w) ?_ (p := ⟨b, off + k, none⟩) hb).trans (hc k hlt)
        go_grown
      have hzb := getD_bd zs hz k
      have HH := shi_succ zs hz k (by omega)
      have HL := slo_succ zs k (by omega)
      have hsb := shi_bd zs hz k (by omega) (by unfold maxLen; omega)
      have hlb := slo_bd zs k
      have HS : Hid (shi zs (k + 1) = shi zs k + (zs.getD k 0 / 9223372036854775808 + (slo zs k + zs.getD k 0 % 18446744073709551616) / 18446744073709551616) ∧ slo zs (k + 1) = (slo zs k + zs.getD k 0 % 18446744073709551616) % 18446744073709551616) := ⟨HH, HL⟩
      clear HH HL hc
      generalize zs.getD k 0 = z at *
      obtain ⟨z1, z2⟩ := hzb; obtain ⟨s1, s2⟩ := hsb; obtain ⟨l1, l2⟩ := hlb
      have hw0 : 0 ≤ IntKind.u64.wrap z := by rw [IntKind.wrap_u64]; omega
      go_wp2_with (simp only [add64_0 _ _ l1 hw0])
      go_roundw
      case rel =>
        obtain ⟨e1, e2⟩ := HS.out
        refine ⟨k + 1, by omega, by go_num, ?_⟩
        rw [e1, e2, IntKind.wrap_u64]
        have q1 : wrap64 ((slo zs k + z % 18446744073709551616) / 18446744073709551616) = (slo zs k + z % 18446744073709551616) / 18446744073709551616 := by unfold wrap64; omega
        have q2 : wrap64 (z / 9223372036854775808 + (slo zs k + z % 18446744073709551616) / 18446744073709551616) = z / 9223372036854775808 + (slo zs k + z % 18446744073709551616) / 18446744073709551616 := by unfold wrap64; omega
        have q3 : wrap64 (shi zs k + (z / 9223372036854775808 + (slo zs k + z % 18446744073709551616) / 18446744073709551616)) = shi zs k + (z / 9223372036854775808 + (slo zs k + z % 18446744073709551616) / 18446744073709551616) := by unfold wrap64; omega
        rw [q1, q2, q3]
      case measure => simp [intOf]; omega
    · have : k = n := by omega
      subst this
      go_wp2
      go_returns
      exact ⟨rfl, by go_grown⟩

theorem ret_agg {a b a' b' : Int} (h : a = a' ∧ b = b') : Ending.returned (.agg #[.int .i64 a, .int .u64 b]) = .returned (.agg #[.int .i64 a', .int .u64 b']) := by rw [h.1, h.2]
theorem ret_satH {p q : Int} (h : p = q) : Ending.returned (.int .i64 (satH p)) = .returned (.int .i64 (satH q)) := by rw [h]

set_option maxHeartbeats 400000 in
theorem sub_any (a b : Int) (a1 : -9223372036854775808 ≤ a) (a2 : a ≤ 9223372036854775807) (b1 : -9223372036854775808 ≤ b) (b2 : b ≤ 9223372036854775807) (w : World) :
    Calls Try.prog 24 #[.int .i64 a, .int .i64 b] w fun e w' => e = .returned (.int .i64 (satH (a - b))) ∧ Below w.heap.size w w' := by
  have hx := i64_not_any b b1 b2
  have hz : I64s [a, -1 - b, 1] := by intro z hz; simp at hz; rcases hz with rfl | rfl | rfl <;> exact ⟨by omega, by omega⟩
  have H := slo_bd [a, -1 - b, 1] 3
  have hcs : ∀ i, i < 3 → (w.alloc (.cells #[.int .i64 a, .int .i64 (-1 - b), .int .i64 1] 2)).cell? ⟨w.heap.size, 0 + i, none⟩ = some (.int .i64 ([a, -1 - b, 1].getD i 0)) := by
    intro i hi
    match i, hi with
    | 0, _ => simp
    | 1, _ => simp
    | 2, _ => simp
  have hbw : Below w.heap.size w (w.alloc (.cells #[.int .i64 a, .int .i64 (-1 - b), .int .i64 1] 2)) := by go_grown
  have HSUM := mkHid (sum_any w.heap.size 0 3 3 [a, -1 - b, 1] (w.alloc (.cells #[.int .i64 a, .int .i64 (-1 - b), .int .i64 1] 2)) (by unfold maxLen; omega) rfl hz hcs (by simp))
  clear hcs hz
  go_enter Try.func24, Try.ntmps24
  go_wp2_with fail
  refine (carry hbw HSUM.out).mono ?_
  rintro e w1 ⟨rfl, hb1⟩
  go_wp2_with fail
  refine (carry hb1 (held_any _ _ H.1 H.2 _)).mono ?_
  rintro e w2 ⟨rfl, hb2⟩
  go_wp2
  go_ret
  exact ⟨ret_satH (by rw [s_join, sum3]; omega), hb2⟩

/-- A number held between two. -/
def satC (a lo hi : Int) : Int := if a < lo then lo else if hi < a then hi else a

end Go.Proofs.Ytnjghgbaffkafaa.Sat
