/-
  What each function of package muldiv, and of its reference, hands back for every input.
-/
import Derived.Test.YtjeffjpenhhnnaaL64
import Derived.WalkMore
import Derived.ScopeJumps
namespace Go.Proofs.Ytjeffjpenhhnnaa
open Go.RowKit

/-- A call's Below, carried on from an elder world. -/
theorem carry {P : Program} {f : Nat} {args : Array Value} {w w0 : World} {Q : Ending → Prop} (hb : Below w0.heap.size w0 w) (h : Calls P f args w fun e w' => Q e ∧ Below w.heap.size w w') :
    Calls P f args w fun e w' => Q e ∧ Below w0.heap.size w0 w' :=
  h.mono fun _ _ ⟨hq, hk⟩ => ⟨hq, hb.trans (hk.mono hb.size)⟩
theorem below_drewN {B : Nat} {w w1 : World} (h : Below B w w1) (n : Nat) : Below B w (w1.drewN n) := ⟨h.os, h.tape, h.output, h.size, h.block⟩

theorem setCell_drewN (w : World) (n : Nat) (a : Addr) (v : Value) : (w.drewN n).setCell a v = (w.setCell a v).drewN n := rfl

set_option maxHeartbeats 400000 in
theorem div64_small (lo y : Int) (a1 : 0 < y) (b0 : 0 ≤ lo) (b1 : lo < 18446744073709551616) (c1 : y < 18446744073709551616) (w : World) :
    Calls Try.prog 61 #[.int .u64 0, .int .u64 lo, .int .u64 y] w fun e w' => e = .returned (.tuple #[.int .u64 (lo / y), .int .u64 (lo % y)]) ∧ ∃ n, w' = w.drewN n := by
  have hne : ¬ y = 0 := by omega
  go_enter Try.func61, Try.ntmps61
  go_wp2
  go_quiet (fail)
  go_wp2
  go_ret2
  exact ⟨rfl, _, rfl⟩
theorem div64_any (hi lo y : Int) (a0 : 0 ≤ hi) (a1 : hi < y) (b0 : 0 ≤ lo) (b1 : lo < 18446744073709551616) (c1 : y < 18446744073709551616) (w : World) :
    Calls Try.prog 61 #[.int .u64 hi, .int .u64 lo, .int .u64 y] w fun e w' => e = .returned (.tuple #[.int .u64 ((hi * 18446744073709551616 + lo) / y), .int .u64 ((hi * 18446744073709551616 + lo) % y)]) ∧ ∃ n, w' = w.drewN n := by
  rcases (by omega : hi = 0 ∨ 1 ≤ hi) with h | h
  · subst h
    rw [Int.zero_mul, Int.zero_add]
    exact div64_small lo y (by omega) b0 b1 c1 w
  · exact (div64_big hi lo y h a1 b0 b1 c1 w).mono fun _ _ ⟨h1, h2⟩ => ⟨h1, 0, h2⟩

set_option maxHeartbeats 400000 in
theorem divide_any (p0 p1 c : Int) (a0 : 0 ≤ p0) (a1 : p0 < 18446744073709551616) (b0 : 0 ≤ p1) (b1 : p1 < 18446744073709551616) (c0 : 0 < c) (c1 : c < 18446744073709551616) (w : World) :
    Calls Try.prog 56 #[.agg #[.int .u64 p0, .int .u64 p1], .int .u64 c] w fun e w' => e = .returned (.tuple #[.agg #[.int .u64 (p0 / c), .int .u64 ((p0 % c * 18446744073709551616 + p1) / c)], .int .u64 ((p0 % c * 18446744073709551616 + p1) % c)]) ∧ Below w.heap.size w w' := by
  have r0 := Int.emod_nonneg p0 (Int.ne_of_gt c0)
  have r1 := Int.emod_lt_of_pos p0 c0
  have D1 := mkHid (fun w => div64_any 0 p0 c (by omega) (by omega) a0 a1 c1 w)
  have D2 := mkHid (fun w => div64_any (p0 % c) p1 c r0 r1 b0 b1 c1 w)
  go_enter Try.func56, Try.ntmps56
  go_wp2
  refine wp_scope_jumps 0 (fun a' w' => ∃ (n : Nat) (u7 u8 u9 u10 u11 u12 u13 u14 u15 u16 u17 u18 u19 u20 u21 : Value), a' = { tmps := #[.agg #[.int .u64 p0, .int .u64 p1], .int .u64 c, .pointer (some { block := w.heap.size, off := 0 }), undef, .pointer (some { block := w.heap.size + 1, off := 0 }), .int .u64 (p0 % c), .int .i64 1, u7, u8, u9, u10, u11, u12, u13, u14, u15, u16, u17, u18, u19, u20, u21, undef, undef], defers := [] } ∧
    w' = ((w.alloc (.cells #[.int .u64 p0, .int .u64 p1] 93)).alloc (.cells #[.int .u64 (p0 / c), .int .u64 0] 93)).drewN n) (fun _ _ => 0) rfl ?_ ?_
  · go_wp2
    go_step3
    go_wp2_with (go_at_call 61; refine (D1.out _).mono ?_; rintro e w1 ⟨rfl, n1, rfl⟩)
    go_step3
    refine ⟨rfl, n1, _, _, _, _, _, _, _, _, _, _, _, _, _, _, _, rfl, ?_⟩
    rw [setCell_drewN, World.setCell_alloc_at _ _ _ _ _ (by simp)]
    rfl
  · rintro a' w' ⟨n, u7, u8, u9, u10, u11, u12, u13, u14, u15, u16, u17, u18, u19, u20, u21, rfl, rfl⟩
    go_wp2_with (go_at_call 61; refine (D2.out _).mono ?_; rintro e w1 ⟨rfl, n1, rfl⟩)
    simp only [Exit.jump]
    show bodyPost _ _ _ _ _ _
    go_returns
    refine ⟨rfl, ?_⟩
    simp only [setCell_drewN]
    exact below_drewN (by go_grown) _

theorem add64 (x y c : Int) (hx : 0 ≤ x) (hy : 0 ≤ y) (hc0 : 0 ≤ c) (hc : c ≤ 1) (w : World) : (callFunc 53 #[.int .u64 x, .int .u64 y, .int .u64 c]).run Try.prog w =
    .ok (.value (.tuple #[.int .u64 ((x + y + c) % 18446744073709551616), .int .u64 ((x + y + c) / 18446744073709551616)])) w := by
  rw [run_callFunc_extern Try.func53 (by kernel_rfl) (by kernel_rfl) (by kernel_rfl) (e := add64Entry) (by kernel_rfl), run_add64 x y c hx hy hc0 hc]
  rfl
theorem add64_10 (x : Int) (hx : 0 ≤ x) (w : World) : (callFunc 53 #[.int .u64 x, .int .u64 1, .int .u64 0]).run Try.prog w =
    .ok (.value (.tuple #[.int .u64 ((x + 1) % 18446744073709551616), .int .u64 ((x + 1) / 18446744073709551616)])) w := by
  simpa using add64 x 1 0 hx (by decide) (Int.le_refl 0) (by decide) w

set_option maxHeartbeats 400000 in
theorem mul64_any (x y : Int) (x1 : 0 ≤ x) (x2 : x < 18446744073709551616) (y1 : 0 ≤ y) (y2 : y < 18446744073709551616) (w : World) :
    Calls Try.prog 62 #[.int .u64 x, .int .u64 y] w fun e w' => e = .returned (.tuple #[.int .u64 (x * y / 18446744073709551616), .int .u64 (x * y % 18446744073709551616)]) ∧ w' = w := by
  go_enter Try.func62, Try.ntmps62
  go_wp2
  go_ret2
  refine ⟨?_, rfl⟩
  simp only [u64_and32, IntKind.wrap_u64]
  rw [mul_hi x y x1 x2 y1 y2]
  rfl

set_option maxHeartbeats 400000 in
theorem multiply_any (x y : Int) (x1 : 0 ≤ x) (x2 : x < 18446744073709551616) (y1 : 0 ≤ y) (y2 : y < 18446744073709551616) (w : World) :
    Calls Try.prog 57 #[.int .u64 x, .int .u64 y] w fun e w' => e = .returned (.agg #[.int .u64 (x * y / 18446744073709551616), .int .u64 (x * y % 18446744073709551616)]) ∧ Below w.heap.size w w' := by
  go_enter Try.func57, Try.ntmps57
  go_wp2_with (go_at_call 62; refine (mul64_any _ _ x1 x2 y1 y2 _).mono ?_; rintro e w1 ⟨rfl, rfl⟩)
  go_returns
  exact ⟨rfl, by go_grown⟩

set_option maxHeartbeats 400000 in
theorem size_any (a : Int) (a1 : -9223372036854775808 ≤ a) (a2 : a ≤ 9223372036854775807) (w : World) :
    Calls Try.prog 55 #[.int .i64 a] w fun e w' => e = .returned (.int .u64 (ab a)) ∧ w' = w := by
  by_cases h : a < 0
  · go_enter Try.func55, Try.ntmps55
    go_wp2
    go_ret
    exact ⟨ret_int (size_neg a a1 h), rfl⟩
  · go_enter Try.func55, Try.ntmps55
    go_wp2
    go_ret
    exact ⟨ret_int (size_pos a (by omega)), rfl⟩

set_option maxHeartbeats 400000 in
theorem plusOne_any (d0 d1 : Int) (h0 : 0 ≤ d0) (h1 : d0 < 18446744073709551615) (k0 : 0 ≤ d1) (k1 : d1 < 18446744073709551616) (w : World) :
    Calls Try.prog 59 #[.agg #[.int .u64 d0, .int .u64 d1]] w fun e w' => e = .returned (.agg #[.int .u64 ((d0 * 18446744073709551616 + d1 + 1) / 18446744073709551616), .int .u64 ((d0 * 18446744073709551616 + d1 + 1) % 18446744073709551616)]) ∧ ∃ o1 o2, w' = (w.alloc o1).alloc o2 := by
  have e1 : d0 + (d1 + 1) / 18446744073709551616 = (d0 * 18446744073709551616 + d1 + 1) / 18446744073709551616 := by omega
  have e2 : (d1 + 1) % 18446744073709551616 = (d0 * 18446744073709551616 + d1 + 1) % 18446744073709551616 := by omega
  have E := mkHid (And.intro e1 e2)
  clear e1 e2
  go_enter Try.func59, Try.ntmps59
  go_wp2_with (simp only [add64_10 _ k0])
  go_returns
  exact ⟨by rw [← E.out.1, ← E.out.2], _, _, rfl⟩

theorem ret_bool {a b : Bool} (h : a = b) : Ending.returned (.bool a) = .returned (.bool b) := by rw [h]
set_option maxHeartbeats 400000 in
theorem roundsAway_any (below : Bool) (r c how : Int) (r0 : 0 ≤ r) (r1 : r < c) (c1 : c < 18446744073709551616) (w : World) :
    Calls Try.prog 58 #[.bool below, .int .u64 r, .int .u64 c, .int .i64 how] w fun e w' => e = .returned (.bool (mdAway below r c how)) ∧ w' = w := by
  cases below <;> go_each [how = 1, how = 3] => (
    go_enter Try.func58, Try.ntmps58
    go_wp2
    go_ret
    exact ⟨ret_bool (by simp [mdAway, *]), rfl⟩)
end Go.Proofs.Ytjeffjpenhhnnaa
