/-
  math/bits.Len64, LeadingZeros64, Div64: what they hand back.
-/
import Derived.Test.YtjeffjpenhhnnaaRows
import Derived.Test.YtjeffjpenhhnnaaPlain
import Derived.WalkKit
import Derived.WalkSpells
import Derived.WalkLawsBesides
import Derived.Handy
import Derived.Deep.QuietTactic
import Derived.BigQuiet
namespace Go.Proofs.Ytjeffjpenhhnnaa
open Go.RowKit
theorem ret_int {k : IntKind} {a b : Int} (h : a = b) : Ending.returned (.int k a) = .returned (.int k b) := by rw [h]
theorem mkHid {p : Prop} (h : p) : Hid p := h
theorem len_close (b : Nat) (B : Int) (x y : Int) (hB : B = b) (hb : b ≤ 56) (hy : y.toNat = x.toNat / 2 ^ b) (h1 : 1 ≤ y) (h2 : y < 256) : wrap64 (B + wrap64 (bitLen y.toNat : Int)) = (bitLen x.toNat : Int) := by
  have e := bitLen_shift x.toNat b (by omega)
  rw [← hy] at e
  have := bitLen_le8 y.toNat (by omega)
  rw [e, hB]; unfold wrap64; omega
theorem len_close0 (x : Int) (h0 : 0 ≤ x) (h2 : x < 256) : wrap64 (wrap64 (bitLen x.toNat : Int)) = (bitLen x.toNat : Int) := by
  have := bitLen_le8 x.toNat (by omega)
  unfold wrap64; omega
set_option maxRecDepth 100000 in
set_option maxHeartbeats 400000 in
theorem len64_any (x : Int) (h0 : 0 ≤ x) (h1 : x < 18446744073709551616) (w : World) :
    Calls Try.prog 64 #[.int .u64 x] w fun e w' => e = .returned (.int .i64 (bitLen x.toNat)) ∧ w' = w := by
  go_enter Try.func64, Try.ntmps64
  go_wp2
  all_goals go_ret
  all_goals refine ⟨?_, rfl⟩
  all_goals rw [len8tab_get]
  · exact ret_int (len_close 56 _ x _ rfl (by omega) (by omega) (by omega) (by omega))
  · exact ret_int (len_close 48 _ x _ rfl (by omega) (by omega) (by omega) (by omega))
  · exact ret_int (len_close 40 _ x _ rfl (by omega) (by omega) (by omega) (by omega))
  · exact ret_int (len_close 32 _ x _ rfl (by omega) (by omega) (by omega) (by omega))
  · exact ret_int (len_close 24 _ x _ rfl (by omega) (by omega) (by omega) (by omega))
  · exact ret_int (len_close 16 _ x _ rfl (by omega) (by omega) (by omega) (by omega))
  · exact ret_int (len_close 8 _ x _ rfl (by omega) (by omega) (by omega) (by omega))
  · exact ret_int (len_close0 x h0 (by omega))

/-- How many zeros lead. -/
def lzN (y : Int) : Int := 64 - bitLen y.toNat
theorem lzN_bd (y : Int) (h1 : 1 ≤ y) (h2 : y < 18446744073709551616) : 0 ≤ lzN y ∧ lzN y ≤ 63 ∧ 9223372036854775808 ≤ y * 2 ^ (lzN y).toNat ∧ y * 2 ^ (lzN y).toNat < 18446744073709551616 := by
  obtain ⟨s1, s2⟩ := bitLen_spec y.toNat
  have s2 := s2 (by omega)
  unfold lzN
  generalize bitLen y.toNat = L at *
  have hL1 : 1 ≤ L := by
    rcases Nat.eq_zero_or_pos L with h | h
    · subst h; simp at s1; omega
    · exact h
  have hL : L ≤ 64 := by
    rcases Nat.lt_or_ge 64 L with h | h
    · have : 2 ^ 64 ≤ 2 ^ (L - 1) := Nat.pow_le_pow_right (by decide) (by omega)
      omega
    · exact h
  have e1 : (64 - (L : Int)).toNat = 64 - L := by omega
  have p : 0 < 2 ^ (64 - L) := Nat.two_pow_pos _
  have m1 := Nat.mul_lt_mul_of_pos_right s1 p
  have m2 := Nat.mul_le_mul_right (2 ^ (64 - L)) s2
  rw [← Nat.pow_add] at m1 m2
  rw [show L + (64 - L) = 64 by omega] at m1
  rw [show L - 1 + (64 - L) = 63 by omega] at m2
  rw [e1]
  have c : y * 2 ^ (64 - L) = ((y.toNat * 2 ^ (64 - L) : Nat) : Int) := by
    rw [Int.natCast_mul, Int.natCast_pow, Int.toNat_of_nonneg (by omega)]; rfl
  rw [c]
  omega
set_option maxHeartbeats 400000 in
theorem lz64_any (x : Int) (h0 : 1 ≤ x) (h1 : x < 18446744073709551616) (w : World) :
    Calls Try.prog 63 #[.int .u64 x] w fun e w' => e = .returned (.int .i64 (lzN x)) ∧ w' = w := by
  have hb := lzN_bd x h0 h1
  go_enter Try.func63, Try.ntmps63
  go_wp2_with (go_at_call 64; refine (len64_any _ (by omega) h1 _).mono ?_; rintro e w1 ⟨rfl, rfl⟩)
  go_ret
  refine ⟨ret_int ?_, rfl⟩
  unfold lzN at *; unfold wrap64; omega

theorem ret_pair {a b a' b' : Int} (h : a = a') (k : b = b') : Ending.returned (.tuple #[.int .u64 a, .int .u64 b]) = .returned (.tuple #[.int .u64 a', .int .u64 b']) := by rw [h, k]
set_option maxHeartbeats 1000000 in
theorem div64_big (hi lo y : Int) (a0 : 1 ≤ hi) (a1 : hi < y) (b0 : 0 ≤ lo) (b1 : lo < 18446744073709551616) (c1 : y < 18446744073709551616) (w : World) :
    Calls Try.prog 61 #[.int .u64 hi, .int .u64 lo, .int .u64 y] w fun e w' => e = .returned (.tuple #[.int .u64 ((hi * 18446744073709551616 + lo) / y), .int .u64 ((hi * 18446744073709551616 + lo) % y)]) ∧ w' = w := by
  obtain ⟨s0, s1, s2, s3⟩ := lzN_bd y (by omega) c1
  have HL := lz64_any y (by omega) c1
  generalize lzN y = s at *
  have hp : 0 < (2 : Int) ^ s.toNat := Int.pow_pos (by decide)
  have hh : hi * 2 ^ s.toNat < 18446744073709551616 - 2 ^ s.toNat := by
    have := Int.mul_le_mul_of_nonneg_right (show hi + 1 ≤ y by omega) (Int.le_of_lt hp)
    rw [Int.add_mul, Int.one_mul] at this; omega
  have eor := mkHid (up_hi hi lo s _ rfl s0 s1 (by omega) hh b0 b1)
  have elo := mkHid (up_lo hi lo (2 ^ s.toNat))
  have HD : Hid (Digits ((hi * 18446744073709551616 + lo) * 2 ^ s.toNat / 18446744073709551616) ((hi * 18446744073709551616 + lo) * 2 ^ s.toNat % 18446744073709551616 / 4294967296) (y * 2 ^ s.toNat)) := by
    have hM : 0 ≤ (hi * 18446744073709551616 + lo) * 2 ^ s.toNat := Int.mul_nonneg (by omega) (by omega)
    have hU : (hi * 18446744073709551616 + lo) * 2 ^ s.toNat < y * 2 ^ s.toNat * 18446744073709551616 := by
      rw [Int.mul_right_comm]
      exact Int.mul_lt_mul_of_pos_right (by omega) hp
    refine ⟨by omega, ?_, by omega, by omega, s2, s3⟩
    exact Int.ediv_lt_of_lt_mul (by omega) hU
  go_enter Try.func61, Try.ntmps61
  go_wp2_with (go_at_call 63; refine (HL _).mono ?_; rintro e w1 ⟨rfl, rfl⟩)
  simp only [eor.out, elo.out, u64_and32]
  generalize hMe : (hi * 18446744073709551616 + lo) * 2 ^ s.toNat = M at *
  generalize hYe : y * 2 ^ s.toNat = Y at *
  have D := HD.out
  simp only [(dg_wrap D).1, (dg_wrap D).2]
  go_loopw [15, 16] (fun q r wr => ∃ Q R : Int, q = .int .u64 Q ∧ r = .int .u64 R ∧ wr = w1 ∧ Digit (M / 18446744073709551616) (M % 18446744073709551616 / 4294967296) Y Q R) (fun q _ _ => (intOf q).toNat)
  case atStart => exact ⟨_, _, rfl, rfl, rfl, dg_start D⟩
  case round =>
    obtain ⟨Q, R, rfl, rfl, rfl, G⟩ := hrel
    have G' := mkHid G
    have D' := mkHid D
    obtain ⟨q0, q1, r0, r1, ge, gl⟩ := G
    obtain ⟨u0, u1, v0, v1, y0, y1⟩ := D
    clear ge gl u1
    rcases dg_ways (M % 18446744073709551616 / 4294967296) Y Q R with ⟨hc, h1, hr⟩ | ⟨hc, ⟨h1, h2⟩, hr⟩ | ⟨hc, h1, hr⟩ | ⟨hc, ⟨h1, h2⟩, hr⟩ | ⟨h1, h2⟩
    · have hd := (dg_dec D'.out G'.out hc).2
      have HC := mkHid hc
      clear hc
      go_wp2
      go_roundw
      case rel => exact ⟨_, _, rfl, rfl, trivial, dg_next D'.out G'.out HC.out hr⟩
      case measure => simp [intOf]; omega
    · have hd := (dg_dec D'.out G'.out hc).2
      have HC := mkHid hc
      clear hc
      have hm := dg_small (Y := Y) q0 h1
      go_wp2
      go_roundw
      case rel => exact ⟨_, _, rfl, rfl, trivial, dg_next D'.out G'.out HC.out hr⟩
      case measure => simp [intOf]; omega
    have HQ := mkHid (dg_break D'.out G'.out hc hr)
    have hd := (dg_dec D'.out G'.out hc).2
    clear hc
    rotate_left
    have HQ := mkHid (dg_break D'.out G'.out hc hr)
    have hd := (dg_dec D'.out G'.out hc).2
    clear hc
    have hm := dg_small (Y := Y) q0 h1
    rotate_left
    have HQ := mkHid (dg_exit D'.out G'.out.le G'.out.eq h2)
    have hm := dg_small (Y := Y) q0 h1
    all_goals go_wp2
    all_goals (
      simp only [HQ.out]
      obtain ⟨eL, eM, l0, l1⟩ := left_eq D'.out rfl
      simp only [eL]
      have EM := mkHid eM
      clear eM eL HQ G' D' h1
      generalize left (M / 18446744073709551616) (M % 18446744073709551616 / 4294967296) Y = U2 at *
      generalize (M / 18446744073709551616 * 4294967296 + M % 18446744073709551616 / 4294967296) / Y = Q1 at *
      have D : Digits U2 (M % 4294967296) Y := ⟨l0, l1, by omega, by omega, y0, y1⟩
      simp only [(dg_wrap D).1, (dg_wrap D).2]
      clear q0 q1 r0 r1
      go_loopw [18, 16] (fun q r wr2 => ∃ Q R : Int, q = .int .u64 Q ∧ r = .int .u64 R ∧ wr2 = wr ∧ Digit U2 (M % 4294967296) Y Q R) (fun q _ _ => (intOf q).toNat)
      case atStart => exact ⟨_, _, rfl, rfl, rfl, dg_start D⟩
      case round =>
        obtain ⟨Q, R, rfl, rfl, rfl, G⟩ := hrel
        have G' := mkHid G
        have D' := mkHid D
        obtain ⟨q0, q1, r0, r1, ge, gl⟩ := G
        obtain ⟨u0, u1, v0, v1, y0, y1⟩ := D
        clear ge gl u1
        rcases dg_ways (M % 4294967296) Y Q R with ⟨hc, h1, hr⟩ | ⟨hc, ⟨h1, h2⟩, hr⟩ | ⟨hc, h1, hr⟩ | ⟨hc, ⟨h1, h2⟩, hr⟩ | ⟨h1, h2⟩
        · have hd := (dg_dec D'.out G'.out hc).2
          have HC := mkHid hc
          clear hc
          go_wp2
          go_roundw
          case rel => exact ⟨_, _, rfl, rfl, trivial, dg_next D'.out G'.out HC.out hr⟩
          case measure => simp [intOf]; omega
        · have hd := (dg_dec D'.out G'.out hc).2
          have HC := mkHid hc
          clear hc
          have hm := dg_small (Y := Y) q0 h1
          go_wp2
          go_roundw
          case rel => exact ⟨_, _, rfl, rfl, trivial, dg_next D'.out G'.out HC.out hr⟩
          case measure => simp [intOf]; omega
        have HQ := mkHid (dg_break D'.out G'.out hc hr)
        have hd := (dg_dec D'.out G'.out hc).2
        clear hc
        rotate_left
        have HQ := mkHid (dg_break D'.out G'.out hc hr)
        have hd := (dg_dec D'.out G'.out hc).2
        clear hc
        have hm := dg_small (Y := Y) q0 h1
        rotate_left
        have HQ := mkHid (dg_exit D'.out G'.out.le G'.out.eq h2)
        have hm := dg_small (Y := Y) q0 h1
        all_goals go_wp2
        all_goals (
          go_ret2
          simp only [HQ.out]
          refine ⟨?_, trivial⟩
          have c := div_close hi lo y (2 ^ s.toNat) M Y Q1 _ U2 hp hMe hYe (by omega) a1 b0 b1 D'.out EM.out rfl
          exact ret_pair c.1 c.2))
end Go.Proofs.Ytjeffjpenhhnnaa
