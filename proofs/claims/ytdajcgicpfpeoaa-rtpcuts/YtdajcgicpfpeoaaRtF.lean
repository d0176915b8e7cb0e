/-
  What the functions that lay a header's bits do.
-/
import Derived.Test.YtdajcgicpfpeoaaRtE
namespace Go.Proofs.Ytdajcgicpfpeoaa
open Go.RowKit

/-- Is it a header? -/
def goodB (ty sq : Int) (ns ne : Nat) (I : Nat → Int) (D : Nat → ByteArray) : Bool := inR ty 0 127 && inR sq 0 65535 && decide (ns ≤ 15) && decide (ne ≤ 14) && exB I D ne
theorem XA.alloc {w : World} {a : Option Addr} {n : Nat} {I : Nat → Int} {D : Nat → ByteArray} (h : XA w.heap.size w a n I D) (o : Obj) : XA (w.alloc o).heap.size (w.alloc o) a n I D :=
  (h.kept ((Below.refl _ _).alloc (Nat.le_refl _) o)).up (by simp)
theorem SA.alloc {w : World} {a : Option Addr} {n : Nat} {S : Nat → Int} (h : SA w.heap.size w a n S) (o : Obj) : SA (w.alloc o).heap.size (w.alloc o) a n S :=
  (h.kept ((Below.refl _ _).alloc (Nat.le_refl _) o)).up (by simp)
set_option maxRecDepth 100000 in
theorem is_any (mk : Bool) (ty sq tm ss : Int) (sa ea : Option Addr) (ns sc ne ec : Nat) (S I : Nat → Int) (D : Nat → ByteArray) (w : World) (hs : SA w.heap.size w sa ns S) (hx : XA w.heap.size w ea ne I D) :
    Calls Try.prog 17 #[.agg #[.bool mk, .int .i64 ty, .int .i64 sq, .int .u32 tm, .int .u32 ss, .slice sa ns sc, .slice ea ne ec]] w fun e w' => e = .returned (.bool (goodB ty sq ns ne I D)) ∧ Below w.heap.size w w' := by
  have n1 := hs.1
  have n2 := hx.1
  unfold maxLen at n1 n2
  have m1 : (ns : Int) ≤ 9223372036854775807 := by omega
  have m2 : (ne : Int) ≤ 9223372036854775807 := by omega
  have K1 := mkHid (within_any ty 0 127)
  have K2 := mkHid (within_any sq 0 65535)
  have A := mkHid (are_any ea ne ec I D _ (hx.alloc (.cells #[.bool mk, .int .i64 ty, .int .i64 sq, .int .u32 tm, .int .u32 ss, .slice sa ns sc, .slice ea ne ec] 26)))
  clear hs hx
  unfold goodB
  cases h1 : inR ty 0 127 with
  | false =>
    rw [h1] at K1
    go_enter Try.func17, Try.ntmps17
    go_wp2_with fail
    refine (K1.out _).mono ?_
    rintro e w1 ⟨rfl, rfl⟩
    go_wp2
    go_ret
    exact ⟨rfl, (Below.refl _ _).alloc (Nat.le_refl _) _⟩
  | true =>
    rw [h1] at K1
    cases h2 : inR sq 0 65535 with
    | false =>
      rw [h2] at K2
      go_enter Try.func17, Try.ntmps17
      go_wp2_with fail
      refine (K1.out _).mono ?_
      rintro e w1 ⟨rfl, rfl⟩
      go_wp2_with fail
      refine (K2.out _).mono ?_
      rintro e w1 ⟨rfl, rfl⟩
      go_wp2
      go_ret
      exact ⟨rfl, (Below.refl _ _).alloc (Nat.le_refl _) _⟩
    | true =>
      rw [h2] at K2
      by_cases h3 : ns ≤ 15
      · by_cases h4 : ne ≤ 14
        · have h3' : (ns : Int) ≤ 15 := by omega
          have h4' : (ne : Int) ≤ 14 := by omega
          rw [decide_eq_true h3, decide_eq_true h4]
          simp only [Bool.true_and]
          generalize exB I D ne = xx at A ⊢
          go_enter Try.func17, Try.ntmps17
          go_wp2_with fail
          refine (K1.out _).mono ?_
          rintro e w1 ⟨rfl, rfl⟩
          go_wp2_with fail
          refine (K2.out _).mono ?_
          rintro e w1 ⟨rfl, rfl⟩
          go_wp2_with fail
          refine (A.out).mono ?_
          rintro e w1 ⟨rfl, hb⟩
          have HB := mkHid hb
          clear hb
          go_wp2
          go_ret
          exact ⟨rfl, ((Below.refl _ _).alloc (Nat.le_refl _) _).trans (HB.out.mono (by simp))⟩
        · have h3' : (ns : Int) ≤ 15 := by omega
          have h4' : ¬ (ne : Int) ≤ 14 := by omega
          rw [decide_eq_true h3, decide_eq_false h4]
          go_enter Try.func17, Try.ntmps17
          go_wp2_with fail
          refine (K1.out _).mono ?_
          rintro e w1 ⟨rfl, rfl⟩
          go_wp2_with fail
          refine (K2.out _).mono ?_
          rintro e w1 ⟨rfl, rfl⟩
          go_wp2
          go_ret
          exact ⟨ret_b (by simp), (Below.refl _ _).alloc (Nat.le_refl _) _⟩
      · have h3' : ¬ (ns : Int) ≤ 15 := by omega
        rw [decide_eq_false h3]
        go_enter Try.func17, Try.ntmps17
        go_wp2_with fail
        refine (K1.out _).mono ?_
        rintro e w1 ⟨rfl, rfl⟩
        go_wp2_with fail
        refine (K2.out _).mono ?_
        rintro e w1 ⟨rfl, rfl⟩
        go_wp2
        go_ret
        exact ⟨ret_b (by simp), (Below.refl _ _).alloc (Nat.le_refl _) _⟩

/-- How many bytes k extensions take. -/
def xlen (D : Nat → ByteArray) : Nat → Nat
  | 0 => 0
  | k + 1 => xlen D k + (1 + (D k).size)
theorem xlen_le {I : Nat → Int} {D : Nat → ByteArray} {n : Nat} (h : ExtOk I D n) (k : Nat) (hk : k ≤ n) : xlen D k ≤ 17 * k := by
  induction k with
  | zero => simp [xlen]
  | succ k ih => have := ih (by omega); have := (h k (by omega)).2.1; simp only [xlen]; omega
set_option maxRecDepth 100000 in
set_option maxHeartbeats 1000000 in
theorem words_any (a : Option Addr) (n cap : Nat) (I : Nat → Int) (D : Nat → ByteArray) (w : World) (hx : XA w.heap.size w a n I D) (hn : n ≤ 14) (hok : ExtOk I D n) :
    Calls Try.prog 37 #[.slice a n cap] w fun e w' => e = .returned (.int .i64 (((xlen D n + 3) / 4 : Nat) : Int)) ∧ Below w.heap.size w w' := by
  obtain ⟨hm, hrow⟩ := hx
  have HROW := mkHid hrow
  have HL := mkHid (fun k hk => xlen_le hok k hk)
  clear hrow hm hok
  obtain ⟨sb, HSB⟩ : ∃ sb, Hid (w.heap.size = sb) := ⟨_, rfl⟩
  rw [HSB.out] at HROW
  go_enter Try.func37, Try.ntmps37
  go_wp2
  go_loopw [3, 8] (fun t i wr => ∃ k : Nat, k ≤ n ∧ i = .int .i64 (k : Int) ∧ t = .int .i64 (xlen D k : Int) ∧ Below sb w wr) (fun _ i _ => n - (intOf i).toNat)
  case atStart => exact ⟨0, Nat.zero_le _, rfl, rfl, Below.refl _ _⟩
  case round =>
    obtain ⟨k, hk, rfl, rfl, hb⟩ := hrel
    have HB := mkHid hb
    have hl := HL.out k hk
    have hz : sb ≤ wr.heap.size := by have := hb.size; rw [HSB.out] at this; exact this
    by_cases hlt : k < n
    · rcases HROW.out with h0 | ⟨b, off, rfl, hbl, hrows⟩
      · omega
      obtain ⟨c0, c1, c2⟩ := hrows k hlt
      have d0 := (hb.cell (p := ⟨b, off + k * 2, none⟩) hbl).trans c0
      have d1 := (hb.cell (p := ⟨b, off + k * 2 + 1, none⟩) hbl).trans c1
      have hbl2 : b < wr.heap.size := by omega
      have hl2 := HL.out (k + 1) (by omega)
      have HX : Hid (xlen D (k + 1) = xlen D k + (1 + (D k).size)) := rfl
      rw [HX.out] at hl2
      clear c0 c1 hrows hb c2
      generalize hdd : D k = dd at d1 hl2 HX
      generalize hxx : xlen D k = xx at *
      clear hdd hxx
      generalize I k = id at d0
      go_wp2
      go_roundw
      case rel => exact ⟨k + 1, by omega, by go_num, by rw [HX.out]; go_num, (HB.out.alloc hz _)⟩
      case measure => simp [intOf]; omega
    · obtain rfl : k = n := by omega
      obtain ⟨xx, HXX⟩ : ∃ xx, Hid (xlen D k = xx) := ⟨_, rfl⟩
      rw [HXX.out] at hl ⊢
      clear hb
      go_wp2
      go_ret
      exact ⟨ret_i (by rw [HXX.out]; omega), by rw [HSB.out]; exact HB.out⟩
end Go.Proofs.Ytdajcgicpfpeoaa
