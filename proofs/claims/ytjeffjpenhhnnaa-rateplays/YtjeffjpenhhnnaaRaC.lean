/-
  What the meter's questions hand back; how packets of one fate are told.
-/
import Derived.Test.YtjeffjpenhhnnaaRaB
namespace Go.Proofs.Ytjeffjpenhhnnaa
open Go.RowKit

theorem bytes_nil (w : World) : Calls Try.prog 16 #[.pointer none] w fun e w' => e = .returned (.int .i64 0) ∧ w' = w := by
  go_enter Try.func16, Try.ntmps16
  go_wp2
  go_ret
  exact ⟨rfl, rfl⟩
theorem rate_nil (w : World) : Calls Try.prog 14 #[.pointer none] w fun e w' => e = .returned (.int .i64 0) ∧ w' = w := by
  go_enter Try.func14, Try.ntmps14
  go_wp2
  go_ret
  exact ⟨rfl, rfl⟩
theorem loss_nil (w : World) : Calls Try.prog 20 #[.pointer none] w fun e w' => e = .returned (.int .i64 0) ∧ w' = w := by
  go_enter Try.func20, Try.ntmps20
  go_wp2
  go_ret
  exact ⟨rfl, rfl⟩
theorem bytes_any {w : World} {b : Nat} {win ear en : Int} {qv : Value} {gone byt fa pk : Int} (h : Bx w b win ear en qv gone byt fa pk) :
    Calls Try.prog 16 #[.pointer (some ⟨b, 0, none⟩)] w fun e w' => e = .returned (.int .i64 byt) ∧ Apart (fun _ => False) w w' := by
  obtain ⟨c0, c1, c2, c3, c4, c5, c6, c7, -⟩ := cells8 h
  clear h
  go_enter Try.func16, Try.ntmps16
  go_wp2
  go_ret
  exact ⟨rfl, Apart.refl _ _⟩
theorem rate_of {w : World} {b : Nat} {win ear en : Int} {qv : Value} {gone byt fa pk : Int} (h : Bx w b win ear en qv gone byt fa pk) (e1 : -1125899906842624 ≤ ear) (e2 : ear ≤ 1125899906842624) (n1 : -1125899906842624 ≤ en) (n2 : en ≤ 1125899906842624)
    (y1 : -9223372036854775808 ≤ byt) (y2 : byt ≤ 9223372036854775807) (w1 : 1 ≤ win) (w2 : win ≤ 1125899906842624) :
    Calls Try.prog 14 #[.pointer (some ⟨b, 0, none⟩)] w fun e w' => e = .returned (.int .i64 (mdV byt 8000000 (spn win ear en) 1)) ∧ Apart (fun _ => False) w w' := by
  have O := mkHid (fun p => span_any (w := wd w p) (wd_heap h p) e1 e2 n1 n2)
  have R := mkHid (fun W => (rate_any byt (spn win ear en) y1 y2 (by unfold spn; omega) (by unfold spn; omega) W).mono (fun e w' ⟨h1, h2⟩ => And.intro h1 (below_apart h2)))
  have c5 := fun p => (cells8 (wd_heap h p)).2.2.2.2.2.1
  clear h
  go_enter Try.func14, Try.ntmps14
  go_wp2
  refine wp_region_wd (by kernel_rfl) (by kernel_rfl) ?_
  repeat (go_big_quiet_step (first | (go_at_call 30; exact wd_call (O.out _)) | (go_at_call 29; exact wd_call (R.out _))))
  refine wpQuiet_nil ?_
  rintro _ ⟨p, rfl⟩
  go_wp2
  go_ret
  exact ⟨rfl, wd_apart _ _⟩
theorem full_nil (w : World) : Calls Try.prog 18 #[.pointer none] w fun e w' => e = .returned (.bool false) ∧ Apart (fun _ => False) w w' := by
  go_enter Try.func18, Try.ntmps18
  go_upto_region 1 with fail
  refine wp_region_wd (by kernel_rfl) (by kernel_rfl) ?_
  repeat (go_big_quiet_step (fail))
  refine wpQuiet_nil ?_
  rintro _ ⟨p, rfl⟩
  go_wp2
  go_ret
  exact ⟨rfl, wd_apart _ _⟩
theorem full_any {w : World} {b : Nat} {win ear en : Int} {qv : Value} {gone byt fa pk : Int} (h : Bx w b win ear en qv gone byt fa pk) (e1 : -1125899906842624 ≤ ear) (e2 : ear ≤ 1125899906842624) (n1 : -1125899906842624 ≤ en) (n2 : en ≤ 1125899906842624) :
    Calls Try.prog 18 #[.pointer (some ⟨b, 0, none⟩)] w fun e w' => e = .returned (.bool (decide (win ≤ en - ear))) ∧ Apart (fun _ => False) w w' := by
  have O := mkHid (fun p => over_any (w := wd w p) (wd_heap h p) e1 e2 n1 n2)
  have c0 := fun p => (cells8 (wd_heap h p)).1
  clear h
  go_enter Try.func18, Try.ntmps18
  go_upto_region 1 with fail
  refine wp_region_wd (by kernel_rfl) (by kernel_rfl) ?_
  repeat (go_big_quiet_step ((go_at_call 32; exact wd_call (O.out _))))
  refine wpQuiet_nil ?_
  rintro _ ⟨p, rfl⟩
  go_wp2
  go_ret
  exact ⟨rfl, wd_apart _ _⟩

/-- The fates behind n more packets of one fate. -/
def tlF (fa : Int) (n : Nat) (f : Int) : Int := bits .or .u64 (IntKind.u64.wrap (fa * 2 ^ min n 64)) (bits .andNot .u64 f (IntKind.u64.wrap (18446744073709551615 * 2 ^ min n 64)))
set_option maxHeartbeats 400000 in
theorem tell_any {w : World} {b : Nat} {win ear en : Int} {qv : Value} {gone byt fa pk : Int} (h : Bx w b win ear en qv gone byt fa pk) (p0 : 0 ≤ pk) (p1 : pk ≤ 64) (n : Nat) (n1 : n ≤ 4096) (f : Int) :
    Calls Try.prog 27 #[.pointer (some ⟨b, 0, none⟩), .int .i64 n, .int .u64 f] w fun e w' => e = .returned (.tuple #[]) ∧ Bx w' b win ear en qv gone byt (tlF fa n f) (min (pk + n) 64) ∧ Apart (fun k => k = b) w w' := by
  obtain ⟨c0, c1, c2, c3, c4, c5, c6, c7, cf⟩ := cells8 h
  have H := mkHid ((h.set_fa (tlF fa n f)).set_pk (min (pk + n) 64))
  have A := mkHid (((ap_set w b 6 (.int .u64 (tlF fa n f))).trans (ap_set _ b 7 (.int .i64 (min (pk + n) 64))) (fun _ _ h => h)).drew)
  clear h
  by_cases hm : pk + n ≤ 64
  · have e : tlF fa n f = bits .or .u64 (IntKind.u64.wrap (fa * 2 ^ n)) (bits .andNot .u64 f (IntKind.u64.wrap (18446744073709551615 * 2 ^ n))) := by unfold tlF; rw [Nat.min_eq_left (by omega)]
    rw [Int.min_eq_left hm] at H A ⊢
    rw [e] at H A
    replace e := mkHid e
    go_enter Try.func27, Try.ntmps27
    go_upto_region 0 with fail
    go_region
    go_wp2
    all_goals first | omega | (go_end0; exact ⟨rfl, by rw [e.out]; exact H.out, A.out⟩)
  · have e : tlF fa n f = bits .or .u64 (IntKind.u64.wrap (fa * 2 ^ min n 64)) (bits .andNot .u64 f (IntKind.u64.wrap (18446744073709551615 * 2 ^ min n 64))) := rfl
    rw [Int.min_eq_right (by omega)] at H A ⊢
    rw [e] at H A
    replace e := mkHid e
    go_enter Try.func27, Try.ntmps27
    go_upto_region 0 with fail
    go_region
    go_wp2
    all_goals first | omega | (go_end0; exact ⟨rfl, by rw [e.out]; exact H.out, A.out⟩)
end Go.Proofs.Ytjeffjpenhhnnaa
