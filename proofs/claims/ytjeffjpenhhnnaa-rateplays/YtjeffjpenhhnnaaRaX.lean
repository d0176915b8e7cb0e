/-
  A meter as its samples and its fates: what Lost, Loss and Got do.
-/
import Derived.Test.YtjeffjpenhhnnaaRaE
import Derived.Test.YtjeffjpenhhnnaaRaWa
namespace Go.Proofs.Ytjeffjpenhhnnaa
open Go.RowKit

/-- A meter: L counts, F are the last fates, the newest first. -/
def Mt (N : Nat → Prop) (w : World) (b : Nat) (win ear en : Int) (L : List Sm) (F : List Bool) : Prop :=
  ∃ X, Mq N w b win ear en X L (sz L) (bval F : Nat) (F.length : Nat) ∧ Asc L ∧ Fit L ∧ X.length ≤ L.length ∧ F.length ≤ 64
theorem Mt.kept {N : Nat → Prop} {w w' : World} {b : Nat} {win ear en : Int} {L : List Sm} {F : List Bool} {Y : Nat → Prop} (h : Mt N w b win ear en L F) (ha : Apart Y w w') (hx : ∀ k, N k → ¬ Y k) : Mt N w' b win ear en L F := by
  obtain ⟨X, h1, h2⟩ := h
  exact ⟨X, h1.kept ha hx, h2⟩
theorem Mt.bx {N : Nat → Prop} {w : World} {b : Nat} {win ear en : Int} {L : List Sm} {F : List Bool} (h : Mt N w b win ear en L F) : ∃ (qv : Value) (k : Nat), Bx w b win ear en qv k (sz L) (bval F : Nat) (F.length : Nat) := by
  obtain ⟨X, ⟨qv, h, _⟩, _⟩ := h
  exact ⟨qv, X.length, h⟩
theorem Mt.le {N : Nat → Prop} {w : World} {b : Nat} {win ear en : Int} {L : List Sm} {F : List Bool} (h : Mt N w b win ear en L F) : F.length ≤ 64 := by
  obtain ⟨X, _, _, _, _, h⟩ := h
  exact h
theorem Mt.fit {N : Nat → Prop} {w : World} {b : Nat} {win ear en : Int} {L : List Sm} {F : List Bool} (h : Mt N w b win ear en L F) : Fit L := by
  obtain ⟨X, _, _, h, _⟩ := h
  exact h
theorem Mt.own {N : Nat → Prop} {w : World} {b : Nat} {win ear en : Int} {L : List Sm} {F : List Bool} (h : Mt N w b win ear en L F) : N b ∧ ∀ k, N k → k < w.heap.size := by
  obtain ⟨X, ⟨qv, _, _, h3, h4⟩, _⟩ := h
  exact ⟨h3, h4⟩
theorem mt_new {w : World} {b : Nat} {win : Int} (h : Bx w b win 1125899906842624 (-1125899906842624) (.slice none 0 0) 0 0 0 0) : Mt (fun k => k = b) w b win 1125899906842624 (-1125899906842624) [] [] :=
  ⟨[], ⟨_, h, .inl ⟨rfl, rfl⟩, rfl, fun k e => by rw [show k = b from e]; exact h.lt⟩, List.Pairwise.nil, (fun s h => by cases h), Nat.le_refl _, Nat.zero_le _⟩
def lossV (F : List Bool) : Int := ((ones F * 256 / F.length : Nat) : Int)
theorem lossV_nil : lossV [] = 0 := rfl
theorem lossV_le (F : List Bool) : 0 ≤ lossV F ∧ lossV F ≤ 256 := by
  unfold lossV
  have h := ones_le F
  have : ones F * 256 / F.length ≤ 256 := by
    rw [Nat.mul_comm]
    exact Nat.le_trans (Nat.div_le_div_right (Nat.mul_le_mul_left 256 h)) (by
      by_cases e : F.length = 0
      · rw [e]; omega
      · rw [Nat.mul_div_cancel _ (by omega)]; exact Nat.le_refl _)
  exact ⟨Int.natCast_nonneg _, Int.ofNat_le.2 this⟩
set_option maxHeartbeats 400000 in
theorem loss_any {w : World} {b : Nat} {win ear en : Int} {qv : Value} {gone byt : Int} {F : List Bool} (h : Bx w b win ear en qv gone byt (bval F : Nat) (F.length : Nat)) (hF : F.length ≤ 64) :
    Calls Try.prog 20 #[.pointer (some ⟨b, 0, none⟩)] w fun e w' => e = .returned (.int .i64 (lossV F)) ∧ Apart (fun _ => False) w w' := by
  have O := mkHid (fun W => (ones_any F hF W).mono (fun e w' ⟨h1, h2⟩ => And.intro h1 (by subst h2; exact Apart.refl (fun _ => False) _)))
  have ho := ones_le F
  obtain ⟨n, HN⟩ : ∃ n, Hid (F.length = n) := ⟨_, mkHid rfl⟩
  obtain ⟨o, HO⟩ : ∃ o, Hid (ones F = o) := ⟨_, mkHid rfl⟩
  obtain ⟨c0, c1, c2, c3, c4, c5, c6, c7, -⟩ := cells8 h
  have a6 := fun p => (cells8 (wd_heap h p)).2.2.2.2.2.2.1
  have a7 := fun p => (cells8 (wd_heap h p)).2.2.2.2.2.2.2.1
  have hv : lossV F = ((o * 256 / n : Nat) : Int) := by unfold lossV; rw [HN.out, HO.out]
  rw [HN.out] at c7 a7 ho hF
  rw [HO.out] at O ho
  rw [hv]
  clear h hv c0 c1 c2 c3 c4 c5 c6
  by_cases h0 : n = 0
  · subst h0
    go_enter Try.func20, Try.ntmps20
    go_wp2
    go_ret
    exact ⟨ret_i (by omega), Apart.refl _ _⟩
  · have hn0 : (n : Int) ≠ 0 := by omega
    have hn1 : ((n : Int) == 0) = false := by simp [h0]
    have hw : IntKind.i64.wrap ((o : Int) * 256) = (o : Int) * 256 := by rw [IntKind.wrap_i64]; omega
    go_enter Try.func20, Try.ntmps20
    go_upto_region 3 with fail
    refine wp_region_wd (by kernel_rfl) (by kernel_rfl) ?_
    repeat (go_big_quiet_step ((go_at_call 33; exact wd_call (O.out _))))
    refine wpQuiet_nil ?_
    rintro _ ⟨p, rfl⟩
    go_wp2
    go_ret
    refine ⟨ret_i ?_, wd_apart _ _⟩
    rw [Int.natCast_ediv, Int.natCast_mul]
    rfl
theorem lost_nil (n : Int) (w : World) : Calls Try.prog 12 #[.pointer none, .int .i64 n] w fun e w' => e = .returned (.tuple #[]) ∧ w' = w := by
  go_enter Try.func12, Try.ntmps12
  go_wp2
  first | go_end0 | ((try simp only [Exit.inBlock, Exit.then]); refine bodyPost_ret (results_none rfl _ _ _) rfl ?_)
  exact ⟨rfl, rfl⟩
theorem got_nil (x z : Int) (w : World) : Calls Try.prog 10 #[.pointer none, .int .i64 x, .int .i64 z] w fun e w' => e = .returned (.tuple #[]) ∧ w' = w := by
  go_enter Try.func10, Try.ntmps10
  go_wp2
  first | go_end0 | ((try simp only [Exit.inBlock, Exit.then]); refine bodyPost_ret (results_none rfl _ _ _) rfl ?_)
  exact ⟨rfl, rfl⟩
theorem lost_no (b : Nat) (n : Int) (h : n < 0 ∨ 4096 < n) (w : World) : Calls Try.prog 12 #[.pointer (some ⟨b, 0, none⟩), .int .i64 n] w fun e w' => e = .returned (.tuple #[]) ∧ w' = w := by
  by_cases h1 : n < 0
  · clear h
    go_enter Try.func12, Try.ntmps12
    go_wp2
    first | go_end0 | ((try simp only [Exit.inBlock, Exit.then]); refine bodyPost_ret (results_none rfl _ _ _) rfl ?_)
    exact ⟨rfl, rfl⟩
  · have h2 : 4096 < n := by omega
    clear h
    go_enter Try.func12, Try.ntmps12
    go_wp2
    first | go_end0 | ((try simp only [Exit.inBlock, Exit.then]); refine bodyPost_ret (results_none rfl _ _ _) rfl ?_)
    exact ⟨rfl, rfl⟩
theorem got_no (b : Nat) (x z : Int) (h : z < 0 ∨ 1500 < z ∨ x < -1125899906842624 ∨ 1125899906842624 < x) (w : World) : Calls Try.prog 10 #[.pointer (some ⟨b, 0, none⟩), .int .i64 x, .int .i64 z] w fun e w' => e = .returned (.tuple #[]) ∧ w' = w := by
  by_cases h1 : z < 0
  · clear h
    go_enter Try.func10, Try.ntmps10
    go_wp2
    first | go_end0 | ((try simp only [Exit.inBlock, Exit.then]); refine bodyPost_ret (results_none rfl _ _ _) rfl ?_)
    exact ⟨rfl, rfl⟩
  · by_cases h2 : 1500 < z
    · clear h
      go_enter Try.func10, Try.ntmps10
      go_wp2
      first | go_end0 | ((try simp only [Exit.inBlock, Exit.then]); refine bodyPost_ret (results_none rfl _ _ _) rfl ?_)
      exact ⟨rfl, rfl⟩
    · by_cases h3 : x < -1125899906842624
      · clear h
        go_enter Try.func10, Try.ntmps10
        go_wp2
        first | go_end0 | ((try simp only [Exit.inBlock, Exit.then]); refine bodyPost_ret (results_none rfl _ _ _) rfl ?_)
        exact ⟨rfl, rfl⟩
      · have h4 : 1125899906842624 < x := by omega
        clear h
        go_enter Try.func10, Try.ntmps10
        go_wp2
        first | go_end0 | ((try simp only [Exit.inBlock, Exit.then]); refine bodyPost_ret (results_none rfl _ _ _) rfl ?_)
        exact ⟨rfl, rfl⟩
theorem lost_any {N : Nat → Prop} {w : World} {b : Nat} {win ear en : Int} {L : List Sm} {F : List Bool} (h : Mt N w b win ear en L F) (n : Nat) (hn : n ≤ 4096) :
    Calls Try.prog 12 #[.pointer (some ⟨b, 0, none⟩), .int .i64 n] w fun e w' => e = .returned (.tuple #[]) ∧ Mt N w' b win ear en L (ftF n true F) ∧ Apart (fun k => k = b) w w' := by
  obtain ⟨X, ⟨qv, h1, h2, h3, h4⟩, h5, h6, h7, h8⟩ := h
  have C := mkHid (tell_any h1 (by omega) (by omega) n hn 18446744073709551615)
  rw [tlF_lost] at C
  have hq := mkHid h2
  have h9 := mkHid (And.intro h4 (And.intro h7 h8))
  have n0 : (0 : Int) ≤ n := by omega
  have n1 : (n : Int) ≤ 4096 := by omega
  clear h1 h2 h4 h7 h8
  go_enter Try.func12, Try.ntmps12
  go_wp2_with (go_at_call 27; refine C.out.mono ?_; rintro e w2 ⟨rfl, hb, ha⟩)
  first | go_end0 | ((try simp only [Exit.inBlock, Exit.then]); refine bodyPost_ret (results_none rfl _ _ _) rfl ?_)
  refine ⟨rfl, ⟨X, ⟨qv, ?_, hq.out.kept ha (fun k h e => h.2 e), h3, fun k hk => Nat.lt_of_lt_of_le (h9.out.1 k hk) ha.size⟩, h5, h6, h9.out.2.1, by rw [ftF_len]; omega⟩, ha⟩
  have e : (min ((F.length : Int) + n) 64) = ((ftF n true F).length : Int) := by rw [ftF_len]; omega
  rw [← e]
  exact hb
end Go.Proofs.Ytjeffjpenhhnnaa
