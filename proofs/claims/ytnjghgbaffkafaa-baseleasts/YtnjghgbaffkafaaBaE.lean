/-
  The base's Add, told of the samples that count.
-/
import Derived.Test.YtnjghgbaffkafaaBaD
namespace Go.Proofs.Ytnjghgbaffkafaa
open Go.RowKit

/-- The row of a time. -/
def rwN (W a : Int) : Int := max 0 (min a 1125899906842624) / W
/-- A delay as it is held. -/
def dlH (d : Int) : Int := max (-1125899906842624) (min d 1125899906842624)
theorem dlH_in (d : Int) : -1125899906842624 ≤ dlH d ∧ dlH d ≤ 1125899906842624 := by unfold dlH; omega
theorem rwN_in (W a : Int) (hW : 1 ≤ W) : 0 ≤ rwN W a ∧ rwN W a ≤ 1125899906842624 := by
  unfold rwN
  have h0 : 0 ≤ max 0 (min a 1125899906842624) := by omega
  have h1 : max 0 (min a 1125899906842624) ≤ 1125899906842624 := by omega
  generalize max 0 (min a 1125899906842624) = x at *
  exact ⟨Int.ediv_nonneg h0 (by omega), Int.le_trans (Int.ediv_le_self _ h0) h1⟩
/-- A base: the samples of L count, N is the newest row, Q its queue. -/
def Bs (w : World) (b : Nat) (W : Int) (k : Nat) (L : List Sp) (N Q : Int) : Prop := ∃ R, Bx w b W k R N Q ∧ Inv k R N L ∧ 1 ≤ W ∧ W ≤ 1125899906842624
theorem Bs.kept {w w' : World} {b : Nat} {W : Int} {k : Nat} {L : List Sp} {N Q : Int} {X : Nat → Prop} (h : Bs w b W k L N Q) (ha : Apart X w w') (hx : ¬ X b) : Bs w' b W k L N Q := by
  obtain ⟨R, h1, h2⟩ := h
  exact ⟨R, h1.kept ha hx, h2⟩
theorem Bs.lt {w : World} {b : Nat} {W : Int} {k : Nat} {L : List Sp} {N Q : Int} (h : Bs w b W k L N Q) : b < w.heap.size := by
  obtain ⟨R, h1, h2⟩ := h
  exact h1.lt
theorem bs_new {W : Int} {k : Nat} (h1 : 1 ≤ W) (h2 : W ≤ 1125899906842624) (k1 : 1 ≤ k) (k2 : k ≤ 64) (w : World) :
    Calls Try.prog 8 #[.int .i64 W, .int .i64 k] w fun e w' => e = .returned (.tuple #[.pointer (some ⟨w.heap.size, 0, none⟩), .int .i64 0]) ∧ Bs w' w.heap.size W k [] 0 0 ∧ Apart (fun _ => False) w w' :=
  (new_any W k h1 h2 k1 k2 w).mono fun _ _ ⟨he, hb, ha⟩ => ⟨he, ⟨_, hb, Inv.none k k1 k2, h1, h2⟩, ha⟩
theorem bs_least {w : World} {b : Nat} {W : Int} {k : Nat} {L : List Sp} {N Q : Int} (h : Bs w b W k L N Q) :
    Calls Try.prog 12 #[.pointer (some ⟨b, 0, none⟩)] w fun e w' => e = .returned (.tuple #[.int .i64 (lm L).1, .bool (lm L).2]) ∧ Apart (fun _ => False) w w' := by
  obtain ⟨R, h1, h2, -⟩ := h
  have := least_any h1 h2.n0 h2.n1 h2.k1
  rw [h2.least] at this
  exact this
theorem bs_queue {w : World} {b : Nat} {W : Int} {k : Nat} {L : List Sp} {N Q : Int} (h : Bs w b W k L N Q) :
    Calls Try.prog 14 #[.pointer (some ⟨b, 0, none⟩)] w fun e w' => e = .returned (.int .i64 Q) ∧ w' = w := by
  obtain ⟨R, h1, -⟩ := h
  exact queue_any h1
theorem Bx.frz {w : World} {b : Nat} {W : Int} {k : Nat} {R : Nat → Rw} {N Q : Int} (h : Bx w b W k R N Q) : ∀ j, w.frozen? ⟨b, j, none⟩ = false := h.frozen
set_option maxHeartbeats 2000000 in
theorem bs_add {w : World} {b : Nat} {W : Int} {k : Nat} {L : List Sp} {N Q : Int} (h : Bs w b W k L N Q) (a d n z q : Int) (hn : rwN W a = n) (hz : dlH d = z) (hq : quE k N L n z = q) :
    Calls Try.prog 10 #[.pointer (some ⟨b, 0, none⟩), .int .i64 a, .int .i64 d] w fun e w' => e = .returned (.int .i64 q) ∧ Bs w' b W k (addL k N L n z) (max N n) q ∧ Apart (fun k => k = b) w w' := by
  obtain ⟨R, H, HI, W1, W2⟩ := h
  have bn := rwN_in W a W1
  have bz := dlH_in d
  rw [hn] at bn
  rw [hz] at bz
  obtain ⟨x, hx⟩ : ∃ x, max 0 (min a 1125899906842624) = x := ⟨_, rfl⟩
  have hx0 : 0 ≤ x := by omega
  have hx1 : x ≤ 1125899906842624 := by omega
  have hd : x.tdiv W = n := by rw [← hn, ← hx]; unfold rwN; exact Int.tdiv_eq_ediv_of_nonneg (by omega)
  have hw : IntKind.i64.wrap n = n := by rw [IntKind.wrap_i64]; omega
  have w0 : ¬ W = 0 := by omega
  have wm : ¬ W = -1 := by omega
  have C : Hid (∀ p : Wn, Calls Try.prog 19 #[.int .i64 a, .int .i64 0, .int .i64 1125899906842624] (wd w p) fun e w' => e = .returned (.int .i64 x) ∧ Apart (fun _ => False) (wd w p) w') := by
    intro p
    rw [← hx]
    exact (clamp_any a 0 1125899906842624 (by omega) (wd w p)).mono (fun e w' ⟨h1, h2⟩ => ⟨h1, by rw [h2]; exact Apart.refl _ _⟩)
  have Z := mkHid (fun W => clamp_any d (-1125899906842624) 1125899906842624 (by omega) W)
  rw [show max (-1125899906842624) (min d 1125899906842624) = z from hz] at Z
  have c0 := fun p => Bx.width (w := wd w p) (wd_heap H p)
  have k0 := HI.k0
  have k1 := HI.k1
  have m0 := HI.n0
  have m1 := HI.n1
  have HI := mkHid HI
  have H := mkHid H
  have HQ := mkHid hq
  clear hq hn hz hx
  go_enter Try.func10, Try.ntmps10
  go_upto_region 3 with fail
  refine wp_region_wd (by kernel_rfl) (by kernel_rfl) ?_
  repeat (go_big_quiet_step ((go_at_call 19; exact wd_call (C.out _))))
  refine wpQuiet_nil ?_
  rintro _ ⟨p, rfl⟩
  have A0 := mkHid (wd_apart w p)
  have HB := mkHid (H.out.kept A0.out (fun h => h))
  obtain ⟨wq, HWQ⟩ : ∃ wq, Hid (wd w p = wq) := ⟨_, mkHid rfl⟩
  rw [HWQ.out] at A0 HB ⊢
  clear C c0 H HWQ
  obtain ⟨M, HM⟩ : ∃ M, Hid (max N n = M) := ⟨_, mkHid rfl⟩
  have AD := mkHid (HI.out.add n z (n % k).toNat bn.1 bn.2 bz.1 bz.2 (Int.toNat_of_nonneg (Int.emod_nonneg _ (by omega))))
  have PA := mkHid (HI.out.pass n z)
  rw [HM.out] at AD PA
  have HQ2 : Hid ((if M - k < n then z - (lm (addL k N L n z)).1 else 0) = q) := by rw [← HM.out]; exact HQ.out
  have HL : Hid (stay (M - k) (L ++ [(n, z)]) = addL k N L n z) := by rw [← HM.out]; exact mkHid rfl
  rw [HL.out] at AD PA
  have hM0 : 0 ≤ M := by have := HM.out; omega
  have hM1 : M ≤ 1125899906842624 := by have := HM.out; omega
  have c3 := HB.out.newest
  have c3q := HB.out.queue
  have f0 := HB.out.frz
  have H1 := mkHid (HB.out.set_newest M)
  have f1 := H1.out.frz
  have H2 := mkHid (H1.out.set_queue 0)
  have A2 := mkHid (((A0.out.mono (Y := fun k => k = b) (fun _ _ h => h.elim)).setCell (p := ⟨b, 194, none⟩) (fun _ => rfl) (.int .i64 M)).setCell (p := ⟨b, 195, none⟩) (fun _ => rfl) (.int .i64 0))
  have K := mkHid (counts_any H2.out hM0 hM1 k1 n)
  by_cases hle : n ≤ N
  · obtain rfl : M = N := by have := HM.out; omega
    by_cases hc : M - k < n
    · rw [decide_eq_true hc] at K
      have AD := mkHid (AD.out hc)
      rw [if_pos hc] at HQ2
      go_wp2_with fail
      refine K.out.mono ?_
      rintro e w3 ⟨rfl, A3⟩
      have H3 := mkHid (H2.out.kept A3 (fun h => h))
      have A3 := mkHid (A2.out.trans A3 (fun _ _ h => h.elim))
      have bx := AD.out.bound
      have V := mkHid (above_any H3.out hM0 hM1 k0 k1 n z bn.1 bz.1 bz.2 (n % k).toNat (Int.toNat_of_nonneg (Int.emod_nonneg _ (by omega))) _ rfl (by rw [AD.out.least]; exact bx.1) (by rw [AD.out.least]; exact bx.2))
      rw [AD.out.least, HQ2.out] at V
      clear f0 f1 K bx
      go_wp2_with fail
      refine (Z.out _).mono ?_
      rintro e _ ⟨rfl, rfl⟩
      go_wp2_with fail
      refine V.out.mono ?_
      rintro e w4 ⟨rfl, H4, A4⟩
      have A4 := mkHid (A3.out.trans A4 (fun _ _ h => h))
      have f4 := H4.frz
      have c4 := H4.queue
      have H5 := mkHid (H4.set_queue q)
      have c5 := H5.out.queue
      have A5 := mkHid (A4.out.setCell (p := ⟨b, 195, none⟩) (fun _ => rfl) (.int .i64 q))
      clear H4 c5
      go_wp2
      go_ret
      exact ⟨rfl, ⟨_, (by rw [HM.out]; exact H5.out), (by rw [HM.out]; exact AD.out), W1, W2⟩, A5.out⟩
    · rw [decide_eq_false hc] at K
      have PA := mkHid (PA.out hc)
      rw [if_neg hc] at HQ2
      go_wp2_with fail
      refine K.out.mono ?_
      rintro e w3 ⟨rfl, A3⟩
      have H3 := mkHid (H2.out.kept A3 (fun h => h))
      have A3 := mkHid (A2.out.trans A3 (fun _ _ h => h.elim))
      have c5 := H3.out.queue
      clear f0 f1 K
      go_wp2
      go_ret
      exact ⟨ret_i HQ2.out, ⟨_, (by rw [HM.out, ← HQ2.out]; exact H3.out), (by rw [HM.out, PA.out.2]; exact HI.out), W1, W2⟩, A3.out⟩
  · obtain rfl : n = M := by have := HM.out; omega
    have hc : n - k < n := by omega
    rw [decide_eq_true hc] at K
    have AD := mkHid (AD.out hc)
    rw [if_pos hc] at HQ2
    go_wp2_with fail
    refine K.out.mono ?_
    rintro e w3 ⟨rfl, A3⟩
    have H3 := mkHid (H2.out.kept A3 (fun h => h))
    have A3 := mkHid (A2.out.trans A3 (fun _ _ h => h.elim))
    have bx := AD.out.bound
    have V := mkHid (above_any H3.out hM0 hM1 k0 k1 n z bn.1 bz.1 bz.2 (n % k).toNat (Int.toNat_of_nonneg (Int.emod_nonneg _ (by omega))) _ rfl (by rw [AD.out.least]; exact bx.1) (by rw [AD.out.least]; exact bx.2))
    rw [AD.out.least, HQ2.out] at V
    clear f0 f1 K bx
    go_wp2_with fail
    refine (Z.out _).mono ?_
    rintro e _ ⟨rfl, rfl⟩
    go_wp2_with fail
    refine V.out.mono ?_
    rintro e w4 ⟨rfl, H4, A4⟩
    have A4 := mkHid (A3.out.trans A4 (fun _ _ h => h))
    have f4 := H4.frz
    have c4 := H4.queue
    have H5 := mkHid (H4.set_queue q)
    have c5 := H5.out.queue
    have A5 := mkHid (A4.out.setCell (p := ⟨b, 195, none⟩) (fun _ => rfl) (.int .i64 q))
    clear H4 c5
    go_wp2
    go_ret
    exact ⟨rfl, ⟨_, (by rw [HM.out]; exact H5.out), (by rw [HM.out]; exact AD.out), W1, W2⟩, A5.out⟩
end Go.Proofs.Ytnjghgbaffkafaa
