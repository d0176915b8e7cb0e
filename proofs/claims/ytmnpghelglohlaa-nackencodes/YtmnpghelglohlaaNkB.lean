/-
  What the statements' and the reference's small functions hand back: few, Ints, Same.
-/
import Derived.Test.YtmnpghelglohlaaNkD
import Derived.BigQuiet
namespace Go.Proofs.Ytmnpghelglohlaa
open Go.RowKit

theorem res9 {W : World} {bx : Nat} {sd md : Int} {a : Option Addr} {n c : Nat} (tmps : Array Value) (h2 : tmps.getD 2 undef = .pointer (some ⟨bx, 0, none⟩)) (hd : Td W bx (.int .u32 sd) (.int .u32 md) (.slice a n c)) :
    (results Try.f9 tmps).run Try.prog W = .ok (tv sd md (.slice a n c)) W := by
  obtain ⟨c0, c1, c2⟩ := hd.c
  clear hd
  have h2' : tmps[2]?.getD undef = .pointer (some ⟨bx, 0, none⟩) := by rw [← h2]; simp
  unfold tv
  simp [results, Try.results9, h2', c0, c1, c2, go_sem]
/-- The world ahead of the append. -/
def cw0 (w : World) (v0 v1 v2 : Value) : World := (w.alloc (.cells #[v0, v1, v2] 25)).alloc (.cells #[.int .u32 0, .int .u32 0, .slice none 0 0] 25)
theorem cw0_is (w : World) (v0 v1 v2 : Value) : (cw0 w v0 v1 v2).heap.size = w.heap.size + 1 + 1 ∧ Td (cw0 w v0 v1 v2) w.heap.size v0 v1 v2 ∧ Td (cw0 w v0 v1 v2) (w.heap.size + 1) (.int .u32 0) (.int .u32 0) (.slice none 0 0) ∧ Apart (fun _ => False) w (cw0 w v0 v1 v2) := by
  refine ⟨by simp [cw0], ?_, ?_, ((Apart.refl _ _).alloc _).alloc _⟩
  · exact Td.kept (w := w.alloc _) (X := fun _ => False) (heap_alloc_new _ _) ((Apart.refl _ _).alloc _) (fun h => h)
  · have := heap_alloc_new (w.alloc (.cells #[v0, v1, v2] 25)) (.cells #[.int .u32 0, .int .u32 0, .slice none 0 0] 25)
    rw [World.size_alloc] at this
    exact this
set_option maxRecDepth 100000 in
set_option maxHeartbeats 1000000 in
theorem few_any (r : Nk) (a : Option Addr) (c : Nat) (w : World) (h : IA w.heap.size w a c r.lo) (hl : r.lo.length ≤ 5000) :
    Calls Try.prog 9 #[nv r a r.lo.length c] w fun e w' => (∃ b d, e = .returned (nv r b r.lo.length d) ∧ IA w'.heap.size w' b d r.lo) ∧ Apart (fun _ => False) w w' := by
  obtain ⟨sd, md, lo⟩ := r
  unfold nv
  simp only at *
  obtain ⟨z1, d1, y1, a1⟩ := cw0_is w (.int .u32 sd) (.int .u32 md) (.slice a lo.length c)
  have Z1 := mkHid z1
  have D1 := mkHid d1
  have Y1 := mkHid y1
  have A1 := mkHid a1
  have S1 := mkHid (ia_src (h.kept (a1.belowF _ (Nat.le_refl _))))
  obtain ⟨n, HN⟩ : ∃ n, Hid (lo.length = n) := ⟨_, rfl⟩
  rw [HN.out] at Z1 D1 Y1 A1 S1 hl ⊢
  obtain ⟨W, HW⟩ : ∃ W, Hid (cw0 w (.int .u32 sd) (.int .u32 md) (.slice a n c) = W) := ⟨_, rfl⟩
  rw [HW.out] at Z1 D1 Y1 A1 S1
  have O1 := mkHid (own_empty W W.heap.size 3 1 (Nat.le_refl _))
  have S2 := mkHid (show SrcN (W.alloc (.cells #[] 3)) 1 (.slice a n c) n (IC lo) by
    have := ia_src (((h.kept A1.out.belowZ)).kept (((Apart.refl (fun _ => False) W).alloc (.cells #[] 3)).belowF _ (by have := Z1.out; omega)))
    rw [HN.out] at this; exact this)
  have B1 := mkHid ((Apart.refl (fun _ => False) W).alloc (.cells #[] 3))
  have D2 := mkHid (D1.out.kept B1.out (fun h => h))
  have Y2 := mkHid (Y1.out.kept B1.out (fun h => h))
  have N1 := mkHid (show 0 + n ≤ maxLen by unfold maxLen; omega)
  have N2 := mkHid (show (0 + n) * 8 ≤ 140737488355328 by omega)
  clear h z1 d1 y1 a1 hl
  obtain ⟨i0, hi, hz0, hz1, hz2⟩ := info3'
  have HWU := mkHid HW.out
  unfold cw0 at HWU
  obtain ⟨bx, HBX⟩ : ∃ bx, Hid (w.heap.size = bx) := ⟨_, rfl⟩
  rw [HBX.out] at D1 Y1 D2 Y2 Z1
  rw [Z1.out] at O1
  obtain ⟨W2, HW2⟩ : ∃ W2, Hid (W.alloc (.cells #[] 3) = W2) := ⟨_, rfl⟩
  have HLE := mkHid (show bx + 1 + 1 ≤ W2.heap.size by rw [← HW2.out]; simp; have := Z1.out; omega)
  have A2 := mkHid (A1.out.zz B1.out)
  rw [HW2.out] at O1 S2 D2 Y2 A2
  obtain ⟨c0, c1, c2⟩ := D2.out.c
  obtain ⟨f0, f1, f2⟩ := D2.out.f
  go_enter Try.func9, Try.ntmps9
  go_upto_region 2 with (at_builtin; rw [HWU.out, HBX.out, HW2.out]; refine wpList_append_onto _ rfl (.tmp 3) (.tmp 5) 23 rfl (bx + 1 + 1) 3 i0 (.int .i64 0) 1 8 Try.underlying23 hi hz0 hz1 hz2 rfl (by decide) (.slice (some ⟨bx + 1 + 1, 0, none⟩) 0 0) 0 [] rfl O1.out (.slice a n c) n (IC lo) rfl S2.out IC_one N1.out N2.out HLE.out ?_; intro v1 w1 hown1 hgrow1; rw [Nat.zero_add, List.nil_append] at hown1; have G1 := mkHid (Apart.grown (X := (· = bx + 1 + 1)) (Apart.refl _ _) hgrow1 (fun k _ e => by simp [Value.ownBlock] at e; omega)); have OW := mkHid hown1; obtain ⟨sa1, sc1, hv1⟩ := ownsRow_slice hown1; subst hv1; clear hown1 hgrow1 c0 c1 c2 f0 f1 f2; have D3 := mkHid (D2.out.kept G1.out (by omega)); have Y3 := mkHid (Y2.out.kept G1.out (by omega)); obtain ⟨c0, c1, c2⟩ := D3.out.c; obtain ⟨f0, f1, f2⟩ := D3.out.f)
  have D4 := mkHid (D3.out.set2 (.slice sa1 n sc1))
  have Y4 := mkHid (Y3.out.kept (ap_set w1 bx 2 (.slice sa1 n sc1)) (by omega))
  have OW4 := mkHid (ownsRow_apart OW.out (ap_set w1 bx 2 (.slice sa1 n sc1)) (fun k hk e => by omega))
  have A4 := mkHid ((A2.out.trans (X := fun _ => False) G1.out (fun i hi e => by rw [HBX.out] at hi; omega)).trans (ap_set w1 bx 2 (.slice sa1 n sc1)) (fun i hi e => by rw [HBX.out] at hi; omega))
  obtain ⟨W4, HW4⟩ : ∃ W4, Hid (w1.setCell ⟨bx, 2, none⟩ (.slice sa1 n sc1) = W4) := ⟨_, rfl⟩
  rw [HW4.out] at D4 Y4 OW4 A4 ⊢
  clear c0 c1 c2 f0 f1 f2
  obtain ⟨c0, c1, c2⟩ := D4.out.c
  obtain ⟨e0, e1, e2⟩ := Y4.out.c
  obtain ⟨f0, f1, f2⟩ := Y4.out.f
  go_wp2
  have d5 := put3_is Y4.out (.int .u32 sd) (.int .u32 md) (.slice sa1 n sc1)
  have a5 := put3_ap W4 (bx + 1) (.int .u32 sd) (.int .u32 md) (.slice sa1 n sc1)
  have o5 := ownsRow_apart OW4.out a5 (fun k hk e => by omega)
  obtain ⟨_, _, q1, s5⟩ := own_ia o5
  simp only [Value.slice.injEq] at q1
  obtain ⟨rfl, -, rfl⟩ := q1
  refine bodyPost_ret (res9 _ rfl d5) rfl ⟨⟨_, _, rfl, s5⟩, ?_⟩
  exact A4.out.trans a5 (fun i hi e => by rw [HBX.out] at hi; omega)
set_option maxRecDepth 100000 in
set_option maxHeartbeats 400000 in
theorem ints_self (B : Nat) (a : Option Addr) (c : Nat) (a' : Option Addr) (c' : Nat) (l : List Int) (w : World) (hB : B ≤ w.heap.size) (h : IA B w a c l) (h' : IA B w a' c' l) :
    Calls Try.prog 15 #[.slice a l.length c, .slice a' l.length c'] w fun e w' => e = .returned (.bool true) ∧ Apart (fun _ => False) w w' := by
  have H := mkHid h
  have H' := mkHid h'
  have m1 := h.len
  obtain ⟨n, HN⟩ : ∃ n, Hid (l.length = n) := ⟨_, rfl⟩
  rw [HN.out] at m1 ⊢
  clear h h'
  go_enter Try.func15, Try.ntmps15
  go_wp2
  go_loopw [5] (fun i wr => ∃ k : Nat, k ≤ n ∧ i = .int .i64 (k : Int) ∧ Apart (fun _ => False) w wr) (fun i _ => n - (intOf i).toNat)
  case atStart => exact ⟨0, Nat.zero_le _, rfl, Apart.refl _ _⟩
  case round =>
    obtain ⟨k, hk, rfl, hap⟩ := hrel
    have HAP := mkHid hap
    clear hap
    by_cases hlt : k < n
    · obtain ⟨b, off, x, rfl, _, hx, c0⟩ := (H.out.kept (HAP.out.belowF B hB)).at k (by rw [HN.out]; exact hlt)
      obtain ⟨b', off', x', rfl, _, hx', c1⟩ := (H'.out.kept (HAP.out.belowF B hB)).at k (by rw [HN.out]; exact hlt)
      obtain rfl : x = x' := by rw [hx] at hx'; exact Option.some.inj hx'
      have k0 : (0 : Int) ≤ k := by omega
      have k1 : (k : Int) < n := by omega
      clear hx hx'
      go_wp2_with fail
      go_quiet (fail)
      go_wp2
      go_roundw
      case rel => exact ⟨k + 1, by omega, by go_num, HAP.out.drewN _⟩
      case measure => simp [intOf]; omega
    · obtain rfl : k = n := by omega
      go_wp2
      go_ret
      exact ⟨rfl, HAP.out⟩
set_option maxRecDepth 100000 in
set_option maxHeartbeats 1000000 in
theorem same_self (r : Nk) (a : Option Addr) (c : Nat) (b : Option Addr) (d : Nat) (w : World) (h : IA w.heap.size w a c r.lo) (k : IA w.heap.size w b d r.lo) :
    Calls Try.prog 12 #[nv r a r.lo.length c, nv r b r.lo.length d] w fun e w' => e = .returned (.bool true) ∧ Apart (fun _ => False) w w' := by
  obtain ⟨sd, md, lo⟩ := r
  unfold nv
  simp only at *
  have A0 := mkHid (((Apart.refl (fun _ => False) w).alloc (.cells #[.int .u32 sd, .int .u32 md, .slice a lo.length c] 25)).alloc (.cells #[.int .u32 sd, .int .u32 md, .slice b lo.length d] 25))
  have T0 := mkHid ((Td.box w (.int .u32 sd) (.int .u32 md) (.slice a lo.length c)).kept ((Apart.refl (fun _ => False) _).alloc (.cells #[.int .u32 sd, .int .u32 md, .slice b lo.length d] 25)) (fun h => h))
  have t1 := Td.box (w.alloc (.cells #[.int .u32 sd, .int .u32 md, .slice a lo.length c] 25)) (.int .u32 sd) (.int .u32 md) (.slice b lo.length d)
  rw [World.size_alloc] at t1
  have T1 := mkHid t1
  have IS := mkHid (fun w1 (hw : Apart (fun _ => False) w w1) => ints_self w.heap.size a c b d lo w1 hw.size (h.kept hw.belowZ) (k.kept hw.belowZ))
  obtain ⟨n, HN⟩ : ∃ n, Hid (lo.length = n) := ⟨_, rfl⟩
  rw [HN.out] at IS
  rw [HN.out] at A0 T0 T1 ⊢
  obtain ⟨bx, HBX⟩ : ∃ bx, Hid (w.heap.size = bx) := ⟨_, rfl⟩
  obtain ⟨W, HW⟩ : ∃ W, Hid ((w.alloc (.cells #[.int .u32 sd, .int .u32 md, .slice a n c] 25)).alloc (.cells #[.int .u32 sd, .int .u32 md, .slice b n d] 25) = W) := ⟨_, rfl⟩
  rw [HBX.out, HW.out] at T0 T1
  rw [HW.out] at A0
  obtain ⟨c0, c1, c2⟩ := T0.out.c
  obtain ⟨e0, e1, e2⟩ := T1.out.c
  clear h k t1
  go_enter Try.func12, Try.ntmps12
  go_wp2_with fail
  rw [HW.out, HBX.out]
  go_wp2_with fail
  refine (IS.out _ A0.out).mono ?_
  rintro e w1 ⟨rfl, a1⟩
  have A1 := mkHid (A0.out.zz a1)
  clear a1
  go_wp2
  go_ret
  exact ⟨rfl, A1.out⟩
end Go.Proofs.Ytmnpghelglohlaa
