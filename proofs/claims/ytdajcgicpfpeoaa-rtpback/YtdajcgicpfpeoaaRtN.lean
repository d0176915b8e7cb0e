/-
  Two headers that are alike are told so.
-/
import Derived.Test.YtdajcgicpfpeoaaRtK
namespace Go.Proofs.Ytdajcgicpfpeoaa
open Go.RowKit

theorem Apart.belowZ {w w' : World} (h : Apart (fun _ => False) w w') : Below w.heap.size w w' := h.belowF _ (Nat.le_refl _)
set_option maxRecDepth 100000 in
set_option maxHeartbeats 400000 in
theorem same_any (mk : Bool) (ty sq tm ss : Int) (sa ea sb eb : Option Addr) (ns sc sd ne ec ed : Nat) (S I : Nat → Int) (D : Nat → ByteArray) (w : World) (hs : SA w.heap.size w sa ns S) (hx : XA w.heap.size w ea ne I D) (hs2 : SA w.heap.size w sb ns S) (hx2 : XA w.heap.size w eb ne I D) :
    Calls Try.prog 13 #[hdr mk ty sq tm ss (.slice sa ns sc) (.slice ea ne ec), hdr mk ty sq tm ss (.slice sb ns sd) (.slice eb ne ed)] w fun e w' => e = .returned (.bool true) ∧ Below w.heap.size w w' := by
  have n1 := hs.1
  have n2 := hx.1
  unfold maxLen at n1 n2
  have m1 : (ns : Int) ≤ 9223372036854775807 := by omega
  have m2 : (ne : Int) ≤ 9223372036854775807 := by omega
  have H1 := mkHid hs
  have H2 := mkHid hx
  have H3 := mkHid hs2
  have H4 := mkHid hx2
  obtain ⟨bx, HBX⟩ : ∃ bx, Hid (w.heap.size = bx) := ⟨_, rfl⟩
  have a1 : Apart (fun _ => False) w (w.alloc (.cells #[.bool mk, .int .i64 ty, .int .i64 sq, .int .u32 tm, .int .u32 ss, .slice sa ns sc, .slice ea ne ec] 26)) := (Apart.refl _ _).alloc _
  have d1 := hdr_new w mk ty sq tm ss (.slice sa ns sc) (.slice ea ne ec)
  obtain ⟨W1, HW1⟩ : ∃ W1, Hid (w.alloc (.cells #[.bool mk, .int .i64 ty, .int .i64 sq, .int .u32 tm, .int .u32 ss, .slice sa ns sc, .slice ea ne ec] 26) = W1) := ⟨_, rfl⟩
  have HZ1 := mkHid (show W1.heap.size = bx + 1 from by rw [← HW1.out, ← HBX.out]; simp)
  rw [HW1.out] at a1 d1
  have a2 : Apart (fun _ => False) w (W1.alloc (.cells #[.bool mk, .int .i64 ty, .int .i64 sq, .int .u32 tm, .int .u32 ss, .slice sb ns sd, .slice eb ne ed] 26)) := a1.alloc _
  have e1 := d1.kept ((Apart.refl (fun _ => False) W1).alloc (.cells #[.bool mk, .int .i64 ty, .int .i64 sq, .int .u32 tm, .int .u32 ss, .slice sb ns sd, .slice eb ne ed] 26)) (fun h => h)
  have d2 := hdr_new W1 mk ty sq tm ss (.slice sb ns sd) (.slice eb ne ed)
  rw [HZ1.out] at d2
  rw [HBX.out] at e1
  obtain ⟨W, HW⟩ : ∃ W, Hid (W1.alloc (.cells #[.bool mk, .int .i64 ty, .int .i64 sq, .int .u32 tm, .int .u32 ss, .slice sb ns sd, .slice eb ne ed] 26) = W) := ⟨_, rfl⟩
  rw [HW.out] at a2 e1 d2
  have A2 := mkHid a2
  have E1 := mkHid e1
  have E2 := mkHid d2
  obtain ⟨⟨c0, c1, c2, c3, c4, c5, c6⟩, _⟩ := E1.out.cells
  obtain ⟨⟨g0, g1, g2, g3, g4, g5, g6⟩, _⟩ := E2.out.cells
  clear hs hx hs2 hx2 n1 n2 a1 d1 a2 e1 d2
  go_enter Try.func13, Try.ntmps13
  go_wp2
  rw [HW1.out, HW.out, HBX.out]
  clear c0 c1 c2 c3 c4 c5 c6 g0 g1 g2 g3 g4 g5 g6
  go_loopw [5] (fun i wr => ∃ k : Nat, k ≤ ns ∧ i = .int .i64 (k : Int) ∧ Apart (fun _ => False) W wr) (fun i _ => ns - (intOf i).toNat)
  case atStart => exact ⟨0, Nat.zero_le _, rfl, Apart.refl _ _⟩
  case round =>
    obtain ⟨k, hk, rfl, ha⟩ := hrel
    have c5 := (E1.out.kept ha (fun h => h)).cells.1.2.2.2.2.2.1
    have g5 := (E2.out.kept ha (fun h => h)).cells.1.2.2.2.2.2.1
    have HA := mkHid ha
    clear ha
    by_cases hlt : k < ns
    · have s1 := H1.out.kept (A2.out.trans HA.out (fun _ _ h => h)).belowZ
      have s2 := H3.out.kept (A2.out.trans HA.out (fun _ _ h => h)).belowZ
      rcases s1.2 with h0 | ⟨b, off, rfl, hb, hrow⟩
      · omega
      rcases s2.2 with h0 | ⟨b2, off2, rfl, hb2, hrow2⟩
      · omega
      have r1 := (hrow k hlt).1
      have r2 := (hrow2 k hlt).1
      have hk0 : (0 : Int) ≤ k := by omega
      have hk1 : (k : Int) < ns := by omega
      clear s1 s2 hrow hrow2 hb hb2
      go_wp2
      go_quiet (fail)
      go_wp2
      go_roundw
      case rel => exact ⟨k + 1, by omega, by go_num, HA.out.drewN _⟩
      case measure => simp [intOf]; omega
    · obtain rfl : k = ns := by omega
      clear hlt
      obtain ⟨wx, HWX⟩ : ∃ wx, wx = wr := ⟨_, rfl⟩
      subst HWX
      go_wp2
      clear c5 g5
      go_loopw [6] (fun i wr => ∃ j : Nat, j ≤ ne ∧ i = .int .i64 (j : Int) ∧ Apart (fun _ => False) W wr) (fun i _ => ne - (intOf i).toNat)
      case atStart => exact ⟨0, Nat.zero_le _, rfl, HA.out⟩
      case round =>
        obtain ⟨j, hj, rfl, ha⟩ := hrel
        have c6 := (E1.out.kept ha (fun h => h)).cells.1.2.2.2.2.2.2
        have g6 := (E2.out.kept ha (fun h => h)).cells.1.2.2.2.2.2.2
        have HJ := mkHid ha
        clear ha
        by_cases hlt : j < ne
        · have s1 := H2.out.kept (A2.out.trans HJ.out (fun _ _ h => h)).belowZ
          have s2 := H4.out.kept (A2.out.trans HJ.out (fun _ _ h => h)).belowZ
          rcases s1.2 with h0 | ⟨b, off, rfl, hb, hrow⟩
          · omega
          rcases s2.2 with h0 | ⟨b2, off2, rfl, hb2, hrow2⟩
          · omega
          obtain ⟨r1, q1, _⟩ := hrow j hlt
          obtain ⟨r2, q2, _⟩ := hrow2 j hlt
          have hk0 : (0 : Int) ≤ j := by omega
          have hk1 : (j : Int) < ne := by omega
          generalize D j = dd at *
          generalize I j = ii at *
          clear s1 s2 hrow hrow2 hb hb2
          go_wp2
          go_quiet (fail)
          go_wp2
          go_roundw
          case rel => exact ⟨j + 1, by omega, by go_num, HJ.out.drewN _⟩
          case measure => simp [intOf]; omega
        · obtain rfl : j = ne := by omega
          go_wp2
          go_ret
          exact ⟨rfl, (A2.out.trans HJ.out (fun _ _ h => h)).belowZ⟩
end Go.Proofs.Ytdajcgicpfpeoaa
