/-
  What the reference's Good hands back.
-/
import Derived.Test.YtdajcgicpfpeoaaRtN
namespace Go.Proofs.Ytdajcgicpfpeoaa
open Go.RowKit

theorem good_false {ty sq : Int} {ns ne : Nat} {I : Nat → Int} {D : Nat → ByteArray} (h : ¬ (0 ≤ ty ∧ ty ≤ 127 ∧ 0 ≤ sq ∧ sq ≤ 65535 ∧ ns ≤ 15 ∧ ne ≤ 14 ∧ ExtOk I D ne)) : goodB ty sq ns ne I D = false := by
  cases e : goodB ty sq ns ne I D with
  | false => rfl
  | true => exact absurd (good_parts e) h
theorem good_true {ty sq : Int} {ns ne : Nat} {I : Nat → Int} {D : Nat → ByteArray} (h : 0 ≤ ty ∧ ty ≤ 127 ∧ 0 ≤ sq ∧ sq ≤ 65535 ∧ ns ≤ 15 ∧ ne ≤ 14 ∧ ExtOk I D ne) : goodB ty sq ns ne I D = true := by
  obtain ⟨h1, h2, h3, h4, h5, h6, h7⟩ := h
  simp only [goodB, inR, exB, decide_eq_true (And.intro h1 h2), decide_eq_true (And.intro h3 h4), decide_eq_true h5, decide_eq_true h6, Bool.true_and]
  exact decide_eq_true h7
set_option maxRecDepth 100000 in
set_option maxHeartbeats 400000 in
theorem good_out (mk : Bool) (ty sq tm ss : Int) (sa ea : Option Addr) (ns sc ne ec : Nat) (w : World) (n1 : ns ≤ maxLen) (n2 : ne ≤ maxLen) (h : ¬ (0 ≤ ty ∧ ty ≤ 127 ∧ 0 ≤ sq ∧ sq ≤ 65535 ∧ ns ≤ 15 ∧ ne ≤ 14)) :
    Calls Try.prog 16 #[hdr mk ty sq tm ss (.slice sa ns sc) (.slice ea ne ec)] w fun e w' => e = .returned (.bool false) ∧ Below w.heap.size w w' := by
  unfold maxLen at n1 n2
  have m1 : (ns : Int) ≤ 9223372036854775807 := by omega
  have m2 : (ne : Int) ≤ 9223372036854775807 := by omega
  have B := mkHid ((Below.refl w.heap.size w).alloc (Nat.le_refl _) (.cells #[.bool mk, .int .i64 ty, .int .i64 sq, .int .u32 tm, .int .u32 ss, .slice sa ns sc, .slice ea ne ec] 26))
  clear n1 n2
  by_cases h1 : ty < 0
  · clear h
    go_enter Try.func16, Try.ntmps16
    go_wp2
    go_ret
    exact ⟨rfl, B.out⟩
  by_cases h2 : 127 < ty
  · clear h
    go_enter Try.func16, Try.ntmps16
    go_wp2
    go_ret
    exact ⟨rfl, B.out⟩
  by_cases h3 : sq < 0
  · clear h
    go_enter Try.func16, Try.ntmps16
    go_wp2
    go_ret
    exact ⟨rfl, B.out⟩
  by_cases h4 : 65535 < sq
  · clear h
    go_enter Try.func16, Try.ntmps16
    go_wp2
    go_ret
    exact ⟨rfl, B.out⟩
  by_cases h5 : (15 : Int) < ns
  · clear h
    go_enter Try.func16, Try.ntmps16
    go_wp2
    go_ret
    exact ⟨rfl, B.out⟩
  have h6 : (14 : Int) < ne := by omega
  clear h
  go_enter Try.func16, Try.ntmps16
  go_wp2
  go_ret
  exact ⟨rfl, B.out⟩
set_option maxRecDepth 100000 in
set_option maxHeartbeats 400000 in
theorem good_in (mk : Bool) (ty sq tm ss : Int) (sa ea : Option Addr) (ns sc ne ec : Nat) (I : Nat → Int) (D : Nat → ByteArray) (w : World) (hx : XA w.heap.size w ea ne I D)
    (h1 : 0 ≤ ty) (h2 : ty ≤ 127) (h3 : 0 ≤ sq) (h4 : sq ≤ 65535) (h5 : ns ≤ 15) (h6 : ne ≤ 14) :
    Calls Try.prog 16 #[hdr mk ty sq tm ss (.slice sa ns sc) (.slice ea ne ec)] w fun e w' => e = .returned (.bool (exB I D ne)) ∧ Below w.heap.size w w' := by
  have m1 : (ns : Int) ≤ 15 := by omega
  have m2 : (ne : Int) ≤ 14 := by omega
  have a1 : Apart (fun _ => False) w (w.alloc (.cells #[.bool mk, .int .i64 ty, .int .i64 sq, .int .u32 tm, .int .u32 ss, .slice sa ns sc, .slice ea ne ec] 26)) := (Apart.refl _ _).alloc _
  have DD := mkHid (hdr_new w mk ty sq tm ss (.slice sa ns sc) (.slice ea ne ec))
  have HX := mkHid hx
  obtain ⟨bx, HBX⟩ : ∃ bx, Hid (w.heap.size = bx) := ⟨_, rfl⟩
  obtain ⟨W, HW⟩ : ∃ W, Hid (w.alloc (.cells #[.bool mk, .int .i64 ty, .int .i64 sq, .int .u32 tm, .int .u32 ss, .slice sa ns sc, .slice ea ne ec] 26) = W) := ⟨_, rfl⟩
  rw [HW.out] at DD a1
  rw [HBX.out] at DD
  have A1 := mkHid a1
  obtain ⟨⟨c0, c1, c2, c3, c4, c5, c6⟩, _⟩ := DD.out.cells
  have hbw : bx < W.heap.size := lt_of_heap DD.out
  clear hx a1
  go_enter Try.func16, Try.ntmps16
  go_wp2
  rw [HW.out, HBX.out]
  clear c0 c1 c2 c3 c4 c5 c6
  go_loopw [3] (fun i wr => ∃ k : Nat, k ≤ ne ∧ i = .int .i64 (k : Int) ∧ Apart (fun _ => False) W wr ∧ ExtOk I D k) (fun i _ => ne - (intOf i).toNat)
  case atStart => exact ⟨0, Nat.zero_le _, rfl, Apart.refl _ _, fun i hi => by omega⟩
  case round =>
    obtain ⟨k, hk, rfl, ha, hok⟩ := hrel
    have c6 := (DD.out.kept ha (fun h => h)).cells.1.2.2.2.2.2.2
    have HA := mkHid ha
    have HOK := mkHid hok
    clear ha hok
    by_cases hlt : k < ne
    · have s1 := HX.out.kept (A1.out.trans HA.out (fun _ _ h => h)).belowZ
      rcases s1.2 with h0 | ⟨b, off, rfl, hb, hrow⟩
      · omega
      obtain ⟨r1, q1, z1⟩ := hrow k hlt
      have HI : Hid (I k = I k) := rfl
      have hk0 : (0 : Int) ≤ k := by omega
      have hk1 : (k : Int) < ne := by omega
      have HZ := mkHid z1
      unfold maxLen at z1
      have z2 : ((D k).size : Int) ≤ 9223372036854775807 := by omega
      clear s1 hrow hb z1
      obtain ⟨ii, HII⟩ : ∃ ii, Hid (I k = ii) := ⟨_, rfl⟩
      obtain ⟨dd, HDD⟩ : ∃ dd, Hid (D k = dd) := ⟨_, rfl⟩
      rw [HII.out] at r1
      rw [HDD.out] at q1 z2
      clear HZ HI
      by_cases y1 : ii < 1
      · have HF := mkHid (exB_out (I := I) (D := D) hlt (by rw [HII.out]; omega))
        go_wp2
        go_ret
        exact ⟨ret_b HF.out.symm, ((A1.out.trans HA.out (fun _ _ h => h)).alloc _).belowZ⟩
      by_cases y2 : 14 < ii
      · have HF := mkHid (exB_out (I := I) (D := D) hlt (by rw [HII.out]; omega))
        go_wp2
        go_ret
        exact ⟨ret_b HF.out.symm, ((A1.out.trans HA.out (fun _ _ h => h)).alloc _).belowZ⟩
      by_cases y3 : (dd.size : Int) < 1
      · have HF := mkHid (exB_size (I := I) (D := D) hlt (by rw [HDD.out]; omega))
        go_wp2
        go_ret
        exact ⟨ret_b HF.out.symm, ((A1.out.trans HA.out (fun _ _ h => h)).alloc _).belowZ⟩
      by_cases y4 : (16 : Int) < dd.size
      · have HF := mkHid (exB_size (I := I) (D := D) hlt (by rw [HDD.out]; omega))
        go_wp2
        go_ret
        exact ⟨ret_b HF.out.symm, ((A1.out.trans HA.out (fun _ _ h => h)).alloc _).belowZ⟩
      obtain ⟨wx, HWX⟩ : ∃ wx, wx = wr := ⟨_, rfl⟩
      subst HWX
      have N1 := mkHid (heap_alloc_new wx (.cells #[.int .i64 ii, .string dd] 47))
      have P1 := mkHid (HA.out.alloc (.cells #[.int .i64 ii, .string dd] 47))
      obtain ⟨xb, HXB⟩ : ∃ xb, Hid (wx.heap.size = xb) := ⟨_, rfl⟩
      rw [HXB.out] at N1
      go_wp2
      rw [HXB.out]
      clear c6 r1 q1
      go_loopw [5] (fun i wr => ∃ j : Nat, j ≤ k ∧ i = .int .i64 (j : Int) ∧ Apart (fun _ => False) W wr ∧ wr.heap[xb]? = some (.cells #[.int .i64 ii, .string dd] 47 (0, 0)) ∧ ∀ m, m < j → I m ≠ I k) (fun i _ => k - (intOf i).toNat)
      case atStart => exact ⟨0, Nat.zero_le _, rfl, P1.out, N1.out, fun m hm => by omega⟩
      case round =>
        obtain ⟨j, hj, rfl, ha, hn, hall⟩ := hrel
        have c6 := (DD.out.kept ha (fun h => h)).cells.1.2.2.2.2.2.2
        have u0 := (cells2 hn).1
        have HJ := mkHid ha
        have HN := mkHid hn
        have HALL := mkHid hall
        clear ha hn hall
        by_cases hl2 : j < k
        · have s1 := HX.out.kept (A1.out.trans HJ.out (fun _ _ h => h)).belowZ
          rcases s1.2 with h0 | ⟨b', off', e', hb, hrow⟩
          · omega
          obtain ⟨rfl, rfl⟩ : b = b' ∧ off = off' := by simpa using e'
          obtain ⟨r1, _, _⟩ := hrow j (by omega)
          have hj0 : (0 : Int) ≤ j := by omega
          have hj1 : (j : Int) < ne := by omega
          obtain ⟨jj, HJJ⟩ : ∃ jj, Hid (I j = jj) := ⟨_, rfl⟩
          rw [HJJ.out] at r1
          clear s1 hrow hb e'
          by_cases he : jj = ii
          · subst he
            have HF := mkHid (show exB I D ne = false from by simp only [exB, decide_eq_false_iff_not]; exact fun e => (e k hlt).2.2 j hl2 (by rw [HJJ.out, HII.out]))
            go_wp2
            go_quiet (fail)
            go_wp2
            go_ret
            exact ⟨ret_b HF.out.symm, ((A1.out.trans HJ.out (fun _ _ h => h)).drewN _).belowZ⟩
          · go_wp2
            go_quiet (fail)
            go_wp2
            go_roundw
            case rel =>
              refine ⟨j + 1, by omega, by go_num, HJ.out.drewN _, HN.out, fun m hm => ?_⟩
              by_cases em : m = j
              · subst em; rw [HJJ.out, HII.out]; exact he
              · exact HALL.out m (by omega)
            case measure => simp [intOf]; omega
        · obtain rfl : j = k := by omega
          go_wp2
          go_roundw
          case rel =>
            refine ⟨j + 1, by omega, by go_num, HJ.out, fun i hi => ?_⟩
            by_cases em : i = j
            · subst em
              rw [HII.out, HDD.out]
              refine ⟨by omega, by omega, fun m hm => ?_⟩
              have := HALL.out m hm
              rwa [HII.out] at this
            · exact HOK.out i (by omega)
          case measure => simp [intOf]; omega
    · obtain rfl : k = ne := by omega
      have HF := mkHid (exB_end HOK.out rfl)
      go_wp2
      go_ret
      exact ⟨ret_b HF.out.symm, (A1.out.trans HA.out (fun _ _ h => h)).belowZ⟩
theorem good_any (mk : Bool) (ty sq tm ss : Int) (sa ea : Option Addr) (ns sc ne ec : Nat) (S I : Nat → Int) (D : Nat → ByteArray) (w : World) (hs : SA w.heap.size w sa ns S) (hx : XA w.heap.size w ea ne I D) :
    Calls Try.prog 16 #[hdr mk ty sq tm ss (.slice sa ns sc) (.slice ea ne ec)] w fun e w' => e = .returned (.bool (goodB ty sq ns ne I D)) ∧ Below w.heap.size w w' := by
  by_cases h : 0 ≤ ty ∧ ty ≤ 127 ∧ 0 ≤ sq ∧ sq ≤ 65535 ∧ ns ≤ 15 ∧ ne ≤ 14
  · obtain ⟨h1, h2, h3, h4, h5, h6⟩ := h
    have e : goodB ty sq ns ne I D = exB I D ne := by simp [goodB, inR, h1, h2, h3, h4, h5, h6]
    rw [e]
    exact good_in mk ty sq tm ss sa ea ns sc ne ec I D w hx h1 h2 h3 h4 h5 h6
  · rw [good_false (fun k => h ⟨k.1, k.2.1, k.2.2.1, k.2.2.2.1, k.2.2.2.2.1, k.2.2.2.2.2.1⟩)]
    exact good_out mk ty sq tm ss sa ea ns sc ne ec w hs.1 hx.1 h
end Go.Proofs.Ytdajcgicpfpeoaa
