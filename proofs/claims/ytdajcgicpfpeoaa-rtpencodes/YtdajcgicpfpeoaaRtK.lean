/-
  What the small functions of the statements hand back: large, wakes.
-/
import Derived.Test.YtdajcgicpfpeoaaRtB
namespace Go.Proofs.Ytdajcgicpfpeoaa
open Go.RowKit

/-- Is a header too large to be gone through? -/
abbrev Large (ns ne : Nat) (D : Nat → ByteArray) : Prop := 100 < ns ∨ 100 < ne ∨ ∃ i, i < ne ∧ 1000 < (D i).size
def lgB (ns ne : Nat) (D : Nat → ByteArray) : Bool := decide (Large ns ne D)
theorem lg_yes {ns ne : Nat} {D : Nat → ByteArray} (h : Large ns ne D) : lgB ns ne D = true := decide_eq_true h
theorem lg_no {ns ne : Nat} {D : Nat → ByteArray} (h : ¬ Large ns ne D) : lgB ns ne D = false := decide_eq_false h
theorem hdr_new (w : World) (mk : Bool) (ty sq tm ss : Int) (v5 v6 : Value) : Hd (w.alloc (.cells #[.bool mk, .int .i64 ty, .int .i64 sq, .int .u32 tm, .int .u32 ss, v5, v6] 26)) w.heap.size mk ty sq tm ss v5 v6 := heap_alloc_new _ _
set_option maxRecDepth 100000 in
set_option maxHeartbeats 400000 in
theorem large_any (mk : Bool) (ty sq tm ss : Int) (sa ea : Option Addr) (ns sc ne ec : Nat) (S I : Nat → Int) (D : Nat → ByteArray) (w : World) (hs : SA w.heap.size w sa ns S) (hx : XA w.heap.size w ea ne I D) :
    Calls Try.prog 8 #[hdr mk ty sq tm ss (.slice sa ns sc) (.slice ea ne ec)] w fun e w' => e = .returned (.bool (lgB ns ne D)) ∧ Below w.heap.size w w' := by
  have n1 := hs.1
  have n2 := hx.1
  unfold maxLen at n1 n2
  have m1 : (ns : Int) ≤ 9223372036854775807 := by omega
  have m2 : (ne : Int) ≤ 9223372036854775807 := by omega
  have HX := mkHid (hx.alloc (.cells #[.bool mk, .int .i64 ty, .int .i64 sq, .int .u32 tm, .int .u32 ss, .slice sa ns sc, .slice ea ne ec] 26)).2
  have DD := mkHid (hdr_new w mk ty sq tm ss (.slice sa ns sc) (.slice ea ne ec))
  have B := mkHid ((Below.refl w.heap.size w).alloc (Nat.le_refl _) (.cells #[.bool mk, .int .i64 ty, .int .i64 sq, .int .u32 tm, .int .u32 ss, .slice sa ns sc, .slice ea ne ec] 26))
  clear hs hx n1 n2
  by_cases h1 : 100 < ns
  · have h1' : (100 : Int) < ns := by omega
    rw [lg_yes (.inl h1)]
    go_enter Try.func8, Try.ntmps8
    go_wp2
    go_ret
    exact ⟨rfl, B.out⟩
  · have h1' : ¬ (100 : Int) < ns := by omega
    by_cases h2 : 100 < ne
    · have h2' : (100 : Int) < ne := by omega
      rw [lg_yes (.inr (.inl h2))]
      go_enter Try.func8, Try.ntmps8
      go_wp2
      go_ret
      exact ⟨rfl, B.out⟩
    · have h2' : ¬ (100 : Int) < ne := by omega
      obtain ⟨W, HW⟩ : ∃ W, Hid (w.alloc (.cells #[.bool mk, .int .i64 ty, .int .i64 sq, .int .u32 tm, .int .u32 ss, .slice sa ns sc, .slice ea ne ec] 26) = W) := ⟨_, rfl⟩
      rw [HW.out] at DD B HX
      obtain ⟨⟨c0, c1, c2, c3, c4, c5, c6⟩, _⟩ := DD.out.cells
      go_enter Try.func8, Try.ntmps8
      go_wp2
      go_loopw [3] (fun i wr => ∃ k : Nat, k ≤ ne ∧ i = .int .i64 (k : Int) ∧ wr = W ∧ ∀ j, j < k → (D j).size ≤ 1000) (fun i _ => ne - (intOf i).toNat)
      case atStart => exact ⟨0, Nat.zero_le _, rfl, HW.out, fun j hj => by omega⟩
      case round =>
        obtain ⟨k, hk, rfl, rfl, hall⟩ := hrel
        have HALL := mkHid hall
        clear hall
        by_cases hlt : k < ne
        · rcases HX.out with h0 | ⟨b, off, rfl, hbl, hrows⟩
          · omega
          obtain ⟨d0, d1, d2⟩ := hrows k hlt
          have HROW := mkHid hrows
          unfold maxLen at d2
          have hd2 : ((D k).size : Int) ≤ 9223372036854775807 := by omega
          by_cases hsz : 1000 < (D k).size
          · have hsz' : (1000 : Int) < (D k).size := by omega
            have HL := mkHid (lg_yes (ns := ns) (ne := ne) (D := D) (.inr (.inr ⟨k, hlt, hsz⟩)))
            clear hrows d0 d2
            go_wp2
            go_ret
            exact ⟨ret_b HL.out.symm, B.out⟩
          · have hsz' : ¬ (1000 : Int) < (D k).size := by omega
            have HSZ := mkHid hsz
            clear hrows d0 d2 hsz
            go_wp2
            go_roundw
            case rel =>
              refine ⟨k + 1, by omega, by go_num, by first | rfl | trivial, fun j hj => ?_⟩
              by_cases e : j = k
              · subst e; have := HSZ.out; omega
              · exact HALL.out j (by omega)
            case measure => simp [intOf]; omega
        · obtain rfl : k = ne := by omega
          have HL := mkHid (lg_no (ns := ns) (ne := k) (D := D) (by rintro (h | h | ⟨i, hi, h⟩); omega; omega; have := HALL.out i hi; omega))
          go_wp2
          go_ret
          exact ⟨ret_b HL.out.symm, B.out⟩
/-- The header that wakes makes, its text, and the text that it decodes. -/
def wk12 : ByteArray := ⟨#[128, 96, 0, 1, 0, 0, 0, 2, 0, 0, 0, 3]⟩
def wk16 : ByteArray := ⟨#[128, 96, 0, 1, 0, 0, 0, 2, 0, 0, 0, 3, 109, 111, 114, 101]⟩
theorem wk_good : goodB 96 1 0 0 (fun _ => 0) (fun _ => ⟨#[]⟩) = true := by decide
theorem wk_enc : packS (encL false 96 1 2 3 0 (fun _ => 0) 0 (fun _ => 0) (fun _ => ⟨#[]⟩)) = wk12 := by kernel_rfl
theorem wk_dec : decE wk16 = 0 ∧ decP wk16 / 8 = 12 ∧ gw wk16 9 7 = 96 := ⟨by kernel_rfl, by kernel_rfl, by kernel_rfl⟩
theorem wk_app : wk12 ++ (⟨#[109, 111, 114, 101]⟩ : ByteArray) = wk16 := by kernel_rfl
theorem wk_list : wk12.toList = [128, 96, 0, 1, 0, 0, 0, 2, 0, 0, 0, 3] := by
  first
    | kernel_rfl
    | (rw [ByteArray.toList_eq]; rfl)
    | (simp [wk12]; done)
set_option maxRecDepth 100000 in
set_option maxHeartbeats 400000 in
theorem wakes_any (w : World) : Calls Try.prog 9 #[] w fun e w' => e = .returned (.bool true) ∧ Below w.heap.size w w' := by
  have HE := mkHid (enc_ok false 96 1 2 3 none none 0 0 0 0 (fun _ => 0) (fun _ => 0) (fun _ => ⟨#[]⟩) w ⟨by unfold maxLen; omega, .inl rfl⟩ ⟨by unfold maxLen; omega, .inl rfl⟩ wk_good (by omega) (by omega) (by omega) (by omega))
  rw [wk_enc] at HE
  have HD := mkHid (fun w => dec_any wk16 (by decide) w)
  have ha := wk_app
  obtain ⟨k1, k2, k3⟩ := wk_dec
  have hsz : wk12.size = 12 := rfl
  have hwl := wk_list
  have K1 := mkHid k1
  have K2 := mkHid k2
  have K3 := mkHid k3
  clear k1 k2 k3
  go_enter Try.func9, Try.ntmps9
  go_wp2_with fail
  refine (HE.out).mono ?_
  rintro e w1 ⟨rfl, b1⟩
  have B1 := mkHid b1
  clear b1
  go_wp2_with fail
  refine (HD.out _).mono ?_
  rintro e w2 ⟨b2, ⟨hne, _⟩ | ⟨_, v5, v6, rfl, o5, o6⟩⟩
  · exact absurd K1.out hne
  · obtain ⟨a5, c5, rfl⟩ := ownsRow_slice o5
    obtain ⟨a6, c6, rfl⟩ := ownsRow_slice o6
    rw [K2.out, K3.out]
    have B2 := mkHid (B1.out.trans (b2.mono B1.out.size))
    have hz : w.heap.size ≤ w2.heap.size := B2.out.size
    clear o5 o6 b2
    generalize ((gw wk16 8 1 : Int) == 1) = mk
    generalize (gw wk16 16 16 : Int) = sq
    generalize (gw wk16 32 32 : Int) = tm
    generalize (gw wk16 64 32 : Int) = ss
    generalize gv wk16 4 4 = n5
    generalize (decX wk16).length = n6
    go_wp2
    go_ret
    exact ⟨rfl, B2.out.alloc hz _⟩
end Go.Proofs.Ytdajcgicpfpeoaa
