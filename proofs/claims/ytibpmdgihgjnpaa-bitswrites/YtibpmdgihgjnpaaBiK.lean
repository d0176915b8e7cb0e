/-
  What every statement of this layer calls at its end.
-/
import Derived.Test.YtibpmdgihgjnpaaBiY
namespace Go.Proofs.Ytibpmdgihgjnpaa
open Go.RowKit

theorem Tch.below {b : Nat} {v v' : Value} {w w' : World} {T : TypeId} {l : List Bool} (h : Tch b v v' w w') (hw : Wr T w b v l) (B : Nat) (hB : B ≤ b) : Below B w w' :=
  h.ap.below B (by have := hw.lt; omega) (by
    rintro k (rfl | e)
    · exact hB
    · have := hw.ownlt k e; omega)
theorem Apart.belowF {w w' : World} (h : Apart (fun _ => False) w w') (B : Nat) (hB : B ≤ w.heap.size) : Below B w w' := h.below B hB (fun _ h => h.elim)
theorem Apart.belowE {w w' : World} {b : Nat} (h : Apart (· = b) w w') (B : Nat) (hB : B ≤ w.heap.size) (hb : B ≤ b) : Below B w w' := h.below B hB (fun k e => by subst e; exact hb)
def wl1 : List Bool := [true, false, true]
def wl2 : List Bool := [true, false, true, true]
def ws : ByteArray := ⟨#[176]⟩
theorem wk1 : putS [] (Int.toNat 5) 3 = wl1 := by decide
theorem wk2 : putS wl1 (Int.toNat 1) 1 = wl2 := by decide
theorem wk3 : packS wl2 = ws := by decide
theorem wk4 : gval ws (some 0) 3 = 5 ∧ gnext ws (some 0) 3 = some 3 := by decide
theorem wk5 : gval ws (some 3) 1 = 1 ∧ gnext ws (some 3) 1 = some 4 := by decide
theorem wk6 : gleft ws (some 4) = 4 := by decide
theorem wk7 : gval ws (some 4) 9 = 0 ∧ gnext ws (some 4) 9 = none := by decide
theorem wk8 : gbad none = true := rfl
set_option maxHeartbeats 1000000 in
theorem wakes_any (w : World) : Calls Try.prog 9 #[] w fun e w' => e = .returned (.bool true) ∧ Below w.heap.size w w' := by
  go_enter Try.func9, Try.ntmps9
  go_wp2_with fail
  refine (write_any _).mono ?_
  rintro e w1 ⟨rfl, h1, a1, s1⟩
  have H1 := mkHid h1
  have B1 := mkHid (a1.belowF w.heap.size (Nat.le_refl _))
  clear h1 a1
  go_wp2_with fail
  refine (put_any _ _ _ _ _ (by decide) (by decide) _ H1.out).mono ?_
  rintro e w2 ⟨rfl, v2, h2, t2⟩
  rw [wk1] at h2
  have H2 := mkHid h2
  have B2 := mkHid (B1.out.trans (t2.below H1.out w.heap.size (Nat.le_refl _)))
  clear h2 t2
  go_wp2_with fail
  refine (put_any _ _ _ _ _ (by decide) (by decide) _ H2.out).mono ?_
  rintro e w3 ⟨rfl, v3, h3, t3⟩
  rw [wk2] at h3
  have H3 := mkHid h3
  have B3 := mkHid (B2.out.trans (t3.below H2.out w.heap.size (Nat.le_refl _)))
  clear h3 t3
  go_wp2_with fail
  refine (text_any _ _ _ _ H3.out).mono ?_
  rw [wk3]
  rintro e w4 ⟨rfl, rfl⟩
  go_wp2_with fail
  refine (read_any _ _).mono ?_
  rintro e w5 ⟨rfl, h5, a5, s5⟩
  have H5 := mkHid h5
  have hsz := B3.out.size
  have hb5 : w.heap.size ≤ w4.heap.size := by omega
  have B5 := mkHid (B3.out.trans (a5.belowF w.heap.size hb5))
  have H3' := mkHid (H3.out.kept a5 (fun h => h) (fun _ _ h => h))
  generalize w4.heap.size = rb at *
  clear h5 a5
  go_wp2_with fail
  refine (text_any _ _ _ _ H3'.out).mono ?_
  rw [wk3]
  rintro e w6 ⟨rfl, rfl⟩
  have hws : ws.size ≤ 1000000 := by decide
  have hwd : ws = ⟨#[176]⟩ := rfl
  go_wp2_with fail
  refine (get_any _ ws hws _ _ _ H5.out).mono ?_
  rw [wk4.1, wk4.2]
  rintro e w7 ⟨rfl, h7, a7⟩
  have H7 := mkHid h7
  have hz5 := B5.out.size
  have B7 := mkHid (B5.out.trans (a7.belowE w.heap.size hz5 hb5))
  clear h7 a7
  go_wp2_with fail
  refine (get_any _ ws hws _ _ _ H7.out).mono ?_
  rw [wk5.1, wk5.2]
  rintro e w8 ⟨rfl, h8, a8⟩
  have H8 := mkHid h8
  have hz7 := B7.out.size
  have B8 := mkHid (B7.out.trans (a8.belowE w.heap.size hz7 hb5))
  clear h8 a8
  go_wp2_with fail
  refine (left_any _ ws hws _ _ H8.out).mono ?_
  rw [wk6]
  rintro e w9 ⟨rfl, n9, rfl⟩
  go_wp2_with fail
  refine (get_any _ ws hws _ _ _ (drew_rd n9 H8.out)).mono ?_
  rw [wk7.1, wk7.2]
  rintro e w10 ⟨rfl, h10, a10⟩
  have H10 := mkHid h10
  have hz8 := B8.out.size
  have B10 := mkHid (B8.out.trans (((Apart.refl _ _).drewN n9).trans a10 (fun _ _ h => h) |>.belowE w.heap.size hz8 hb5))
  clear h10 a10
  go_wp2_with fail
  refine (bad_any _ ws _ _ H10.out).mono ?_
  rw [wk8]
  rintro e w11 ⟨rfl, rfl⟩
  go_wp2
  go_ret
  exact ⟨rfl, B10.out⟩
end Go.Proofs.Ytibpmdgihgjnpaa
