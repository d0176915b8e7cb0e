/-
  What the function that reads a header hands back.
-/
import Derived.Test.YtdajcgicpfpeoaaRtX
import Derived.Test.YtdajcgicpfpeoaaRtJ
import Derived.Deep.RegionHeld3
namespace Go.Proofs.Ytdajcgicpfpeoaa
open Go.RowKit

/-- A header as a value. -/
abbrev hdr (mk : Bool) (ty sq tm ss : Int) (v5 v6 : Value) : Value := .agg #[.bool mk, .int .i64 ty, .int .i64 sq, .int .u32 tm, .int .u32 ss, v5, v6]
/-- A header in block bx. -/
def Hd (w : World) (bx : Nat) (mk : Bool) (ty sq tm ss : Int) (v5 v6 : Value) : Prop := w.heap[bx]? = some (.cells #[.bool mk, .int .i64 ty, .int .i64 sq, .int .u32 tm, .int .u32 ss, v5, v6] 26 (0, 0))
theorem Hd.cells {w : World} {bx : Nat} {mk : Bool} {ty sq tm ss : Int} {v5 v6 : Value} (h : Hd w bx mk ty sq tm ss v5 v6) :
    (w.cell? ⟨bx, 0, none⟩ = some (.bool mk) ∧ w.cell? ⟨bx, 1, none⟩ = some (.int .i64 ty) ∧ w.cell? ⟨bx, 2, none⟩ = some (.int .i64 sq) ∧ w.cell? ⟨bx, 3, none⟩ = some (.int .u32 tm) ∧ w.cell? ⟨bx, 4, none⟩ = some (.int .u32 ss) ∧ w.cell? ⟨bx, 5, none⟩ = some v5 ∧ w.cell? ⟨bx, 6, none⟩ = some v6) ∧
    (w.frozen? ⟨bx, 0, none⟩ = false ∧ w.frozen? ⟨bx, 1, none⟩ = false ∧ w.frozen? ⟨bx, 2, none⟩ = false ∧ w.frozen? ⟨bx, 3, none⟩ = false ∧ w.frozen? ⟨bx, 4, none⟩ = false ∧ w.frozen? ⟨bx, 5, none⟩ = false ∧ w.frozen? ⟨bx, 6, none⟩ = false) :=
  ⟨cells7 h, frozen_of_row w bx 0 _ 26 h, frozen_of_row w bx 1 _ 26 h, frozen_of_row w bx 2 _ 26 h, frozen_of_row w bx 3 _ 26 h, frozen_of_row w bx 4 _ 26 h, frozen_of_row w bx 5 _ 26 h, frozen_of_row w bx 6 _ 26 h⟩
theorem Hd.kept {w w' : World} {bx : Nat} {mk : Bool} {ty sq tm ss : Int} {v5 v6 : Value} {X : Nat → Prop} (h : Hd w bx mk ty sq tm ss v5 v6) (ha : Apart X w w') (hx : ¬ X bx) : Hd w' bx mk ty sq tm ss v5 v6 := ha.heap h hx
/-- What getHeader leaves behind where something is wrong. -/
def HdrBad (b : Nat) (E : Int) (w : World) (e : Ending) (w' : World) : Prop :=
  Apart (· = b) w w' ∧ ∃ mk ty sq tm ss sa ns sc ea ne ec, e = .returned (.tuple #[hdr mk ty sq tm ss (.slice sa ns sc) (.slice ea ne ec), .int .i64 E])
theorem Hd.store {w : World} {bx : Nat} {mk : Bool} {ty sq tm ss : Int} {v5 v6 : Value} (h : Hd w bx mk ty sq tm ss v5 v6) (mk' : Bool) (ty' sq' tm' ss' : Int) (v5' v6' : Value) :
    Hd (((((((w.setCell ⟨bx, 0, none⟩ (.bool mk')).setCell ⟨bx, 1, none⟩ (.int .i64 ty')).setCell ⟨bx, 2, none⟩ (.int .i64 sq')).setCell ⟨bx, 3, none⟩ (.int .u32 tm')).setCell ⟨bx, 4, none⟩ (.int .u32 ss')).setCell ⟨bx, 5, none⟩ v5').setCell ⟨bx, 6, none⟩ v6') bx mk' ty' sq' tm' ss' v5' v6' ∧
    Apart (· = bx) w (((((((w.setCell ⟨bx, 0, none⟩ (.bool mk')).setCell ⟨bx, 1, none⟩ (.int .i64 ty')).setCell ⟨bx, 2, none⟩ (.int .i64 sq')).setCell ⟨bx, 3, none⟩ (.int .u32 tm')).setCell ⟨bx, 4, none⟩ (.int .u32 ss')).setCell ⟨bx, 5, none⟩ v5').setCell ⟨bx, 6, none⟩ v6') := by
  have h0 := heap_setCell_same _ bx 0 _ 26 (.bool mk') h
  have h1 := heap_setCell_same _ bx 1 _ 26 (.int .i64 ty') h0
  have h2 := heap_setCell_same _ bx 2 _ 26 (.int .i64 sq') h1
  have h3 := heap_setCell_same _ bx 3 _ 26 (.int .u32 tm') h2
  have h4 := heap_setCell_same _ bx 4 _ 26 (.int .u32 ss') h3
  have h5 := heap_setCell_same _ bx 5 _ 26 v5' h4
  have h6 := heap_setCell_same _ bx 6 _ 26 v6' h5
  refine ⟨?_, ?_⟩
  · unfold Hd; rw [h6]; rfl
  · refine Apart.setCell (X := (· = bx)) (p := ⟨bx, 6, none⟩) ?_ (fun _ => rfl) _
    refine Apart.setCell (X := (· = bx)) (p := ⟨bx, 5, none⟩) ?_ (fun _ => rfl) _
    refine Apart.setCell (X := (· = bx)) (p := ⟨bx, 4, none⟩) ?_ (fun _ => rfl) _
    refine Apart.setCell (X := (· = bx)) (p := ⟨bx, 3, none⟩) ?_ (fun _ => rfl) _
    refine Apart.setCell (X := (· = bx)) (p := ⟨bx, 2, none⟩) ?_ (fun _ => rfl) _
    refine Apart.setCell (X := (· = bx)) (p := ⟨bx, 1, none⟩) ?_ (fun _ => rfl) _
    exact Apart.setCell (X := (· = bx)) (p := ⟨bx, 0, none⟩) (Apart.refl _ _) (fun _ => rfl) _
theorem res28 {W : World} {bx : Nat} {mk : Bool} {ty sq tm ss : Int} {sa ea : Option Addr} {ns sc ne ec : Nat} (tmps : Array Value) (h2 : tmps.getD 2 undef = .pointer (some ⟨bx, 0, none⟩)) (hd : Hd W bx mk ty sq tm ss (.slice sa ns sc) (.slice ea ne ec)) :
    (results Try.f28 tmps).run Try.prog W = .ok (.tuple #[hdr mk ty sq tm ss (.slice sa ns sc) (.slice ea ne ec), tmps.getD 3 undef]) W := by
  obtain ⟨⟨c0, c1, c2, c3, c4, c5, c6⟩, _⟩ := hd.cells
  clear hd
  have h2' : tmps[2]?.getD undef = .pointer (some ⟨bx, 0, none⟩) := by rw [← h2]; simp
  simp [results, Try.results28, h2', c0, c1, c2, c3, c4, c5, c6, go_sem]
set_option maxRecDepth 100000 in
set_option maxHeartbeats 4000000 in
theorem head_none (b : Nat) (s : ByteArray) (hs : s.size ≤ 1000000) (h0 : s.size = 0) (w : World) (h : Rd 78 w b s (At s 0)) :
    Calls Try.prog 28 #[.pointer (some ⟨b, 0, none⟩)] w (HdrBad b 60 w) := by
  have H := mkHid (h.kept ((Apart.refl (fun _ => False) _).alloc (.cells #[.bool false, .int .i64 0, .int .i64 0, .int .u32 0, .int .u32 0, .slice none 0 0, .slice none 0 0] 26)) (fun h => h))
  have hbl := h.heap
  have B := mkHid (badB_yes (s := s) (p := 3) (by omega))
  obtain ⟨bx, HBX⟩ : ∃ bx, Hid (w.heap.size = bx) := ⟨_, rfl⟩
  have HN := mkHid (heap_alloc_new w (.cells #[.bool false, .int .i64 0, .int .i64 0, .int .u32 0, .int .u32 0, .slice none 0 0, .slice none 0 0] 26))
  rw [HBX.out] at HN hbl
  clear h h0
  go_enter Try.func28, Try.ntmps28
  go_wp2_with fail
  refine (get_at b s hs 0 _ 3 rfl (by omega) _ H.out).mono ?_
  generalize gw s 0 3 = g
  rintro e w1 ⟨rfl, h1, p1⟩
  have H1 := mkHid h1
  have P1 := mkHid (Apart.trans ((Apart.refl (· = b) _).alloc _) p1 (fun _ _ h => h))
  have D1 := mkHid (show Hd w1 bx false 0 0 0 0 (.slice none 0 0) (.slice none 0 0) from p1.heap HN.out (by omega))
  obtain ⟨⟨c0, c1, c2, c3, c4, c5, c6⟩, f0, f1, f2, f3, f4, f5, f6⟩ := D1.out.cells
  clear h1 p1
  rw [HBX.out]
  go_wp2_with fail
  refine (bad_at b s _ _ H1.out).mono ?_
  rw [B.out]
  rintro e w2 ⟨rfl, rfl⟩
  go_wp2
  show bodyPost _ _ _ _ _ _
  obtain ⟨dd, aa⟩ := D1.out.store false 0 0 0 0 (.slice none 0 0) (.slice none 0 0)
  refine bodyPost_ret (res28 _ rfl dd) rfl ⟨(P1.out.trans aa (fun i hi e => by rw [HBX.out] at hi; omega)), ?_⟩
  exact ⟨_, _, _, _, _, _, _, _, _, _, _, rfl⟩
end Go.Proofs.Ytdajcgicpfpeoaa
