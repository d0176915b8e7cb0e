/-
  What the rows' list gives: the table's cells; and a world that holds them, for the witness.
-/
import Derived.Test.YtdmmhhkkiokmiaaDoorFixW
import Derived.Test.YtdmmhhkkiokmiaaDoorCards
import Derived.Test.YtdmmhhkkiokmiaaDoorTie
import Derived.WalkKit
import Derived.ProofKit
import Derived.OpenShut
import Derived.Deep.DeepHandedRow
import Derived.Lib.LaidTab
namespace Go.Proofs.YtdmmhhkkiokmiaaDoor
open Go.ChangeShapes Go.WideShapes Go.ChangeAt Go.RowKit

theorem own : ownKnob Tryd.prog.godebug = none := by kernel_rfl
theorem gTab : Tryd.prog.globalNamed "flywheel/fixed.factors" = some 0 := by kernel_rfl
theorem gTabType : (Tryd.prog.globals[0]?).map (·.type) = some 26 := by kernel_rfl
theorem cells26 : Tryd.prog.cellsOf 26 = 3 := by kernel_rfl
theorem cells2 : Tryd.prog.cellsOf 2 = 1 := by kernel_rfl
theorem cells34 : Tryd.prog.cellsOf 34 = 2 := by kernel_rfl
theorem cells5 : Tryd.prog.cellsOf 5 = 1 := by kernel_rfl
theorem tab_of {W : World} (h : laidMetH Tryd.prog [("flywheel/fixed.factors", Rows.laid_flywheel_fixed_factors)] W) : Tab W := by
  have t : Lib.TabIs Tryd.prog W "flywheel/fixed.factors" .i64 [2977044472, 1031764991, 206353000] :=
    Lib.tabIs_of_head (rest := []) gTab gTabType Tryd.underlying26 Tryd.underlying2 cells2 cells26 h
  have c0 := t.cell gTab 0 (by decide)
  exact ⟨World.block_lt_of_cell? _ _ c0, c0, t.cell gTab 1 (by decide), t.cell gTab 2 (by decide)⟩
/-- The settled world, the table (block 0) holding what its initialiser lays. -/
def laidWorld (P : Program) (os : Os) : World :=
  { World.holding P os ⟨#[], #[], []⟩ with heap := (World.holding P os ⟨#[], #[], []⟩).heap.modify 0 fun
      | .cells _ t frozen => .cells #[.int .i64 2977044472, .int .i64 1031764991, .int .i64 206353000] t frozen
      | o => o }
theorem list2 {α : Type} {l : List α} (h : l.length = 2) : ∃ a b, l = [a, b] := by
  match l, h with
  | [a, b], _ => exact ⟨a, b, rfl⟩
theorem list3 {α : Type} {l : List α} (h : l.length = 3) : ∃ a b c, l = [a, b, c] := by
  match l, h with
  | [a, b, c], _ => exact ⟨a, b, c, rfl⟩
end Go.Proofs.YtdmmhhkkiokmiaaDoor
