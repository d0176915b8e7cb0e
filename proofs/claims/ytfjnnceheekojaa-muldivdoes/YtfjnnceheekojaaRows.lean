/-
  No cell of these rows narrows 'for every input' (looked for: loops, veiled, ifaces, maps, wideKeys, modest, calm, conditions, laid).
  DERIVED. THE GIVEN ROWS OF THIS SEAT. 6 by the template 'for every input the law returns true; each argument reads behind the call as it read before'; 0 by the template 'total and deterministic' (their statements: YtfjnnceheekojaaTotals.lean).
  GIVEN WITH THE SEED: the statements are not yours to turn. If you find one false, say at which input.
  Laid BY PROGRAM, IN A SANDBOX (cutbox-rows.mjs): the forced cells as the released guide's own fill.sh prints them over the translation d2291ebfbcc83b04… (all of the seat's roots in one cut). By AI agents, Wed Nov 11 2026. No macro, syntax, notation, axiom, sorry.
-/
import Derived.Test.YtfjnnceheekojaaChecked
import GoSem.Claim
import GoSem.ClaimJoined
import GoSem.ClaimMapViews
import Derived.JoinedTies
import Derived.KernelRfl
namespace Go.Proofs.Ytfjnnceheekojaa
/- THE CELL 'sum', in the pinned program and in every row, IS THE sha256 OF THE DUMP (.gsa) THAT YtfjnnceheekojaaProg.lean LOADS. Nothing in Lean hashes anything: it is a label: what it is worth is what the hold of that sum in a sandbox is worth. -/
noncomputable def Try.pinned : Pinned := { name := "ytfjnnceheekojaa", sum := "d2291ebfbcc83b044b9861fa5a897d6437c13a338b6db22b60f42b07a30c7db3", checked := Try.checked }
namespace Rows
def none {H : Type} : Left H := { results := [], args := [] }

/-- 'flywheellaw02.MuldivDoes': WHATEVER THE INPUT: true; the input reads as it did. -/
def muldivDoesSpec : ChangeSpec := { name := "muldivDoes", fn := fun _ => fun
  | [d] => { results := [.lit (.bool true)], args := [d] }
  | _ => none }
def muldivDoesRow : OpenClaim := { program := "ytfjnnceheekojaa", sum := "d2291ebfbcc83b044b9861fa5a897d6437c13a338b6db22b60f42b07a30c7db3", func := "flywheel/flywheellaw02.MuldivDoes", spec := "muldivDoes", inPlace := ["math/bits.Add64"], named := ["math/bits.divideError", "math/bits.overflowError"], apart := false }
def MuldivDoesSaid : Prop := muldivDoesRow.holds Try.pinned (OpenSpec.ofChange muldivDoesSpec)

/-- ITS FALSE NEIGHBOUR: 'it returns false'. Refute it at one input. -/
def muldivDoesWrong : ChangeSpec := { name := "muldivDoes", fn := fun _ => fun
  | [d] => { results := [.lit (.bool false)], args := [d] }
  | _ => none }
def MuldivDoesWrongFalsely : Prop := muldivDoesRow.holds Try.pinned (OpenSpec.ofChange muldivDoesWrong)

/-- 'flywheellaw02.MuldivRoots': WHATEVER THE INPUT: true; the input reads as it did. -/
def muldivRootsSpec : ChangeSpec := { name := "muldivRoots", fn := fun _ => fun
  | [d] => { results := [.lit (.bool true)], args := [d] }
  | _ => none }
def muldivRootsRow : OpenClaim := { program := "ytfjnnceheekojaa", sum := "d2291ebfbcc83b044b9861fa5a897d6437c13a338b6db22b60f42b07a30c7db3", func := "flywheel/flywheellaw02.MuldivRoots", spec := "muldivRoots", inPlace := ["math/bits.Add64"], named := ["math/bits.divideError", "math/bits.overflowError"], apart := false }
def MuldivRootsSaid : Prop := muldivRootsRow.holds Try.pinned (OpenSpec.ofChange muldivRootsSpec)

/-- ITS FALSE NEIGHBOUR: 'it returns false'. Refute it at one input. -/
def muldivRootsWrong : ChangeSpec := { name := "muldivRoots", fn := fun _ => fun
  | [d] => { results := [.lit (.bool false)], args := [d] }
  | _ => none }
def MuldivRootsWrongFalsely : Prop := muldivRootsRow.holds Try.pinned (OpenSpec.ofChange muldivRootsWrong)

/-- 'flywheellaw02.MuldivOrder': WHATEVER THE INPUT: true; the input reads as it did. -/
def muldivOrderSpec : ChangeSpec := { name := "muldivOrder", fn := fun _ => fun
  | [d1, d2, d3] => { results := [.lit (.bool true)], args := [d1, d2, d3] }
  | _ => none }
def muldivOrderRow : OpenClaim := { program := "ytfjnnceheekojaa", sum := "d2291ebfbcc83b044b9861fa5a897d6437c13a338b6db22b60f42b07a30c7db3", func := "flywheel/flywheellaw02.MuldivOrder", spec := "muldivOrder", inPlace := ["math/bits.Add64"], named := ["math/bits.divideError", "math/bits.overflowError"], apart := false }
def MuldivOrderSaid : Prop := muldivOrderRow.holds Try.pinned (OpenSpec.ofChange muldivOrderSpec)

/-- ITS FALSE NEIGHBOUR: 'it returns false'. Refute it at one input. -/
def muldivOrderWrong : ChangeSpec := { name := "muldivOrder", fn := fun _ => fun
  | [d1, d2, d3] => { results := [.lit (.bool false)], args := [d1, d2, d3] }
  | _ => none }
def MuldivOrderWrongFalsely : Prop := muldivOrderRow.holds Try.pinned (OpenSpec.ofChange muldivOrderWrong)

/-- 'flywheellaw02.MuldivBack': WHATEVER THE INPUT: true; the input reads as it did. -/
def muldivBackSpec : ChangeSpec := { name := "muldivBack", fn := fun _ => fun
  | [d1, d2, d3] => { results := [.lit (.bool true)], args := [d1, d2, d3] }
  | _ => none }
def muldivBackRow : OpenClaim := { program := "ytfjnnceheekojaa", sum := "d2291ebfbcc83b044b9861fa5a897d6437c13a338b6db22b60f42b07a30c7db3", func := "flywheel/flywheellaw02.MuldivBack", spec := "muldivBack", inPlace := ["math/bits.Add64"], named := ["math/bits.divideError", "math/bits.overflowError"], apart := false }
def MuldivBackSaid : Prop := muldivBackRow.holds Try.pinned (OpenSpec.ofChange muldivBackSpec)

/-- ITS FALSE NEIGHBOUR: 'it returns false'. Refute it at one input. -/
def muldivBackWrong : ChangeSpec := { name := "muldivBack", fn := fun _ => fun
  | [d1, d2, d3] => { results := [.lit (.bool false)], args := [d1, d2, d3] }
  | _ => none }
def MuldivBackWrongFalsely : Prop := muldivBackRow.holds Try.pinned (OpenSpec.ofChange muldivBackWrong)

/-- 'flywheellaw02.MuldivWhole': WHATEVER THE INPUT: true; the input reads as it did. -/
def muldivWholeSpec : ChangeSpec := { name := "muldivWhole", fn := fun _ => fun
  | [d1, d2, d3] => { results := [.lit (.bool true)], args := [d1, d2, d3] }
  | _ => none }
def muldivWholeRow : OpenClaim := { program := "ytfjnnceheekojaa", sum := "d2291ebfbcc83b044b9861fa5a897d6437c13a338b6db22b60f42b07a30c7db3", func := "flywheel/flywheellaw02.MuldivWhole", spec := "muldivWhole", inPlace := ["math/bits.Add64"], named := ["math/bits.divideError", "math/bits.overflowError"], apart := false }
def MuldivWholeSaid : Prop := muldivWholeRow.holds Try.pinned (OpenSpec.ofChange muldivWholeSpec)

/-- ITS FALSE NEIGHBOUR: 'it returns false'. Refute it at one input. -/
def muldivWholeWrong : ChangeSpec := { name := "muldivWhole", fn := fun _ => fun
  | [d1, d2, d3] => { results := [.lit (.bool false)], args := [d1, d2, d3] }
  | _ => none }
def MuldivWholeWrongFalsely : Prop := muldivWholeRow.holds Try.pinned (OpenSpec.ofChange muldivWholeWrong)

/-- 'flywheellaw02.MuldivTurns': WHATEVER THE INPUT: true; the input reads as it did. -/
def muldivTurnsSpec : ChangeSpec := { name := "muldivTurns", fn := fun _ => fun
  | [d1, d2, d3] => { results := [.lit (.bool true)], args := [d1, d2, d3] }
  | _ => none }
def muldivTurnsRow : OpenClaim := { program := "ytfjnnceheekojaa", sum := "d2291ebfbcc83b044b9861fa5a897d6437c13a338b6db22b60f42b07a30c7db3", func := "flywheel/flywheellaw02.MuldivTurns", spec := "muldivTurns", inPlace := ["math/bits.Add64"], named := ["math/bits.divideError", "math/bits.overflowError"], apart := false }
def MuldivTurnsSaid : Prop := muldivTurnsRow.holds Try.pinned (OpenSpec.ofChange muldivTurnsSpec)

/-- ITS FALSE NEIGHBOUR: 'it returns false'. Refute it at one input. -/
def muldivTurnsWrong : ChangeSpec := { name := "muldivTurns", fn := fun _ => fun
  | [d1, d2, d3] => { results := [.lit (.bool false)], args := [d1, d2, d3] }
  | _ => none }
def MuldivTurnsWrongFalsely : Prop := muldivTurnsRow.holds Try.pinned (OpenSpec.ofChange muldivTurnsWrong)

/- THE SECOND FORM. 'bulk': how many values and letters a reading holds, each counted each time it is reached (what is shared counts as often as it is met; a slice's spare places count too). A statement '..UptoSaid' is the law's where the arguments, and the package variables that the reading takes, are together of bulk at most 1048576: NARROWER than '..Said'. Prove '..Said' where nothing that the law and all that it calls make is longer than what came in: it says more and counts as full. Else prove '..UptoSaid'. A law counts once. -/
mutual
def uptoBulk {H : Type} : DataW H → Nat
  | .lit (.string bytes) => bytes.length + 1
  | .lit _ => 1
  | .nil => 1
  | .ptr d => uptoBulk d + 1
  | .slice elems spare => uptoBulkAll elems + uptoBulkAll spare + 1
  | .agg parts => uptoBulkAll parts + 1
  | .iface _ d => uptoBulk d + 1
  | .map entries => uptoBulkEntries entries + 1
  | .held _ => 1
def uptoBulkAll {H : Type} : List (DataW H) → Nat
  | [] => 0
  | d :: r => uptoBulk d + uptoBulkAll r
def uptoBulkEntries {H : Type} : List (Lit × DataW H) → Nat
  | [] => 0
  | x :: r => uptoBulkEntry x + uptoBulkEntries r
def uptoBulkEntry {H : Type} : Lit × DataW H → Nat
  | (.string bytes, d) => bytes.length + uptoBulk d + 1
  | (_, d) => uptoBulk d + 1
 end
def uptoSmall : (H : Type) → List (DataW H) → Bool := fun _ ds => decide (uptoBulkAll ds ≤ 1048576)
def OpenSpec.upto (s : _root_.Go.ChangeSpec) : _root_.Go.OpenSpec := { _root_.Go.OpenSpec.ofChange s with cond := some uptoSmall }

/-- 'flywheellaw02.MuldivDoes', WHERE WHAT IT READS IS OF BULK AT MOST 1048576: true; the input reads as it did. -/
def muldivDoesUptoRow : OpenClaim := { program := "ytfjnnceheekojaa", sum := "d2291ebfbcc83b044b9861fa5a897d6437c13a338b6db22b60f42b07a30c7db3", func := "flywheel/flywheellaw02.MuldivDoes", spec := "muldivDoes", inPlace := ["math/bits.Add64"], named := ["math/bits.divideError", "math/bits.overflowError"], apart := false, narrowed := true }
def MuldivDoesUptoSaid : Prop := muldivDoesUptoRow.holds Try.pinned (OpenSpec.upto muldivDoesSpec)

/-- 'flywheellaw02.MuldivRoots', WHERE WHAT IT READS IS OF BULK AT MOST 1048576: true; the input reads as it did. -/
def muldivRootsUptoRow : OpenClaim := { program := "ytfjnnceheekojaa", sum := "d2291ebfbcc83b044b9861fa5a897d6437c13a338b6db22b60f42b07a30c7db3", func := "flywheel/flywheellaw02.MuldivRoots", spec := "muldivRoots", inPlace := ["math/bits.Add64"], named := ["math/bits.divideError", "math/bits.overflowError"], apart := false, narrowed := true }
def MuldivRootsUptoSaid : Prop := muldivRootsUptoRow.holds Try.pinned (OpenSpec.upto muldivRootsSpec)

/-- 'flywheellaw02.MuldivOrder', WHERE WHAT IT READS IS OF BULK AT MOST 1048576: true; the input reads as it did. -/
def muldivOrderUptoRow : OpenClaim := { program := "ytfjnnceheekojaa", sum := "d2291ebfbcc83b044b9861fa5a897d6437c13a338b6db22b60f42b07a30c7db3", func := "flywheel/flywheellaw02.MuldivOrder", spec := "muldivOrder", inPlace := ["math/bits.Add64"], named := ["math/bits.divideError", "math/bits.overflowError"], apart := false, narrowed := true }
def MuldivOrderUptoSaid : Prop := muldivOrderUptoRow.holds Try.pinned (OpenSpec.upto muldivOrderSpec)

/-- 'flywheellaw02.MuldivBack', WHERE WHAT IT READS IS OF BULK AT MOST 1048576: true; the input reads as it did. -/
def muldivBackUptoRow : OpenClaim := { program := "ytfjnnceheekojaa", sum := "d2291ebfbcc83b044b9861fa5a897d6437c13a338b6db22b60f42b07a30c7db3", func := "flywheel/flywheellaw02.MuldivBack", spec := "muldivBack", inPlace := ["math/bits.Add64"], named := ["math/bits.divideError", "math/bits.overflowError"], apart := false, narrowed := true }
def MuldivBackUptoSaid : Prop := muldivBackUptoRow.holds Try.pinned (OpenSpec.upto muldivBackSpec)

/-- 'flywheellaw02.MuldivWhole', WHERE WHAT IT READS IS OF BULK AT MOST 1048576: true; the input reads as it did. -/
def muldivWholeUptoRow : OpenClaim := { program := "ytfjnnceheekojaa", sum := "d2291ebfbcc83b044b9861fa5a897d6437c13a338b6db22b60f42b07a30c7db3", func := "flywheel/flywheellaw02.MuldivWhole", spec := "muldivWhole", inPlace := ["math/bits.Add64"], named := ["math/bits.divideError", "math/bits.overflowError"], apart := false, narrowed := true }
def MuldivWholeUptoSaid : Prop := muldivWholeUptoRow.holds Try.pinned (OpenSpec.upto muldivWholeSpec)

/-- 'flywheellaw02.MuldivTurns', WHERE WHAT IT READS IS OF BULK AT MOST 1048576: true; the input reads as it did. -/
def muldivTurnsUptoRow : OpenClaim := { program := "ytfjnnceheekojaa", sum := "d2291ebfbcc83b044b9861fa5a897d6437c13a338b6db22b60f42b07a30c7db3", func := "flywheel/flywheellaw02.MuldivTurns", spec := "muldivTurns", inPlace := ["math/bits.Add64"], named := ["math/bits.divideError", "math/bits.overflowError"], apart := false, narrowed := true }
def MuldivTurnsUptoSaid : Prop := muldivTurnsUptoRow.holds Try.pinned (OpenSpec.upto muldivTurnsSpec)

end Rows
end Go.Proofs.Ytfjnnceheekojaa
