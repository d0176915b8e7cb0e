/-
  No cell of these rows narrows 'for every input' (looked for: loops, veiled, ifaces, maps, wideKeys, modest, calm, conditions, laid).
  DERIVED. THE GIVEN ROWS OF THIS SEAT. 5 by the template 'for every input the law returns true; each argument reads behind the call as it read before'; 0 by the template 'total and deterministic' (their statements: YtkmgoipojikihaaTotals.lean).
  GIVEN WITH THE SEED: the statements are not yours to turn. If you find one false, say at which input.
  Laid BY PROGRAM, IN A SANDBOX (cutbox-rows.mjs): the forced cells as the released guide's own fill.sh prints them over the translation 86848e8dee53ea05… (all of the seat's roots in one cut). By AI agents, Wed Nov 11 2026. No macro, syntax, notation, axiom, sorry.
-/
import Derived.Test.YtkmgoipojikihaaChecked
import GoSem.Claim
import GoSem.ClaimJoined
import GoSem.ClaimMapViews
import Derived.JoinedTies
import Derived.KernelRfl
namespace Go.Proofs.Ytkmgoipojikihaa
/- THE CELL 'sum', in the pinned program and in every row, IS THE sha256 OF THE DUMP (.gsa) THAT YtkmgoipojikihaaProg.lean LOADS. Nothing in Lean hashes anything: it is a label: what it is worth is what the hold of that sum in a sandbox is worth. -/
noncomputable def Try.pinned : Pinned := { name := "ytkmgoipojikihaa", sum := "86848e8dee53ea0565330dba47eb5989664aa56a842aa63f235e509017f4ee04", checked := Try.checked }
namespace Rows
def none {H : Type} : Left H := { results := [], args := [] }

/-- 'flywheellaw04.UnitsDoes': WHATEVER THE INPUT: true; the input reads as it did. -/
def unitsDoesSpec : ChangeSpec := { name := "unitsDoes", fn := fun _ => fun
  | [d1, d2] => { results := [.lit (.bool true)], args := [d1, d2] }
  | _ => none }
def unitsDoesRow : OpenClaim := { program := "ytkmgoipojikihaa", sum := "86848e8dee53ea0565330dba47eb5989664aa56a842aa63f235e509017f4ee04", func := "flywheel/flywheellaw04.UnitsDoes", spec := "unitsDoes", inPlace := ["math/bits.Add64"], named := ["math/bits.divideError", "math/bits.overflowError"], apart := false }
def UnitsDoesSaid : Prop := unitsDoesRow.holds Try.pinned (OpenSpec.ofChange unitsDoesSpec)

/-- ITS FALSE NEIGHBOUR: 'it returns false'. Refute it at one input. -/
def unitsDoesWrong : ChangeSpec := { name := "unitsDoes", fn := fun _ => fun
  | [d1, d2] => { results := [.lit (.bool false)], args := [d1, d2] }
  | _ => none }
def UnitsDoesWrongFalsely : Prop := unitsDoesRow.holds Try.pinned (OpenSpec.ofChange unitsDoesWrong)

/-- 'flywheellaw04.UnitsStamps': WHATEVER THE INPUT: true; the input reads as it did. -/
def unitsStampsSpec : ChangeSpec := { name := "unitsStamps", fn := fun _ => fun
  | [d1, d2, d3] => { results := [.lit (.bool true)], args := [d1, d2, d3] }
  | _ => none }
def unitsStampsRow : OpenClaim := { program := "ytkmgoipojikihaa", sum := "86848e8dee53ea0565330dba47eb5989664aa56a842aa63f235e509017f4ee04", func := "flywheel/flywheellaw04.UnitsStamps", spec := "unitsStamps", inPlace := ["math/bits.Add64"], unfollowed := true, recurses := true, named := ["math/bits.divideError", "math/bits.overflowError"], apart := false }
def UnitsStampsSaid : Prop := unitsStampsRow.holds Try.pinned (OpenSpec.ofChange unitsStampsSpec)

/-- ITS FALSE NEIGHBOUR: 'it returns false'. Refute it at one input. -/
def unitsStampsWrong : ChangeSpec := { name := "unitsStamps", fn := fun _ => fun
  | [d1, d2, d3] => { results := [.lit (.bool false)], args := [d1, d2, d3] }
  | _ => none }
def UnitsStampsWrongFalsely : Prop := unitsStampsRow.holds Try.pinned (OpenSpec.ofChange unitsStampsWrong)

/-- 'flywheellaw04.UnitsBack': WHATEVER THE INPUT: true; the input reads as it did. -/
def unitsBackSpec : ChangeSpec := { name := "unitsBack", fn := fun _ => fun
  | [d1, d2, d3] => { results := [.lit (.bool true)], args := [d1, d2, d3] }
  | _ => none }
def unitsBackRow : OpenClaim := { program := "ytkmgoipojikihaa", sum := "86848e8dee53ea0565330dba47eb5989664aa56a842aa63f235e509017f4ee04", func := "flywheel/flywheellaw04.UnitsBack", spec := "unitsBack", inPlace := ["math/bits.Add64"], named := ["math/bits.divideError", "math/bits.overflowError"], apart := false }
def UnitsBackSaid : Prop := unitsBackRow.holds Try.pinned (OpenSpec.ofChange unitsBackSpec)

/-- ITS FALSE NEIGHBOUR: 'it returns false'. Refute it at one input. -/
def unitsBackWrong : ChangeSpec := { name := "unitsBack", fn := fun _ => fun
  | [d1, d2, d3] => { results := [.lit (.bool false)], args := [d1, d2, d3] }
  | _ => none }
def UnitsBackWrongFalsely : Prop := unitsBackRow.holds Try.pinned (OpenSpec.ofChange unitsBackWrong)

/-- 'flywheellaw04.UnitsTimes': WHATEVER THE INPUT: true; the input reads as it did. -/
def unitsTimesSpec : ChangeSpec := { name := "unitsTimes", fn := fun _ => fun
  | [d1, d2] => { results := [.lit (.bool true)], args := [d1, d2] }
  | _ => none }
def unitsTimesRow : OpenClaim := { program := "ytkmgoipojikihaa", sum := "86848e8dee53ea0565330dba47eb5989664aa56a842aa63f235e509017f4ee04", func := "flywheel/flywheellaw04.UnitsTimes", spec := "unitsTimes", inPlace := ["math/bits.Add64"], unfollowed := true, recurses := true, named := ["math/bits.divideError", "math/bits.overflowError"], apart := false }
def UnitsTimesSaid : Prop := unitsTimesRow.holds Try.pinned (OpenSpec.ofChange unitsTimesSpec)

/-- ITS FALSE NEIGHBOUR: 'it returns false'. Refute it at one input. -/
def unitsTimesWrong : ChangeSpec := { name := "unitsTimes", fn := fun _ => fun
  | [d1, d2] => { results := [.lit (.bool false)], args := [d1, d2] }
  | _ => none }
def UnitsTimesWrongFalsely : Prop := unitsTimesRow.holds Try.pinned (OpenSpec.ofChange unitsTimesWrong)

/-- 'flywheellaw04.UnitsAdds': WHATEVER THE INPUT: true; the input reads as it did. -/
def unitsAddsSpec : ChangeSpec := { name := "unitsAdds", fn := fun _ => fun
  | [d1, d2, d3] => { results := [.lit (.bool true)], args := [d1, d2, d3] }
  | _ => none }
def unitsAddsRow : OpenClaim := { program := "ytkmgoipojikihaa", sum := "86848e8dee53ea0565330dba47eb5989664aa56a842aa63f235e509017f4ee04", func := "flywheel/flywheellaw04.UnitsAdds", spec := "unitsAdds", inPlace := ["math/bits.Add64"], named := ["math/bits.divideError", "math/bits.overflowError"], apart := false }
def UnitsAddsSaid : Prop := unitsAddsRow.holds Try.pinned (OpenSpec.ofChange unitsAddsSpec)

/-- ITS FALSE NEIGHBOUR: 'it returns false'. Refute it at one input. -/
def unitsAddsWrong : ChangeSpec := { name := "unitsAdds", fn := fun _ => fun
  | [d1, d2, d3] => { results := [.lit (.bool false)], args := [d1, d2, d3] }
  | _ => none }
def UnitsAddsWrongFalsely : Prop := unitsAddsRow.holds Try.pinned (OpenSpec.ofChange unitsAddsWrong)

/- THE SECOND FORM. 'bulk': how many values and letters a reading holds, each counted each time it is reached (what is shared counts as often as it is met; a slice's spare places count too). A statement '..UptoSaid' is the law's where the arguments, and the package variables that the reading takes, are together of bulk at most 1048576: NARROWER than '..Said'. Prove '..Said' where nothing that the law and all that it calls make is longer than what came in: it says more and counts as full. Else prove '..UptoSaid'. A law counts once. -/
mutual
def uptoBulk {H : Type} : DataW H → Nat
  | .lit (.string bytes) => bytes.length + 1
  | .lit _ => 1
  | .nil => 1
  | .ptr d => uptoBulk d + 1
  | .slice elems spare => uptoBulkAll elems + uptoBulkAll spare + 1
  | .agg parts => uptoBulkAll parts + 1
  | .iface _ d => uptoBulk d + 1
  | .map entries => uptoBulkEntries entries + 1
  | .held _ => 1
def uptoBulkAll {H : Type} : List (DataW H) → Nat
  | [] => 0
  | d :: r => uptoBulk d + uptoBulkAll r
def uptoBulkEntries {H : Type} : List (Lit × DataW H) → Nat
  | [] => 0
  | x :: r => uptoBulkEntry x + uptoBulkEntries r
def uptoBulkEntry {H : Type} : Lit × DataW H → Nat
  | (.string bytes, d) => bytes.length + uptoBulk d + 1
  | (_, d) => uptoBulk d + 1
 end
def uptoSmall : (H : Type) → List (DataW H) → Bool := fun _ ds => decide (uptoBulkAll ds ≤ 1048576)
def OpenSpec.upto (s : _root_.Go.ChangeSpec) : _root_.Go.OpenSpec := { _root_.Go.OpenSpec.ofChange s with cond := some uptoSmall }

/-- 'flywheellaw04.UnitsDoes', WHERE WHAT IT READS IS OF BULK AT MOST 1048576: true; the input reads as it did. -/
def unitsDoesUptoRow : OpenClaim := { program := "ytkmgoipojikihaa", sum := "86848e8dee53ea0565330dba47eb5989664aa56a842aa63f235e509017f4ee04", func := "flywheel/flywheellaw04.UnitsDoes", spec := "unitsDoes", inPlace := ["math/bits.Add64"], named := ["math/bits.divideError", "math/bits.overflowError"], apart := false, narrowed := true }
def UnitsDoesUptoSaid : Prop := unitsDoesUptoRow.holds Try.pinned (OpenSpec.upto unitsDoesSpec)

/-- 'flywheellaw04.UnitsStamps', WHERE WHAT IT READS IS OF BULK AT MOST 1048576: true; the input reads as it did. -/
def unitsStampsUptoRow : OpenClaim := { program := "ytkmgoipojikihaa", sum := "86848e8dee53ea0565330dba47eb5989664aa56a842aa63f235e509017f4ee04", func := "flywheel/flywheellaw04.UnitsStamps", spec := "unitsStamps", inPlace := ["math/bits.Add64"], unfollowed := true, recurses := true, named := ["math/bits.divideError", "math/bits.overflowError"], apart := false, narrowed := true }
def UnitsStampsUptoSaid : Prop := unitsStampsUptoRow.holds Try.pinned (OpenSpec.upto unitsStampsSpec)

/-- 'flywheellaw04.UnitsBack', WHERE WHAT IT READS IS OF BULK AT MOST 1048576: true; the input reads as it did. -/
def unitsBackUptoRow : OpenClaim := { program := "ytkmgoipojikihaa", sum := "86848e8dee53ea0565330dba47eb5989664aa56a842aa63f235e509017f4ee04", func := "flywheel/flywheellaw04.UnitsBack", spec := "unitsBack", inPlace := ["math/bits.Add64"], named := ["math/bits.divideError", "math/bits.overflowError"], apart := false, narrowed := true }
def UnitsBackUptoSaid : Prop := unitsBackUptoRow.holds Try.pinned (OpenSpec.upto unitsBackSpec)

/-- 'flywheellaw04.UnitsTimes', WHERE WHAT IT READS IS OF BULK AT MOST 1048576: true; the input reads as it did. -/
def unitsTimesUptoRow : OpenClaim := { program := "ytkmgoipojikihaa", sum := "86848e8dee53ea0565330dba47eb5989664aa56a842aa63f235e509017f4ee04", func := "flywheel/flywheellaw04.UnitsTimes", spec := "unitsTimes", inPlace := ["math/bits.Add64"], unfollowed := true, recurses := true, named := ["math/bits.divideError", "math/bits.overflowError"], apart := false, narrowed := true }
def UnitsTimesUptoSaid : Prop := unitsTimesUptoRow.holds Try.pinned (OpenSpec.upto unitsTimesSpec)

/-- 'flywheellaw04.UnitsAdds', WHERE WHAT IT READS IS OF BULK AT MOST 1048576: true; the input reads as it did. -/
def unitsAddsUptoRow : OpenClaim := { program := "ytkmgoipojikihaa", sum := "86848e8dee53ea0565330dba47eb5989664aa56a842aa63f235e509017f4ee04", func := "flywheel/flywheellaw04.UnitsAdds", spec := "unitsAdds", inPlace := ["math/bits.Add64"], named := ["math/bits.divideError", "math/bits.overflowError"], apart := false, narrowed := true }
def UnitsAddsUptoSaid : Prop := unitsAddsUptoRow.holds Try.pinned (OpenSpec.upto unitsAddsSpec)

end Rows
end Go.Proofs.Ytkmgoipojikihaa
