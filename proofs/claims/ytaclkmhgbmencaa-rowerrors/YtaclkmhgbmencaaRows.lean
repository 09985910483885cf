/-
  No cell of these rows narrows 'for every input' (looked for: loops, veiled, ifaces, maps, wideKeys, modest, calm, conditions, laid).
  DERIVED. THE GIVEN ROWS OF THIS SEAT. 5 by the template 'for every input the law returns true; each argument reads behind the call as it read before'; 0 by the template 'total and deterministic' (their statements: YtaclkmhgbmencaaTotals.lean).
  GIVEN WITH THE SEED: the statements are not yours to turn. If you find one false, say at which input.
  Laid BY PROGRAM, IN A SANDBOX (cutbox-rows.mjs): the forced cells as the released guide's own fill.sh prints them over the translation c437143a7296bd92… (all of the seat's roots in one cut). By AI agents, Wed Nov 11 2026. No macro, syntax, notation, axiom, sorry.
-/
import Derived.Test.YtaclkmhgbmencaaChecked
import GoSem.Claim
import GoSem.ClaimJoined
import GoSem.ClaimMapViews
import Derived.JoinedTies
import Derived.KernelRfl
namespace Go.Proofs.Ytaclkmhgbmencaa
/- THE CELL 'sum', in the pinned program and in every row, IS THE sha256 OF THE DUMP (.gsa) THAT YtaclkmhgbmencaaProg.lean LOADS. Nothing in Lean hashes anything: it is a label: what it is worth is what the hold of that sum in a sandbox is worth. -/
noncomputable def Try.pinned : Pinned := { name := "ytaclkmhgbmencaa", sum := "c437143a7296bd92c22b3a212080513bcbc1514416cb6132a691086dcbbbd184", checked := Try.checked }
namespace Rows
def none {H : Type} : Left H := { results := [], args := [] }

/-- 'liverylaw04.RowColumns': WHATEVER THE INPUT: true; the input reads as it did. -/
def rowColumnsSpec : ChangeSpec := { name := "rowColumns", fn := fun _ => fun
  | [d1, d2, d3] => { results := [.lit (.bool true)], args := [d1, d2, d3] }
  | _ => none }
def rowColumnsRow : OpenClaim := { program := "ytaclkmhgbmencaa", sum := "c437143a7296bd92c22b3a212080513bcbc1514416cb6132a691086dcbbbd184", func := "livery/liverylaw04.RowColumns", spec := "rowColumns", inPlace := ["math.Float64bits", "math.Float64frombits"], unfollowed := true, recurses := true, apart := false }
def RowColumnsSaid : Prop := rowColumnsRow.holds Try.pinned (OpenSpec.ofChange rowColumnsSpec)

/-- ITS FALSE NEIGHBOUR: 'it returns false'. Refute it at one input. -/
def rowColumnsWrong : ChangeSpec := { name := "rowColumns", fn := fun _ => fun
  | [d1, d2, d3] => { results := [.lit (.bool false)], args := [d1, d2, d3] }
  | _ => none }
def RowColumnsWrongFalsely : Prop := rowColumnsRow.holds Try.pinned (OpenSpec.ofChange rowColumnsWrong)

/-- 'liverylaw04.RowFills': WHATEVER THE INPUT: true; the input reads as it did. -/
def rowFillsSpec : ChangeSpec := { name := "rowFills", fn := fun _ => fun
  | [d1, d2, d3] => { results := [.lit (.bool true)], args := [d1, d2, d3] }
  | _ => none }
def rowFillsRow : OpenClaim := { program := "ytaclkmhgbmencaa", sum := "c437143a7296bd92c22b3a212080513bcbc1514416cb6132a691086dcbbbd184", func := "livery/liverylaw04.RowFills", spec := "rowFills", inPlace := ["math.Float64bits", "math.Float64frombits"], unfollowed := true, recurses := true, apart := false }
def RowFillsSaid : Prop := rowFillsRow.holds Try.pinned (OpenSpec.ofChange rowFillsSpec)

/-- ITS FALSE NEIGHBOUR: 'it returns false'. Refute it at one input. -/
def rowFillsWrong : ChangeSpec := { name := "rowFills", fn := fun _ => fun
  | [d1, d2, d3] => { results := [.lit (.bool false)], args := [d1, d2, d3] }
  | _ => none }
def RowFillsWrongFalsely : Prop := rowFillsRow.holds Try.pinned (OpenSpec.ofChange rowFillsWrong)

/-- 'liverylaw04.RowTaken': WHATEVER THE INPUT: true; the input reads as it did. -/
def rowTakenSpec : ChangeSpec := { name := "rowTaken", fn := fun _ => fun
  | [d1, d2, d3] => { results := [.lit (.bool true)], args := [d1, d2, d3] }
  | _ => none }
def rowTakenRow : OpenClaim := { program := "ytaclkmhgbmencaa", sum := "c437143a7296bd92c22b3a212080513bcbc1514416cb6132a691086dcbbbd184", func := "livery/liverylaw04.RowTaken", spec := "rowTaken", inPlace := ["math.Float64bits", "math.Float64frombits"], unfollowed := true, recurses := true, apart := false }
def RowTakenSaid : Prop := rowTakenRow.holds Try.pinned (OpenSpec.ofChange rowTakenSpec)

/-- ITS FALSE NEIGHBOUR: 'it returns false'. Refute it at one input. -/
def rowTakenWrong : ChangeSpec := { name := "rowTaken", fn := fun _ => fun
  | [d1, d2, d3] => { results := [.lit (.bool false)], args := [d1, d2, d3] }
  | _ => none }
def RowTakenWrongFalsely : Prop := rowTakenRow.holds Try.pinned (OpenSpec.ofChange rowTakenWrong)

/-- 'liverylaw04.RowErrors': WHATEVER THE INPUT: true; the input reads as it did. -/
def rowErrorsSpec : ChangeSpec := { name := "rowErrors", fn := fun _ => fun
  | [d1, d2, d3] => { results := [.lit (.bool true)], args := [d1, d2, d3] }
  | _ => none }
def rowErrorsRow : OpenClaim := { program := "ytaclkmhgbmencaa", sum := "c437143a7296bd92c22b3a212080513bcbc1514416cb6132a691086dcbbbd184", func := "livery/liverylaw04.RowErrors", spec := "rowErrors", inPlace := ["math.Float64bits", "math.Float64frombits"], unfollowed := true, recurses := true, apart := false }
def RowErrorsSaid : Prop := rowErrorsRow.holds Try.pinned (OpenSpec.ofChange rowErrorsSpec)

/-- ITS FALSE NEIGHBOUR: 'it returns false'. Refute it at one input. -/
def rowErrorsWrong : ChangeSpec := { name := "rowErrors", fn := fun _ => fun
  | [d1, d2, d3] => { results := [.lit (.bool false)], args := [d1, d2, d3] }
  | _ => none }
def RowErrorsWrongFalsely : Prop := rowErrorsRow.holds Try.pinned (OpenSpec.ofChange rowErrorsWrong)

/-- 'liverylaw04.RowPads': WHATEVER THE INPUT: true; the input reads as it did. -/
def rowPadsSpec : ChangeSpec := { name := "rowPads", fn := fun _ => fun
  | [d1, d2] => { results := [.lit (.bool true)], args := [d1, d2] }
  | _ => none }
def rowPadsRow : OpenClaim := { program := "ytaclkmhgbmencaa", sum := "c437143a7296bd92c22b3a212080513bcbc1514416cb6132a691086dcbbbd184", func := "livery/liverylaw04.RowPads", spec := "rowPads", inPlace := ["math.Float64bits", "math.Float64frombits"], unfollowed := true, recurses := true, apart := false }
def RowPadsSaid : Prop := rowPadsRow.holds Try.pinned (OpenSpec.ofChange rowPadsSpec)

/-- ITS FALSE NEIGHBOUR: 'it returns false'. Refute it at one input. -/
def rowPadsWrong : ChangeSpec := { name := "rowPads", fn := fun _ => fun
  | [d1, d2] => { results := [.lit (.bool false)], args := [d1, d2] }
  | _ => none }
def RowPadsWrongFalsely : Prop := rowPadsRow.holds Try.pinned (OpenSpec.ofChange rowPadsWrong)

/- THE SECOND FORM. 'bulk': how many values and letters a reading holds, each counted each time it is reached (what is shared counts as often as it is met; a slice's spare places count too). A statement '..UptoSaid' is the law's where the arguments, and the package variables that the reading takes, are together of bulk at most 1048576: NARROWER than '..Said'. Prove '..Said' where nothing that the law and all that it calls make is longer than what came in: it says more and counts as full. Else prove '..UptoSaid'. A law counts once. -/
mutual
def uptoBulk {H : Type} : DataW H → Nat
  | .lit (.string bytes) => bytes.length + 1
  | .lit _ => 1
  | .nil => 1
  | .ptr d => uptoBulk d + 1
  | .slice elems spare => uptoBulkAll elems + uptoBulkAll spare + 1
  | .agg parts => uptoBulkAll parts + 1
  | .iface _ d => uptoBulk d + 1
  | .map entries => uptoBulkEntries entries + 1
  | .held _ => 1
def uptoBulkAll {H : Type} : List (DataW H) → Nat
  | [] => 0
  | d :: r => uptoBulk d + uptoBulkAll r
def uptoBulkEntries {H : Type} : List (Lit × DataW H) → Nat
  | [] => 0
  | x :: r => uptoBulkEntry x + uptoBulkEntries r
def uptoBulkEntry {H : Type} : Lit × DataW H → Nat
  | (.string bytes, d) => bytes.length + uptoBulk d + 1
  | (_, d) => uptoBulk d + 1
 end
def uptoSmall : (H : Type) → List (DataW H) → Bool := fun _ ds => decide (uptoBulkAll ds ≤ 1048576)
def OpenSpec.upto (s : _root_.Go.ChangeSpec) : _root_.Go.OpenSpec := { _root_.Go.OpenSpec.ofChange s with cond := some uptoSmall }

/-- 'liverylaw04.RowColumns', WHERE WHAT IT READS IS OF BULK AT MOST 1048576: true; the input reads as it did. -/
def rowColumnsUptoRow : OpenClaim := { program := "ytaclkmhgbmencaa", sum := "c437143a7296bd92c22b3a212080513bcbc1514416cb6132a691086dcbbbd184", func := "livery/liverylaw04.RowColumns", spec := "rowColumns", inPlace := ["math.Float64bits", "math.Float64frombits"], unfollowed := true, recurses := true, apart := false, narrowed := true }
def RowColumnsUptoSaid : Prop := rowColumnsUptoRow.holds Try.pinned (OpenSpec.upto rowColumnsSpec)

/-- 'liverylaw04.RowFills', WHERE WHAT IT READS IS OF BULK AT MOST 1048576: true; the input reads as it did. -/
def rowFillsUptoRow : OpenClaim := { program := "ytaclkmhgbmencaa", sum := "c437143a7296bd92c22b3a212080513bcbc1514416cb6132a691086dcbbbd184", func := "livery/liverylaw04.RowFills", spec := "rowFills", inPlace := ["math.Float64bits", "math.Float64frombits"], unfollowed := true, recurses := true, apart := false, narrowed := true }
def RowFillsUptoSaid : Prop := rowFillsUptoRow.holds Try.pinned (OpenSpec.upto rowFillsSpec)

/-- 'liverylaw04.RowTaken', WHERE WHAT IT READS IS OF BULK AT MOST 1048576: true; the input reads as it did. -/
def rowTakenUptoRow : OpenClaim := { program := "ytaclkmhgbmencaa", sum := "c437143a7296bd92c22b3a212080513bcbc1514416cb6132a691086dcbbbd184", func := "livery/liverylaw04.RowTaken", spec := "rowTaken", inPlace := ["math.Float64bits", "math.Float64frombits"], unfollowed := true, recurses := true, apart := false, narrowed := true }
def RowTakenUptoSaid : Prop := rowTakenUptoRow.holds Try.pinned (OpenSpec.upto rowTakenSpec)

/-- 'liverylaw04.RowErrors', WHERE WHAT IT READS IS OF BULK AT MOST 1048576: true; the input reads as it did. -/
def rowErrorsUptoRow : OpenClaim := { program := "ytaclkmhgbmencaa", sum := "c437143a7296bd92c22b3a212080513bcbc1514416cb6132a691086dcbbbd184", func := "livery/liverylaw04.RowErrors", spec := "rowErrors", inPlace := ["math.Float64bits", "math.Float64frombits"], unfollowed := true, recurses := true, apart := false, narrowed := true }
def RowErrorsUptoSaid : Prop := rowErrorsUptoRow.holds Try.pinned (OpenSpec.upto rowErrorsSpec)

/-- 'liverylaw04.RowPads', WHERE WHAT IT READS IS OF BULK AT MOST 1048576: true; the input reads as it did. -/
def rowPadsUptoRow : OpenClaim := { program := "ytaclkmhgbmencaa", sum := "c437143a7296bd92c22b3a212080513bcbc1514416cb6132a691086dcbbbd184", func := "livery/liverylaw04.RowPads", spec := "rowPads", inPlace := ["math.Float64bits", "math.Float64frombits"], unfollowed := true, recurses := true, apart := false, narrowed := true }
def RowPadsUptoSaid : Prop := rowPadsUptoRow.holds Try.pinned (OpenSpec.upto rowPadsSpec)

end Rows
end Go.Proofs.Ytaclkmhgbmencaa
