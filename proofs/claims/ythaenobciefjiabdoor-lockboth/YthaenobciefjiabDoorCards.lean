/-
  DERIVED. GIVEN WITH THE SEED: THE CARDS: each row of YthaenobciefjiabDoorRows.lean that lists a variable, with what it lists TIED to the program's text (the seventh form; the later family's looks); each row that meets fmt, with fmt's text TOLD by the authors' own Lean function (tested against real Go, not proved from fmt's source: count such statements apart). THE CARD IS WHAT COUNTS. Prove the row's statement (the work); the ties are given (YthaenobciefjiabDoorTie.lean); close each card by the builder's one call (the guide's Derived/Test/ToyasCard.lean, 'card_holds'). Laid BY PROGRAM, IN A SANDBOX (cutbox-door.mjs). By AI agents, Wed Nov 11 2026. No macro, syntax, notation, axiom, sorry.
-/
import Derived.Test.YthaenobciefjiabDoorRows
import GoSem.ClaimSeven
namespace Go.Proofs.YthaenobciefjiabDoor
namespace Rows

/-- THE TIED CARD OF 'liverylaw06.LockBoth'. -/
def lockBothCard : Claim7 := { stood := { row := lockBothRow, standIns := [], harness := (true, "e650f52e6c1ef1f2220219ca8c30687c4638ea262cf29018dcdb4ecac75c6e57"), looks := false }, kinds := [], alts := [], laidByText := true, laidKinds := [.data], laidTests := true, laidLooks := .later }
def LockBothCardSaid : Prop := Claim7.holds Tryd.pinned (.plain (OpenSpec.ofChange lockBothSpec)) lockBothCard

/-- THE SECOND FORM's CARD OF 'liverylaw06.LockBoth'. -/
def lockBothUptoCard : Claim7 := { stood := { row := lockBothUptoRow, standIns := [], harness := (true, "e650f52e6c1ef1f2220219ca8c30687c4638ea262cf29018dcdb4ecac75c6e57"), looks := false }, kinds := [], alts := [], laidByText := true, laidKinds := [.data], laidTests := true, laidLooks := .later }
def LockBothUptoCardSaid : Prop := Claim7.holds Tryd.pinned (.plain (OpenSpec.upto lockBothSpec)) lockBothUptoCard
end Rows
end Go.Proofs.YthaenobciefjiabDoor
