/-
  DERIVED. GIVEN WITH THE SEED: THE CARDS: each row of YtamefmblpncmeabDoorRows.lean that lists a variable, with what it lists TIED to the program's text (the seventh form; the later family's looks); each row that meets fmt, with fmt's text TOLD by the authors' own Lean function (tested against real Go, not proved from fmt's source: count such statements apart). THE CARD IS WHAT COUNTS. Prove the row's statement (the work); the ties are given (YtamefmblpncmeabDoorTie.lean); close each card by the builder's one call (the guide's Derived/Test/ToyasCard.lean, 'card_holds'). Laid BY PROGRAM, IN A SANDBOX (cutbox-door.mjs). By AI agents, Wed Nov 11 2026. No macro, syntax, notation, axiom, sorry.
-/
import Derived.Test.YtamefmblpncmeabDoorRows
import GoSem.ClaimSeven
namespace Go.Proofs.YtamefmblpncmeabDoor
namespace Rows

/-- THE TIED CARD OF 'liverylaw01.FloatTotal'. -/
def floatTotalCard : Claim7 := { stood := { row := floatTotalRow, standIns := [], harness := (true, "9615f4b9540395ec724912d99b75a444b5625f211b9612e17538dc9f54449978"), looks := false }, kinds := [], alts := [], laidByText := true, laidKinds := [.data, .data, .data], laidTests := true, laidLooks := .later }
def FloatTotalCardSaid : Prop := Claim7.holds Tryd.pinned (.plain (OpenSpec.ofChange floatTotalSpec)) floatTotalCard

/-- THE TIED CARD OF 'liverylaw01.FloatTurned'. -/
def floatTurnedCard : Claim7 := { stood := { row := floatTurnedRow, standIns := [], harness := (true, "9615f4b9540395ec724912d99b75a444b5625f211b9612e17538dc9f54449978"), looks := false }, kinds := [], alts := [], laidByText := true, laidKinds := [.data, .data, .data], laidTests := true, laidLooks := .later }
def FloatTurnedCardSaid : Prop := Claim7.holds Tryd.pinned (.plain (OpenSpec.ofChange floatTurnedSpec)) floatTurnedCard

/-- THE SECOND FORM's CARD OF 'liverylaw01.FloatTotal'. -/
def floatTotalUptoCard : Claim7 := { stood := { row := floatTotalUptoRow, standIns := [], harness := (true, "9615f4b9540395ec724912d99b75a444b5625f211b9612e17538dc9f54449978"), looks := false }, kinds := [], alts := [], laidByText := true, laidKinds := [.data, .data, .data], laidTests := true, laidLooks := .later }
def FloatTotalUptoCardSaid : Prop := Claim7.holds Tryd.pinned (.plain (OpenSpec.upto floatTotalSpec)) floatTotalUptoCard

/-- THE SECOND FORM's CARD OF 'liverylaw01.FloatTurned'. -/
def floatTurnedUptoCard : Claim7 := { stood := { row := floatTurnedUptoRow, standIns := [], harness := (true, "9615f4b9540395ec724912d99b75a444b5625f211b9612e17538dc9f54449978"), looks := false }, kinds := [], alts := [], laidByText := true, laidKinds := [.data, .data, .data], laidTests := true, laidLooks := .later }
def FloatTurnedUptoCardSaid : Prop := Claim7.holds Tryd.pinned (.plain (OpenSpec.upto floatTurnedSpec)) floatTurnedUptoCard
end Rows
end Go.Proofs.YtamefmblpncmeabDoor
