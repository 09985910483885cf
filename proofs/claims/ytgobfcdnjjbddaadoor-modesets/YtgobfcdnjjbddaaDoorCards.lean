/-
  DERIVED. GIVEN WITH THE SEED: THE CARDS: each row of YtgobfcdnjjbddaaDoorRows.lean that lists a variable, with what it lists TIED to the program's text (the seventh form; the later family's looks); each row that meets fmt, with fmt's text TOLD by the authors' own Lean function (tested against real Go, not proved from fmt's source: count such statements apart). THE CARD IS WHAT COUNTS. Prove the row's statement (the work); the ties are given (YtgobfcdnjjbddaaDoorTie.lean); close each card by the builder's one call (the guide's Derived/Test/ToyasCard.lean, 'card_holds'). Laid BY PROGRAM, IN A SANDBOX (cutbox-door.mjs). By AI agents, Wed Nov 11 2026. No macro, syntax, notation, axiom, sorry.
-/
import Derived.Test.YtgobfcdnjjbddaaDoorRows
import GoSem.ClaimSeven
namespace Go.Proofs.YtgobfcdnjjbddaaDoor
namespace Rows

/-- THE TIED CARD OF 'liverylaw05.ModeTells'. -/
def modeTellsCard : Claim7 := { stood := { row := modeTellsRow, standIns := [], harness := (true, "d73aab9d2427ba3fd8021b4bd747b6bf68f19a42628d31f9ffe46de0189cec71"), looks := false }, kinds := [], alts := [], laidByText := true, laidKinds := [.data], laidTests := true, laidLooks := .later }
def ModeTellsCardSaid : Prop := Claim7.holds Tryd.pinned (.plain (OpenSpec.ofChange modeTellsSpec)) modeTellsCard

/-- THE TIED CARD OF 'liverylaw05.ModeBoth'. -/
def modeBothCard : Claim7 := { stood := { row := modeBothRow, standIns := [], harness := (true, "d73aab9d2427ba3fd8021b4bd747b6bf68f19a42628d31f9ffe46de0189cec71"), looks := false }, kinds := [], alts := [], laidByText := true, laidKinds := [.data], laidTests := true, laidLooks := .later }
def ModeBothCardSaid : Prop := Claim7.holds Tryd.pinned (.plain (OpenSpec.ofChange modeBothSpec)) modeBothCard

/-- THE TIED CARD OF 'liverylaw05.ModeSets'. -/
def modeSetsCard : Claim7 := { stood := { row := modeSetsRow, standIns := [], harness := (true, "d73aab9d2427ba3fd8021b4bd747b6bf68f19a42628d31f9ffe46de0189cec71"), looks := false }, kinds := [], alts := [], laidByText := true, laidKinds := [.data], laidTests := true, laidLooks := .later }
def ModeSetsCardSaid : Prop := Claim7.holds Tryd.pinned (.plain (OpenSpec.ofChange modeSetsSpec)) modeSetsCard

/-- THE SECOND FORM's CARD OF 'liverylaw05.ModeTells'. -/
def modeTellsUptoCard : Claim7 := { stood := { row := modeTellsUptoRow, standIns := [], harness := (true, "d73aab9d2427ba3fd8021b4bd747b6bf68f19a42628d31f9ffe46de0189cec71"), looks := false }, kinds := [], alts := [], laidByText := true, laidKinds := [.data], laidTests := true, laidLooks := .later }
def ModeTellsUptoCardSaid : Prop := Claim7.holds Tryd.pinned (.plain (OpenSpec.upto modeTellsSpec)) modeTellsUptoCard

/-- THE SECOND FORM's CARD OF 'liverylaw05.ModeBoth'. -/
def modeBothUptoCard : Claim7 := { stood := { row := modeBothUptoRow, standIns := [], harness := (true, "d73aab9d2427ba3fd8021b4bd747b6bf68f19a42628d31f9ffe46de0189cec71"), looks := false }, kinds := [], alts := [], laidByText := true, laidKinds := [.data], laidTests := true, laidLooks := .later }
def ModeBothUptoCardSaid : Prop := Claim7.holds Tryd.pinned (.plain (OpenSpec.upto modeBothSpec)) modeBothUptoCard

/-- THE SECOND FORM's CARD OF 'liverylaw05.ModeSets'. -/
def modeSetsUptoCard : Claim7 := { stood := { row := modeSetsUptoRow, standIns := [], harness := (true, "d73aab9d2427ba3fd8021b4bd747b6bf68f19a42628d31f9ffe46de0189cec71"), looks := false }, kinds := [], alts := [], laidByText := true, laidKinds := [.data], laidTests := true, laidLooks := .later }
def ModeSetsUptoCardSaid : Prop := Claim7.holds Tryd.pinned (.plain (OpenSpec.upto modeSetsSpec)) modeSetsUptoCard
end Rows
end Go.Proofs.YtgobfcdnjjbddaaDoor
