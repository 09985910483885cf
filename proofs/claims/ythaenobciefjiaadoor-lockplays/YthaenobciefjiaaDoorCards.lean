/-
  DERIVED. GIVEN WITH THE SEED: THE CARDS: each row of YthaenobciefjiaaDoorRows.lean that lists a variable, with what it lists TIED to the program's text (the seventh form; the later family's looks); each row that meets fmt, with fmt's text TOLD by the authors' own Lean function (tested against real Go, not proved from fmt's source: count such statements apart). THE CARD IS WHAT COUNTS. Prove the row's statement (the work); the ties are given (YthaenobciefjiaaDoorTie.lean); close each card by the builder's one call (the guide's Derived/Test/ToyasCard.lean, 'card_holds'). Laid BY PROGRAM, IN A SANDBOX (cutbox-door.mjs). By AI agents, Wed Nov 11 2026. No macro, syntax, notation, axiom, sorry.
-/
import Derived.Test.YthaenobciefjiaaDoorRows
import GoSem.ClaimSeven
namespace Go.Proofs.YthaenobciefjiaaDoor
namespace Rows

/-- THE TIED CARD OF 'liverylaw06.LockPlays'. -/
def lockPlaysCard : Claim7 := { stood := { row := lockPlaysRow, standIns := [], harness := (true, "14fd1b9c4786e7fc65f7a55551ab21c54a550945fef578e4a1b972fbe10fba89"), looks := false }, kinds := [], alts := [], laidByText := true, laidKinds := [.data], laidTests := true, laidLooks := .later }
def LockPlaysCardSaid : Prop := Claim7.holds Tryd.pinned (.plain (OpenSpec.ofChange lockPlaysSpec)) lockPlaysCard

/-- THE TIED CARD OF 'liverylaw06.LockApart'. -/
def lockApartCard : Claim7 := { stood := { row := lockApartRow, standIns := [], harness := (true, "14fd1b9c4786e7fc65f7a55551ab21c54a550945fef578e4a1b972fbe10fba89"), looks := false }, kinds := [], alts := [], laidByText := true, laidKinds := [.data], laidTests := true, laidLooks := .later }
def LockApartCardSaid : Prop := Claim7.holds Tryd.pinned (.plain (OpenSpec.ofChange lockApartSpec)) lockApartCard

/-- THE TIED CARD OF 'liverylaw06.LockEnds'. -/
def lockEndsCard : Claim7 := { stood := { row := lockEndsRow, standIns := [], harness := (true, "14fd1b9c4786e7fc65f7a55551ab21c54a550945fef578e4a1b972fbe10fba89"), looks := false }, kinds := [], alts := [], laidByText := true, laidKinds := [.data], laidTests := true, laidLooks := .later }
def LockEndsCardSaid : Prop := Claim7.holds Tryd.pinned (.plain (OpenSpec.ofChange lockEndsSpec)) lockEndsCard

/-- THE TIED CARD OF 'liverylaw06.LockTurns'. -/
def lockTurnsCard : Claim7 := { stood := { row := lockTurnsRow, standIns := [], harness := (true, "14fd1b9c4786e7fc65f7a55551ab21c54a550945fef578e4a1b972fbe10fba89"), looks := false }, kinds := [], alts := [], laidByText := true, laidKinds := [.data], laidTests := true, laidLooks := .later }
def LockTurnsCardSaid : Prop := Claim7.holds Tryd.pinned (.plain (OpenSpec.ofChange lockTurnsSpec)) lockTurnsCard

/-- THE TIED CARD OF 'liverylaw06.LockRaises'. -/
def lockRaisesCard : Claim7 := { stood := { row := lockRaisesRow, standIns := [], harness := (true, "14fd1b9c4786e7fc65f7a55551ab21c54a550945fef578e4a1b972fbe10fba89"), looks := false }, kinds := [], alts := [], laidByText := true, laidKinds := [.data], laidTests := true, laidLooks := .later }
def LockRaisesCardSaid : Prop := Claim7.holds Tryd.pinned (.plain (OpenSpec.ofChange lockRaisesSpec)) lockRaisesCard

/-- THE TIED CARD OF 'liverylaw06.LockNone'. -/
def lockNoneCard : Claim7 := { stood := { row := lockNoneRow, standIns := [], harness := (true, "14fd1b9c4786e7fc65f7a55551ab21c54a550945fef578e4a1b972fbe10fba89"), looks := false }, kinds := [], alts := [], laidByText := true, laidKinds := [.data], laidTests := true, laidLooks := .later }
def LockNoneCardSaid : Prop := Claim7.holds Tryd.pinned (.plain (OpenSpec.ofChange lockNoneSpec)) lockNoneCard

/-- THE SECOND FORM's CARD OF 'liverylaw06.LockPlays'. -/
def lockPlaysUptoCard : Claim7 := { stood := { row := lockPlaysUptoRow, standIns := [], harness := (true, "14fd1b9c4786e7fc65f7a55551ab21c54a550945fef578e4a1b972fbe10fba89"), looks := false }, kinds := [], alts := [], laidByText := true, laidKinds := [.data], laidTests := true, laidLooks := .later }
def LockPlaysUptoCardSaid : Prop := Claim7.holds Tryd.pinned (.plain (OpenSpec.upto lockPlaysSpec)) lockPlaysUptoCard

/-- THE SECOND FORM's CARD OF 'liverylaw06.LockApart'. -/
def lockApartUptoCard : Claim7 := { stood := { row := lockApartUptoRow, standIns := [], harness := (true, "14fd1b9c4786e7fc65f7a55551ab21c54a550945fef578e4a1b972fbe10fba89"), looks := false }, kinds := [], alts := [], laidByText := true, laidKinds := [.data], laidTests := true, laidLooks := .later }
def LockApartUptoCardSaid : Prop := Claim7.holds Tryd.pinned (.plain (OpenSpec.upto lockApartSpec)) lockApartUptoCard

/-- THE SECOND FORM's CARD OF 'liverylaw06.LockEnds'. -/
def lockEndsUptoCard : Claim7 := { stood := { row := lockEndsUptoRow, standIns := [], harness := (true, "14fd1b9c4786e7fc65f7a55551ab21c54a550945fef578e4a1b972fbe10fba89"), looks := false }, kinds := [], alts := [], laidByText := true, laidKinds := [.data], laidTests := true, laidLooks := .later }
def LockEndsUptoCardSaid : Prop := Claim7.holds Tryd.pinned (.plain (OpenSpec.upto lockEndsSpec)) lockEndsUptoCard

/-- THE SECOND FORM's CARD OF 'liverylaw06.LockTurns'. -/
def lockTurnsUptoCard : Claim7 := { stood := { row := lockTurnsUptoRow, standIns := [], harness := (true, "14fd1b9c4786e7fc65f7a55551ab21c54a550945fef578e4a1b972fbe10fba89"), looks := false }, kinds := [], alts := [], laidByText := true, laidKinds := [.data], laidTests := true, laidLooks := .later }
def LockTurnsUptoCardSaid : Prop := Claim7.holds Tryd.pinned (.plain (OpenSpec.upto lockTurnsSpec)) lockTurnsUptoCard

/-- THE SECOND FORM's CARD OF 'liverylaw06.LockRaises'. -/
def lockRaisesUptoCard : Claim7 := { stood := { row := lockRaisesUptoRow, standIns := [], harness := (true, "14fd1b9c4786e7fc65f7a55551ab21c54a550945fef578e4a1b972fbe10fba89"), looks := false }, kinds := [], alts := [], laidByText := true, laidKinds := [.data], laidTests := true, laidLooks := .later }
def LockRaisesUptoCardSaid : Prop := Claim7.holds Tryd.pinned (.plain (OpenSpec.upto lockRaisesSpec)) lockRaisesUptoCard

/-- THE SECOND FORM's CARD OF 'liverylaw06.LockNone'. -/
def lockNoneUptoCard : Claim7 := { stood := { row := lockNoneUptoRow, standIns := [], harness := (true, "14fd1b9c4786e7fc65f7a55551ab21c54a550945fef578e4a1b972fbe10fba89"), looks := false }, kinds := [], alts := [], laidByText := true, laidKinds := [.data], laidTests := true, laidLooks := .later }
def LockNoneUptoCardSaid : Prop := Claim7.holds Tryd.pinned (.plain (OpenSpec.upto lockNoneSpec)) lockNoneUptoCard
end Rows
end Go.Proofs.YthaenobciefjiaaDoor
