/-
  DERIVED. GIVEN WITH THE SEED: THE CARDS: each row of YtamefmblpncmeaaDoorRows.lean that lists a variable, with what it lists TIED to the program's text (the seventh form; the later family's looks); each row that meets fmt, with fmt's text TOLD by the authors' own Lean function (tested against real Go, not proved from fmt's source: count such statements apart). THE CARD IS WHAT COUNTS. Prove the row's statement (the work); the ties are given (YtamefmblpncmeaaDoorTie.lean); close each card by the builder's one call (the guide's Derived/Test/ToyasCard.lean, 'card_holds'). Laid BY PROGRAM, IN A SANDBOX (cutbox-door.mjs). By AI agents, Wed Nov 11 2026. No macro, syntax, notation, axiom, sorry.
-/
import Derived.Test.YtamefmblpncmeaaDoorRows
import GoSem.ClaimSeven
namespace Go.Proofs.YtamefmblpncmeaaDoor
namespace Rows

/-- THE TIED CARD OF 'liverylaw01.FloatCanon'. -/
def floatCanonCard : Claim7 := { stood := { row := floatCanonRow, standIns := [], harness := (true, "f34defcef949c866116436c021886eaa39675cfd54e2253813c5b25e5c5e2680"), looks := false }, kinds := [], alts := [], laidByText := true, laidKinds := [.data, .data, .data], laidTests := true, laidLooks := .later }
def FloatCanonCardSaid : Prop := Claim7.holds Tryd.pinned (.plain (OpenSpec.ofChange floatCanonSpec)) floatCanonCard

/-- THE TIED CARD OF 'liverylaw01.FloatOrder'. -/
def floatOrderCard : Claim7 := { stood := { row := floatOrderRow, standIns := [], harness := (true, "f34defcef949c866116436c021886eaa39675cfd54e2253813c5b25e5c5e2680"), looks := false }, kinds := [], alts := [], laidByText := true, laidKinds := [.data, .data, .data], laidTests := true, laidLooks := .later }
def FloatOrderCardSaid : Prop := Claim7.holds Tryd.pinned (.plain (OpenSpec.ofChange floatOrderSpec)) floatOrderCard

/-- THE TIED CARD OF 'liverylaw01.FloatFrom'. -/
def floatFromCard : Claim7 := { stood := { row := floatFromRow, standIns := [], harness := (true, "f34defcef949c866116436c021886eaa39675cfd54e2253813c5b25e5c5e2680"), looks := false }, kinds := [], alts := [], laidByText := true, laidKinds := [.data, .data, .data], laidTests := true, laidLooks := .later }
def FloatFromCardSaid : Prop := Claim7.holds Tryd.pinned (.plain (OpenSpec.ofChange floatFromSpec)) floatFromCard

/-- THE TIED CARD OF 'liverylaw01.FloatNext'. -/
def floatNextCard : Claim7 := { stood := { row := floatNextRow, standIns := [], harness := (true, "f34defcef949c866116436c021886eaa39675cfd54e2253813c5b25e5c5e2680"), looks := false }, kinds := [], alts := [], laidByText := true, laidKinds := [.data, .data, .data], laidTests := true, laidLooks := .later }
def FloatNextCardSaid : Prop := Claim7.holds Tryd.pinned (.plain (OpenSpec.ofChange floatNextSpec)) floatNextCard

/-- THE TIED CARD OF 'liverylaw01.FloatEnds'. -/
def floatEndsCard : Claim7 := { stood := { row := floatEndsRow, standIns := [], harness := (true, "f34defcef949c866116436c021886eaa39675cfd54e2253813c5b25e5c5e2680"), looks := false }, kinds := [], alts := [], laidByText := true, laidKinds := [.data, .data, .data], laidTests := true, laidLooks := .later }
def FloatEndsCardSaid : Prop := Claim7.holds Tryd.pinned (.plain (OpenSpec.ofChange floatEndsSpec)) floatEndsCard

/-- THE TIED CARD OF 'liverylaw01.FloatTexts'. -/
def floatTextsCard : Claim7 := { stood := { row := floatTextsRow, standIns := [], harness := (true, "f34defcef949c866116436c021886eaa39675cfd54e2253813c5b25e5c5e2680"), looks := false }, kinds := [], alts := [], laidByText := true, laidKinds := [.data, .data, .data], laidTests := true, laidLooks := .later }
def FloatTextsCardSaid : Prop := Claim7.holds Tryd.pinned (.plain (OpenSpec.ofChange floatTextsSpec)) floatTextsCard

/-- THE SECOND FORM's CARD OF 'liverylaw01.FloatCanon'. -/
def floatCanonUptoCard : Claim7 := { stood := { row := floatCanonUptoRow, standIns := [], harness := (true, "f34defcef949c866116436c021886eaa39675cfd54e2253813c5b25e5c5e2680"), looks := false }, kinds := [], alts := [], laidByText := true, laidKinds := [.data, .data, .data], laidTests := true, laidLooks := .later }
def FloatCanonUptoCardSaid : Prop := Claim7.holds Tryd.pinned (.plain (OpenSpec.upto floatCanonSpec)) floatCanonUptoCard

/-- THE SECOND FORM's CARD OF 'liverylaw01.FloatOrder'. -/
def floatOrderUptoCard : Claim7 := { stood := { row := floatOrderUptoRow, standIns := [], harness := (true, "f34defcef949c866116436c021886eaa39675cfd54e2253813c5b25e5c5e2680"), looks := false }, kinds := [], alts := [], laidByText := true, laidKinds := [.data, .data, .data], laidTests := true, laidLooks := .later }
def FloatOrderUptoCardSaid : Prop := Claim7.holds Tryd.pinned (.plain (OpenSpec.upto floatOrderSpec)) floatOrderUptoCard

/-- THE SECOND FORM's CARD OF 'liverylaw01.FloatFrom'. -/
def floatFromUptoCard : Claim7 := { stood := { row := floatFromUptoRow, standIns := [], harness := (true, "f34defcef949c866116436c021886eaa39675cfd54e2253813c5b25e5c5e2680"), looks := false }, kinds := [], alts := [], laidByText := true, laidKinds := [.data, .data, .data], laidTests := true, laidLooks := .later }
def FloatFromUptoCardSaid : Prop := Claim7.holds Tryd.pinned (.plain (OpenSpec.upto floatFromSpec)) floatFromUptoCard

/-- THE SECOND FORM's CARD OF 'liverylaw01.FloatNext'. -/
def floatNextUptoCard : Claim7 := { stood := { row := floatNextUptoRow, standIns := [], harness := (true, "f34defcef949c866116436c021886eaa39675cfd54e2253813c5b25e5c5e2680"), looks := false }, kinds := [], alts := [], laidByText := true, laidKinds := [.data, .data, .data], laidTests := true, laidLooks := .later }
def FloatNextUptoCardSaid : Prop := Claim7.holds Tryd.pinned (.plain (OpenSpec.upto floatNextSpec)) floatNextUptoCard

/-- THE SECOND FORM's CARD OF 'liverylaw01.FloatEnds'. -/
def floatEndsUptoCard : Claim7 := { stood := { row := floatEndsUptoRow, standIns := [], harness := (true, "f34defcef949c866116436c021886eaa39675cfd54e2253813c5b25e5c5e2680"), looks := false }, kinds := [], alts := [], laidByText := true, laidKinds := [.data, .data, .data], laidTests := true, laidLooks := .later }
def FloatEndsUptoCardSaid : Prop := Claim7.holds Tryd.pinned (.plain (OpenSpec.upto floatEndsSpec)) floatEndsUptoCard

/-- THE SECOND FORM's CARD OF 'liverylaw01.FloatTexts'. -/
def floatTextsUptoCard : Claim7 := { stood := { row := floatTextsUptoRow, standIns := [], harness := (true, "f34defcef949c866116436c021886eaa39675cfd54e2253813c5b25e5c5e2680"), looks := false }, kinds := [], alts := [], laidByText := true, laidKinds := [.data, .data, .data], laidTests := true, laidLooks := .later }
def FloatTextsUptoCardSaid : Prop := Claim7.holds Tryd.pinned (.plain (OpenSpec.upto floatTextsSpec)) floatTextsUptoCard
end Rows
end Go.Proofs.YtamefmblpncmeaaDoor
