/-
  No cell of these rows narrows 'for every input' (looked for: loops, veiled, ifaces, maps, wideKeys, modest, calm, conditions, laid).
  DERIVED. THE GIVEN ROWS OF THIS SEAT. 5 by the template 'for every input the law returns true; each argument reads behind the call as it read before'; 0 by the template 'total and deterministic' (their statements: YtdbbamjijhaeoaaTotals.lean).
  GIVEN WITH THE SEED: the statements are not yours to turn. If you find one false, say at which input.
  Laid BY PROGRAM, IN A SANDBOX (cutbox-rows.mjs): the forced cells as the released guide's own fill.sh prints them over the translation 14f8a5d36967c06c… (all of the seat's roots in one cut). By AI agents, Wed Nov 11 2026. No macro, syntax, notation, axiom, sorry.
-/
import Derived.Test.YtdbbamjijhaeoaaChecked
import GoSem.Claim
import GoSem.ClaimJoined
import GoSem.ClaimMapViews
import Derived.JoinedTies
import Derived.KernelRfl
namespace Go.Proofs.Ytdbbamjijhaeoaa
/- THE CELL 'sum', in the pinned program and in every row, IS THE sha256 OF THE DUMP (.gsa) THAT YtdbbamjijhaeoaaProg.lean LOADS. Nothing in Lean hashes anything: it is a label: what it is worth is what the hold of that sum in a sandbox is worth. -/
noncomputable def Try.pinned : Pinned := { name := "ytdbbamjijhaeoaa", sum := "14f8a5d36967c06ca59206ce9fa5d00c42bda428278cfa66da7717fca8b04263", checked := Try.checked }
namespace Rows
def none {H : Type} : Left H := { results := [], args := [] }

/-- 'liverylaw08.ClogPlays': WHATEVER THE INPUT: true; the input reads as it did. -/
def clogPlaysSpec : ChangeSpec := { name := "clogPlays", fn := fun _ => fun
  | [d1, d2] => { results := [.lit (.bool true)], args := [d1, d2] }
  | _ => none }
def clogPlaysRow : OpenClaim := { program := "ytdbbamjijhaeoaa", sum := "14f8a5d36967c06ca59206ce9fa5d00c42bda428278cfa66da7717fca8b04263", func := "livery/liverylaw08.ClogPlays", spec := "clogPlays", apart := false }
def ClogPlaysSaid : Prop := clogPlaysRow.holds Try.pinned (OpenSpec.ofChange clogPlaysSpec)

/-- ITS FALSE NEIGHBOUR: 'it returns false'. Refute it at one input. -/
def clogPlaysWrong : ChangeSpec := { name := "clogPlays", fn := fun _ => fun
  | [d1, d2] => { results := [.lit (.bool false)], args := [d1, d2] }
  | _ => none }
def ClogPlaysWrongFalsely : Prop := clogPlaysRow.holds Try.pinned (OpenSpec.ofChange clogPlaysWrong)

/-- 'liverylaw08.ClogBeginning': WHATEVER THE INPUT: true; the input reads as it did. -/
def clogBeginningSpec : ChangeSpec := { name := "clogBeginning", fn := fun _ => fun
  | [d] => { results := [.lit (.bool true)], args := [d] }
  | _ => none }
def clogBeginningRow : OpenClaim := { program := "ytdbbamjijhaeoaa", sum := "14f8a5d36967c06ca59206ce9fa5d00c42bda428278cfa66da7717fca8b04263", func := "livery/liverylaw08.ClogBeginning", spec := "clogBeginning", apart := false }
def ClogBeginningSaid : Prop := clogBeginningRow.holds Try.pinned (OpenSpec.ofChange clogBeginningSpec)

/-- ITS FALSE NEIGHBOUR: 'it returns false'. Refute it at one input. -/
def clogBeginningWrong : ChangeSpec := { name := "clogBeginning", fn := fun _ => fun
  | [d] => { results := [.lit (.bool false)], args := [d] }
  | _ => none }
def ClogBeginningWrongFalsely : Prop := clogBeginningRow.holds Try.pinned (OpenSpec.ofChange clogBeginningWrong)

/-- 'liverylaw08.ClogMost': WHATEVER THE INPUT: true; the input reads as it did. -/
def clogMostSpec : ChangeSpec := { name := "clogMost", fn := fun _ => fun
  | [d] => { results := [.lit (.bool true)], args := [d] }
  | _ => none }
def clogMostRow : OpenClaim := { program := "ytdbbamjijhaeoaa", sum := "14f8a5d36967c06ca59206ce9fa5d00c42bda428278cfa66da7717fca8b04263", func := "livery/liverylaw08.ClogMost", spec := "clogMost", apart := false }
def ClogMostSaid : Prop := clogMostRow.holds Try.pinned (OpenSpec.ofChange clogMostSpec)

/-- ITS FALSE NEIGHBOUR: 'it returns false'. Refute it at one input. -/
def clogMostWrong : ChangeSpec := { name := "clogMost", fn := fun _ => fun
  | [d] => { results := [.lit (.bool false)], args := [d] }
  | _ => none }
def ClogMostWrongFalsely : Prop := clogMostRow.holds Try.pinned (OpenSpec.ofChange clogMostWrong)

/-- 'liverylaw08.ClogNone': WHATEVER THE INPUT: true; the input reads as it did. -/
def clogNoneSpec : ChangeSpec := { name := "clogNone", fn := fun _ => fun
  | [d] => { results := [.lit (.bool true)], args := [d] }
  | _ => none }
def clogNoneRow : OpenClaim := { program := "ytdbbamjijhaeoaa", sum := "14f8a5d36967c06ca59206ce9fa5d00c42bda428278cfa66da7717fca8b04263", func := "livery/liverylaw08.ClogNone", spec := "clogNone", apart := false }
def ClogNoneSaid : Prop := clogNoneRow.holds Try.pinned (OpenSpec.ofChange clogNoneSpec)

/-- ITS FALSE NEIGHBOUR: 'it returns false'. Refute it at one input. -/
def clogNoneWrong : ChangeSpec := { name := "clogNone", fn := fun _ => fun
  | [d] => { results := [.lit (.bool false)], args := [d] }
  | _ => none }
def ClogNoneWrongFalsely : Prop := clogNoneRow.holds Try.pinned (OpenSpec.ofChange clogNoneWrong)

/-- 'liverylaw08.ClogNumbers': WHATEVER THE INPUT: true; the input reads as it did. -/
def clogNumbersSpec : ChangeSpec := { name := "clogNumbers", fn := fun _ => fun
  | [d] => { results := [.lit (.bool true)], args := [d] }
  | _ => none }
def clogNumbersRow : OpenClaim := { program := "ytdbbamjijhaeoaa", sum := "14f8a5d36967c06ca59206ce9fa5d00c42bda428278cfa66da7717fca8b04263", func := "livery/liverylaw08.ClogNumbers", spec := "clogNumbers", apart := false }
def ClogNumbersSaid : Prop := clogNumbersRow.holds Try.pinned (OpenSpec.ofChange clogNumbersSpec)

/-- ITS FALSE NEIGHBOUR: 'it returns false'. Refute it at one input. -/
def clogNumbersWrong : ChangeSpec := { name := "clogNumbers", fn := fun _ => fun
  | [d] => { results := [.lit (.bool false)], args := [d] }
  | _ => none }
def ClogNumbersWrongFalsely : Prop := clogNumbersRow.holds Try.pinned (OpenSpec.ofChange clogNumbersWrong)

/- THE SECOND FORM. 'bulk': how many values and letters a reading holds, each counted each time it is reached (what is shared counts as often as it is met; a slice's spare places count too). A statement '..UptoSaid' is the law's where the arguments, and the package variables that the reading takes, are together of bulk at most 1048576: NARROWER than '..Said'. Prove '..Said' where nothing that the law and all that it calls make is longer than what came in: it says more and counts as full. Else prove '..UptoSaid'. A law counts once. -/
mutual
def uptoBulk {H : Type} : DataW H → Nat
  | .lit (.string bytes) => bytes.length + 1
  | .lit _ => 1
  | .nil => 1
  | .ptr d => uptoBulk d + 1
  | .slice elems spare => uptoBulkAll elems + uptoBulkAll spare + 1
  | .agg parts => uptoBulkAll parts + 1
  | .iface _ d => uptoBulk d + 1
  | .map entries => uptoBulkEntries entries + 1
  | .held _ => 1
def uptoBulkAll {H : Type} : List (DataW H) → Nat
  | [] => 0
  | d :: r => uptoBulk d + uptoBulkAll r
def uptoBulkEntries {H : Type} : List (Lit × DataW H) → Nat
  | [] => 0
  | x :: r => uptoBulkEntry x + uptoBulkEntries r
def uptoBulkEntry {H : Type} : Lit × DataW H → Nat
  | (.string bytes, d) => bytes.length + uptoBulk d + 1
  | (_, d) => uptoBulk d + 1
 end
def uptoSmall : (H : Type) → List (DataW H) → Bool := fun _ ds => decide (uptoBulkAll ds ≤ 1048576)
def OpenSpec.upto (s : _root_.Go.ChangeSpec) : _root_.Go.OpenSpec := { _root_.Go.OpenSpec.ofChange s with cond := some uptoSmall }

/-- 'liverylaw08.ClogPlays', WHERE WHAT IT READS IS OF BULK AT MOST 1048576: true; the input reads as it did. -/
def clogPlaysUptoRow : OpenClaim := { program := "ytdbbamjijhaeoaa", sum := "14f8a5d36967c06ca59206ce9fa5d00c42bda428278cfa66da7717fca8b04263", func := "livery/liverylaw08.ClogPlays", spec := "clogPlays", apart := false, narrowed := true }
def ClogPlaysUptoSaid : Prop := clogPlaysUptoRow.holds Try.pinned (OpenSpec.upto clogPlaysSpec)

/-- 'liverylaw08.ClogBeginning', WHERE WHAT IT READS IS OF BULK AT MOST 1048576: true; the input reads as it did. -/
def clogBeginningUptoRow : OpenClaim := { program := "ytdbbamjijhaeoaa", sum := "14f8a5d36967c06ca59206ce9fa5d00c42bda428278cfa66da7717fca8b04263", func := "livery/liverylaw08.ClogBeginning", spec := "clogBeginning", apart := false, narrowed := true }
def ClogBeginningUptoSaid : Prop := clogBeginningUptoRow.holds Try.pinned (OpenSpec.upto clogBeginningSpec)

/-- 'liverylaw08.ClogMost', WHERE WHAT IT READS IS OF BULK AT MOST 1048576: true; the input reads as it did. -/
def clogMostUptoRow : OpenClaim := { program := "ytdbbamjijhaeoaa", sum := "14f8a5d36967c06ca59206ce9fa5d00c42bda428278cfa66da7717fca8b04263", func := "livery/liverylaw08.ClogMost", spec := "clogMost", apart := false, narrowed := true }
def ClogMostUptoSaid : Prop := clogMostUptoRow.holds Try.pinned (OpenSpec.upto clogMostSpec)

/-- 'liverylaw08.ClogNone', WHERE WHAT IT READS IS OF BULK AT MOST 1048576: true; the input reads as it did. -/
def clogNoneUptoRow : OpenClaim := { program := "ytdbbamjijhaeoaa", sum := "14f8a5d36967c06ca59206ce9fa5d00c42bda428278cfa66da7717fca8b04263", func := "livery/liverylaw08.ClogNone", spec := "clogNone", apart := false, narrowed := true }
def ClogNoneUptoSaid : Prop := clogNoneUptoRow.holds Try.pinned (OpenSpec.upto clogNoneSpec)

/-- 'liverylaw08.ClogNumbers', WHERE WHAT IT READS IS OF BULK AT MOST 1048576: true; the input reads as it did. -/
def clogNumbersUptoRow : OpenClaim := { program := "ytdbbamjijhaeoaa", sum := "14f8a5d36967c06ca59206ce9fa5d00c42bda428278cfa66da7717fca8b04263", func := "livery/liverylaw08.ClogNumbers", spec := "clogNumbers", apart := false, narrowed := true }
def ClogNumbersUptoSaid : Prop := clogNumbersUptoRow.holds Try.pinned (OpenSpec.upto clogNumbersSpec)

end Rows
end Go.Proofs.Ytdbbamjijhaeoaa
