/-
  NARROWER THAN 'FOR EVERY INPUT', by the rows' own cells (each row's printed sentence says how): LockPlays: laid · LockApart: laid · LockEnds: laid · LockTurns: laid · LockRaises: laid · LockNone: laid.
  DERIVED. THE GIVEN ROWS OF THIS SEAT. 6 by the template 'for every input the law returns true; each argument reads behind the call as it read before'; 0 by the template 'total and deterministic' (their statements: YthaenobciefjiaaDoorTotals.lean).
  GIVEN WITH THE SEED: the statements are not yours to turn. If you find one false, say at which input.
  Laid BY PROGRAM, IN A SANDBOX (cutbox-rows.mjs): the forced cells as the released guide's own fill.sh prints them over the translation fc35b7a346391c87… (all of the seat's roots in one cut). By AI agents, Wed Nov 11 2026. No macro, syntax, notation, axiom, sorry.
-/
import Derived.Test.YthaenobciefjiaaDoorChecked
import GoSem.Claim
import GoSem.ClaimJoined
import GoSem.ClaimMapViews
import Derived.JoinedTies
import Derived.KernelRfl
namespace Go.Proofs.YthaenobciefjiaaDoor
/- THE CELL 'sum', in the pinned program and in every row, IS THE sha256 OF THE DUMP (.gsa) THAT YthaenobciefjiaaDoorProg.lean LOADS. Nothing in Lean hashes anything: it is a label: what it is worth is what the hold of that sum in a sandbox is worth. -/
noncomputable def Tryd.pinned : Pinned := { name := "ythaenobciefjiaadoor", sum := "fc35b7a346391c873b0ba24933d22a5d1683e41c32e836cd00538273a9a4d0b2", checked := Tryd.checked }
namespace Rows
def none {H : Type} : Left H := { results := [], args := [] }

/- WHAT THE LISTED PACKAGE-LEVEL VARIABLES READ AS WHEN THE CALL BEGINS. Each datum BY PROGRAM (the guide's laid-datum.mjs) off the statement by which the dump's own 'gosem.cut.vars' lays the variable. In a bare row this is a premise. The card (YthaenobciefjiaaDoorCards.lean) ties it to the program's text. -/
def laid_livery_mode_barred {H : Type} : DataW H := .agg [.lit (.int .i64 0), .lit (.int .i64 256), .lit (.int .i64 384), .lit (.int .i64 480), .lit (.int .i64 496), .lit (.int .i64 472), .lit (.int .i64 504), .lit (.int .i64 508), .lit (.int .i64 510)]

/-- 'liverylaw06.LockPlays': WHATEVER THE INPUT: true; the input reads as it did. -/
def lockPlaysSpec : ChangeSpec := { name := "lockPlays", fn := fun _ => fun
  | [d] => { results := [.lit (.bool true)], args := [d] }
  | _ => none }
def lockPlaysRow : OpenClaim := { program := "ythaenobciefjiaadoor", sum := "fc35b7a346391c873b0ba24933d22a5d1683e41c32e836cd00538273a9a4d0b2", func := "livery/liverylaw06.LockPlays", spec := "lockPlays", unfollowed := true, recurses := true, named := ["livery/mode.barred"], apart := false, laid := [("livery/mode.barred", laid_livery_mode_barred)] }
def LockPlaysSaid : Prop := lockPlaysRow.holds Tryd.pinned (OpenSpec.ofChange lockPlaysSpec)

/-- ITS FALSE NEIGHBOUR: 'it returns false'. Refute it at one input. -/
def lockPlaysWrong : ChangeSpec := { name := "lockPlays", fn := fun _ => fun
  | [d] => { results := [.lit (.bool false)], args := [d] }
  | _ => none }
def LockPlaysWrongFalsely : Prop := lockPlaysRow.holds Tryd.pinned (OpenSpec.ofChange lockPlaysWrong)

/-- 'liverylaw06.LockApart': WHATEVER THE INPUT: true; the input reads as it did. -/
def lockApartSpec : ChangeSpec := { name := "lockApart", fn := fun _ => fun
  | [d] => { results := [.lit (.bool true)], args := [d] }
  | _ => none }
def lockApartRow : OpenClaim := { program := "ythaenobciefjiaadoor", sum := "fc35b7a346391c873b0ba24933d22a5d1683e41c32e836cd00538273a9a4d0b2", func := "livery/liverylaw06.LockApart", spec := "lockApart", unfollowed := true, recurses := true, named := ["livery/mode.barred"], apart := false, laid := [("livery/mode.barred", laid_livery_mode_barred)] }
def LockApartSaid : Prop := lockApartRow.holds Tryd.pinned (OpenSpec.ofChange lockApartSpec)

/-- ITS FALSE NEIGHBOUR: 'it returns false'. Refute it at one input. -/
def lockApartWrong : ChangeSpec := { name := "lockApart", fn := fun _ => fun
  | [d] => { results := [.lit (.bool false)], args := [d] }
  | _ => none }
def LockApartWrongFalsely : Prop := lockApartRow.holds Tryd.pinned (OpenSpec.ofChange lockApartWrong)

/-- 'liverylaw06.LockEnds': WHATEVER THE INPUT: true; the input reads as it did. -/
def lockEndsSpec : ChangeSpec := { name := "lockEnds", fn := fun _ => fun
  | [d1, d2] => { results := [.lit (.bool true)], args := [d1, d2] }
  | _ => none }
def lockEndsRow : OpenClaim := { program := "ythaenobciefjiaadoor", sum := "fc35b7a346391c873b0ba24933d22a5d1683e41c32e836cd00538273a9a4d0b2", func := "livery/liverylaw06.LockEnds", spec := "lockEnds", unfollowed := true, recurses := true, named := ["livery/mode.barred"], apart := false, laid := [("livery/mode.barred", laid_livery_mode_barred)] }
def LockEndsSaid : Prop := lockEndsRow.holds Tryd.pinned (OpenSpec.ofChange lockEndsSpec)

/-- ITS FALSE NEIGHBOUR: 'it returns false'. Refute it at one input. -/
def lockEndsWrong : ChangeSpec := { name := "lockEnds", fn := fun _ => fun
  | [d1, d2] => { results := [.lit (.bool false)], args := [d1, d2] }
  | _ => none }
def LockEndsWrongFalsely : Prop := lockEndsRow.holds Tryd.pinned (OpenSpec.ofChange lockEndsWrong)

/-- 'liverylaw06.LockTurns': WHATEVER THE INPUT: true; the input reads as it did. -/
def lockTurnsSpec : ChangeSpec := { name := "lockTurns", fn := fun _ => fun
  | [d] => { results := [.lit (.bool true)], args := [d] }
  | _ => none }
def lockTurnsRow : OpenClaim := { program := "ythaenobciefjiaadoor", sum := "fc35b7a346391c873b0ba24933d22a5d1683e41c32e836cd00538273a9a4d0b2", func := "livery/liverylaw06.LockTurns", spec := "lockTurns", unfollowed := true, recurses := true, named := ["livery/mode.barred"], apart := false, laid := [("livery/mode.barred", laid_livery_mode_barred)] }
def LockTurnsSaid : Prop := lockTurnsRow.holds Tryd.pinned (OpenSpec.ofChange lockTurnsSpec)

/-- ITS FALSE NEIGHBOUR: 'it returns false'. Refute it at one input. -/
def lockTurnsWrong : ChangeSpec := { name := "lockTurns", fn := fun _ => fun
  | [d] => { results := [.lit (.bool false)], args := [d] }
  | _ => none }
def LockTurnsWrongFalsely : Prop := lockTurnsRow.holds Tryd.pinned (OpenSpec.ofChange lockTurnsWrong)

/-- 'liverylaw06.LockRaises': WHATEVER THE INPUT: true; the input reads as it did. -/
def lockRaisesSpec : ChangeSpec := { name := "lockRaises", fn := fun _ => fun
  | [d] => { results := [.lit (.bool true)], args := [d] }
  | _ => none }
def lockRaisesRow : OpenClaim := { program := "ythaenobciefjiaadoor", sum := "fc35b7a346391c873b0ba24933d22a5d1683e41c32e836cd00538273a9a4d0b2", func := "livery/liverylaw06.LockRaises", spec := "lockRaises", unfollowed := true, recurses := true, named := ["livery/mode.barred"], apart := false, laid := [("livery/mode.barred", laid_livery_mode_barred)] }
def LockRaisesSaid : Prop := lockRaisesRow.holds Tryd.pinned (OpenSpec.ofChange lockRaisesSpec)

/-- ITS FALSE NEIGHBOUR: 'it returns false'. Refute it at one input. -/
def lockRaisesWrong : ChangeSpec := { name := "lockRaises", fn := fun _ => fun
  | [d] => { results := [.lit (.bool false)], args := [d] }
  | _ => none }
def LockRaisesWrongFalsely : Prop := lockRaisesRow.holds Tryd.pinned (OpenSpec.ofChange lockRaisesWrong)

/-- 'liverylaw06.LockNone': WHATEVER THE INPUT: true; the input reads as it did. -/
def lockNoneSpec : ChangeSpec := { name := "lockNone", fn := fun _ => fun
  | [d] => { results := [.lit (.bool true)], args := [d] }
  | _ => none }
def lockNoneRow : OpenClaim := { program := "ythaenobciefjiaadoor", sum := "fc35b7a346391c873b0ba24933d22a5d1683e41c32e836cd00538273a9a4d0b2", func := "livery/liverylaw06.LockNone", spec := "lockNone", unfollowed := true, recurses := true, named := ["livery/mode.barred"], apart := false, laid := [("livery/mode.barred", laid_livery_mode_barred)] }
def LockNoneSaid : Prop := lockNoneRow.holds Tryd.pinned (OpenSpec.ofChange lockNoneSpec)

/-- ITS FALSE NEIGHBOUR: 'it returns false'. Refute it at one input. -/
def lockNoneWrong : ChangeSpec := { name := "lockNone", fn := fun _ => fun
  | [d] => { results := [.lit (.bool false)], args := [d] }
  | _ => none }
def LockNoneWrongFalsely : Prop := lockNoneRow.holds Tryd.pinned (OpenSpec.ofChange lockNoneWrong)

/- THE SECOND FORM. 'bulk': how many values and letters a reading holds, each counted each time it is reached (what is shared counts as often as it is met; a slice's spare places count too). A statement '..UptoSaid' is the law's where the arguments, and the package variables that the reading takes, are together of bulk at most 1048576: NARROWER than '..Said'. Prove '..Said' where nothing that the law and all that it calls make is longer than what came in: it says more and counts as full. Else prove '..UptoSaid'. A law counts once. -/
mutual
def uptoBulk {H : Type} : DataW H → Nat
  | .lit (.string bytes) => bytes.length + 1
  | .lit _ => 1
  | .nil => 1
  | .ptr d => uptoBulk d + 1
  | .slice elems spare => uptoBulkAll elems + uptoBulkAll spare + 1
  | .agg parts => uptoBulkAll parts + 1
  | .iface _ d => uptoBulk d + 1
  | .map entries => uptoBulkEntries entries + 1
  | .held _ => 1
def uptoBulkAll {H : Type} : List (DataW H) → Nat
  | [] => 0
  | d :: r => uptoBulk d + uptoBulkAll r
def uptoBulkEntries {H : Type} : List (Lit × DataW H) → Nat
  | [] => 0
  | x :: r => uptoBulkEntry x + uptoBulkEntries r
def uptoBulkEntry {H : Type} : Lit × DataW H → Nat
  | (.string bytes, d) => bytes.length + uptoBulk d + 1
  | (_, d) => uptoBulk d + 1
 end
def uptoSmall : (H : Type) → List (DataW H) → Bool := fun _ ds => decide (uptoBulkAll ds ≤ 1048576)
def OpenSpec.upto (s : _root_.Go.ChangeSpec) : _root_.Go.OpenSpec := { _root_.Go.OpenSpec.ofChange s with cond := some uptoSmall }

/-- 'liverylaw06.LockPlays', WHERE WHAT IT READS IS OF BULK AT MOST 1048576: true; the input reads as it did. -/
def lockPlaysUptoRow : OpenClaim := { program := "ythaenobciefjiaadoor", sum := "fc35b7a346391c873b0ba24933d22a5d1683e41c32e836cd00538273a9a4d0b2", func := "livery/liverylaw06.LockPlays", spec := "lockPlays", unfollowed := true, recurses := true, named := ["livery/mode.barred"], apart := false, laid := [("livery/mode.barred", laid_livery_mode_barred)], narrowed := true }
def LockPlaysUptoSaid : Prop := lockPlaysUptoRow.holds Tryd.pinned (OpenSpec.upto lockPlaysSpec)

/-- 'liverylaw06.LockApart', WHERE WHAT IT READS IS OF BULK AT MOST 1048576: true; the input reads as it did. -/
def lockApartUptoRow : OpenClaim := { program := "ythaenobciefjiaadoor", sum := "fc35b7a346391c873b0ba24933d22a5d1683e41c32e836cd00538273a9a4d0b2", func := "livery/liverylaw06.LockApart", spec := "lockApart", unfollowed := true, recurses := true, named := ["livery/mode.barred"], apart := false, laid := [("livery/mode.barred", laid_livery_mode_barred)], narrowed := true }
def LockApartUptoSaid : Prop := lockApartUptoRow.holds Tryd.pinned (OpenSpec.upto lockApartSpec)

/-- 'liverylaw06.LockEnds', WHERE WHAT IT READS IS OF BULK AT MOST 1048576: true; the input reads as it did. -/
def lockEndsUptoRow : OpenClaim := { program := "ythaenobciefjiaadoor", sum := "fc35b7a346391c873b0ba24933d22a5d1683e41c32e836cd00538273a9a4d0b2", func := "livery/liverylaw06.LockEnds", spec := "lockEnds", unfollowed := true, recurses := true, named := ["livery/mode.barred"], apart := false, laid := [("livery/mode.barred", laid_livery_mode_barred)], narrowed := true }
def LockEndsUptoSaid : Prop := lockEndsUptoRow.holds Tryd.pinned (OpenSpec.upto lockEndsSpec)

/-- 'liverylaw06.LockTurns', WHERE WHAT IT READS IS OF BULK AT MOST 1048576: true; the input reads as it did. -/
def lockTurnsUptoRow : OpenClaim := { program := "ythaenobciefjiaadoor", sum := "fc35b7a346391c873b0ba24933d22a5d1683e41c32e836cd00538273a9a4d0b2", func := "livery/liverylaw06.LockTurns", spec := "lockTurns", unfollowed := true, recurses := true, named := ["livery/mode.barred"], apart := false, laid := [("livery/mode.barred", laid_livery_mode_barred)], narrowed := true }
def LockTurnsUptoSaid : Prop := lockTurnsUptoRow.holds Tryd.pinned (OpenSpec.upto lockTurnsSpec)

/-- 'liverylaw06.LockRaises', WHERE WHAT IT READS IS OF BULK AT MOST 1048576: true; the input reads as it did. -/
def lockRaisesUptoRow : OpenClaim := { program := "ythaenobciefjiaadoor", sum := "fc35b7a346391c873b0ba24933d22a5d1683e41c32e836cd00538273a9a4d0b2", func := "livery/liverylaw06.LockRaises", spec := "lockRaises", unfollowed := true, recurses := true, named := ["livery/mode.barred"], apart := false, laid := [("livery/mode.barred", laid_livery_mode_barred)], narrowed := true }
def LockRaisesUptoSaid : Prop := lockRaisesUptoRow.holds Tryd.pinned (OpenSpec.upto lockRaisesSpec)

/-- 'liverylaw06.LockNone', WHERE WHAT IT READS IS OF BULK AT MOST 1048576: true; the input reads as it did. -/
def lockNoneUptoRow : OpenClaim := { program := "ythaenobciefjiaadoor", sum := "fc35b7a346391c873b0ba24933d22a5d1683e41c32e836cd00538273a9a4d0b2", func := "livery/liverylaw06.LockNone", spec := "lockNone", unfollowed := true, recurses := true, named := ["livery/mode.barred"], apart := false, laid := [("livery/mode.barred", laid_livery_mode_barred)], narrowed := true }
def LockNoneUptoSaid : Prop := lockNoneUptoRow.holds Tryd.pinned (OpenSpec.upto lockNoneSpec)

end Rows
end Go.Proofs.YthaenobciefjiaaDoor
