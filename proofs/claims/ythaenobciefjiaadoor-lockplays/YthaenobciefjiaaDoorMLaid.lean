/- What the rows' condition on the package-level table gives the walks of modes; a start that meets it. -/
import Derived.Test.YthaenobciefjiaaDoorJ6
import Derived.Test.YthaenobciefjiaaDoorTie
import Derived.LaidMore
import Derived.Lay
import Derived.ProofKit
import Derived.OpenShut
import Derived.SevenTiedAt
import Derived.Stop.Joined
import Derived.Handed
import Derived.Lib.LaidTab
namespace Go.Proofs.YthaenobciefjiaaDoor
open Go.ChangeShapes Go.WideShapes Go.ChangeAt Go.RowKit

theorem own : ownKnob Tryd.prog.godebug = none := by kernel_rfl
/-- The rows' list of variables. -/
def laid1 : List (String × DataW Unit) := [("livery/mode.barred", Rows.laid_livery_mode_barred)]

set_option maxRecDepth 100000 in
theorem laid_met (os : Os) (args : Array Value) : laidMetH Tryd.prog laid1 ((World.laidAll Tryd.prog os laid1).forCall (fun _ _ => 0) ⟨#[], args, []⟩).memory := by
  rw [MakeChecks.laidMetH_plain _ _ _ (by kernel_rfl)]
  exact laidMet_laidAll _ (by kernel_rfl) (by kernel_rfl)

def Md.tab : List Int := [0, 256, 384, 480, 496, 472, 504, 508, 510]

theorem tab_of_laid {W : World} (h : laidMetH Tryd.prog laid1 W) : Md.Tab W := by
  rw [MakeChecks.laidMetH_plain _ _ _ (by kernel_rfl)] at h
  have h1 : laidMet Tryd.prog [("livery/mode.barred", Lib.tabData .i64 Md.tab)] W := h
  have hg : Tryd.prog.globalNamed "livery/mode.barred" = some 0 := by kernel_rfl
  have ht := Lib.tabIs_of_head hg (t := 109) (e := 3) (n := 9) (by kernel_rfl) Tryd.underlying109 Tryd.underlying3 (by kernel_rfl) (by kernel_rfl) h1
  exact ⟨World.var?_cell hg ht 1, World.var?_cell hg ht 2, World.var?_cell hg ht 3, World.var?_cell hg ht 4, World.var?_cell hg ht 5, World.var?_cell hg ht 6, World.var?_cell hg ht 7, World.var?_cell hg ht 8⟩

theorem Md.u16_nat {z : Int} (h : (Lit.int .u16 z).wf = true) : ∃ n : Nat, z = (n : Int) ∧ n < 65536 := by
  simp only [Lit.wf, IntKind.min, IntKind.max, IntKind.signed, IntKind.bits, Bool.and_eq_true] at h
  exact ⟨z.toNat, by simp at h; omega, by simp at h; omega⟩
theorem Md.u8_nat {z : Int} (h : (Lit.int .u8 z).wf = true) : ∃ n : Nat, z = (n : Int) ∧ n < 256 := by
  simp only [Lit.wf, IntKind.min, IntKind.max, IntKind.signed, IntKind.bits, Bool.and_eq_true] at h
  exact ⟨z.toNat, by simp at h; omega, by simp at h; omega⟩

end Go.Proofs.YthaenobciefjiaaDoor
