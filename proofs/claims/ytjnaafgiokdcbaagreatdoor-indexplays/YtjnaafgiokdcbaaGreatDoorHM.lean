/- What came in, read as plain data. -/
import Derived.Test.YtjnaafgiokdcbaaGreatDoorHB
import Derived.Test.YtjnaafgiokdcbaaGreatDoorRows
import Derived.WalkKit
import Derived.ProofKit
import Derived.OpenShut
import Derived.Lib.SmallJoins
namespace Go.Proofs.YtjnaafgiokdcbaaGreatDoor
open Go.ChangeShapes Go.WideShapes Go.ChangeAt Go.RowKit

theorem own : ownKnob Tryz.prog.godebug = none := by kernel_rfl
theorem laidOut : laidOutB Tryz.prog = true := by kernel_rfl

section
variable {H : Type} {enc : TypeId × Value → H} {P : Program} {w : World} {base : Nat} {held : Bool}
theorem Vl.trod_float {t : TypeId} {fuel : Nat} {v : Value} {x : DataW H × List MemPlace} {spare : Nat → Bool} (ht : P.underlying t = some (.float .f64)) (h : DataW.trod enc P w base spare held fuel t [v] = some x) : ∃ b, v = .float .f64 b ∧ b < 18446744073709551616 := by
  cases fuel with
  | zero => simp [DataW.trod] at h
  | succ n =>
    simp only [DataW.trod, ht] at h
    cases v <;> simp at h
    rename_i k b
    obtain ⟨⟨rfl, h2⟩, _⟩ := h
    exact ⟨b, rfl, by simpa [Lit.wf] using h2⟩
end

/-- A value's fields, as they may be. -/
structure Vl.V.Fit (v : Vl.V) : Prop where
  k1 : -9223372036854775808 ≤ v.k
  k2 : v.k ≤ 9223372036854775807
  n1 : -9223372036854775808 ≤ v.n
  n2 : v.n ≤ 9223372036854775807
  f : v.f < 18446744073709551616
  s : v.s.size ≤ maxLen
theorem Vl.wf64 {n : Int} (h : (Lit.int .i64 n).wf = true) : -9223372036854775808 ≤ n ∧ n ≤ 9223372036854775807 := by
  simp only [Lit.wf, IntKind.min, IntKind.max, IntKind.signed, IntKind.bits, Bool.and_eq_true, decide_eq_true_eq, if_true] at h
  omega
theorem cells24 : Tryz.prog.cellsOf 34 = 4 := by kernel_rfl
set_option maxRecDepth 100000 in
/-- A value that came in. -/
theorem open_value {H : Type} {enc : TypeId × Value → H} {W : World} {base : Nat} {v : Value} {d : DataW H} {p : List MemPlace} (hv : Value.okWide Tryz.prog W .any base 34 v) (h : DataW.Trod enc Tryz.prog W 0 (fun _ => true) true 34 v d p) :
    ∃ x : Vl.V, v = .agg #[.int .i64 x.k, .int .i64 x.n, .float .f64 x.f, .string x.s] ∧ x.Fit := by
  obtain ⟨v0, v1, v2, v3, y0, y1, y2, y3, m, rfl, rfl, rfl, h0, h1, h2, h3⟩ := Joins.open_agg4 Tryz.underlying34 (by kernel_rfl) cells24 hv h
  obtain ⟨k, e0, _, wk⟩ := DataW.trod_int Tryz.underlying3 h0
  obtain ⟨n, e1, _, wn⟩ := DataW.trod_int Tryz.underlying2 h1
  obtain ⟨f, e2, wf⟩ := Vl.trod_float Tryz.underlying32 h2
  obtain ⟨s, e3, _, ws⟩ := DataW.trod_string Tryz.underlying9 h3
  simp at e0 e1 e3
  subst e0 e1 e2 e3
  exact ⟨⟨k, n, f, s⟩, rfl, (Vl.wf64 wk).1, (Vl.wf64 wk).2, (Vl.wf64 wn).1, (Vl.wf64 wn).2, wf, ws⟩

end Go.Proofs.YtjnaafgiokdcbaaGreatDoor
