/- Walks of the reference's order, of Same, of names. -/
import Derived.Test.YtlafccdaplgfoaaDoorV1
namespace Go.Proofs.YtlafccdaplgfoaaDoor
open Go.RowKit
attribute [local go_sem] Fl.run_store_float Tryd.float64bits Tryd.float64frombits Vl.str_lss Vl.str_eql

set_option maxHeartbeats 1000000 in
theorem refCmpV_any (a b : Vl.V) (w : World) :
    Calls Tryd.prog 25 #[.agg #[.int .i64 a.k, .int .i64 a.n, .float .f64 a.f, .string a.s], .agg #[.int .i64 b.k, .int .i64 b.n, .float .f64 b.f, .string b.s]] w fun e w' =>
      e = .returned (.int .i64 (Vl.cmpV a b)) ∧ w' = (w.alloc (.cells a.cs 24)).alloc (.cells b.cs 24) := by
  obtain ⟨k, n, f, s⟩ := a
  obtain ⟨k', n', f', s'⟩ := b
  have hb := Vl.cmpS_bd s s'
  cases h3 : (Fl.cmpI f f' != 0)
  all_goals
    go_enter Tryd.func25, Tryd.ntmps25
    go_wp2_with (go_at_call 38; refine (refCompare_any _ _ _).mono ?_; rintro e w' ⟨rfl, hq⟩; obtain rfl := hq.symm)
    all_goals
      go_ret
      refine ⟨congrArg (fun n => Ending.returned (Value.int .i64 n)) (Eq.symm ?_), rfl⟩
      first
      | exact Vl.cmpV_k1 ‹_›
      | exact Vl.cmpV_k2 ‹_›
      | exact Vl.cmpV_n1 (by show k = k'; omega) ‹_›
      | exact Vl.cmpV_n2 (by show k = k'; omega) ‹_›
      | exact Vl.cmpV_f (by show k = k'; omega) (by show n = n'; omega) h3
      | (rw [Vl.cmpV_s (by show k = k'; omega) (by show n = n'; omega) h3]; show Vl.cmpS s s' = _; first | omega | (rename_i h9; simp at h9; omega))

end Go.Proofs.YtlafccdaplgfoaaDoor
