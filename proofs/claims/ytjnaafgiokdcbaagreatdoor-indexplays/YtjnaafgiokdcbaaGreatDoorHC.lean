/- Walks of the small functions on float64 words. -/
import Derived.Test.YtjnaafgiokdcbaaGreatDoorRows
import Derived.Test.YtjnaafgiokdcbaaGreatDoorHA
import Derived.WalkKit
import Derived.WalkSpells
import Derived.WalkLawsBesides
import Derived.Test.YtjnaafgiokdcbaaGreatDoorHB
namespace Go.Proofs.YtjnaafgiokdcbaaGreatDoor
open Go.RowKit


/-- A float stored: the kit's laws of this kind name ints, bools, pointers, slices, strings. -/
theorem Fl.run_store_float {P : Program} (w : World) (a : Addr) (m : Mode) (k : FloatKind) (b : Nat) : (store a (.float k b) m).run P w = stored P w a (.float k b) m := run_store P w a _ m rfl

theorem Tryz.float64bits (x : Nat) (w : World) : (callFunc 66 #[.float .f64 x]).run Tryz.prog w = .ok (.value (.int .u64 x)) w := by
  rw [run_callFunc_extern Tryz.func66 (by kernel_rfl) (by kernel_rfl) (by kernel_rfl) (e := Extern.MathFloatBits.float64bits) (by kernel_rfl)]; rfl
theorem Tryz.float64frombits (n : Int) (w : World) : (callFunc 87 #[.int .u64 n]).run Tryz.prog w = .ok (.value (.float .f64 n.toNat)) w := by
  rw [run_callFunc_extern Tryz.func87 (by kernel_rfl) (by kernel_rfl) (by kernel_rfl) (e := Extern.MathFloatBits.float64frombits) (by kernel_rfl)]; rfl

attribute [local go_sem] Fl.lss_eq Fl.gtr_eq Fl.eql_eq Fl.neq_eq Fl.eqB_self Tryz.float64bits Tryz.float64frombits

set_option maxHeartbeats 400000 in
theorem isNaN_any (x : Nat) (w : World) :
    Calls Tryz.prog 86 #[.float .f64 x] w fun e w' => e = .returned (.bool (Fl.nanB x)) ∧ w' = w := by
  go_enter Tryz.func86, Tryz.ntmps86
  go_wp2
  go_ret
  exact ⟨by simp, rfl⟩

set_option maxHeartbeats 400000 in
theorem canon_any (x : Nat) (w : World) :
    Calls Tryz.prog 126 #[.float .f64 x] w fun e w' => e = .returned (.float .f64 (Fl.canonN x)) ∧ w' = w := by
  cases h : Fl.nanB x
  · cases hz : Fl.eqB x 0
    · go_enter Tryz.func126, Tryz.ntmps126
      go_wp2
      go_ret
      exact ⟨by rw [Fl.canonN_other h hz]; rfl, rfl⟩
    · go_enter Tryz.func126, Tryz.ntmps126
      go_wp2
      go_ret
      exact ⟨by rw [Fl.canonN_zero h hz]; rfl, rfl⟩
  · go_enter Tryz.func126, Tryz.ntmps126
    go_wp2
    go_ret
    exact ⟨by rw [Fl.canonN_nan h]; rfl, rfl⟩

set_option maxHeartbeats 400000 in
theorem refCanon_any (x : Nat) (w : World) :
    Calls Tryz.prog 67 #[.float .f64 x] w fun e w' => e = .returned (.float .f64 (Fl.canonN x)) ∧ w' = w := by
  cases h : Fl.nanB x
  · cases hz : Fl.eqB x 0
    · go_enter Tryz.func67, Tryz.ntmps67
      go_wp2
      go_ret
      exact ⟨by rw [Fl.canonN_other h hz]; rfl, rfl⟩
    · go_enter Tryz.func67, Tryz.ntmps67
      go_wp2
      go_ret
      exact ⟨by rw [Fl.canonN_zero h hz]; rfl, rfl⟩
  · go_enter Tryz.func67, Tryz.ntmps67
    go_wp2
    go_ret
    exact ⟨by rw [Fl.canonN_nan h]; rfl, rfl⟩

set_option maxHeartbeats 400000 in
theorem is_any (x : Nat) (w : World) :
    Calls Tryz.prog 134 #[.float .f64 x] w fun e w' => e = .returned (.bool (Fl.isB x)) ∧ w' = w := by
  go_enter Tryz.func134, Tryz.ntmps134
  go_wp2_with (go_at_call 126; refine (canon_any _ _).mono ?_; rintro e w' ⟨rfl, rfl⟩)
  go_ret
  exact ⟨by rw [← Fl.isB_int]; rfl, rfl⟩

set_option maxHeartbeats 400000 in
theorem refIs_any (x : Nat) (w : World) :
    Calls Tryz.prog 49 #[.float .f64 x] w fun e w' => e = .returned (.bool (Fl.isB x)) ∧ w' = w := by
  go_enter Tryz.func49, Tryz.ntmps49
  go_wp2_with (go_at_call 67; refine (refCanon_any _ _).mono ?_; rintro e w' ⟨rfl, rfl⟩)
  go_ret
  exact ⟨by rw [← Fl.isB_int]; rfl, rfl⟩

set_option maxHeartbeats 400000 in
theorem bits_any (x : Nat) (w : World) (hx : x < 18446744073709551616) :
    Calls Tryz.prog 104 #[.float .f64 x] w fun e w' => e = .returned (.int .u64 (Fl.bitsN x : Int)) ∧ w' = w := by
  go_enter Tryz.func104, Tryz.ntmps104
  go_wp2_with (go_at_call 126; refine (canon_any _ _).mono ?_; rintro e w' ⟨rfl, rfl⟩)
  · go_ret
    exact ⟨congrArg (fun n => Ending.returned (Value.int .u64 n)) (Fl.bits_neg hx ‹_›), rfl⟩
  · go_ret
    exact ⟨congrArg (fun n => Ending.returned (Value.int .u64 n)) (Fl.bits_pos hx ‹_›), rfl⟩

set_option maxHeartbeats 400000 in
theorem rank_any (x : Nat) (w : World) :
    Calls Tryz.prog 68 #[.float .f64 x] w fun e w' => e = .returned (.int .i64 (if Fl.nanB x then 1 else 0)) ∧ w' = w := by
  go_enter Tryz.func68, Tryz.ntmps68
  go_wp2
  all_goals
    go_ret
    exact ⟨congrArg (fun n => Ending.returned (Value.int .i64 n)) (by simp [*]), rfl⟩

set_option maxHeartbeats 400000 in
theorem refCompare_any (x y : Nat) (w : World) :
    Calls Tryz.prog 50 #[.float .f64 x, .float .f64 y] w fun e w' => e = .returned (.int .i64 (Fl.cmpI x y)) ∧ w' = w := by
  cases hx : Fl.nanB x <;> cases hy : Fl.nanB y
  all_goals
    go_enter Tryz.func50, Tryz.ntmps50
    go_wp2
    all_goals
      go_ret
      exact ⟨congrArg (fun n => Ending.returned (Value.int .i64 n)) (by simp [Fl.cmpI, *]), rfl⟩

end Go.Proofs.YtjnaafgiokdcbaaGreatDoor

/- Walks of float.From, Next, of their reference twins, of package math's small functions. -/
namespace Go.Proofs.YtjnaafgiokdcbaaGreatDoor
open Go.RowKit
attribute [local go_sem] Fl.lss_eq Fl.gtr_eq Fl.eql_eq Fl.neq_eq Fl.eqB_self Tryz.float64bits Tryz.float64frombits

set_option maxHeartbeats 400000 in
theorem refBits_any (x : Nat) (w : World) (hx : x < 18446744073709551616) :
    Calls Tryz.prog 79 #[.float .f64 x] w fun e w' => e = .returned (.int .u64 (Fl.bitsN x : Int)) ∧ w' = w := by
  have hc := Fl.canonN_lt hx
  cases hs : decide ((9223372036854775808 : Int) ≤ (Fl.canonN x : Int))
  all_goals
    go_enter Tryz.func79, Tryz.ntmps79
    go_wp2_with (go_at_call 67; refine (refCanon_any _ _).mono ?_; rintro e w' ⟨rfl, rfl⟩)
    go_ret
    refine ⟨congrArg (fun n => Ending.returned (Value.int .u64 n)) ?_, rfl⟩
  · have hs' : (Fl.canonN x : Int) < 9223372036854775808 := by simpa using hs
    rw [Fl.wrap_up hs']; unfold Fl.bitsN; rw [if_neg (by omega)]
  · have hs' : 9223372036854775808 ≤ (Fl.canonN x : Int) := by simpa using hs
    rw [Fl.not_u64 _ hc]; unfold Fl.bitsN; rw [if_pos (by omega)]

set_option maxHeartbeats 400000 in
theorem canonical_any (n : Nat) (w : World) :
    Calls Tryz.prog 136 #[.int .u64 (n : Int)] w fun e w' => e = .returned (.tuple #[.float .f64 (Fl.gotN n), .bool (Fl.isB n)]) ∧ w' = w := by
  cases h : Fl.isB n
  all_goals
    go_enter Tryz.func136, Tryz.ntmps136
    go_wp2_with (go_at_call 134; refine (is_any _ _).mono ?_; rintro e w' ⟨rfl, rfl⟩)
    go_ret2
    exact ⟨by unfold Fl.gotN; rw [h]; rfl, rfl⟩

set_option maxHeartbeats 400000 in
theorem from_any (u : Nat) (w : World) (hu : u < 18446744073709551616) :
    Calls Tryz.prog 129 #[.int .u64 (u : Int)] w fun e w' => e = .returned (.tuple #[.float .f64 (Fl.gotN (Fl.unbN u)), .bool (Fl.isB (Fl.unbN u))]) ∧ w' = w := by
  go_enter Tryz.func129, Tryz.ntmps129
  go_wp2_with fail
  · rw [Fl.unb_high hu ‹_›]
    refine (canonical_any _ _).mono ?_
    rintro e w' ⟨rfl, rfl⟩
    go_wp2
    go_ret2
    exact ⟨rfl, rfl⟩
  · rw [Fl.unb_low hu ‹_›]
    refine (canonical_any _ _).mono ?_
    rintro e w' ⟨rfl, rfl⟩
    go_wp2
    go_ret2
    exact ⟨rfl, rfl⟩

theorem Tryz.buildGot (x : Nat) (b : Bool) (w : World) : (Instr.build 160 #[(0, .float .f64 x), (1, .bool b)]).run Tryz.prog w = .ok (.agg #[.float .f64 x, .bool b]) w := run_build w 160 _ _ (by kernel_rfl)
theorem Tryz.buildGot0 (w : World) : (Instr.build 160 #[]).run Tryz.prog w = .ok (.agg #[.float .f64 0, .bool false]) w := run_build w 160 _ _ (by kernel_rfl)
attribute [local go_sem] Tryz.buildGot Tryz.buildGot0 Fl.run_store_float

set_option maxHeartbeats 400000 in
theorem refFrom_any (u : Nat) (w : World) (hu : u < 18446744073709551616) :
    Calls Tryz.prog 101 #[.int .u64 (u : Int)] w fun e w' => e = .returned (.agg #[.float .f64 (Fl.gotN (Fl.unbN u)), .bool (Fl.isB (Fl.unbN u))]) ∧ Below w.heap.size w w' := by
  cases hs : decide ((9223372036854775808 : Int) ≤ (u : Int))
  · go_enter Tryz.func101, Tryz.ntmps101
    go_wp2_with fail
    rw [Fl.unb_not hu hs]
    refine (refIs_any _ _).mono ?_
    rintro e w' ⟨rfl, rfl⟩
    cases hi : Fl.isB (Fl.unbN u)
    · have hg : Fl.gotN (Fl.unbN u) = 0 := by unfold Fl.gotN; rw [hi]; rfl
      go_wp2
      exact bodyPost_ret (v := .agg #[.float .f64 0, .bool false]) (by simp [results, Tryz.results101, go_sem]) rfl ⟨by rw [hg, hi], (Below.refl _ _).alloc (Nat.le_refl _) _⟩
    · have hg : Fl.gotN (Fl.unbN u) = Fl.unbN u := by unfold Fl.gotN; rw [hi]; rfl
      have hb := Fl.bits_unb hu hi
      have hn : ((Fl.bitsN (Fl.unbN u) : Int) != (u : Int)) = false := by rw [hb]; simp
      clear hb
      go_wp2_with (go_at_call 79; refine (refBits_any _ _ (Fl.unbN_lt hu)).mono ?_; rintro e w' ⟨rfl, rfl⟩)
      exact bodyPost_ret (v := .agg #[.float .f64 (Fl.unbN u), .bool true]) (by simp [results, Tryz.results101, go_sem]) rfl ⟨by rw [hg, hi], (Below.refl _ _).alloc (Nat.le_refl _) _⟩
  · go_enter Tryz.func101, Tryz.ntmps101
    go_wp2_with fail
    rw [Fl.unb_wrap hu hs]
    refine (refIs_any _ _).mono ?_
    rintro e w' ⟨rfl, rfl⟩
    cases hi : Fl.isB (Fl.unbN u)
    · have hg : Fl.gotN (Fl.unbN u) = 0 := by unfold Fl.gotN; rw [hi]; rfl
      go_wp2
      exact bodyPost_ret (v := .agg #[.float .f64 0, .bool false]) (by simp [results, Tryz.results101, go_sem]) rfl ⟨by rw [hg, hi], (Below.refl _ _).alloc (Nat.le_refl _) _⟩
    · have hg : Fl.gotN (Fl.unbN u) = Fl.unbN u := by unfold Fl.gotN; rw [hi]; rfl
      have hb := Fl.bits_unb hu hi
      have hn : ((Fl.bitsN (Fl.unbN u) : Int) != (u : Int)) = false := by rw [hb]; simp
      clear hb
      go_wp2_with (go_at_call 79; refine (refBits_any _ _ (Fl.unbN_lt hu)).mono ?_; rintro e w' ⟨rfl, rfl⟩)
      exact bodyPost_ret (v := .agg #[.float .f64 (Fl.unbN u), .bool true]) (by simp [results, Tryz.results101, go_sem]) rfl ⟨by rw [hg, hi], (Below.refl _ _).alloc (Nat.le_refl _) _⟩

end Go.Proofs.YtjnaafgiokdcbaaGreatDoor

/- Walks of the order of values. -/
namespace Go.Proofs.YtjnaafgiokdcbaaGreatDoor
open Go.RowKit
attribute [local go_sem] Fl.run_store_float Tryz.float64bits Tryz.float64frombits

end Go.Proofs.YtjnaafgiokdcbaaGreatDoor

/- Walks of the reference's order, of Same, of names. -/
namespace Go.Proofs.YtjnaafgiokdcbaaGreatDoor
open Go.RowKit
attribute [local go_sem] Fl.run_store_float Tryz.float64bits Tryz.float64frombits Vl.str_lss Vl.str_eql

set_option maxHeartbeats 1000000 in
theorem refCmpV_any (a b : Vl.V) (w : World) :
    Calls Tryz.prog 27 #[.agg #[.int .i64 a.k, .int .i64 a.n, .float .f64 a.f, .string a.s], .agg #[.int .i64 b.k, .int .i64 b.n, .float .f64 b.f, .string b.s]] w fun e w' =>
      e = .returned (.int .i64 (Vl.cmpV a b)) ∧ w' = (w.alloc (.cells a.cs 34)).alloc (.cells b.cs 34) := by
  obtain ⟨k, n, f, s⟩ := a
  obtain ⟨k', n', f', s'⟩ := b
  have hb := Vl.cmpS_bd s s'
  cases h3 : (Fl.cmpI f f' != 0)
  all_goals
    go_enter Tryz.func27, Tryz.ntmps27
    go_wp2_with (go_at_call 50; refine (refCompare_any _ _ _).mono ?_; rintro e w' ⟨rfl, hq⟩; obtain rfl := hq.symm)
    all_goals
      go_ret
      refine ⟨congrArg (fun n => Ending.returned (Value.int .i64 n)) (Eq.symm ?_), rfl⟩
      first
      | exact Vl.cmpV_k1 ‹_›
      | exact Vl.cmpV_k2 ‹_›
      | exact Vl.cmpV_n1 (by show k = k'; omega) ‹_›
      | exact Vl.cmpV_n2 (by show k = k'; omega) ‹_›
      | exact Vl.cmpV_f (by show k = k'; omega) (by show n = n'; omega) h3
      | (rw [Vl.cmpV_s (by show k = k'; omega) (by show n = n'; omega) h3]; show Vl.cmpS s s' = _; first | omega | (rename_i h9; simp at h9; omega))

end Go.Proofs.YtjnaafgiokdcbaaGreatDoor
