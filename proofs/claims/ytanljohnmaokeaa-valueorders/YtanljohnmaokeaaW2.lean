/- Walks of float.From, Next, of their reference twins, of package math's small functions. -/
import Derived.Test.YtanljohnmaokeaaW1
namespace Go.Proofs.Ytanljohnmaokeaa
open Go.RowKit
attribute [local go_sem] Fl.lss_eq Fl.gtr_eq Fl.eql_eq Fl.neq_eq Fl.eqB_self Try.float64bits Try.float64frombits

set_option maxHeartbeats 400000 in
theorem refBits_any (x : Nat) (w : World) (hx : x < 18446744073709551616) :
    Calls Try.prog 48 #[.float .f64 x] w fun e w' => e = .returned (.int .u64 (Fl.bitsN x : Int)) ∧ w' = w := by
  have hc := Fl.canonN_lt hx
  cases hs : decide ((9223372036854775808 : Int) ≤ (Fl.canonN x : Int))
  all_goals
    go_enter Try.func48, Try.ntmps48
    go_wp2_with (go_at_call 77; refine (refCanon_any _ _).mono ?_; rintro e w' ⟨rfl, rfl⟩)
    go_ret
    refine ⟨congrArg (fun n => Ending.returned (Value.int .u64 n)) ?_, rfl⟩
  · have hs' : (Fl.canonN x : Int) < 9223372036854775808 := by simpa using hs
    rw [Fl.wrap_up hs']; unfold Fl.bitsN; rw [if_neg (by omega)]
  · have hs' : 9223372036854775808 ≤ (Fl.canonN x : Int) := by simpa using hs
    rw [Fl.not_u64 _ hc]; unfold Fl.bitsN; rw [if_pos (by omega)]

set_option maxHeartbeats 400000 in
theorem canonical_any (n : Nat) (w : World) :
    Calls Try.prog 106 #[.int .u64 (n : Int)] w fun e w' => e = .returned (.tuple #[.float .f64 (Fl.gotN n), .bool (Fl.isB n)]) ∧ w' = w := by
  cases h : Fl.isB n
  all_goals
    go_enter Try.func106, Try.ntmps106
    go_wp2_with (go_at_call 89; refine (is_any _ _).mono ?_; rintro e w' ⟨rfl, rfl⟩)
    go_ret2
    exact ⟨by unfold Fl.gotN; rw [h]; rfl, rfl⟩

set_option maxHeartbeats 400000 in
theorem from_any (u : Nat) (w : World) (hu : u < 18446744073709551616) :
    Calls Try.prog 91 #[.int .u64 (u : Int)] w fun e w' => e = .returned (.tuple #[.float .f64 (Fl.gotN (Fl.unbN u)), .bool (Fl.isB (Fl.unbN u))]) ∧ w' = w := by
  go_enter Try.func91, Try.ntmps91
  go_wp2_with fail
  · rw [Fl.unb_high hu ‹_›]
    refine (canonical_any _ _).mono ?_
    rintro e w' ⟨rfl, rfl⟩
    go_wp2
    go_ret2
    exact ⟨rfl, rfl⟩
  · rw [Fl.unb_low hu ‹_›]
    refine (canonical_any _ _).mono ?_
    rintro e w' ⟨rfl, rfl⟩
    go_wp2
    go_ret2
    exact ⟨rfl, rfl⟩

theorem Try.buildGot (x : Nat) (b : Bool) (w : World) : (Instr.build 82 #[(0, .float .f64 x), (1, .bool b)]).run Try.prog w = .ok (.agg #[.float .f64 x, .bool b]) w := run_build w 82 _ _ (by kernel_rfl)
theorem Try.buildGot0 (w : World) : (Instr.build 82 #[]).run Try.prog w = .ok (.agg #[.float .f64 0, .bool false]) w := run_build w 82 _ _ (by kernel_rfl)
attribute [local go_sem] Try.buildGot Try.buildGot0 Fl.run_store_float

set_option maxHeartbeats 400000 in
theorem refFrom_any (u : Nat) (w : World) (hu : u < 18446744073709551616) :
    Calls Try.prog 50 #[.int .u64 (u : Int)] w fun e w' => e = .returned (.agg #[.float .f64 (Fl.gotN (Fl.unbN u)), .bool (Fl.isB (Fl.unbN u))]) ∧ Below w.heap.size w w' := by
  cases hs : decide ((9223372036854775808 : Int) ≤ (u : Int))
  · go_enter Try.func50, Try.ntmps50
    go_wp2_with fail
    rw [Fl.unb_not hu hs]
    refine (refIs_any _ _).mono ?_
    rintro e w' ⟨rfl, rfl⟩
    cases hi : Fl.isB (Fl.unbN u)
    · have hg : Fl.gotN (Fl.unbN u) = 0 := by unfold Fl.gotN; rw [hi]; rfl
      go_wp2
      exact bodyPost_ret (v := .agg #[.float .f64 0, .bool false]) (by simp [results, Try.results50, go_sem]) rfl ⟨by rw [hg, hi], (Below.refl _ _).alloc (Nat.le_refl _) _⟩
    · have hg : Fl.gotN (Fl.unbN u) = Fl.unbN u := by unfold Fl.gotN; rw [hi]; rfl
      have hb := Fl.bits_unb hu hi
      have hn : ((Fl.bitsN (Fl.unbN u) : Int) != (u : Int)) = false := by rw [hb]; simp
      clear hb
      go_wp2_with (go_at_call 48; refine (refBits_any _ _ (Fl.unbN_lt hu)).mono ?_; rintro e w' ⟨rfl, rfl⟩)
      exact bodyPost_ret (v := .agg #[.float .f64 (Fl.unbN u), .bool true]) (by simp [results, Try.results50, go_sem]) rfl ⟨by rw [hg, hi], (Below.refl _ _).alloc (Nat.le_refl _) _⟩
  · go_enter Try.func50, Try.ntmps50
    go_wp2_with fail
    rw [Fl.unb_wrap hu hs]
    refine (refIs_any _ _).mono ?_
    rintro e w' ⟨rfl, rfl⟩
    cases hi : Fl.isB (Fl.unbN u)
    · have hg : Fl.gotN (Fl.unbN u) = 0 := by unfold Fl.gotN; rw [hi]; rfl
      go_wp2
      exact bodyPost_ret (v := .agg #[.float .f64 0, .bool false]) (by simp [results, Try.results50, go_sem]) rfl ⟨by rw [hg, hi], (Below.refl _ _).alloc (Nat.le_refl _) _⟩
    · have hg : Fl.gotN (Fl.unbN u) = Fl.unbN u := by unfold Fl.gotN; rw [hi]; rfl
      have hb := Fl.bits_unb hu hi
      have hn : ((Fl.bitsN (Fl.unbN u) : Int) != (u : Int)) = false := by rw [hb]; simp
      clear hb
      go_wp2_with (go_at_call 48; refine (refBits_any _ _ (Fl.unbN_lt hu)).mono ?_; rintro e w' ⟨rfl, rfl⟩)
      exact bodyPost_ret (v := .agg #[.float .f64 (Fl.unbN u), .bool true]) (by simp [results, Try.results50, go_sem]) rfl ⟨by rw [hg, hi], (Below.refl _ _).alloc (Nat.le_refl _) _⟩

end Go.Proofs.Ytanljohnmaokeaa
