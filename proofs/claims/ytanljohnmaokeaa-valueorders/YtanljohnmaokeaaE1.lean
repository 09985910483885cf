/- Walks of what stands behind a kind's byte. -/
import Derived.Test.YtanljohnmaokeaaB1
import Derived.Test.YtanljohnmaokeaaK2
import Derived.Deep.QuietTactic
import Derived.BigQuiet
import Derived.Deep.RegionWith
import Derived.Deep.DrawnRows
namespace Go.Proofs.Ytanljohnmaokeaa
open Go.RowKit Go.Sort
attribute [local go_sem] Fl.run_store_float
attribute [local go_sem ↓] Go.wp_at_zero Go.wp_at_succ

/-- A whole number with a sign as one without. -/
def Vl.u64N (n : Int) : Nat := (n % 18446744073709551616).toNat
theorem Vl.wrap_u64 (n : Int) : IntKind.u64.wrap n = ((Vl.u64N n : Nat) : Int) := by
  rw [IntKind.wrap_u64]; unfold Vl.u64N; omega

set_option maxHeartbeats 400000 in
theorem putNull_any (k n : Int) (f : Nat) (s : ByteArray) (w : World) :
    Calls Try.prog 63 #[.agg #[.int .i64 k, .int .i64 n, .float .f64 f, .string s]] w fun e w' => e = .returned (.string ⟨#[]⟩) ∧ Below w.heap.size w w' := by
  go_enter Try.func63, Try.ntmps63
  go_wp2
  go_ret
  exact ⟨rfl, Vl.bal (Below.refl _ _) _⟩

set_option maxHeartbeats 400000 in
theorem putBool_any (k n : Int) (f : Nat) (s : ByteArray) (w : World) :
    Calls Try.prog 66 #[.agg #[.int .i64 k, .int .i64 n, .float .f64 f, .string s]] w fun e w' => e = .returned (.string ⟨(Vl.beL (Vl.u64N n) 1).toArray⟩) ∧ Below w.heap.size w w' := by
  go_enter Try.func66, Try.ntmps66
  go_wp2_with fail
  rw [Vl.wrap_u64]
  refine (bigEndian_any _ 1 _ (by omega)).mono ?_
  rintro e w1 ⟨rfl, hb⟩
  go_wp2
  go_ret
  exact ⟨rfl, Vl.btr (Vl.bal (Below.refl _ _) _) hb⟩

set_option maxHeartbeats 400000 in
theorem putInt_any (k n : Int) (f : Nat) (s : ByteArray) (w : World) :
    Calls Try.prog 69 #[.agg #[.int .i64 k, .int .i64 n, .float .f64 f, .string s]] w fun e w' => e = .returned (.string ⟨(Vl.beL (Vl.u64N n) 8).toArray⟩) ∧ Below w.heap.size w w' := by
  go_enter Try.func69, Try.ntmps69
  go_wp2_with fail
  rw [Vl.wrap_u64]
  refine (bigEndian_any _ 8 _ (by omega)).mono ?_
  rintro e w1 ⟨rfl, hb⟩
  go_wp2
  go_ret
  exact ⟨rfl, Vl.btr (Vl.bal (Below.refl _ _) _) hb⟩

set_option maxHeartbeats 400000 in
theorem putFloat_any (k n : Int) (f : Nat) (s : ByteArray) (w : World) (hf : f < 18446744073709551616) :
    Calls Try.prog 72 #[.agg #[.int .i64 k, .int .i64 n, .float .f64 f, .string s]] w fun e w' => e = .returned (.string ⟨(Vl.beL (Fl.bitsN f) 8).toArray⟩) ∧ Below w.heap.size w w' := by
  go_enter Try.func72, Try.ntmps72
  go_wp2_with fail
  refine (bits_any _ _ hf).mono ?_
  rintro e w1 ⟨rfl, hq⟩
  obtain rfl := hq.symm
  go_wp2_with fail
  refine (bigEndian_any _ 8 _ (by omega)).mono ?_
  rintro e w1 ⟨rfl, hb⟩
  go_wp2
  go_ret
  exact ⟨rfl, Vl.btr (Vl.bal (Below.refl _ _) _) hb⟩

set_option maxHeartbeats 1000000 in
theorem putText_any (k n : Int) (f : Nat) (s : ByteArray) (w : World) (hs : s.size ≤ 256) :
    Calls Try.prog 75 #[.agg #[.int .i64 k, .int .i64 n, .float .f64 f, .string s]] w fun e w' => e = .returned (.string (⟨(Vl.beL s.size 2).toArray⟩ ++ s)) ∧ Below w.heap.size w w' := by
  have hw : IntKind.u64.wrap (s.size : Int) = ((s.size : Nat) : Int) := by rw [IntKind.wrap_u64]; omega
  have hl : (⟨(Vl.beL s.size 2).toArray⟩ : ByteArray).size = 2 := by show (Vl.beL s.size 2).toArray.size = 2; simp [Vl.beL_length]
  go_enter Try.func75, Try.ntmps75
  go_wp2_with fail
  go_region_with (first | (go_at_call 87; refine (bigEndian_any _ 2 _ (by omega)).mono ?_; rintro e w1 ⟨rfl, hb⟩; obtain ⟨hc, hf⟩ := Vl.bcell hb))
  all_goals
    go_wp2_with fail
    go_ret
    exact ⟨rfl, Vl.btr (Below.drew (Vl.bal (Below.refl _ _) _)) hb⟩

end Go.Proofs.Ytanljohnmaokeaa
