/- Walks of the takes: what stands behind a kind's byte, read. -/
import Derived.Test.YtanljohnmaokeaaD0
import Derived.Test.YtanljohnmaokeaaK2
namespace Go.Proofs.Ytanljohnmaokeaa
open Go.RowKit Go.Sort
attribute [local go_sem] Fl.run_store_float Try.float64bits Try.float64frombits

/-- A whole number without a sign as one with. -/
def Vl.i64N (u : Nat) : Int := wrap64 (u : Int)

set_option maxHeartbeats 400000 in
theorem takeNull_any (t : ByteArray) (w : World) :
    Calls Try.prog 64 #[.string t] w fun e w' => e = .returned (.tuple #[.agg #[.int .i64 0, .int .i64 0, .float .f64 0, .string ⟨#[]⟩], .int .i64 0, .bool true]) ∧ Below w.heap.size w w' := by
  go_enter Try.func64, Try.ntmps64
  go_wp2
  exact bodyPost_ret (v := .tuple #[.agg #[.int .i64 0, .int .i64 0, .float .f64 0, .string ⟨#[]⟩], .int .i64 0, .bool true]) (by simp [results, Try.results64, go_sem]) rfl ⟨rfl, Vl.bal (Below.refl _ _) _⟩

set_option maxHeartbeats 400000 in
theorem takeBool_no (t : ByteArray) (w : World) (ht : t.size < 1) :
    Calls Try.prog 67 #[.string t] w fun e w' => e = .returned (.tuple #[.agg #[.int .i64 1, .int .i64 0, .float .f64 0, .string ⟨#[]⟩], .int .i64 1, .bool false]) ∧ Below w.heap.size w w' := by
  go_enter Try.func67, Try.ntmps67
  go_wp2_with fail
  refine (number_short t 1 _ ht).mono ?_
  rintro e w1 ⟨rfl, hq⟩
  obtain rfl := hq.symm
  go_wp2
  exact bodyPost_ret (v := .tuple #[.agg #[.int .i64 1, .int .i64 0, .float .f64 0, .string ⟨#[]⟩], .int .i64 1, .bool false]) (by simp [results, Try.results67, go_sem]) rfl ⟨rfl, Vl.bal (Below.refl _ _) _⟩

set_option maxHeartbeats 400000 in
theorem takeBool_yes (t : ByteArray) (w : World) (ht : 1 ≤ t.size) :
    Calls Try.prog 67 #[.string t] w fun e w' => e = .returned (.tuple #[.agg #[.int .i64 1, .int .i64 (Vl.i64N (Vl.nv t 1)), .float .f64 0, .string ⟨#[]⟩], .int .i64 1, .bool true]) ∧ Below w.heap.size w w' := by
  go_enter Try.func67, Try.ntmps67
  go_wp2_with fail
  refine (number_any t 1 _ ht (by omega)).mono ?_
  rintro e w1 ⟨rfl, hq⟩
  obtain rfl := hq.symm
  go_wp2
  exact bodyPost_ret (v := .tuple #[.agg #[.int .i64 1, .int .i64 (Vl.i64N (Vl.nv t 1)), .float .f64 0, .string ⟨#[]⟩], .int .i64 1, .bool true]) (by simp [results, Try.results67, go_sem, Vl.i64N]) rfl ⟨rfl, Vl.bal (Below.refl _ _) _⟩

set_option maxHeartbeats 400000 in
theorem takeInt_no (t : ByteArray) (w : World) (ht : t.size < 8) :
    Calls Try.prog 70 #[.string t] w fun e w' => e = .returned (.tuple #[.agg #[.int .i64 2, .int .i64 0, .float .f64 0, .string ⟨#[]⟩], .int .i64 8, .bool false]) ∧ Below w.heap.size w w' := by
  go_enter Try.func70, Try.ntmps70
  go_wp2_with fail
  refine (number_short t 8 _ ht).mono ?_
  rintro e w1 ⟨rfl, hq⟩
  obtain rfl := hq.symm
  go_wp2
  exact bodyPost_ret (v := .tuple #[.agg #[.int .i64 2, .int .i64 0, .float .f64 0, .string ⟨#[]⟩], .int .i64 8, .bool false]) (by simp [results, Try.results70, go_sem]) rfl ⟨rfl, Vl.bal (Below.refl _ _) _⟩

set_option maxHeartbeats 400000 in
theorem takeInt_yes (t : ByteArray) (w : World) (ht : 8 ≤ t.size) :
    Calls Try.prog 70 #[.string t] w fun e w' => e = .returned (.tuple #[.agg #[.int .i64 2, .int .i64 (Vl.i64N (Vl.nv t 8)), .float .f64 0, .string ⟨#[]⟩], .int .i64 8, .bool true]) ∧ Below w.heap.size w w' := by
  go_enter Try.func70, Try.ntmps70
  go_wp2_with fail
  refine (number_any t 8 _ ht (by omega)).mono ?_
  rintro e w1 ⟨rfl, hq⟩
  obtain rfl := hq.symm
  go_wp2
  exact bodyPost_ret (v := .tuple #[.agg #[.int .i64 2, .int .i64 (Vl.i64N (Vl.nv t 8)), .float .f64 0, .string ⟨#[]⟩], .int .i64 8, .bool true]) (by simp [results, Try.results70, go_sem, Vl.i64N]) rfl ⟨rfl, Vl.bal (Below.refl _ _) _⟩

set_option maxHeartbeats 400000 in
theorem takeFloat_no (t : ByteArray) (w : World) (ht : t.size < 8) :
    Calls Try.prog 73 #[.string t] w fun e w' => e = .returned (.tuple #[.agg #[.int .i64 3, .int .i64 0, .float .f64 (Fl.gotN (Fl.unbN 0)), .string ⟨#[]⟩], .int .i64 8, .bool false]) ∧ Below w.heap.size w w' := by
  go_enter Try.func73, Try.ntmps73
  go_wp2_with fail
  refine (number_short t 8 _ ht).mono ?_
  rintro e w1 ⟨rfl, hq⟩
  obtain rfl := hq.symm
  go_wp2_with fail
  refine (from_any 0 _ (by omega)).mono ?_
  rintro e w1 ⟨rfl, hq⟩
  obtain rfl := hq.symm
  go_wp2
  exact bodyPost_ret (v := .tuple #[.agg #[.int .i64 3, .int .i64 0, .float .f64 (Fl.gotN (Fl.unbN 0)), .string ⟨#[]⟩], .int .i64 8, .bool false]) (by simp [results, Try.results73, go_sem]) rfl ⟨rfl, Vl.bal (Below.refl _ _) _⟩

set_option maxHeartbeats 400000 in
theorem takeFloat_yes (t : ByteArray) (w : World) (ht : 8 ≤ t.size) :
    Calls Try.prog 73 #[.string t] w fun e w' => e = .returned (.tuple #[.agg #[.int .i64 3, .int .i64 0, .float .f64 (Fl.gotN (Fl.unbN (Vl.nv t 8))), .string ⟨#[]⟩], .int .i64 8, .bool (Fl.isB (Fl.unbN (Vl.nv t 8)))]) ∧ Below w.heap.size w w' := by
  have hu := Vl.nv_lt64 t (Nat.le_refl 8)
  go_enter Try.func73, Try.ntmps73
  go_wp2_with fail
  refine (number_any t 8 _ ht (by omega)).mono ?_
  rintro e w1 ⟨rfl, hq⟩
  obtain rfl := hq.symm
  go_wp2_with fail
  refine (from_any _ _ hu).mono ?_
  rintro e w1 ⟨rfl, hq⟩
  obtain rfl := hq.symm
  go_wp2
  exact bodyPost_ret (v := .tuple #[.agg #[.int .i64 3, .int .i64 0, .float .f64 (Fl.gotN (Fl.unbN (Vl.nv t 8))), .string ⟨#[]⟩], .int .i64 8, .bool (Fl.isB (Fl.unbN (Vl.nv t 8)))]) (by simp [results, Try.results73, go_sem]) rfl ⟨rfl, Vl.bal (Below.refl _ _) _⟩

set_option maxHeartbeats 400000 in
theorem takeText_no (t : ByteArray) (w : World) (ht : t.size < 2) :
    Calls Try.prog 76 #[.string t] w fun e w' => e = .returned (.tuple #[.agg #[.int .i64 0, .int .i64 0, .float .f64 0, .string ⟨#[]⟩], .int .i64 0, .bool false]) ∧ Below w.heap.size w w' := by
  go_enter Try.func76, Try.ntmps76
  go_wp2_with fail
  refine (number_short t 2 _ ht).mono ?_
  rintro e w1 ⟨rfl, hq⟩
  obtain rfl := hq.symm
  go_wp2
  exact bodyPost_ret (v := .tuple #[.agg #[.int .i64 0, .int .i64 0, .float .f64 0, .string ⟨#[]⟩], .int .i64 0, .bool false]) (by simp [results, Try.results76, go_sem]) rfl ⟨rfl, Vl.bal (Below.refl _ _) _⟩

set_option maxHeartbeats 1000000 in
theorem takeText_short (t : ByteArray) (w : World) (ht : 2 ≤ t.size) (he : t.size < 2 + Vl.nv t 2) :
    Calls Try.prog 76 #[.string t] w fun e w' => e = .returned (.tuple #[.agg #[.int .i64 0, .int .i64 0, .float .f64 0, .string ⟨#[]⟩], .int .i64 0, .bool false]) ∧ Below w.heap.size w w' := by
  have hu := Vl.nv_lt t 2
  go_enter Try.func76, Try.ntmps76
  go_wp2_with fail
  refine (number_any t 2 _ ht (by omega)).mono ?_
  rintro e w1 ⟨rfl, hq⟩
  obtain rfl := hq.symm
  generalize Vl.nv t 2 = u at he hu
  have hu2 : u < 65536 := hu
  have he' : (t.size : Int) < 2 + (u : Int) := by omega
  clear hu
  go_wp2
  exact bodyPost_ret (v := .tuple #[.agg #[.int .i64 0, .int .i64 0, .float .f64 0, .string ⟨#[]⟩], .int .i64 0, .bool false]) (by simp [results, Try.results76, go_sem]) rfl ⟨rfl, Vl.bal (Below.refl _ _) _⟩

set_option maxHeartbeats 1000000 in
theorem takeText_yes (t : ByteArray) (u : Nat) (w : World) (HU : Hid (Vl.nv t 2 = u)) (hu2 : u < 65536) (ht : 2 ≤ t.size) (he : 2 + u ≤ t.size) :
    Calls Try.prog 76 #[.string t] w fun e w' => e = .returned (.tuple #[.agg #[.int .i64 4, .int .i64 0, .float .f64 0, .string (t.extract 2 (2 + u))], .int .i64 (2 + (u : Int)), .bool true]) ∧ Below w.heap.size w w' := by
  have he' : 2 + (u : Int) ≤ (t.size : Int) := by omega
  have hx : (t.extract 2 (2 + u)).size ≤ 100000 := by rw [ByteArray.size_extract]; omega
  go_enter Try.func76, Try.ntmps76
  go_wp2_with fail
  refine (number_any t 2 _ ht (by omega)).mono ?_
  rintro e w1 ⟨rfl, hq⟩
  obtain rfl := hq.symm
  rw [HU.out]
  go_wp2_with fail
  refine (clone_any _ _ hx).mono ?_
  rintro e w1 ⟨rfl, hb⟩
  obtain ⟨hc, hf⟩ := Vl.bcell hb
  have hz : w.heap.size < w1.heap.size := by have := hb.size; simp at this; omega
  go_wp2
  exact bodyPost_ret (v := .tuple #[.agg #[.int .i64 4, .int .i64 0, .float .f64 0, .string (t.extract 2 (2 + u))], .int .i64 (2 + (u : Int)), .bool true]) (by simp [results, Try.results76, go_sem, hc]) rfl ⟨rfl, by repeat (first | exact Vl.btr (Vl.bal (Below.refl _ _) _) hb | refine Below.setCell ?_ (by exact Nat.le_refl _) _)⟩

end Go.Proofs.Ytanljohnmaokeaa
