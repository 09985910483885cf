/- ValueCodes: the walk. -/
import Derived.Test.YtanljohnmaokeaaBackLaw
import Derived.Test.YtanljohnmaokeaaE4
import Derived.Test.YtanljohnmaokeaaD6
namespace Go.Proofs.Ytanljohnmaokeaa
open Go.RowKit
attribute [local go_sem] Fl.run_store_float Try.float64bits Try.float64frombits Try.buildGot Try.buildGot0

theorem Vl.decT_eq (r : Option Vl.Got) : Vl.decT r = .tuple #[.agg #[.int .i64 (Vl.gotV r).k, .int .i64 (Vl.gotV r).n, .float .f64 (Vl.gotV r).f, .string (Vl.gotV r).s], .int .i64 (Vl.gotZ r), .bool (Vl.gotB r)] := rfl
theorem Vl.gotB_eq (r : Option Vl.Got) : decide ((0 : Int) < Vl.gotZ r) = Vl.gotB r := by
  cases r with
  | none => rfl
  | some g => exact decide_eq_true (by show (0 : Int) < 1 + (g.sz : Int); omega)

set_option maxRecDepth 100000 in
set_option maxHeartbeats 1000000 in
theorem codes_large (v : Vl.V) (s : ByteArray) (a : Int) (w : World) (h : 20000 < s.size ∨ 2000 < v.s.size) :
    Calls Try.prog 4 #[.agg #[.int .i64 v.k, .int .i64 v.n, .float .f64 v.f, .string v.s], .string s, .int .i64 a] w fun e w' => e = .returned (.bool true) ∧ Below w.heap.size w w' := by
  cases h1 : decide ((20000 : Int) < (s.size : Int)) <;> cases h3 : decide ((2000 : Int) < (v.s.size : Int))
  · simp at h1 h3; omega
  all_goals
    clear h
    go_enter Try.func4, Try.ntmps4
    go_wp2_with (first | (go_at_call 9; refine (largeValue_any v _).mono ?_; rintro e w' ⟨rfl, rfl⟩) | (go_at_call 10; refine (wakes_any _).mono ?_; rintro e w' ⟨rfl, hb⟩))
    go_ret
    exact ⟨rfl, by first | exact Vl.btr (Vl.bal (Below.refl _ _) _) hb | exact Vl.btr (Vl.bal (Vl.bal (Below.refl _ _) _) _) hb⟩

set_option maxRecDepth 100000 in
set_option maxHeartbeats 4000000 in
theorem codes_first (v : Vl.V) (s : ByteArray) (a : Int) (w : World) (HF : Hid (v.f < 18446744073709551616)) (hs : s.size ≤ 20000) (hv : v.s.size ≤ 2000) (x : ByteArray) (c : Int) (HX : Hid (Vl.encR v.k v.n v.f v.s = x)) (HE : Hid (Vl.encE v.k v.n v.f v.s = c))
    (g : Vl.V) (z : Int) (b : Bool) (HT : Hid (Vl.decT (Vl.dec s a) = .tuple #[.agg #[.int .i64 g.k, .int .i64 g.n, .float .f64 g.f, .string g.s], .int .i64 z, .bool b])) (HA : Hid (Vl.decA (Vl.dec s a) = .agg #[.int .i64 g.k, .int .i64 g.n, .float .f64 g.f, .string g.s, .int .i64 z])) (hz : decide ((0 : Int) < z) = b) :
    Calls Try.prog 4 #[.agg #[.int .i64 v.k, .int .i64 v.n, .float .f64 v.f, .string v.s], .string s, .int .i64 a] w fun e w' => e = .returned (.bool true) ∧ Below w.heap.size w w' := by
  have h1 : decide ((20000 : Int) < (s.size : Int)) = false := decide_eq_false (by omega)
  have h3 : decide ((2000 : Int) < (v.s.size : Int)) = false := decide_eq_false (by omega)
  have hxx : (x.toList == x.toList) = true := by simp
  have hcc : (c == c) = true := by simp
  have hzz : (z == z) = true := by simp
  have hbb : (b == b) = true := by simp
  have HS : Hid (s.size ≤ 100000) := Vl.hid (by omega)
  clear hs hv
  go_enter Try.func4, Try.ntmps4
  go_wp2_with fail
  refine (largeValue_any v _).mono ?_
  rintro e w' ⟨rfl, hq⟩
  have hB0 : Below w.heap.size w w' := by rw [hq]; exact Vl.bal (Vl.bal (Below.refl _ _) _) _
  obtain ⟨a0, a1, a2, a3, a4, a5⟩ := Vl.box v w.heap.size (Vl.boxed w v) (w1 := w') (by rw [hq]; exact Vl.bal (Below.refl _ _) _)
  have HB0 := Vl.hid hB0
  clear hq hB0
  go_wp2_with fail
  refine (encode_any v.k v.n v.f v.s _ HF.out).mono ?_
  rintro e w1 ⟨rfl, hb1⟩
  rw [HX.out, HE.out]
  obtain ⟨b0, b1, b2, b3, b4, b5⟩ := Vl.box v w.heap.size a5 hb1
  have HB1 := Vl.hid (Vl.btr HB0.out hb1)
  clear hb1 a0 a1 a2 a3 a4 a5
  go_wp2_with fail
  refine (refEncode_any v.k v.n v.f v.s _ HF.out).mono ?_
  rintro e w2 ⟨rfl, hb2⟩
  rw [HX.out, HE.out]
  have HB2 := Vl.hid (Vl.btr HB1.out hb2)
  clear hb2 b0 b1 b2 b3 b4 b5
  go_wp2_with fail
  refine (decode_any s a _ HS.out).mono ?_
  rintro e w3 ⟨rfl, hb3⟩
  rw [HT.out]
  have HB3 := Vl.hid (Vl.btr HB2.out hb3)
  clear hb3
  go_wp2_with fail
  refine (refDecode_any s a _ HS.out).mono ?_
  rintro e w4 ⟨rfl, hb4⟩
  rw [HA.out]
  obtain ⟨c0, c1, c2, c3, c4, c5⟩ := Vl.box g w3.heap.size (Vl.boxed w3 g) hb4
  have HB4 := Vl.hid (Vl.btr (Vl.bal HB3.out _) hb4)
  clear hb4 c5
  go_wp2_with fail
  refine (keepValue_same g _).mono ?_
  rintro e w5 ⟨rfl, hb5⟩
  have d4 : w5.cell? ⟨w4.heap.size, 4, none⟩ = some (.int .i64 z) := by rw [(Vl.bcell hb5).1 _ _ (by simp)]; simp [go_sem]
  have HB5 := Vl.hid (Vl.btr (Vl.bal HB4.out _) hb5)
  clear hb5 c0 c1 c2 c3 c4
  go_wp2_with (first | (go_at_call 10; refine (wakes_any _).mono ?_; rintro e w6 ⟨rfl, hb6⟩))
  go_ret
  exact ⟨rfl, Vl.btr HB5.out hb6⟩

theorem codes_any (v : Vl.V) (s : ByteArray) (a : Int) (w : World) (hf : v.f < 18446744073709551616) :
    Calls Try.prog 4 #[.agg #[.int .i64 v.k, .int .i64 v.n, .float .f64 v.f, .string v.s], .string s, .int .i64 a] w fun e w' => e = .returned (.bool true) ∧ Below w.heap.size w w' := by
  by_cases h : 20000 < s.size ∨ 2000 < v.s.size
  · exact codes_large v s a w h
  · exact codes_first v s a w (Vl.hid hf) (by omega) (by omega) _ _ (Vl.hid rfl) (Vl.hid rfl) (Vl.gotV (Vl.dec s a)) (Vl.gotZ (Vl.dec s a)) (Vl.gotB (Vl.dec s a)) (Vl.hid (Vl.decT_eq _)) (Vl.hid rfl) (Vl.gotB_eq _)

end Go.Proofs.Ytanljohnmaokeaa
