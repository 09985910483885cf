/- The reference's Decode: its walks. -/
import Derived.Test.YtanljohnmaokeaaB1
import Derived.Test.YtanljohnmaokeaaK2
import Derived.Test.YtanljohnmaokeaaW2
namespace Go.Proofs.Ytanljohnmaokeaa
open Go.RowKit
attribute [local go_sem] Fl.run_store_float Try.float64bits Try.float64frombits Try.buildGot Try.buildGot0

set_option maxRecDepth 100000 in
set_option maxHeartbeats 2000000 in
theorem refDecode_3n (s : ByteArray) (a : Nat) (w : World) (ha : a < s.size) (_hs : s.size ≤ 100000) (hc : Vl.cAt s a = 3) (hm : a + 9 ≤ s.size) (u : Nat) (HU : Hid (Vl.nv (s.extract (a + 1) (a + 9)) (s.extract (a + 1) (a + 9)).size = u)) (HU3 : Hid (u < 18446744073709551616)) (f : Nat) (HFr : Hid (Fl.gotN (Fl.unbN u) = f)) (HIs : Hid (Fl.isB (Fl.unbN u) = false)) :
    Calls Try.prog 21 #[.string s, .int .i64 (a : Int)] w fun e w' => e = .returned (.agg #[.int .i64 0, .int .i64 0, .float .f64 0, .string ⟨#[]⟩, .int .i64 0]) ∧ Below w.heap.size w w' := by
  have hX : ∀ w, (Instr.index 9 (.string s) (.int .i64 (a : Int))).run Try.prog w = .ok (.int .u8 3) w := by
    intro w; have h := Vl.idx_str 9 Try.underlying9 s a ha w; rw [hc] at h; exact h
  have ha1 : ¬ (a : Int) < 0 := by omega
  have ha2 : (a : Int) < (s.size : Int) := by omega
  have hl : decide ((s.size : Int) - (a : Int) - 1 < 8) = false := decide_eq_false (by omega)
  have hl2 : (a : Int) + 9 ≤ (s.size : Int) := by omega
  have HZ : Hid ((s.extract (a + 1) (a + 9)).size ≤ 8) := Vl.hid (by rw [ByteArray.size_extract]; omega)
  clear hc
  go_enter Try.func21, Try.ntmps21
  go_wp2_with fail
  refine (refNumber_any _ _ HZ.out).mono ?_
  rintro e w1 ⟨rfl, hq⟩
  rw [HU.out]
  obtain rfl := hq.symm
  go_wp2_with fail
  refine (refFrom_any u _ HU3.out).mono ?_
  rintro e w2 ⟨rfl, hb2⟩
  rw [HFr.out, HIs.out]
  have hm2 := (Vl.bcell hb2).1
  have hf2 := (Vl.bcell hb2).2
  have hs2 : w.heap.size + 2 ≤ w2.heap.size := by have h := hb2.size; simp at h; omega
  have HB2 := Vl.hid hb2
  have m0 : w2.cell? ⟨w.heap.size, 0, none⟩ = some (.int .i64 0) := by rw [hm2 _ _ (by simp [go_sem])]; simp [go_sem]
  have n0 : w2.frozen? ⟨w.heap.size, 0, none⟩ = false := by rw [hf2 _ _ (by simp [go_sem])]; simp [go_sem]
  have m1 : w2.cell? ⟨w.heap.size, 1, none⟩ = some (.int .i64 0) := by rw [hm2 _ _ (by simp [go_sem])]; simp [go_sem]
  have n1 : w2.frozen? ⟨w.heap.size, 1, none⟩ = false := by rw [hf2 _ _ (by simp [go_sem])]; simp [go_sem]
  have m2 : w2.cell? ⟨w.heap.size, 2, none⟩ = some (.float .f64 0) := by rw [hm2 _ _ (by simp [go_sem])]; simp [go_sem]
  have n2 : w2.frozen? ⟨w.heap.size, 2, none⟩ = false := by rw [hf2 _ _ (by simp [go_sem])]; simp [go_sem]
  have m3 : w2.cell? ⟨w.heap.size, 3, none⟩ = some (.string ⟨#[]⟩) := by rw [hm2 _ _ (by simp [go_sem])]; simp [go_sem]
  have n3 : w2.frozen? ⟨w.heap.size, 3, none⟩ = false := by rw [hf2 _ _ (by simp [go_sem])]; simp [go_sem]
  have m4 : w2.cell? ⟨w.heap.size, 4, none⟩ = some (.int .i64 0) := by rw [hm2 _ _ (by simp [go_sem])]; simp [go_sem]
  have n4 : w2.frozen? ⟨w.heap.size, 4, none⟩ = false := by rw [hf2 _ _ (by simp [go_sem])]; simp [go_sem]
  clear hb2 hm2 hf2
  have z1 : w.heap.size < w2.heap.size := by omega
  have z3 : w2.heap.size ≠ w.heap.size := by omega
  clear hs2
  go_wp2_with fail
  refine bodyPost_ret (v := .agg #[.int .i64 0, .int .i64 0, .float .f64 0, .string ⟨#[]⟩, .int .i64 0]) (by simp [results, Try.results21, go_sem, *]) rfl ⟨rfl, ?_⟩
  clear m0 m1 m2 m3 m4 n0 n1 n2 n3 n4
  repeat (first | refine Below.setCell ?_ (Nat.le_refl _) _ | refine Vl.bal ?_ _ | exact Vl.btr (Vl.bal (Vl.bal (Below.refl _ _) _) _) HB2.out | refine Below.setCell ?_ (by simp) _)

end Go.Proofs.Ytanljohnmaokeaa