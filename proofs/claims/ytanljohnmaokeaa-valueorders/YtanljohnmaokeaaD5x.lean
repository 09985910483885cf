/- The reference's Decode: its walks. -/
import Derived.Test.YtanljohnmaokeaaB1
import Derived.Test.YtanljohnmaokeaaK2
import Derived.Test.YtanljohnmaokeaaW2
namespace Go.Proofs.Ytanljohnmaokeaa
open Go.RowKit
attribute [local go_sem] Fl.run_store_float Try.float64bits Try.float64frombits Try.buildGot Try.buildGot0

set_option maxRecDepth 100000 in
set_option maxHeartbeats 2000000 in
theorem refDecode_o (s : ByteArray) (a : Nat) (w : World) (k : Nat) (ha : a < s.size) (hs : s.size ≤ 100000) (hc : Vl.cAt s a = k) (hk : 5 ≤ k) (hk2 : k < 256) (G : Bool) (hg : Vl.goodB (k : Int) 0 0 ⟨#[]⟩ = G) :
    Calls Try.prog 21 #[.string s, .int .i64 (a : Int)] w fun e w' => e = .returned (bif G then .agg #[.int .i64 (k : Int), .int .i64 0, .float .f64 0, .string ⟨#[]⟩, .int .i64 1] else .agg #[.int .i64 0, .int .i64 0, .float .f64 0, .string ⟨#[]⟩, .int .i64 0]) ∧ Below w.heap.size w w' := by
  have hX : ∀ w, (Instr.index 9 (.string s) (.int .i64 (a : Int))).run Try.prog w = .ok (.int .u8 (k : Int)) w := by
    intro w; have h := Vl.idx_str 9 Try.underlying9 s a ha w; rw [hc] at h; exact h
  have ha1 : ¬ (a : Int) < 0 := by omega
  have ha2 : (a : Int) < (s.size : Int) := by omega
  have e0 : ((k : Int) == 0) = false := by simp; omega
  have e1 : ((k : Int) == 1) = false := by simp; omega
  have e2 : ((k : Int) == 2) = false := by simp; omega
  have e3 : ((k : Int) == 3) = false := by simp; omega
  have e4 : ((k : Int) == 4) = false := by simp; omega
  have hk3 : (k : Int) < 256 := by omega
  clear hc
  cases G
  · go_enter Try.func21, Try.ntmps21
    go_wp2_with fail
    refine (refGood_any _ _ _ _ _).mono ?_
    rintro e w5 ⟨rfl, hb5⟩
    rw [hg]
    have hm5 := (Vl.bcell hb5).1
    have hf5 := (Vl.bcell hb5).2
    have HB := Vl.hid hb5
    have r0 : w5.cell? ⟨w.heap.size, 0, none⟩ = some (.int .i64 0) := by rw [hm5 _ _ (by simp [go_sem])]; simp [go_sem]
    have q0 : w5.frozen? ⟨w.heap.size, 0, none⟩ = false := by rw [hf5 _ _ (by simp [go_sem])]; simp [go_sem]
    have r1 : w5.cell? ⟨w.heap.size, 1, none⟩ = some (.int .i64 0) := by rw [hm5 _ _ (by simp [go_sem])]; simp [go_sem]
    have q1 : w5.frozen? ⟨w.heap.size, 1, none⟩ = false := by rw [hf5 _ _ (by simp [go_sem])]; simp [go_sem]
    have r2 : w5.cell? ⟨w.heap.size, 2, none⟩ = some (.float .f64 0) := by rw [hm5 _ _ (by simp [go_sem])]; simp [go_sem]
    have q2 : w5.frozen? ⟨w.heap.size, 2, none⟩ = false := by rw [hf5 _ _ (by simp [go_sem])]; simp [go_sem]
    have r3 : w5.cell? ⟨w.heap.size, 3, none⟩ = some (.string ⟨#[]⟩) := by rw [hm5 _ _ (by simp [go_sem])]; simp [go_sem]
    have q3 : w5.frozen? ⟨w.heap.size, 3, none⟩ = false := by rw [hf5 _ _ (by simp [go_sem])]; simp [go_sem]
    have r4 : w5.cell? ⟨w.heap.size, 4, none⟩ = some (.int .i64 0) := by rw [hm5 _ _ (by simp [go_sem])]; simp [go_sem]
    have q4 : w5.frozen? ⟨w.heap.size, 4, none⟩ = false := by rw [hf5 _ _ (by simp [go_sem])]; simp [go_sem]
    have t0 : w5.cell? ⟨w.heap.size + 1, 0, none⟩ = some (.int .i64 (k : Int)) := by rw [hm5 _ _ (by simp [go_sem])]; simp [go_sem]
    have t1 : w5.cell? ⟨w.heap.size + 1, 1, none⟩ = some (.int .i64 0) := by rw [hm5 _ _ (by simp [go_sem])]; simp [go_sem]
    have t2 : w5.cell? ⟨w.heap.size + 1, 2, none⟩ = some (.float .f64 0) := by rw [hm5 _ _ (by simp [go_sem])]; simp [go_sem]
    have t3 : w5.cell? ⟨w.heap.size + 1, 3, none⟩ = some (.string ⟨#[]⟩) := by rw [hm5 _ _ (by simp [go_sem])]; simp [go_sem]
    clear hb5 hm5 hf5
    go_wp2_with fail
    refine bodyPost_ret (v := .agg #[.int .i64 0, .int .i64 0, .float .f64 0, .string ⟨#[]⟩, .int .i64 0]) (by simp [results, Try.results21, go_sem, r0, r1, r2, r3, r4]) rfl ⟨rfl, ?_⟩
    clear r0 r1 r2 r3 r4 q0 q1 q2 q3 q4 t0 t1 t2 t3
    repeat (first | refine Below.setCell ?_ (Nat.le_refl _) _ | exact Vl.btr (Vl.bal (Vl.bal (Below.refl _ _) _) _) HB.out | refine Below.setCell ?_ (by simp) _)
  · go_enter Try.func21, Try.ntmps21
    go_wp2_with fail
    refine (refGood_any _ _ _ _ _).mono ?_
    rintro e w5 ⟨rfl, hb5⟩
    rw [hg]
    have hm5 := (Vl.bcell hb5).1
    have hf5 := (Vl.bcell hb5).2
    have HB := Vl.hid hb5
    have r0 : w5.cell? ⟨w.heap.size, 0, none⟩ = some (.int .i64 0) := by rw [hm5 _ _ (by simp [go_sem])]; simp [go_sem]
    have q0 : w5.frozen? ⟨w.heap.size, 0, none⟩ = false := by rw [hf5 _ _ (by simp [go_sem])]; simp [go_sem]
    have r1 : w5.cell? ⟨w.heap.size, 1, none⟩ = some (.int .i64 0) := by rw [hm5 _ _ (by simp [go_sem])]; simp [go_sem]
    have q1 : w5.frozen? ⟨w.heap.size, 1, none⟩ = false := by rw [hf5 _ _ (by simp [go_sem])]; simp [go_sem]
    have r2 : w5.cell? ⟨w.heap.size, 2, none⟩ = some (.float .f64 0) := by rw [hm5 _ _ (by simp [go_sem])]; simp [go_sem]
    have q2 : w5.frozen? ⟨w.heap.size, 2, none⟩ = false := by rw [hf5 _ _ (by simp [go_sem])]; simp [go_sem]
    have r3 : w5.cell? ⟨w.heap.size, 3, none⟩ = some (.string ⟨#[]⟩) := by rw [hm5 _ _ (by simp [go_sem])]; simp [go_sem]
    have q3 : w5.frozen? ⟨w.heap.size, 3, none⟩ = false := by rw [hf5 _ _ (by simp [go_sem])]; simp [go_sem]
    have r4 : w5.cell? ⟨w.heap.size, 4, none⟩ = some (.int .i64 0) := by rw [hm5 _ _ (by simp [go_sem])]; simp [go_sem]
    have q4 : w5.frozen? ⟨w.heap.size, 4, none⟩ = false := by rw [hf5 _ _ (by simp [go_sem])]; simp [go_sem]
    have t0 : w5.cell? ⟨w.heap.size + 1, 0, none⟩ = some (.int .i64 (k : Int)) := by rw [hm5 _ _ (by simp [go_sem])]; simp [go_sem]
    have t1 : w5.cell? ⟨w.heap.size + 1, 1, none⟩ = some (.int .i64 0) := by rw [hm5 _ _ (by simp [go_sem])]; simp [go_sem]
    have t2 : w5.cell? ⟨w.heap.size + 1, 2, none⟩ = some (.float .f64 0) := by rw [hm5 _ _ (by simp [go_sem])]; simp [go_sem]
    have t3 : w5.cell? ⟨w.heap.size + 1, 3, none⟩ = some (.string ⟨#[]⟩) := by rw [hm5 _ _ (by simp [go_sem])]; simp [go_sem]
    clear hb5 hm5 hf5
    go_wp2_with fail
    refine bodyPost_ret (v := .agg #[.int .i64 (k : Int), .int .i64 0, .float .f64 0, .string ⟨#[]⟩, .int .i64 1]) (by simp [results, Try.results21, go_sem, r0, r1, r2, r3, r4]) rfl ⟨rfl, ?_⟩
    clear r0 r1 r2 r3 r4 q0 q1 q2 q3 q4 t0 t1 t2 t3
    repeat (first | refine Below.setCell ?_ (Nat.le_refl _) _ | exact Vl.btr (Vl.bal (Vl.bal (Below.refl _ _) _) _) HB.out | refine Below.setCell ?_ (by simp) _)

end Go.Proofs.Ytanljohnmaokeaa