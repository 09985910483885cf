/- ValueTells: the walk. -/
import Derived.Test.YtanljohnmaokeaaK2
import Derived.Test.YtanljohnmaokeaaM1
import Derived.Test.YtanljohnmaokeaaX2
import Derived.Deep.RegionHeld3
namespace Go.Proofs.Ytanljohnmaokeaa
open Go.RowKit
attribute [local go_sem] Fl.run_store_float Try.float64bits Try.float64frombits

/-- What wakes promises. -/
def Vl.WakesOk : Prop := ∀ w : World, Calls Try.prog 10 #[] w fun e w' => e = .returned (.bool true) ∧ Below w.heap.size w w'
/-- What Good promises. -/
def Vl.GoodOk : Prop := ∀ (k n : Int) (f : Nat) (s : ByteArray) (w : World), Calls Try.prog 14 #[.agg #[.int .i64 k, .int .i64 n, .float .f64 f, .string s]] w fun e w' => e = .returned (.bool (Vl.goodB k n f s)) ∧ Below w.heap.size w w'

/-- The two boxes lie where they were laid. -/
def Vl.TellS (a b : Vl.V) (w w' : World) : Prop :=
  w'.cell? ⟨w.heap.size, 0, none⟩ = some (.int .i64 a.k) ∧ w'.cell? ⟨w.heap.size, 1, none⟩ = some (.int .i64 a.n) ∧ w'.cell? ⟨w.heap.size, 2, none⟩ = some (.float .f64 a.f) ∧ w'.cell? ⟨w.heap.size, 3, none⟩ = some (.string a.s) ∧
  w'.cell? ⟨w.heap.size + 1, 0, none⟩ = some (.int .i64 b.k) ∧ w'.cell? ⟨w.heap.size + 1, 1, none⟩ = some (.int .i64 b.n) ∧ w'.cell? ⟨w.heap.size + 1, 2, none⟩ = some (.float .f64 b.f) ∧ w'.cell? ⟨w.heap.size + 1, 3, none⟩ = some (.string b.s) ∧
  w.heap.size + 2 ≤ w'.heap.size ∧ Below w.heap.size w w'
theorem Vl.four {w : World} {h : Nat} {v : Vl.V} (hh : w.heap[h]? = some (.cells v.cs 24)) : w.cell? ⟨h, 0, none⟩ = some (.int .i64 v.k) ∧ w.cell? ⟨h, 1, none⟩ = some (.int .i64 v.n) ∧ w.cell? ⟨h, 2, none⟩ = some (.float .f64 v.f) ∧ w.cell? ⟨h, 3, none⟩ = some (.string v.s) := by
  refine ⟨?_, ?_, ?_, ?_⟩ <;> simp [World.cell?, hh, Vl.V.cs]
theorem Vl.tell0 (a b : Vl.V) (w : World) : Vl.TellS a b w ((w.alloc (.cells a.cs 24)).alloc (.cells b.cs 24)) := by
  have e0 : ((w.alloc (.cells a.cs 24)).alloc (.cells b.cs 24)).heap = (w.heap.push (.cells a.cs 24)).push (.cells b.cs 24) := rfl
  have e1 : ((w.alloc (.cells a.cs 24)).alloc (.cells b.cs 24)).heap[w.heap.size]? = some (.cells a.cs 24) := by
    rw [e0, Array.getElem?_push, if_neg (by rw [Array.size_push]; omega), Array.getElem?_push, if_pos rfl]
  have e2 : ((w.alloc (.cells a.cs 24)).alloc (.cells b.cs 24)).heap[w.heap.size + 1]? = some (.cells b.cs 24) := by
    rw [e0, Array.getElem?_push, if_pos (by rw [Array.size_push])]
  obtain ⟨q0, q1, q2, q3⟩ := Vl.four e1
  obtain ⟨q4, q5, q6, q7⟩ := Vl.four e2
  refine ⟨q0, q1, q2, q3, q4, q5, q6, q7, ?_, ?_⟩
  · rw [e0, Array.size_push, Array.size_push]; omega
  · exact Vl.bal (Vl.bal (Below.refl _ _) _) _
theorem Vl.tellDrew {a b : Vl.V} {w w' : World} (h : Vl.TellS a b w w') : Vl.TellS a b w w'.drew := ⟨h.1, h.2.1, h.2.2.1, h.2.2.2.1, h.2.2.2.2.1, h.2.2.2.2.2.1, h.2.2.2.2.2.2.1, h.2.2.2.2.2.2.2.1, h.2.2.2.2.2.2.2.2.1, Vl.bdrewN h.2.2.2.2.2.2.2.2.2 1⟩
theorem Vl.tellKeep {a b : Vl.V} {w w0 w1 : World} (hb : Below w0.heap.size w0 w1) (h : Vl.TellS a b w w0) : Vl.TellS a b w w1 := by
  obtain ⟨h0, h1, h2, h3, h4, h5, h6, h7, h8, h9⟩ := h
  have hm := (Vl.bcell hb).1
  refine ⟨?_, ?_, ?_, ?_, ?_, ?_, ?_, ?_, Nat.le_trans h8 hb.size, Vl.btr h9 hb⟩
  · rw [hm _ _ (by omega)]; exact h0
  · rw [hm _ _ (by omega)]; exact h1
  · rw [hm _ _ (by omega)]; exact h2
  · rw [hm _ _ (by omega)]; exact h3
  · rw [hm _ _ (by omega)]; exact h4
  · rw [hm _ _ (by omega)]; exact h5
  · rw [hm _ _ (by omega)]; exact h6
  · rw [hm _ _ (by omega)]; exact h7
theorem Vl.tellB {a b : Vl.V} {w w' : World} (h : Vl.TellS a b w w') : Below w.heap.size w w' := h.2.2.2.2.2.2.2.2.2
theorem Vl.bself (w : World) : Below w.heap.size w w := Below.refl _ _
theorem Vl.btwo {w w' : World} {o p : Obj} (h : w' = (w.alloc o).alloc p) : Below w.heap.size w w' := by rw [h]; exact Vl.bal (Vl.bal (Below.refl _ _) _) _
theorem Vl.bone {w w' : World} {o : Obj} (h : w' = w.alloc o) : Below w.heap.size w w' := by rw [h]; exact Vl.bal (Below.refl _ _) _
theorem Vl.bnone {w w' : World} (h : w' = w) : Below w.heap.size w w' := by rw [h]; exact Below.refl _ _

set_option maxRecDepth 100000 in
set_option maxHeartbeats 1000000 in
theorem tells_large (hW : Hid Vl.WakesOk) (s : ByteArray) (a b : Vl.V) (w : World) (h : 20000 < s.size ∨ 2000 < a.s.size ∨ 2000 < b.s.size) :
    Calls Try.prog 3 #[.string s, .agg #[.int .i64 a.k, .int .i64 a.n, .float .f64 a.f, .string a.s], .agg #[.int .i64 b.k, .int .i64 b.n, .float .f64 b.f, .string b.s]] w fun e w' => e = .returned (.bool true) ∧ Below w.heap.size w w' := by
  cases h1 : decide ((20000 : Int) < (s.size : Int)) <;> cases h2 : decide ((2000 : Int) < (a.s.size : Int)) <;> cases h3 : decide ((2000 : Int) < (b.s.size : Int))
  · simp at h1 h2 h3; omega
  all_goals
    clear h
    go_enter Try.func3, Try.ntmps3
    go_wp2_with (first | (go_at_call 9; first | (refine (largeValue_any a _).mono ?_; rintro e w' ⟨rfl, rfl⟩) | (refine (largeValue_any b _).mono ?_; rintro e w' ⟨rfl, rfl⟩)) | (go_at_call 10; refine (hW.out _).mono ?_; rintro e w' ⟨rfl, hb⟩))
    go_ret
    exact ⟨rfl, by first | exact Vl.btr (Vl.bal (Vl.bal (Below.refl _ _) _) _) hb | exact Vl.btr (Vl.bal (Vl.bal (Vl.bal (Below.refl _ _) _) _) _) hb | exact Vl.btr (Vl.bal (Vl.bal (Vl.bal (Vl.bal (Below.refl _ _) _) _) _) _) hb⟩

set_option maxRecDepth 100000 in
set_option maxHeartbeats 4000000 in
theorem tells_first (hW : Hid Vl.WakesOk) (hG : Hid Vl.GoodOk) (s : ByteArray) (a b : Vl.V) (w : World) (hs : s.size ≤ 20000) (ha : a.s.size ≤ 2000) (hb0 : b.s.size ≤ 2000) (z : Int) (HZ : Hid (Vl.cmpV a b = z)) (HF : Hid (Vl.cmpV b a = -z)) (hz : IntKind.i64.wrap (-z) = -z) :
    Calls Try.prog 3 #[.string s, .agg #[.int .i64 a.k, .int .i64 a.n, .float .f64 a.f, .string a.s], .agg #[.int .i64 b.k, .int .i64 b.n, .float .f64 b.f, .string b.s]] w fun e w' => e = .returned (.bool true) ∧ Below w.heap.size w w' := by
  have h1 : decide ((20000 : Int) < (s.size : Int)) = false := decide_eq_false (by omega)
  have h2 : decide ((2000 : Int) < (a.s.size : Int)) = false := decide_eq_false (by omega)
  have h3 : decide ((2000 : Int) < (b.s.size : Int)) = false := decide_eq_false (by omega)
  have hq1 : (z == z) = true := by simp
  have hq2 : (-z == -z) = true := by simp
  clear hs ha hb0
  go_enter Try.func3, Try.ntmps3
  go_wp2_with fail
  have hS0 := Vl.tell0 a b w
  refine (largeValue_any a _).mono ?_
  rintro e w1 ⟨rfl, hq⟩
  have hS1 := Vl.tellKeep (Vl.bone hq) hS0
  clear hq hS0
  obtain ⟨c0, c1, c2, c3, c4, c5, c6, c7, c8⟩ := id hS1
  have HS1 := Vl.hid hS1
  clear hS1 c8
  go_wp2_with fail
  refine (largeValue_any b _).mono ?_
  rintro e w2 ⟨rfl, hq⟩
  have hS2 := Vl.tellKeep (Vl.bone hq) HS1.out
  clear hq HS1 c0 c1 c2 c3 c4 c5 c6 c7
  obtain ⟨c0, c1, c2, c3, c4, c5, c6, c7, c8⟩ := id hS2
  have HS2 := Vl.hid hS2
  clear hS2 c8
  go_wp2_with fail
  refine (valCompare_any a b _).mono ?_
  rintro e w3 ⟨rfl, hq⟩
  have hS3 := Vl.tellKeep (Vl.btwo hq) HS2.out
  rw [HZ.out]
  clear hq HS2 c0 c1 c2 c3 c4 c5 c6 c7
  have HS3 := Vl.hid hS3
  clear hS3
  go_wp2_with fail
  go_region_held3 (fun w' =>
    w'.cell? ⟨w.heap.size, 0, none⟩ = some (.int .i64 a.k) ∧ w'.cell? ⟨w.heap.size, 1, none⟩ = some (.int .i64 a.n) ∧ w'.cell? ⟨w.heap.size, 2, none⟩ = some (.float .f64 a.f) ∧ w'.cell? ⟨w.heap.size, 3, none⟩ = some (.string a.s) ∧
    w'.cell? ⟨w.heap.size + 1, 0, none⟩ = some (.int .i64 b.k) ∧ w'.cell? ⟨w.heap.size + 1, 1, none⟩ = some (.int .i64 b.n) ∧ w'.cell? ⟨w.heap.size + 1, 2, none⟩ = some (.float .f64 b.f) ∧ w'.cell? ⟨w.heap.size + 1, 3, none⟩ = some (.string b.s) ∧
    w.heap.size + 2 ≤ w'.heap.size ∧ Below w.heap.size w w')
    (first | exact Vl.tellDrew HS3.out | exact Vl.tellKeep hb (by assumption))
    (first
      | (go_at_call 12; refine (name_any s _).mono ?_; rintro e w' ⟨rfl, hq⟩; have hb := Vl.bnone hq; clear hq)
      | (go_at_call 13; refine (refName_any s _).mono ?_; rintro e w' ⟨rfl, hq⟩; have hb := Vl.bnone hq; clear hq)
      | (go_at_call 14; refine (hG.out a.k a.n a.f a.s _).mono ?_; rintro e w' ⟨rfl, hb⟩)
      | (go_at_call 15; refine (refGood_any a.k a.n a.f a.s _).mono ?_; rintro e w' ⟨rfl, hb⟩)
      | (go_at_call 16; refine (refCmpV_any a b _).mono ?_; rintro e w' ⟨rfl, hq⟩; have hb := Vl.btwo hq; clear hq; rw [HZ.out])
      | (go_at_call 17; refine (valSame_any a b _).mono ?_; rintro e w' ⟨rfl, hb⟩; rw [HZ.out])
      | (go_at_call 11; refine (valCompare_any b a _).mono ?_; rintro e w' ⟨rfl, hq⟩; have hb := Vl.btwo hq; clear hq; rw [HF.out])
      | (go_at_call 10; refine (hW.out _).mono ?_; rintro e w' ⟨rfl, hb⟩))
  all_goals
    go_wp2
    go_ret
    exact ⟨rfl, Vl.tellB (a := a) (b := b) (by assumption)⟩

theorem tells_any (hW : Vl.WakesOk) (hG : Vl.GoodOk) (s : ByteArray) (a b : Vl.V) (w : World) :
    Calls Try.prog 3 #[.string s, .agg #[.int .i64 a.k, .int .i64 a.n, .float .f64 a.f, .string a.s], .agg #[.int .i64 b.k, .int .i64 b.n, .float .f64 b.f, .string b.s]] w fun e w' => e = .returned (.bool true) ∧ Below w.heap.size w w' := by
  by_cases h : 20000 < s.size ∨ 2000 < a.s.size ∨ 2000 < b.s.size
  · exact tells_large (Vl.hid hW) s a b w h
  · have hbd := Vl.cmpV_ok.bd a b
    exact tells_first (Vl.hid hW) (Vl.hid hG) s a b w (by omega) (by omega) (by omega) (Vl.cmpV a b) (Vl.hid rfl) (Vl.hid (Vl.cmpV_ok.flip a b)) (by rcases hbd with h | h | h <;> rw [h] <;> rfl)

end Go.Proofs.Ytanljohnmaokeaa
