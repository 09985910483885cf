/- The reference's Encode. -/
import Derived.Test.YtanljohnmaokeaaE3
namespace Go.Proofs.Ytanljohnmaokeaa
open Go.RowKit
attribute [local go_sem] Fl.run_store_float Try.float64bits Try.float64frombits

theorem Vl.conv2 {P : Program} {T S B : TypeId} (hT : P.underlying T = some (.slice B)) (hB : P.underlying B = some (.int .u8)) (hS : P.underlying S = some .string) (W : World) (r : Nat) (x y : UInt8) (h : W.cell? ⟨r, 0, none⟩ = some (.int .u8 (x.toNat : Int))) (h2 : W.cell? ⟨r, 1, none⟩ = some (.int .u8 (y.toNat : Int))) :
    (convert T S (.slice (some ⟨r, 0, none⟩) 2 2)).run P W = .ok (.string ⟨#[x, y]⟩) W := by
  have := run_convert_bytes_back (P := P) W T S B ⟨r, 0, none⟩ 2 [x, y] hT hB hS (fun j hj => by
    have e : j = 0 ∨ j = 1 := by simp at hj; omega
    rcases e with rfl | rfl
    · rw [Vl.add_plain]; exact h
    · rw [Vl.add_plain]; exact h2)
  exact this

theorem Vl.u64N_lt (n : Int) : Vl.u64N n < 18446744073709551616 := by unfold Vl.u64N; omega
theorem Vl.bitsN_lt {f : Nat} (hf : f < 18446744073709551616) : Fl.bitsN f < 18446744073709551616 := by
  have := Fl.canonN_lt hf
  unfold Fl.bitsN
  split <;> omega

set_option maxHeartbeats 1000000 in
theorem refEncode_no (k n : Int) (f : Nat) (s : ByteArray) (w : World) (hg : Vl.goodB k n f s = false) :
    Calls Try.prog 19 #[.agg #[.int .i64 k, .int .i64 n, .float .f64 f, .string s]] w fun e w' => e = .returned (.tuple #[.string ⟨#[]⟩, .int .i64 11]) ∧ Below w.heap.size w w' := by
  go_enter Try.func19, Try.ntmps19
  go_wp2_with (first | (go_at_call 15; refine (refGood_any _ _ _ _ _).mono ?_; rintro e w1 ⟨rfl, hb1⟩))
  go_ret2
  exact ⟨rfl, Vl.btr (Vl.bal (Below.refl _ _) _) hb1⟩

set_option maxRecDepth 100000 in
set_option maxHeartbeats 2000000 in
theorem refEncode_0 (n : Int) (f : Nat) (s : ByteArray) (w : World) (hg : Vl.goodB 0 n f s = true) :
    Calls Try.prog 19 #[.agg #[.int .i64 0, .int .i64 n, .float .f64 f, .string s]] w fun e w' => e = .returned (.tuple #[.string (Vl.encS 0 n f s), .int .i64 0]) ∧ Below w.heap.size w w' := by
  have hcv : ∀ (W : World) (r : Nat), W.cell? ⟨r, 0, none⟩ = some (.int .u8 0) → (convert 74 9 (.slice (some ⟨r, 0, none⟩) 1 1)).run Try.prog W = .ok (.string ⟨#[0]⟩) W := fun W r h => Vl.conv1 Try.underlying74 Try.underlying5 Try.underlying9 W r 0 h
  go_enter Try.func19, Try.ntmps19
  go_wp2_with fail
  refine (refGood_any _ _ _ _ _).mono ?_
  rintro e w1 ⟨rfl, hb1⟩
  have hm := Vl.bcell hb1
  have K0 : w1.cell? ⟨w.heap.size, 0, none⟩ = some (.int .i64 0) := (hm.1 w.heap.size 0 (by simp)).trans (by simp [go_sem])
  have K1 : w1.cell? ⟨w.heap.size, 1, none⟩ = some (.int .i64 n) := (hm.1 w.heap.size 1 (by simp)).trans (by simp [go_sem])
  have K2 : w1.cell? ⟨w.heap.size, 2, none⟩ = some (.float .f64 f) := (hm.1 w.heap.size 2 (by simp)).trans (by simp [go_sem])
  have K3 : w1.cell? ⟨w.heap.size, 3, none⟩ = some (.string s) := (hm.1 w.heap.size 3 (by simp)).trans (by simp [go_sem])
  have HB1 := Vl.hid (Vl.btr (Vl.bal (Below.refl _ _) _) hb1)
  have hw1 : w.heap.size < w1.heap.size := by have := hb1.size; simp at this; omega
  clear hm hb1
  go_wp2_with fail
  go_ret2
  exact ⟨rfl, by repeat (first | exact HB1.out | refine Vl.bal ?_ _)⟩

set_option maxRecDepth 100000 in
set_option maxHeartbeats 2000000 in
theorem refEncode_1 (n : Int) (f : Nat) (s : ByteArray) (w : World) (hg : Vl.goodB 1 n f s = true) :
    Calls Try.prog 19 #[.agg #[.int .i64 1, .int .i64 n, .float .f64 f, .string s]] w fun e w' => e = .returned (.tuple #[.string (Vl.encS 1 n f s), .int .i64 0]) ∧ Below w.heap.size w w' := by
  have hn : n = 0 ∨ n = 1 := by
    have h := hg
    rw [Vl.goodB_1] at h
    unfold Vl.good1 at h
    simp at h
    exact h.1.1
  have hE : (⟨#[1]⟩ : ByteArray) ++ ⟨#[n.toNat.toUInt8]⟩ = Vl.encS 1 n f s := by
    show _ = (⟨#[1]⟩ : ByteArray) ++ ⟨(Vl.beL (Vl.u64N n) 1).toArray⟩
    rcases hn with rfl | rfl <;> rfl
  have HE := Vl.hid hE
  clear hE
  have hw8 : n % 256 = ((n.toNat.toUInt8.toNat : Nat) : Int) := by rcases hn with rfl | rfl <;> rfl
  have HW8 := Vl.hid hw8
  clear hw8
  have hcn : ∀ (W : World) (r : Nat), W.cell? ⟨r, 0, none⟩ = some (.int .u8 (n % 256)) → (convert 74 9 (.slice (some ⟨r, 0, none⟩) 1 1)).run Try.prog W = .ok (.string ⟨#[n.toNat.toUInt8]⟩) W := fun W r h => Vl.conv1 Try.underlying74 Try.underlying5 Try.underlying9 W r _ (by rw [h, HW8.out])
  clear hn
  have hcv : ∀ (W : World) (r : Nat), W.cell? ⟨r, 0, none⟩ = some (.int .u8 1) → (convert 74 9 (.slice (some ⟨r, 0, none⟩) 1 1)).run Try.prog W = .ok (.string ⟨#[1]⟩) W := fun W r h => Vl.conv1 Try.underlying74 Try.underlying5 Try.underlying9 W r 1 h
  go_enter Try.func19, Try.ntmps19
  go_wp2_with fail
  refine (refGood_any _ _ _ _ _).mono ?_
  rintro e w1 ⟨rfl, hb1⟩
  have hm := Vl.bcell hb1
  have K0 : w1.cell? ⟨w.heap.size, 0, none⟩ = some (.int .i64 1) := (hm.1 w.heap.size 0 (by simp)).trans (by simp [go_sem])
  have K1 : w1.cell? ⟨w.heap.size, 1, none⟩ = some (.int .i64 n) := (hm.1 w.heap.size 1 (by simp)).trans (by simp [go_sem])
  have K2 : w1.cell? ⟨w.heap.size, 2, none⟩ = some (.float .f64 f) := (hm.1 w.heap.size 2 (by simp)).trans (by simp [go_sem])
  have K3 : w1.cell? ⟨w.heap.size, 3, none⟩ = some (.string s) := (hm.1 w.heap.size 3 (by simp)).trans (by simp [go_sem])
  have HB1 := Vl.hid (Vl.btr (Vl.bal (Below.refl _ _) _) hb1)
  have hw1 : w.heap.size < w1.heap.size := by have := hb1.size; simp at this; omega
  clear hm hb1
  go_wp2_with fail
  go_ret2
  exact ⟨by rw [← HE.out]; rfl, by repeat (first | exact HB1.out | refine Vl.bal ?_ _)⟩

set_option maxRecDepth 100000 in
set_option maxHeartbeats 2000000 in
theorem refEncode_2 (n : Int) (f : Nat) (s : ByteArray) (w : World) (hg : Vl.goodB 2 n f s = true) :
    Calls Try.prog 19 #[.agg #[.int .i64 2, .int .i64 n, .float .f64 f, .string s]] w fun e w' => e = .returned (.tuple #[.string (Vl.encS 2 n f s), .int .i64 0]) ∧ Below w.heap.size w w' := by
  have hcv : ∀ (W : World) (r : Nat), W.cell? ⟨r, 0, none⟩ = some (.int .u8 2) → (convert 74 9 (.slice (some ⟨r, 0, none⟩) 1 1)).run Try.prog W = .ok (.string ⟨#[2]⟩) W := fun W r h => Vl.conv1 Try.underlying74 Try.underlying5 Try.underlying9 W r 2 h
  go_enter Try.func19, Try.ntmps19
  go_wp2_with fail
  refine (refGood_any _ _ _ _ _).mono ?_
  rintro e w1 ⟨rfl, hb1⟩
  have hm := Vl.bcell hb1
  have K0 : w1.cell? ⟨w.heap.size, 0, none⟩ = some (.int .i64 2) := (hm.1 w.heap.size 0 (by simp)).trans (by simp [go_sem])
  have K1 : w1.cell? ⟨w.heap.size, 1, none⟩ = some (.int .i64 n) := (hm.1 w.heap.size 1 (by simp)).trans (by simp [go_sem])
  have K2 : w1.cell? ⟨w.heap.size, 2, none⟩ = some (.float .f64 f) := (hm.1 w.heap.size 2 (by simp)).trans (by simp [go_sem])
  have K3 : w1.cell? ⟨w.heap.size, 3, none⟩ = some (.string s) := (hm.1 w.heap.size 3 (by simp)).trans (by simp [go_sem])
  have HB1 := Vl.hid (Vl.btr (Vl.bal (Below.refl _ _) _) hb1)
  have hw1 : w.heap.size < w1.heap.size := by have := hb1.size; simp at this; omega
  clear hm hb1
  go_wp2_with fail
  rw [Vl.wrap_u64]
  refine (eight_any _ _ (Vl.u64N_lt n)).mono ?_
  rintro e w2 ⟨rfl, hb2⟩
  have hl : (⟨(Vl.beL (Vl.u64N n) 8).toArray⟩ : ByteArray).size = 8 := Vl.beA_size _ _
  go_wp2_with fail
  go_ret2
  exact ⟨rfl, Vl.btr (Vl.bal HB1.out _) hb2⟩

set_option maxRecDepth 100000 in
set_option maxHeartbeats 2000000 in
theorem refEncode_3 (n : Int) (f : Nat) (s : ByteArray) (w : World) (hf : f < 18446744073709551616) (hg : Vl.goodB 3 n f s = true) :
    Calls Try.prog 19 #[.agg #[.int .i64 3, .int .i64 n, .float .f64 f, .string s]] w fun e w' => e = .returned (.tuple #[.string (Vl.encS 3 n f s), .int .i64 0]) ∧ Below w.heap.size w w' := by
  have hcv : ∀ (W : World) (r : Nat), W.cell? ⟨r, 0, none⟩ = some (.int .u8 3) → (convert 74 9 (.slice (some ⟨r, 0, none⟩) 1 1)).run Try.prog W = .ok (.string ⟨#[3]⟩) W := fun W r h => Vl.conv1 Try.underlying74 Try.underlying5 Try.underlying9 W r 3 h
  go_enter Try.func19, Try.ntmps19
  go_wp2_with fail
  refine (refGood_any _ _ _ _ _).mono ?_
  rintro e w1 ⟨rfl, hb1⟩
  have hm := Vl.bcell hb1
  have K0 : w1.cell? ⟨w.heap.size, 0, none⟩ = some (.int .i64 3) := (hm.1 w.heap.size 0 (by simp)).trans (by simp [go_sem])
  have K1 : w1.cell? ⟨w.heap.size, 1, none⟩ = some (.int .i64 n) := (hm.1 w.heap.size 1 (by simp)).trans (by simp [go_sem])
  have K2 : w1.cell? ⟨w.heap.size, 2, none⟩ = some (.float .f64 f) := (hm.1 w.heap.size 2 (by simp)).trans (by simp [go_sem])
  have K3 : w1.cell? ⟨w.heap.size, 3, none⟩ = some (.string s) := (hm.1 w.heap.size 3 (by simp)).trans (by simp [go_sem])
  have HB1 := Vl.hid (Vl.btr (Vl.bal (Below.refl _ _) _) hb1)
  have hw1 : w.heap.size < w1.heap.size := by have := hb1.size; simp at this; omega
  clear hm hb1
  go_wp2_with fail
  refine (refBits_any _ _ hf).mono ?_
  rintro e w2 ⟨rfl, hq⟩
  obtain rfl := hq.symm
  go_wp2_with fail
  refine (eight_any _ _ (Vl.bitsN_lt hf)).mono ?_
  rintro e w2 ⟨rfl, hb2⟩
  have hl : (⟨(Vl.beL (Fl.bitsN f) 8).toArray⟩ : ByteArray).size = 8 := Vl.beA_size _ _
  go_wp2_with fail
  go_ret2
  exact ⟨rfl, Vl.btr (Vl.bal HB1.out _) hb2⟩

set_option maxRecDepth 100000 in
set_option maxHeartbeats 2000000 in
theorem refEncode_4 (n : Int) (f : Nat) (s : ByteArray) (w : World) (hg : Vl.goodB 4 n f s = true) :
    Calls Try.prog 19 #[.agg #[.int .i64 4, .int .i64 n, .float .f64 f, .string s]] w fun e w' => e = .returned (.tuple #[.string (Vl.encS 4 n f s), .int .i64 0]) ∧ Below w.heap.size w w' := by
  have hs : s.size ≤ 256 := by
    have h := hg
    rw [Vl.goodB_4] at h
    unfold Vl.good4 at h
    simp at h
    omega
  have hsi : (s.size : Int) ≤ 256 := by omega
  have hE : ((⟨#[4]⟩ : ByteArray) ++ ⟨#[(s.size / 256 % 256).toUInt8, (s.size % 256).toUInt8]⟩) ++ s = Vl.encS 4 n f s := by
    show _ = (⟨#[4]⟩ : ByteArray) ++ (⟨(Vl.beL s.size 2).toArray⟩ ++ s)
    have e : Vl.beL s.size 2 = [(s.size / 256 % 256).toUInt8, (s.size % 256).toUInt8] := by simp [Vl.beL, List.range_succ]
    rw [ByteArray.append_assoc, e]
  have HE := Vl.hid hE
  clear hE
  have hw8 : (s.size : Int) / 256 = (((s.size / 256 % 256).toUInt8.toNat : Nat) : Int) := by rw [Vl.byte_of]; omega
  have hw9 : (s.size : Int) % 256 = (((s.size % 256).toUInt8.toNat : Nat) : Int) := by rw [Vl.byte_of]
  have HW8 := Vl.hid hw8
  have HW9 := Vl.hid hw9
  clear hw8 hw9
  have hcn : ∀ (W : World) (r : Nat), W.cell? ⟨r, 0, none⟩ = some (.int .u8 ((s.size : Int) / 256)) → W.cell? ⟨r, 1, none⟩ = some (.int .u8 ((s.size : Int) % 256)) → (convert 74 9 (.slice (some ⟨r, 0, none⟩) 2 2)).run Try.prog W = .ok (.string ⟨#[(s.size / 256 % 256).toUInt8, (s.size % 256).toUInt8]⟩) W := fun W r h h2 => Vl.conv2 Try.underlying74 Try.underlying5 Try.underlying9 W r _ _ (by rw [h, HW8.out]) (by rw [h2, HW9.out])
  have hcv : ∀ (W : World) (r : Nat), W.cell? ⟨r, 0, none⟩ = some (.int .u8 4) → (convert 74 9 (.slice (some ⟨r, 0, none⟩) 1 1)).run Try.prog W = .ok (.string ⟨#[4]⟩) W := fun W r h => Vl.conv1 Try.underlying74 Try.underlying5 Try.underlying9 W r 4 h
  go_enter Try.func19, Try.ntmps19
  go_wp2_with fail
  refine (refGood_any _ _ _ _ _).mono ?_
  rintro e w1 ⟨rfl, hb1⟩
  have hm := Vl.bcell hb1
  have K0 : w1.cell? ⟨w.heap.size, 0, none⟩ = some (.int .i64 4) := (hm.1 w.heap.size 0 (by simp)).trans (by simp [go_sem])
  have K1 : w1.cell? ⟨w.heap.size, 1, none⟩ = some (.int .i64 n) := (hm.1 w.heap.size 1 (by simp)).trans (by simp [go_sem])
  have K2 : w1.cell? ⟨w.heap.size, 2, none⟩ = some (.float .f64 f) := (hm.1 w.heap.size 2 (by simp)).trans (by simp [go_sem])
  have K3 : w1.cell? ⟨w.heap.size, 3, none⟩ = some (.string s) := (hm.1 w.heap.size 3 (by simp)).trans (by simp [go_sem])
  have HB1 := Vl.hid (Vl.btr (Vl.bal (Below.refl _ _) _) hb1)
  have hw1 : w.heap.size < w1.heap.size := by have := hb1.size; simp at this; omega
  clear hm hb1
  go_wp2_with fail
  go_ret2
  exact ⟨by rw [← HE.out]; rfl, by repeat (first | exact HB1.out | refine Vl.bal ?_ _)⟩

theorem refEncode_any (k n : Int) (f : Nat) (s : ByteArray) (w : World) (hf : f < 18446744073709551616) :
    Calls Try.prog 19 #[.agg #[.int .i64 k, .int .i64 n, .float .f64 f, .string s]] w fun e w' => e = .returned (.tuple #[.string (Vl.encR k n f s), .int .i64 (Vl.encE k n f s)]) ∧ Below w.heap.size w w' := by
  cases hg : Vl.goodB k n f s
  · have e1 : Vl.encR k n f s = ⟨#[]⟩ := by unfold Vl.encR; rw [hg]; rfl
    have e2 : Vl.encE k n f s = 11 := by unfold Vl.encE; rw [hg]; rfl
    rw [e1, e2]; exact refEncode_no k n f s w hg
  · have e1 : Vl.encR k n f s = Vl.encS k n f s := by unfold Vl.encR; rw [hg]; rfl
    have e2 : Vl.encE k n f s = 0 := by unfold Vl.encE; rw [hg]; rfl
    rw [e1, e2]
    by_cases hk : k < 0 ∨ 4 < k
    · rw [Vl.goodB_not n f s hk] at hg; cases hg
    rcases (by omega : k = 0 ∨ k = 1 ∨ k = 2 ∨ k = 3 ∨ k = 4) with rfl | rfl | rfl | rfl | rfl
    · exact refEncode_0 n f s w hg
    · exact refEncode_1 n f s w hg
    · exact refEncode_2 n f s w hg
    · exact refEncode_3 n f s w hf hg
    · exact refEncode_4 n f s w hg

end Go.Proofs.Ytanljohnmaokeaa