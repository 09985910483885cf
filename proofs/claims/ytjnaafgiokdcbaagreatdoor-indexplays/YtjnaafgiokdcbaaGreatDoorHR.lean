/- The reference's read. -/
import Derived.Test.YtjnaafgiokdcbaaGreatDoorHQ
namespace Go.Proofs.YtjnaafgiokdcbaaGreatDoor
open Go.RowKit
attribute [local go_sem] Fl.run_store_float Tryz.buildGot Tryz.buildGot0
namespace Ky
open Vl
theorem at0 (s : ByteArray) (h0 : 0 < s.size) {c : UInt8} (hc : (cAt s 0 : Int) = (c.toNat : Int)) : s.data.toList = c :: s.data.toList.drop 1 := by
  have e := drop_at s h0
  rw [List.drop_zero] at e
  have hc' : s.data.toList.getD 0 0 = c := UInt8.toNat_inj.1 (Int.ofNat.inj hc)
  rw [hc'] at e
  exact e
theorem tk8 (s : ByteArray) : (s.extract 1 9).data.toList = (s.data.toList.drop 1).take 8 := by rw [extract_list, List.drop_take]
theorem tk8_len {s : ByteArray} (h : 9 ≤ s.size) : ((s.data.toList.drop 1).take 8).length = 8 := by rw [List.length_take, List.length_drop, ← size_list]; omega
theorem tk1 {s : ByteArray} (h : 1 < s.size) : (s.data.toList.drop 1).take 1 = [s.data.toList.getD 1 0] := by rw [drop_at s h]; rfl
theorem nv8 (s : ByteArray) : nv (s.extract 1 9) (s.extract 1 9).size = nvL ((s.data.toList.drop 1).take 8) := by rw [nv_all, tk8]
theorem shortLen {s : ByteArray} {m : Nat} (h : s.size < m + 1) : ((s.data.toList.drop 1).take m).length ≠ m ∨ m = 0 := by
  rw [List.length_take, List.length_drop, ← size_list]; omega
theorem read1_short {s : ByteArray} (h0 : 0 < s.size) (hc : (cAt s 0 : Int) = 1) (h : s.size < 2) : ReadIs s.data.toList none := by
  rw [at0 s h0 (c := 1) hc]
  refine read_no (m := 1) (took_1 _ 0 (by omega) false (by have := shortLen (m := 1) h; simp at this ⊢; omega) (fun e => absurd e (by have := shortLen (m := 1) h; omega))) (.inl rfl) len_1
theorem read2_short {s : ByteArray} (h0 : 0 < s.size) (hc : (cAt s 0 : Int) = 2) (h : s.size < 9) : ReadIs s.data.toList none := by
  rw [at0 s h0 (c := 2) hc]
  refine read_no (m := 8) (took_2 _ 0 (by omega) false (by have := shortLen (m := 8) h; simp at this ⊢; omega) (fun e => absurd e (by have := shortLen (m := 8) h; omega))) (.inl rfl) len_2
theorem read3_short {s : ByteArray} (h0 : 0 < s.size) (hc : (cAt s 0 : Int) = 3) (h : s.size < 9) : ReadIs s.data.toList none := by
  rw [at0 s h0 (c := 3) hc]
  refine read_no (m := 8) (took_3 _ 0 (by omega) false (by have := shortLen (m := 8) h; simp at this ⊢; omega) (fun e => absurd e (by have := shortLen (m := 8) h; omega))) (.inl rfl) len_3
theorem took1 {s : ByteArray} (h : 1 < s.size) : Took 1 ((s.data.toList.drop 1).take 1) ⟨1, (cAt s 1 : Int), 0, ⟨#[]⟩⟩ true := by
  have hb := cAt_lt s 1
  have e : (cAt s 1 : Int) = wrap64 (cAt s 1 : Int) := by unfold wrap64; omega
  rw [e]
  exact took_1 _ (cAt s 1) (by omega) true (by rw [tk1 h]; simp) (fun _ => by rw [tk1 h]; simp [nvL, cAt])
theorem read1 {s : ByteArray} (hc : (cAt s 0 : Int) = 1) (h : 1 < s.size) : (goodB 1 (cAt s 1 : Int) 0 ⟨#[]⟩ = false → ReadIs s.data.toList none) ∧ (goodB 1 (cAt s 1 : Int) 0 ⟨#[]⟩ = true → ReadIs s.data.toList (some (⟨1, (cAt s 1 : Int), 0, ⟨#[]⟩⟩, 2))) := by
  rw [at0 s (by omega) (c := 1) hc]
  exact ⟨fun g => read_no (took1 h) (.inr g) len_1, fun g => read_yes (took1 h) g (by rw [tk1 h]; rfl)⟩
theorem read2 {s : ByteArray} (hc : (cAt s 0 : Int) = 2) (h : 9 ≤ s.size) {u : Nat} (hu : u < 18446744073709551616) (e : u = nvL ((s.data.toList.drop 1).take 8)) : (goodB 2 (wrap64 (flipN u : Int)) 0 ⟨#[]⟩ = false → ReadIs s.data.toList none) ∧ (goodB 2 (wrap64 (flipN u : Int)) 0 ⟨#[]⟩ = true → ReadIs s.data.toList (some (⟨2, wrap64 (flipN u : Int), 0, ⟨#[]⟩⟩, 9))) := by
  rw [at0 s (by omega) (c := 2) hc]
  have ht := took_2 ((s.data.toList.drop 1).take 8) u hu true (by rw [tk8_len h]; simp) (fun _ => e)
  exact ⟨fun g => read_no ht (.inr g) len_2, fun g => read_yes ht g (tk8_len h)⟩
theorem read3 {s : ByteArray} (hc : (cAt s 0 : Int) = 3) (h : 9 ≤ s.size) {u : Nat} (hu : u < 18446744073709551616) (e : u = nvL ((s.data.toList.drop 1).take 8)) :
    (Fl.isB (Fl.unbN u) = false → ReadIs s.data.toList none) ∧ (Fl.isB (Fl.unbN u) = true → (goodB 3 0 (Fl.gotN (Fl.unbN u)) ⟨#[]⟩ = false → ReadIs s.data.toList none) ∧ (goodB 3 0 (Fl.gotN (Fl.unbN u)) ⟨#[]⟩ = true → ReadIs s.data.toList (some (⟨3, 0, Fl.gotN (Fl.unbN u), ⟨#[]⟩⟩, 9)))) := by
  rw [at0 s (by omega) (c := 3) hc]
  have ht := fun (ok : Bool) (hok : ok = Fl.isB (Fl.unbN u)) => took_3 ((s.data.toList.drop 1).take 8) u hu ok (by rw [hok, tk8_len h]; simp) (fun _ => e)
  exact ⟨fun i => read_no (ht false i.symm) (.inl rfl) len_3, fun i => ⟨fun g => read_no (ht true i.symm) (.inr g) len_3, fun g => read_yes (ht true i.symm) g (tk8_len h)⟩⟩
theorem read05 {s : ByteArray} (h0 : 0 < s.size) {k : Int} (hc : (cAt s 0 : Int) = k) (hk : k = 0 ∨ 4 < k) : (goodB k 0 0 ⟨#[]⟩ = false → ReadIs s.data.toList none) ∧ (goodB k 0 0 ⟨#[]⟩ = true → ReadIs s.data.toList (some (⟨k, 0, 0, ⟨#[]⟩⟩, 1))) := by
  have hb := cAt_lt s 0
  rw [at0 s h0 (c := s.data.toList.getD 0 0) rfl]
  have e : ((s.data.toList.getD 0 0).toNat : Int) = k := hc
  rcases hk with rfl | hk
  · have e0 : s.data.toList.getD 0 0 = 0 := UInt8.toNat_inj.1 (Int.ofNat.inj e)
    rw [e0]
    exact ⟨fun g => (by rw [good_0.g] at g; cases g), fun _ => read_0 _⟩
  · refine ⟨fun _ => read_5 (by omega) _, fun g => ?_⟩
    have hg : GoodV ⟨k, 0, 0, ⟨#[]⟩⟩ := ⟨g, by simp, by simp, by simp⟩
    have := hg.kind
    simp only at this
    omega
end Ky

set_option maxRecDepth 100000 in
set_option maxHeartbeats 2000000 in
theorem refRead_nil (w : World) :
    Calls Tryz.prog 85 #[.string ⟨#[]⟩] w fun e w' => ∃ o, e = .returned (Ky.rdT o) ∧ Ky.ReadIs (⟨#[]⟩ : ByteArray).data.toList o ∧ Below w.heap.size w w' := by
  have he : ((⟨#[]⟩ : ByteArray).toList == (⟨#[]⟩ : ByteArray).toList) = true := by simp
  go_enter Tryz.func85, Tryz.ntmps85
  go_wp2_with fail
  exact bodyPost_ret (v := .agg #[.int .i64 0, .int .i64 0, .float .f64 0, .string ⟨#[]⟩, .int .i64 0]) (by simp [results, Tryz.results85, go_sem]) rfl ⟨none, rfl, Ky.read_nil, Vl.bal (Below.refl _ _) _⟩

set_option maxRecDepth 100000 in
set_option maxHeartbeats 2000000 in
theorem refRead_05 (s : ByteArray) (w : World) (h0 : 0 < s.size) (k : Int) (hk : (Vl.cAt s 0 : Int) = k) (hc : k = 0 ∨ 4 < k) :
    Calls Tryz.prog 85 #[.string s] w fun e w' => ∃ o, e = .returned (Ky.rdT o) ∧ Ky.ReadIs s.data.toList o ∧ Below w.heap.size w w' := by
  have he : (s.toList == []) = false := by
    rw [ByteArray.toList_eq, beq_eq_false_iff_ne]; intro e; rw [Ky.size_list, e] at h0; cases h0
  have hX0 : ∀ w, (Instr.index 9 (.string s) (.int .i64 0)).run Tryz.prog w = .ok (.int .u8 k) w := fun w => by rw [← hk]; exact Vl.idx_str 9 Tryz.underlying9 s 0 h0 w
  have hk8 : 0 ≤ k ∧ k < 256 := by have := Vl.cAt_lt s 0; omega
  have hwc : IntKind.i64.wrap k = k := by rw [IntKind.wrap_i64]; omega
  have b1 : (k == 1) = false := beq_eq_false_iff_ne.2 (by omega)
  have b2 : (k == 2) = false := beq_eq_false_iff_ne.2 (by omega)
  have b3 : (k == 3) = false := beq_eq_false_iff_ne.2 (by omega)
  have b4 : (k == 4) = false := beq_eq_false_iff_ne.2 (by omega)
  have HR := Vl.hid (Ky.read05 h0 hk hc)
  clear hk hc
  go_enter Tryz.func85, Tryz.ntmps85
  go_wp2_with fail
  refine (refGood_any k 0 0 ⟨#[]⟩ _).mono ?_
  rintro e w1 ⟨rfl, hb⟩
  have HS := Vl.hid ((Ky.StR.start w ⟨k, 0, 0, ⟨#[]⟩⟩).step hb)
  clear hb
  obtain ⟨⟨p0, p1, p2, p3, p4⟩, q0, q1, q2, q3, q4⟩ := HS.out.cells
  obtain ⟨c0, c1, c2, c3⟩ := HS.out.v.four
  dsimp only at c0 c1 c2 c3
  have z1 := HS.out.lt
  cases hg : Vl.goodB k 0 0 ⟨#[]⟩
  · have HE := Vl.hid (HR.out.1 hg)
    go_wp2_with fail
    refine bodyPost_ret (v := .agg #[.int .i64 0, .int .i64 0, .float .f64 0, .string ⟨#[]⟩, .int .i64 0]) (by simp [results, Tryz.results85, go_sem, *]) rfl ⟨none, rfl, HE.out, ?_⟩
    exact (((((HS.out.l.setCell (Nat.le_refl _) _).setCell (Nat.le_refl _) _).setCell (Nat.le_refl _) _).setCell (Nat.le_refl _) _).setCell (Nat.le_refl _) _)
  · have HE := Vl.hid (HR.out.2 hg)
    go_wp2_with fail
    refine bodyPost_ret (v := .agg #[.int .i64 k, .int .i64 0, .float .f64 0, .string ⟨#[]⟩, .int .i64 1]) (by simp [results, Tryz.results85, go_sem, *]) rfl ⟨some (⟨k, 0, 0, ⟨#[]⟩⟩, 1), rfl, HE.out, ?_⟩
    exact (((((HS.out.l.setCell (Nat.le_refl _) _).setCell (Nat.le_refl _) _).setCell (Nat.le_refl _) _).setCell (Nat.le_refl _) _).setCell (Nat.le_refl _) _)

set_option maxRecDepth 100000 in
set_option maxHeartbeats 2000000 in
theorem refRead_1 (s : ByteArray) (w : World) (hs : s.size ≤ 50000) (h0 : 0 < s.size) (hk : (Vl.cAt s 0 : Int) = 1) :
    Calls Tryz.prog 85 #[.string s] w fun e w' => ∃ o, e = .returned (Ky.rdT o) ∧ Ky.ReadIs s.data.toList o ∧ Below w.heap.size w w' := by
  have he : (s.toList == []) = false := by
    rw [ByteArray.toList_eq, beq_eq_false_iff_ne]; intro e; rw [Ky.size_list, e] at h0; cases h0
  have hX0 : ∀ w, (Instr.index 9 (.string s) (.int .i64 0)).run Tryz.prog w = .ok (.int .u8 1) w := fun w => by rw [← hk]; exact Vl.idx_str 9 Tryz.underlying9 s 0 h0 w
  by_cases hl : s.size < 2
  · have HE := Vl.hid (Ky.read1_short h0 hk hl)
    have hd : decide ((s.size : Int) < 2) = true := decide_eq_true (by omega)
    clear hk
    go_enter Tryz.func85, Tryz.ntmps85
    go_wp2_with fail
    exact bodyPost_ret (v := .agg #[.int .i64 0, .int .i64 0, .float .f64 0, .string ⟨#[]⟩, .int .i64 0]) (by simp [results, Tryz.results85, go_sem]) rfl ⟨none, rfl, HE.out, Vl.bal (Vl.bal (Below.refl _ _) _) _⟩
  · have hd : decide ((s.size : Int) < 2) = false := decide_eq_false (by omega)
    have hX1 : ∀ w, (Instr.index 9 (.string s) (.int .i64 1)).run Tryz.prog w = .ok (.int .u8 (Vl.cAt s 1 : Int)) w := fun w => Vl.idx_str 9 Tryz.underlying9 s 1 (by omega) w
    have HR := Vl.hid (Ky.read1 hk (by omega))
    have hb1 := Vl.cAt_lt s 1
    generalize Vl.cAt s 1 = n at hX1 HR hb1
    have hwc : IntKind.i64.wrap (n : Int) = (n : Int) := by rw [IntKind.wrap_i64]; omega
    clear hk
    go_enter Tryz.func85, Tryz.ntmps85
    go_wp2_with fail
    refine (refGood_any 1 (n : Int) 0 ⟨#[]⟩ _).mono ?_
    rintro e w1 ⟨rfl, hb⟩
    have HS := Vl.hid ((Ky.StR.start w ⟨1, (n : Int), 0, ⟨#[]⟩⟩).step hb)
    clear hb
    obtain ⟨⟨p0, p1, p2, p3, p4⟩, q0, q1, q2, q3, q4⟩ := HS.out.cells
    obtain ⟨c0, c1, c2, c3⟩ := HS.out.v.four
    dsimp only at c0 c1 c2 c3
    have z1 := HS.out.lt
    cases hg : Vl.goodB 1 (n : Int) 0 ⟨#[]⟩
    · have HE := Vl.hid (HR.out.1 hg)
      go_wp2_with fail
      refine bodyPost_ret (v := .agg #[.int .i64 0, .int .i64 0, .float .f64 0, .string ⟨#[]⟩, .int .i64 0]) (by simp [results, Tryz.results85, go_sem, *]) rfl ⟨none, rfl, HE.out, ?_⟩
      exact (((((HS.out.l.setCell (Nat.le_refl _) _).setCell (Nat.le_refl _) _).setCell (Nat.le_refl _) _).setCell (Nat.le_refl _) _).setCell (Nat.le_refl _) _)
    · have HE := Vl.hid (HR.out.2 hg)
      go_wp2_with fail
      refine bodyPost_ret (v := .agg #[.int .i64 1, .int .i64 (n : Int), .float .f64 0, .string ⟨#[]⟩, .int .i64 2]) (by simp [results, Tryz.results85, go_sem, *]) rfl ⟨some (⟨1, (n : Int), 0, ⟨#[]⟩⟩, 2), rfl, HE.out, ?_⟩
      exact (((((HS.out.l.setCell (Nat.le_refl _) _).setCell (Nat.le_refl _) _).setCell (Nat.le_refl _) _).setCell (Nat.le_refl _) _).setCell (Nat.le_refl _) _)

set_option maxRecDepth 100000 in
set_option maxHeartbeats 2000000 in
theorem refRead_2 (s : ByteArray) (w : World) (hs : s.size ≤ 50000) (h0 : 0 < s.size) (hk : (Vl.cAt s 0 : Int) = 2) :
    Calls Tryz.prog 85 #[.string s] w fun e w' => ∃ o, e = .returned (Ky.rdT o) ∧ Ky.ReadIs s.data.toList o ∧ Below w.heap.size w w' := by
  have he : (s.toList == []) = false := by
    rw [ByteArray.toList_eq, beq_eq_false_iff_ne]; intro e; rw [Ky.size_list, e] at h0; cases h0
  have hX0 : ∀ w, (Instr.index 9 (.string s) (.int .i64 0)).run Tryz.prog w = .ok (.int .u8 2) w := fun w => by rw [← hk]; exact Vl.idx_str 9 Tryz.underlying9 s 0 h0 w
  by_cases hl : s.size < 9
  · have HE := Vl.hid (Ky.read2_short h0 hk hl)
    have hd : decide ((s.size : Int) < 9) = true := decide_eq_true (by omega)
    clear hk
    go_enter Tryz.func85, Tryz.ntmps85
    go_wp2_with fail
    exact bodyPost_ret (v := .agg #[.int .i64 0, .int .i64 0, .float .f64 0, .string ⟨#[]⟩, .int .i64 0]) (by simp [results, Tryz.results85, go_sem]) rfl ⟨none, rfl, HE.out, Vl.bal (Vl.bal (Below.refl _ _) _) _⟩
  · have hd : decide ((s.size : Int) < 9) = false := decide_eq_false (by omega)
    have h9 : (9 : Int) ≤ (s.size : Int) := by omega
    have hz : (s.extract 1 9).size ≤ 8 := by rw [ByteArray.size_extract]; omega
    have hu := Vl.nv_lt64 (s.extract 1 9) hz
    have HR := Vl.hid (Ky.read2 hk (by omega) hu (Ky.nv8 s))
    have HZ := Vl.hid hz
    clear hk hz
    go_enter Tryz.func85, Tryz.ntmps85
    go_wp2_with fail
    refine (refNumber_any _ _ HZ.out).mono ?_
    rintro e w1 ⟨rfl, hq⟩
    obtain rfl := hq.symm
    generalize Vl.nv (s.extract 1 9) (s.extract 1 9).size = u at HR hu
    have hfl := Ky.flip_u64 u hu
    go_wp2_with fail
    refine (refGood_any 2 (wrap64 (Ky.flipN u : Int)) 0 ⟨#[]⟩ _).mono ?_
    rintro e w1 ⟨rfl, hb⟩
    have HS := Vl.hid ((Ky.StR.start w ⟨2, wrap64 (Ky.flipN u : Int), 0, ⟨#[]⟩⟩).step hb)
    clear hb
    obtain ⟨⟨p0, p1, p2, p3, p4⟩, q0, q1, q2, q3, q4⟩ := HS.out.cells
    obtain ⟨c0, c1, c2, c3⟩ := HS.out.v.four
    dsimp only at c0 c1 c2 c3
    have z1 := HS.out.lt
    cases hg : Vl.goodB 2 (wrap64 (Ky.flipN u : Int)) 0 ⟨#[]⟩
    · have HE := Vl.hid (HR.out.1 hg)
      go_wp2_with fail
      refine bodyPost_ret (v := .agg #[.int .i64 0, .int .i64 0, .float .f64 0, .string ⟨#[]⟩, .int .i64 0]) (by simp [results, Tryz.results85, go_sem, *]) rfl ⟨none, rfl, HE.out, ?_⟩
      exact (((((HS.out.l.setCell (Nat.le_refl _) _).setCell (Nat.le_refl _) _).setCell (Nat.le_refl _) _).setCell (Nat.le_refl _) _).setCell (Nat.le_refl _) _)
    · have HE := Vl.hid (HR.out.2 hg)
      go_wp2_with fail
      refine bodyPost_ret (v := .agg #[.int .i64 2, .int .i64 (wrap64 (Ky.flipN u : Int)), .float .f64 0, .string ⟨#[]⟩, .int .i64 9]) (by simp [results, Tryz.results85, go_sem, *]) rfl ⟨some (⟨2, (wrap64 (Ky.flipN u : Int)), 0, ⟨#[]⟩⟩, 9), rfl, HE.out, ?_⟩
      exact (((((HS.out.l.setCell (Nat.le_refl _) _).setCell (Nat.le_refl _) _).setCell (Nat.le_refl _) _).setCell (Nat.le_refl _) _).setCell (Nat.le_refl _) _)

end Go.Proofs.YtjnaafgiokdcbaaGreatDoor

/- The reference's read: numbers with a point, texts. -/
namespace Go.Proofs.YtjnaafgiokdcbaaGreatDoor
open Go.RowKit
attribute [local go_sem] Fl.run_store_float Tryz.buildGot Tryz.buildGot0
namespace Ky
open Vl
theorem StR.al {w0 w : World} {v : V} (h : StR w0 v w) (o : Obj) : StR w0 v (w.alloc o) := h.step (Vl.bal (Below.refl _ _) o)
theorem StR.drew {w0 w : World} {v : V} (h : StR w0 v w) : StR w0 v w.drew := ⟨h.c, h.v.drew, Below.drew h.l⟩
theorem heap_set {w : World} {b c o : Nat} (x : Value) (h : c ≠ b) : (w.setCell ⟨c, o, none⟩ x).heap[b]? = w.heap[b]? := Below.heap_setCell w ⟨c, o, none⟩ x b (fun e => h e.symm)
theorem StR.setF {w0 w : World} {k n : Int} {f : Nat} {s : ByteArray} (h : StR w0 ⟨k, n, f, s⟩ w) (g : Nat) : StR w0 ⟨k, n, g, s⟩ (w.setCell ⟨w0.heap.size + 1, 2, none⟩ (.float .f64 g)) := by
  obtain ⟨h0, h1, h2, h3, f0, f1, f2, f3⟩ := h.v
  refine ⟨(heap_set _ (by omega)).trans h.c, ?_, h.l.setCell (Nat.le_succ _) _⟩
  constructor <;> simp [go_sem, h0, h1, h2, h3, f0, f1, f2, f3]
theorem StR.setS {w0 w : World} {k n : Int} {f : Nat} {s : ByteArray} (h : StR w0 ⟨k, n, f, s⟩ w) (t : ByteArray) : StR w0 ⟨k, n, f, t⟩ (w.setCell ⟨w0.heap.size + 1, 3, none⟩ (.string t)) := by
  obtain ⟨h0, h1, h2, h3, f0, f1, f2, f3⟩ := h.v
  refine ⟨(heap_set _ (by omega)).trans h.c, ?_, h.l.setCell (Nat.le_succ _) _⟩
  constructor <;> simp [go_sem, h0, h1, h2, h3, f0, f1, f2, f3]
end Ky

set_option maxRecDepth 100000 in
set_option maxHeartbeats 2000000 in
theorem refRead_3 (s : ByteArray) (w : World) (hs : s.size ≤ 50000) (h0 : 0 < s.size) (hk : (Vl.cAt s 0 : Int) = 3) :
    Calls Tryz.prog 85 #[.string s] w fun e w' => ∃ o, e = .returned (Ky.rdT o) ∧ Ky.ReadIs s.data.toList o ∧ Below w.heap.size w w' := by
  have he : (s.toList == []) = false := by
    rw [ByteArray.toList_eq, beq_eq_false_iff_ne]; intro e; rw [Ky.size_list, e] at h0; cases h0
  have hX0 : ∀ w, (Instr.index 9 (.string s) (.int .i64 0)).run Tryz.prog w = .ok (.int .u8 3) w := fun w => by rw [← hk]; exact Vl.idx_str 9 Tryz.underlying9 s 0 h0 w
  by_cases hl : s.size < 9
  · have HE := Vl.hid (Ky.read3_short h0 hk hl)
    have hd : decide ((s.size : Int) < 9) = true := decide_eq_true (by omega)
    clear hk
    go_enter Tryz.func85, Tryz.ntmps85
    go_wp2_with fail
    exact bodyPost_ret (v := .agg #[.int .i64 0, .int .i64 0, .float .f64 0, .string ⟨#[]⟩, .int .i64 0]) (by simp [results, Tryz.results85, go_sem]) rfl ⟨none, rfl, HE.out, Vl.bal (Vl.bal (Below.refl _ _) _) _⟩
  · have hd : decide ((s.size : Int) < 9) = false := decide_eq_false (by omega)
    have h9 : (9 : Int) ≤ (s.size : Int) := by omega
    have hz : (s.extract 1 9).size ≤ 8 := by rw [ByteArray.size_extract]; omega
    have hu := Vl.nv_lt64 (s.extract 1 9) hz
    have HR := Vl.hid (Ky.read3 hk (by omega) hu (Ky.nv8 s))
    have HZ := Vl.hid hz
    clear hk hz
    go_enter Tryz.func85, Tryz.ntmps85
    go_wp2_with fail
    refine (refNumber_any _ _ HZ.out).mono ?_
    rintro e w1 ⟨rfl, hq⟩
    obtain rfl := hq.symm
    generalize Vl.nv (s.extract 1 9) (s.extract 1 9).size = u at HR hu
    go_wp2_with fail
    refine (refFrom_any u _ hu).mono ?_
    rintro e w1 ⟨rfl, hb⟩
    have HS1 := Vl.hid ((Ky.StR.start w ⟨3, 0, 0, ⟨#[]⟩⟩).step hb)
    clear hb
    obtain ⟨⟨p0, p1, p2, p3, p4⟩, q0, q1, q2, q3, q4⟩ := HS1.out.cells
    obtain ⟨c0, c1, c2, c3, f0, f1, f2, f3⟩ := id HS1.out.v
    dsimp only at c0 c1 c2 c3
    have z1 := HS1.out.lt
    have z0 : w.heap.size < w1.heap.size := by omega
    cases hi : Fl.isB (Fl.unbN u)
    · have HE := Vl.hid (HR.out.1 hi)
      go_wp2_with fail
      refine bodyPost_ret (v := .agg #[.int .i64 0, .int .i64 0, .float .f64 0, .string ⟨#[]⟩, .int .i64 0]) (by simp [results, Tryz.results85, go_sem, *]) rfl ⟨none, rfl, HE.out, ?_⟩
      exact Vl.bal (((((HS1.out.l.setCell (Nat.le_refl _) _).setCell (Nat.le_refl _) _).setCell (Nat.le_refl _) _).setCell (Nat.le_refl _) _).setCell (Nat.le_refl _) _) _
    · have HQ := Vl.hid (HR.out.2 hi)
      clear HR
      generalize Fl.gotN (Fl.unbN u) = g at HQ
      go_wp2_with fail
      refine (refGood_any 3 0 g ⟨#[]⟩ _).mono ?_
      rintro e w2 ⟨rfl, hb⟩
      have HS := Vl.hid (((HS1.out.setF g).al _).step hb)
      clear HS1 p0 p1 p2 p3 p4 q0 q1 q2 q3 q4 c0 c1 c2 c3 f0 f1 f2 f3 z1 z0
      clear hb
      obtain ⟨⟨p0, p1, p2, p3, p4⟩, q0, q1, q2, q3, q4⟩ := HS.out.cells
      obtain ⟨c0, c1, c2, c3⟩ := HS.out.v.four
      dsimp only at c0 c1 c2 c3
      have z1 := HS.out.lt
      cases hg : Vl.goodB 3 0 g ⟨#[]⟩
      · have HE := Vl.hid (HQ.out.1 hg)
        go_wp2_with fail
        refine bodyPost_ret (v := .agg #[.int .i64 0, .int .i64 0, .float .f64 0, .string ⟨#[]⟩, .int .i64 0]) (by simp [results, Tryz.results85, go_sem, *]) rfl ⟨none, rfl, HE.out, ?_⟩
        exact (((((HS.out.l.setCell (Nat.le_refl _) _).setCell (Nat.le_refl _) _).setCell (Nat.le_refl _) _).setCell (Nat.le_refl _) _).setCell (Nat.le_refl _) _)
      · have HE := Vl.hid (HQ.out.2 hg)
        go_wp2_with fail
        refine bodyPost_ret (v := .agg #[.int .i64 3, .int .i64 0, .float .f64 g, .string ⟨#[]⟩, .int .i64 9]) (by simp [results, Tryz.results85, go_sem, *]) rfl ⟨some (⟨3, 0, g, ⟨#[]⟩⟩, 9), rfl, HE.out, ?_⟩
        exact (((((HS.out.l.setCell (Nat.le_refl _) _).setCell (Nat.le_refl _) _).setCell (Nat.le_refl _) _).setCell (Nat.le_refl _) _).setCell (Nat.le_refl _) _)

set_option maxRecDepth 100000 in
set_option maxHeartbeats 2000000 in
theorem refRead_4 (s : ByteArray) (w : World) (hs : s.size ≤ 50000) (h0 : 0 < s.size) (hk : (Vl.cAt s 0 : Int) = 4) :
    Calls Tryz.prog 85 #[.string s] w fun e w' => ∃ o, e = .returned (Ky.rdT o) ∧ Ky.ReadIs s.data.toList o ∧ Below w.heap.size w w' := by
  have he : (s.toList == []) = false := by
    rw [ByteArray.toList_eq, beq_eq_false_iff_ne]; intro e; rw [Ky.size_list, e] at h0; cases h0
  have hX0 : ∀ w, (Instr.index 9 (.string s) (.int .i64 0)).run Tryz.prog w = .ok (.int .u8 4) w := fun w => by rw [← hk]; exact Vl.idx_str 9 Tryz.underlying9 s 0 h0 w
  have hx : (s.extract 1 s.size).size ≤ 50000 := by rw [ByteArray.size_extract]; omega
  have h1 : (1 : Int) ≤ (s.size : Int) := by omega
  have HD : Hid (s.data.toList = 4 :: (s.extract 1 s.size).data.toList) := Vl.hid (by rw [Ky.extract_list, Ky.size_list, List.take_length]; exact Ky.at0 s h0 (c := 4) hk)
  clear hk
  go_enter Tryz.func85, Tryz.ntmps85
  go_wp2_with fail
  refine (refText_any _ _ hx).mono ?_
  rintro e w1 ⟨o, rfl, ho, hb⟩
  have HS1 := Vl.hid ((Ky.StR.start w ⟨4, 0, 0, ⟨#[]⟩⟩).step hb)
  have HO := Vl.hid ho
  clear hb ho
  obtain ⟨⟨p0, p1, p2, p3, p4⟩, q0, q1, q2, q3, q4⟩ := HS1.out.cells
  obtain ⟨c0, c1, c2, c3, f0, f1, f2, f3⟩ := id HS1.out.v
  dsimp only at c0 c1 c2 c3
  have z1 := HS1.out.lt
  have z0 : w.heap.size < w1.heap.size := by omega
  cases o with
  | none =>
    have HE := Vl.hid (Ky.read_4no HO.out)
    rw [← HD.out] at HE
    unfold Ky.txtT
    go_wp2_with fail
    refine bodyPost_ret (v := .agg #[.int .i64 0, .int .i64 0, .float .f64 0, .string ⟨#[]⟩, .int .i64 0]) (by simp [results, Tryz.results85, go_sem, *]) rfl ⟨none, rfl, HE.out, ?_⟩
    exact Vl.bal (((((HS1.out.l.setCell (Nat.le_refl _) _).setCell (Nat.le_refl _) _).setCell (Nat.le_refl _) _).setCell (Nat.le_refl _) _).setCell (Nat.le_refl _) _) _
  | some p =>
    obtain ⟨t, z⟩ := p
    have hz0 : ((z : Int) == 0) = false := by
      obtain ⟨r, _, hz⟩ := HO.out
      have hz' : z = (Ky.esc t).length + 2 := hz
      simp; omega
    have hz9 : (z : Int) ≤ 200000 := by
      obtain ⟨r, hr, hz⟩ := HO.out
      have hz' : z = (Ky.esc t).length + 2 := hz
      have hr' := congrArg List.length hr
      rw [List.length_append, ← Ky.size_list] at hr'
      simp at hr' hx
      omega
    have HQ : Hid ((Vl.goodB 4 0 0 ⟨t.toArray⟩ = false → Ky.ReadIs s.data.toList none) ∧ (Vl.goodB 4 0 0 ⟨t.toArray⟩ = true → Ky.ReadIs s.data.toList (some (⟨4, 0, 0, ⟨t.toArray⟩⟩, z + 1)))) := by
      rw [HD.out]
      refine Vl.hid ⟨fun g => ?_, fun g => ?_⟩
      · rcases Nat.lt_or_ge 256 t.length with q | q
        · exact Ky.read_4big HO.out q
        · rw [(Ky.good_4 (s := ⟨t.toArray⟩) (by rw [Ky.size_list]; exact q)).g] at g; cases g
      · refine Ky.read_4yes HO.out ?_
        have hg : Ky.GoodV ⟨4, 0, 0, ⟨t.toArray⟩⟩ := ⟨g, by simp, by simp, by simp⟩
        rcases hg.cases with q | q | q | q | q
        all_goals first | (exfalso; have := q.1; simp only at this; omega) | (have := q.2.2.2; rw [Ky.size_list] at this; exact this)
    unfold Ky.txtT
    dsimp only
    generalize (⟨t.toArray⟩ : ByteArray) = b at HQ
    go_wp2_with fail
    go_region_with fail
    all_goals
      go_wp2_with fail
      refine (refGood_any 4 0 0 b _).mono ?_
      rintro e w2 ⟨rfl, hb⟩
      have HS := Vl.hid ((((HS1.out.setS b).al _).drew).step hb)
      clear HS1 p0 p1 p2 p3 p4 q0 q1 q2 q3 q4 c0 c1 c2 c3 f0 f1 f2 f3 z1 z0
      clear hb
      obtain ⟨⟨p0, p1, p2, p3, p4⟩, q0, q1, q2, q3, q4⟩ := HS.out.cells
      obtain ⟨c0, c1, c2, c3⟩ := HS.out.v.four
      dsimp only at c0 c1 c2 c3
      have z1 := HS.out.lt
      cases hg : Vl.goodB 4 0 0 b
      · have HE := Vl.hid (HQ.out.1 hg)
        go_wp2_with fail
        refine bodyPost_ret (v := .agg #[.int .i64 0, .int .i64 0, .float .f64 0, .string ⟨#[]⟩, .int .i64 0]) (by simp [results, Tryz.results85, go_sem, *]) rfl ⟨none, rfl, HE.out, ?_⟩
        exact (((((HS.out.l.setCell (Nat.le_refl _) _).setCell (Nat.le_refl _) _).setCell (Nat.le_refl _) _).setCell (Nat.le_refl _) _).setCell (Nat.le_refl _) _)
      · have HE := Vl.hid (HQ.out.2 hg)
        go_wp2_with fail
        refine bodyPost_ret (v := .agg #[.int .i64 4, .int .i64 0, .float .f64 0, .string b, .int .i64 (1 + (z : Int))]) (by simp [results, Tryz.results85, go_sem, *]) rfl ⟨some (⟨4, 0, 0, b⟩, z + 1), by rw [show (1 : Int) + (z : Int) = ((z + 1 : Nat) : Int) from by omega]; rfl, HE.out, ?_⟩
        exact (((((HS.out.l.setCell (Nat.le_refl _) _).setCell (Nat.le_refl _) _).setCell (Nat.le_refl _) _).setCell (Nat.le_refl _) _).setCell (Nat.le_refl _) _)

end Go.Proofs.YtjnaafgiokdcbaaGreatDoor
