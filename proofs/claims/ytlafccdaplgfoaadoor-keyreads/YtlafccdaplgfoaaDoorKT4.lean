/- The reference's read: numbers with a point, texts. -/
import Derived.Test.YtlafccdaplgfoaaDoorKT3
namespace Go.Proofs.YtlafccdaplgfoaaDoor
open Go.RowKit
attribute [local go_sem] Fl.run_store_float Tryd.buildGot Tryd.buildGot0
namespace Ky
open Vl
theorem StR.al {w0 w : World} {v : V} (h : StR w0 v w) (o : Obj) : StR w0 v (w.alloc o) := h.step (Vl.bal (Below.refl _ _) o)
theorem StR.drew {w0 w : World} {v : V} (h : StR w0 v w) : StR w0 v w.drew := ⟨h.c, h.v.drew, Below.drew h.l⟩
theorem heap_set {w : World} {b c o : Nat} (x : Value) (h : c ≠ b) : (w.setCell ⟨c, o, none⟩ x).heap[b]? = w.heap[b]? := Below.heap_setCell w ⟨c, o, none⟩ x b (fun e => h e.symm)
theorem StR.setF {w0 w : World} {k n : Int} {f : Nat} {s : ByteArray} (h : StR w0 ⟨k, n, f, s⟩ w) (g : Nat) : StR w0 ⟨k, n, g, s⟩ (w.setCell ⟨w0.heap.size + 1, 2, none⟩ (.float .f64 g)) := by
  obtain ⟨h0, h1, h2, h3, f0, f1, f2, f3⟩ := h.v
  refine ⟨(heap_set _ (by omega)).trans h.c, ?_, h.l.setCell (Nat.le_succ _) _⟩
  constructor <;> simp [go_sem, h0, h1, h2, h3, f0, f1, f2, f3]
theorem StR.setS {w0 w : World} {k n : Int} {f : Nat} {s : ByteArray} (h : StR w0 ⟨k, n, f, s⟩ w) (t : ByteArray) : StR w0 ⟨k, n, f, t⟩ (w.setCell ⟨w0.heap.size + 1, 3, none⟩ (.string t)) := by
  obtain ⟨h0, h1, h2, h3, f0, f1, f2, f3⟩ := h.v
  refine ⟨(heap_set _ (by omega)).trans h.c, ?_, h.l.setCell (Nat.le_succ _) _⟩
  constructor <;> simp [go_sem, h0, h1, h2, h3, f0, f1, f2, f3]
end Ky

set_option maxRecDepth 100000 in
set_option maxHeartbeats 2000000 in
theorem refRead_3 (s : ByteArray) (w : World) (hs : s.size ≤ 50000) (h0 : 0 < s.size) (hk : (Vl.cAt s 0 : Int) = 3) :
    Calls Tryd.prog 33 #[.string s] w fun e w' => ∃ o, e = .returned (Ky.rdT o) ∧ Ky.ReadIs s.data.toList o ∧ Below w.heap.size w w' := by
  have he : (s.toList == []) = false := by
    rw [ByteArray.toList_eq, beq_eq_false_iff_ne]; intro e; rw [Ky.size_list, e] at h0; cases h0
  have hX0 : ∀ w, (Instr.index 9 (.string s) (.int .i64 0)).run Tryd.prog w = .ok (.int .u8 3) w := fun w => by rw [← hk]; exact Vl.idx_str 9 Tryd.underlying9 s 0 h0 w
  by_cases hl : s.size < 9
  · have HE := Vl.hid (Ky.read3_short h0 hk hl)
    have hd : decide ((s.size : Int) < 9) = true := decide_eq_true (by omega)
    clear hk
    go_enter Tryd.func33, Tryd.ntmps33
    go_wp2_with fail
    exact bodyPost_ret (v := .agg #[.int .i64 0, .int .i64 0, .float .f64 0, .string ⟨#[]⟩, .int .i64 0]) (by simp [results, Tryd.results33, go_sem]) rfl ⟨none, rfl, HE.out, Vl.bal (Vl.bal (Below.refl _ _) _) _⟩
  · have hd : decide ((s.size : Int) < 9) = false := decide_eq_false (by omega)
    have h9 : (9 : Int) ≤ (s.size : Int) := by omega
    have hz : (s.extract 1 9).size ≤ 8 := by rw [ByteArray.size_extract]; omega
    have hu := Vl.nv_lt64 (s.extract 1 9) hz
    have HR := Vl.hid (Ky.read3 hk (by omega) hu (Ky.nv8 s))
    have HZ := Vl.hid hz
    clear hk hz
    go_enter Tryd.func33, Tryd.ntmps33
    go_wp2_with fail
    refine (refNumber_any _ _ HZ.out).mono ?_
    rintro e w1 ⟨rfl, hq⟩
    obtain rfl := hq.symm
    generalize Vl.nv (s.extract 1 9) (s.extract 1 9).size = u at HR hu
    go_wp2_with fail
    refine (refFrom_any u _ hu).mono ?_
    rintro e w1 ⟨rfl, hb⟩
    have HS1 := Vl.hid ((Ky.StR.start w ⟨3, 0, 0, ⟨#[]⟩⟩).step hb)
    clear hb
    obtain ⟨⟨p0, p1, p2, p3, p4⟩, q0, q1, q2, q3, q4⟩ := HS1.out.cells
    obtain ⟨c0, c1, c2, c3, f0, f1, f2, f3⟩ := id HS1.out.v
    dsimp only at c0 c1 c2 c3
    have z1 := HS1.out.lt
    have z0 : w.heap.size < w1.heap.size := by omega
    cases hi : Fl.isB (Fl.unbN u)
    · have HE := Vl.hid (HR.out.1 hi)
      go_wp2_with fail
      refine bodyPost_ret (v := .agg #[.int .i64 0, .int .i64 0, .float .f64 0, .string ⟨#[]⟩, .int .i64 0]) (by simp [results, Tryd.results33, go_sem, *]) rfl ⟨none, rfl, HE.out, ?_⟩
      exact Vl.bal (((((HS1.out.l.setCell (Nat.le_refl _) _).setCell (Nat.le_refl _) _).setCell (Nat.le_refl _) _).setCell (Nat.le_refl _) _).setCell (Nat.le_refl _) _) _
    · have HQ := Vl.hid (HR.out.2 hi)
      clear HR
      generalize Fl.gotN (Fl.unbN u) = g at HQ
      go_wp2_with fail
      refine (refGood_any 3 0 g ⟨#[]⟩ _).mono ?_
      rintro e w2 ⟨rfl, hb⟩
      have HS := Vl.hid (((HS1.out.setF g).al _).step hb)
      clear HS1 p0 p1 p2 p3 p4 q0 q1 q2 q3 q4 c0 c1 c2 c3 f0 f1 f2 f3 z1 z0
      clear hb
      obtain ⟨⟨p0, p1, p2, p3, p4⟩, q0, q1, q2, q3, q4⟩ := HS.out.cells
      obtain ⟨c0, c1, c2, c3⟩ := HS.out.v.four
      dsimp only at c0 c1 c2 c3
      have z1 := HS.out.lt
      cases hg : Vl.goodB 3 0 g ⟨#[]⟩
      · have HE := Vl.hid (HQ.out.1 hg)
        go_wp2_with fail
        refine bodyPost_ret (v := .agg #[.int .i64 0, .int .i64 0, .float .f64 0, .string ⟨#[]⟩, .int .i64 0]) (by simp [results, Tryd.results33, go_sem, *]) rfl ⟨none, rfl, HE.out, ?_⟩
        exact (((((HS.out.l.setCell (Nat.le_refl _) _).setCell (Nat.le_refl _) _).setCell (Nat.le_refl _) _).setCell (Nat.le_refl _) _).setCell (Nat.le_refl _) _)
      · have HE := Vl.hid (HQ.out.2 hg)
        go_wp2_with fail
        refine bodyPost_ret (v := .agg #[.int .i64 3, .int .i64 0, .float .f64 g, .string ⟨#[]⟩, .int .i64 9]) (by simp [results, Tryd.results33, go_sem, *]) rfl ⟨some (⟨3, 0, g, ⟨#[]⟩⟩, 9), rfl, HE.out, ?_⟩
        exact (((((HS.out.l.setCell (Nat.le_refl _) _).setCell (Nat.le_refl _) _).setCell (Nat.le_refl _) _).setCell (Nat.le_refl _) _).setCell (Nat.le_refl _) _)

set_option maxRecDepth 100000 in
set_option maxHeartbeats 2000000 in
theorem refRead_4 (s : ByteArray) (w : World) (hs : s.size ≤ 50000) (h0 : 0 < s.size) (hk : (Vl.cAt s 0 : Int) = 4) :
    Calls Tryd.prog 33 #[.string s] w fun e w' => ∃ o, e = .returned (Ky.rdT o) ∧ Ky.ReadIs s.data.toList o ∧ Below w.heap.size w w' := by
  have he : (s.toList == []) = false := by
    rw [ByteArray.toList_eq, beq_eq_false_iff_ne]; intro e; rw [Ky.size_list, e] at h0; cases h0
  have hX0 : ∀ w, (Instr.index 9 (.string s) (.int .i64 0)).run Tryd.prog w = .ok (.int .u8 4) w := fun w => by rw [← hk]; exact Vl.idx_str 9 Tryd.underlying9 s 0 h0 w
  have hx : (s.extract 1 s.size).size ≤ 50000 := by rw [ByteArray.size_extract]; omega
  have h1 : (1 : Int) ≤ (s.size : Int) := by omega
  have HD : Hid (s.data.toList = 4 :: (s.extract 1 s.size).data.toList) := Vl.hid (by rw [Ky.extract_list, Ky.size_list, List.take_length]; exact Ky.at0 s h0 (c := 4) hk)
  clear hk
  go_enter Tryd.func33, Tryd.ntmps33
  go_wp2_with fail
  refine (refText_any _ _ hx).mono ?_
  rintro e w1 ⟨o, rfl, ho, hb⟩
  have HS1 := Vl.hid ((Ky.StR.start w ⟨4, 0, 0, ⟨#[]⟩⟩).step hb)
  have HO := Vl.hid ho
  clear hb ho
  obtain ⟨⟨p0, p1, p2, p3, p4⟩, q0, q1, q2, q3, q4⟩ := HS1.out.cells
  obtain ⟨c0, c1, c2, c3, f0, f1, f2, f3⟩ := id HS1.out.v
  dsimp only at c0 c1 c2 c3
  have z1 := HS1.out.lt
  have z0 : w.heap.size < w1.heap.size := by omega
  cases o with
  | none =>
    have HE := Vl.hid (Ky.read_4no HO.out)
    rw [← HD.out] at HE
    unfold Ky.txtT
    go_wp2_with fail
    refine bodyPost_ret (v := .agg #[.int .i64 0, .int .i64 0, .float .f64 0, .string ⟨#[]⟩, .int .i64 0]) (by simp [results, Tryd.results33, go_sem, *]) rfl ⟨none, rfl, HE.out, ?_⟩
    exact Vl.bal (((((HS1.out.l.setCell (Nat.le_refl _) _).setCell (Nat.le_refl _) _).setCell (Nat.le_refl _) _).setCell (Nat.le_refl _) _).setCell (Nat.le_refl _) _) _
  | some p =>
    obtain ⟨t, z⟩ := p
    have hz0 : ((z : Int) == 0) = false := by
      obtain ⟨r, _, hz⟩ := HO.out
      have hz' : z = (Ky.esc t).length + 2 := hz
      simp; omega
    have hz9 : (z : Int) ≤ 200000 := by
      obtain ⟨r, hr, hz⟩ := HO.out
      have hz' : z = (Ky.esc t).length + 2 := hz
      have hr' := congrArg List.length hr
      rw [List.length_append, ← Ky.size_list] at hr'
      simp at hr' hx
      omega
    have HQ : Hid ((Vl.goodB 4 0 0 ⟨t.toArray⟩ = false → Ky.ReadIs s.data.toList none) ∧ (Vl.goodB 4 0 0 ⟨t.toArray⟩ = true → Ky.ReadIs s.data.toList (some (⟨4, 0, 0, ⟨t.toArray⟩⟩, z + 1)))) := by
      rw [HD.out]
      refine Vl.hid ⟨fun g => ?_, fun g => ?_⟩
      · rcases Nat.lt_or_ge 256 t.length with q | q
        · exact Ky.read_4big HO.out q
        · rw [(Ky.good_4 (s := ⟨t.toArray⟩) (by rw [Ky.size_list]; exact q)).g] at g; cases g
      · refine Ky.read_4yes HO.out ?_
        have hg : Ky.GoodV ⟨4, 0, 0, ⟨t.toArray⟩⟩ := ⟨g, by simp, by simp, by simp⟩
        rcases hg.cases with q | q | q | q | q
        all_goals first | (exfalso; have := q.1; simp only at this; omega) | (have := q.2.2.2; rw [Ky.size_list] at this; exact this)
    unfold Ky.txtT
    dsimp only
    generalize (⟨t.toArray⟩ : ByteArray) = b at HQ
    go_wp2_with fail
    go_region_with fail
    all_goals
      go_wp2_with fail
      refine (refGood_any 4 0 0 b _).mono ?_
      rintro e w2 ⟨rfl, hb⟩
      have HS := Vl.hid ((((HS1.out.setS b).al _).drew).step hb)
      clear HS1 p0 p1 p2 p3 p4 q0 q1 q2 q3 q4 c0 c1 c2 c3 f0 f1 f2 f3 z1 z0
      clear hb
      obtain ⟨⟨p0, p1, p2, p3, p4⟩, q0, q1, q2, q3, q4⟩ := HS.out.cells
      obtain ⟨c0, c1, c2, c3⟩ := HS.out.v.four
      dsimp only at c0 c1 c2 c3
      have z1 := HS.out.lt
      cases hg : Vl.goodB 4 0 0 b
      · have HE := Vl.hid (HQ.out.1 hg)
        go_wp2_with fail
        refine bodyPost_ret (v := .agg #[.int .i64 0, .int .i64 0, .float .f64 0, .string ⟨#[]⟩, .int .i64 0]) (by simp [results, Tryd.results33, go_sem, *]) rfl ⟨none, rfl, HE.out, ?_⟩
        exact (((((HS.out.l.setCell (Nat.le_refl _) _).setCell (Nat.le_refl _) _).setCell (Nat.le_refl _) _).setCell (Nat.le_refl _) _).setCell (Nat.le_refl _) _)
      · have HE := Vl.hid (HQ.out.2 hg)
        go_wp2_with fail
        refine bodyPost_ret (v := .agg #[.int .i64 4, .int .i64 0, .float .f64 0, .string b, .int .i64 (1 + (z : Int))]) (by simp [results, Tryd.results33, go_sem, *]) rfl ⟨some (⟨4, 0, 0, b⟩, z + 1), by rw [show (1 : Int) + (z : Int) = ((z + 1 : Nat) : Int) from by omega]; rfl, HE.out, ?_⟩
        exact (((((HS.out.l.setCell (Nat.le_refl _) _).setCell (Nat.le_refl _) _).setCell (Nat.le_refl _) _).setCell (Nat.le_refl _) _).setCell (Nat.le_refl _) _)

end Go.Proofs.YtlafccdaplgfoaaDoor
