/- The reference's Insert and Remove, where nothing turns. -/
import Derived.Test.YtjnaafgiokdcbaaLe1b
namespace Go.Proofs.Ytjnaafgiokdcbaa
open Go.RowKit

set_option maxRecDepth 100000 in
set_option maxHeartbeats 2000000 in
theorem refIns_long {w : World} {base p r c : Nat} {kf : Nat → Value} {s : Lf.S} (H : Hid (Lf.Rm w base p r c kf s)) {k : ByteArray} (hz : ¬ k.size ≤ 1024) :
    Calls Try.prog 9 #[.pointer (some ⟨p, 0, none⟩), .string k] w fun e w' => e = .returned (.agg #[.int .i64 0, .int .i64 0, .int .i64 0, .int .i64 2]) ∧ Lf.Out w base p r kf s w' s := by
  obtain ⟨w1, hw1⟩ : ∃ w1, w.alloc (.cells #[.int .i64 0, .int .i64 0, .int .i64 0, .int .i64 0] 39) = w1 := ⟨_, rfl⟩
  have HB1 : Hid (Below w.heap.size w w1) := Mm.hid (by rw [← hw1]; exact (Below.refl _ _).alloc (Nat.le_refl _) _)
  have HX1 : Hid (w1.heap[w.heap.size]? = some (.cells #[.int .i64 0, .int .i64 0, .int .i64 0, .int .i64 0] 39 (0, 0))) := Mm.hid (by rw [← hw1]; exact Mm.newAt _ _ rfl)
  have hz' : (1024 : Int) < (k.size : Int) := by omega
  have f0 : w1.cell? ⟨w.heap.size, 0, none⟩ = some (.int .i64 0) := Mm.cellOf HX1.out rfl
  have f1 : w1.cell? ⟨w.heap.size, 1, none⟩ = some (.int .i64 0) := Mm.cellOf HX1.out rfl
  have f2 : w1.cell? ⟨w.heap.size, 2, none⟩ = some (.int .i64 0) := Mm.cellOf HX1.out rfl
  have f3 : w1.cell? ⟨w.heap.size, 3, none⟩ = some (.int .i64 0) := Mm.cellOf HX1.out rfl
  have r0 : w1.frozen? ⟨w.heap.size, 0, none⟩ = false := Lf.unfroz HX1.out
  have r1 : w1.frozen? ⟨w.heap.size, 1, none⟩ = false := Lf.unfroz HX1.out
  have r2 : w1.frozen? ⟨w.heap.size, 2, none⟩ = false := Lf.unfroz HX1.out
  have r3 : w1.frozen? ⟨w.heap.size, 3, none⟩ = false := Lf.unfroz HX1.out
  go_enter Try.func9, Try.ntmps9
  go_wp2_with fail
  have hfin := Lf.Out.fin H.out (H.out.below HB1.out) (Lf.Tc.of HB1.out) (fun b h => Or.inl h) (.int .i64 0) (.int .i64 0) (.int .i64 0) (.int .i64 2)
  have hs4 := Lf.set4 (y0 := .int .i64 0) (y1 := .int .i64 0) (y2 := .int .i64 0) (y3 := .int .i64 2) HX1.out
  have hc0 := Mm.cellOf (i := 0) hs4 rfl
  have hc1 := Mm.cellOf (i := 1) hs4 rfl
  have hc2 := Mm.cellOf (i := 2) hs4 rfl
  have hc3 := Mm.cellOf (i := 3) hs4 rfl
  exact bodyPost_ret (v := .agg #[.int .i64 0, .int .i64 0, .int .i64 0, .int .i64 2]) (by simp [results, Try.results9, go_sem, hc0, hc1, hc2, hc3]) rfl ⟨rfl, hfin⟩

set_option maxRecDepth 100000 in
set_option maxHeartbeats 2000000 in
theorem refIns_twice {w : World} {base p r c : Nat} {kf : Nat → Value} {s : Lf.S} (H : Hid (Lf.Rm w base p r c kf s)) (hI : Hid (Lf.Inv s)) (hn : s.pgs.length ≤ 100000) {k : ByteArray} {L R : List Lf.Pg} {P : Lf.Pg} (hs : Hid (Lf.Spl s k L P R)) {A B : List ByteArray} (hk : Hid (Lf.Kp P.ks k A B)) (hb : Hid (B.head? = some k)) (hz : k.size ≤ 1024) :
    Calls Try.prog 9 #[.pointer (some ⟨p, 0, none⟩), .string k] w fun e w' => e = .returned (.agg #[.int .i64 0, .int .i64 0, .int .i64 0, .int .i64 62]) ∧ Lf.Out w base p r kf s w' s := by
  have hkl : P.ks.length ≤ 64 := by have := (hI.out.ks P hs.out.mem).2.2; have := hI.out.f2; omega
  obtain ⟨w1, hw1⟩ : ∃ w1, w.alloc (.cells #[.int .i64 0, .int .i64 0, .int .i64 0, .int .i64 0] 39) = w1 := ⟨_, rfl⟩
  have HB1 : Hid (Below w.heap.size w w1) := Mm.hid (by rw [← hw1]; exact (Below.refl _ _).alloc (Nat.le_refl _) _)
  have HX1 : Hid (w1.heap[w.heap.size]? = some (.cells #[.int .i64 0, .int .i64 0, .int .i64 0, .int .i64 0] 39 (0, 0))) := Mm.hid (by rw [← hw1]; exact Mm.newAt _ _ rfl)
  have hno : Lf.inKs P.ks k = true := Lf.inKs_iff.2 ((hk.out.mem (hI.out.ks P hs.out.mem).1).2 hb.out)
  have hhas := refHas_any (Mm.hid (H.out.below HB1.out).rd) hs hn (by omega)
  rw [hno] at hhas
  have HHAS := Mm.hid hhas
  clear hhas hno
  have hz' : ¬ ((1024 : Int) < (k.size : Int)) := by omega
  go_enter Try.func9, Try.ntmps9
  go_wp2_with fail
  refine HHAS.out.mono ?_
  rintro e w2 ⟨rfl, hb2⟩
  clear HHAS hz'
  have HB2 : Hid (Below w.heap.size w w2) := Mm.hid (HB1.out.trans (hb2.mono HB1.out.size))
  have HX2 : Hid (w2.heap[w.heap.size]? = some (.cells #[.int .i64 0, .int .i64 0, .int .i64 0, .int .i64 0] 39 (0, 0))) := Mm.hid ((hb2.block _ (Mm.heapLt HX1.out)).trans HX1.out)
  clear hb2 HB1 HX1
  have f0 : w2.cell? ⟨w.heap.size, 0, none⟩ = some (.int .i64 0) := Mm.cellOf HX2.out rfl
  have f1 : w2.cell? ⟨w.heap.size, 1, none⟩ = some (.int .i64 0) := Mm.cellOf HX2.out rfl
  have f2 : w2.cell? ⟨w.heap.size, 2, none⟩ = some (.int .i64 0) := Mm.cellOf HX2.out rfl
  have f3 : w2.cell? ⟨w.heap.size, 3, none⟩ = some (.int .i64 0) := Mm.cellOf HX2.out rfl
  have r0 : w2.frozen? ⟨w.heap.size, 0, none⟩ = false := Lf.unfroz HX2.out
  have r1 : w2.frozen? ⟨w.heap.size, 1, none⟩ = false := Lf.unfroz HX2.out
  have r2 : w2.frozen? ⟨w.heap.size, 2, none⟩ = false := Lf.unfroz HX2.out
  have r3 : w2.frozen? ⟨w.heap.size, 3, none⟩ = false := Lf.unfroz HX2.out
  go_wp2_with fail
  have hfin := Lf.Out.fin H.out (H.out.below HB2.out) (Lf.Tc.of HB2.out) (fun b h => Or.inl h) (.int .i64 0) (.int .i64 0) (.int .i64 0) (.int .i64 62)
  have hs4 := Lf.set4 (y0 := .int .i64 0) (y1 := .int .i64 0) (y2 := .int .i64 0) (y3 := .int .i64 62) HX2.out
  have hc0 := Mm.cellOf (i := 0) hs4 rfl
  have hc1 := Mm.cellOf (i := 1) hs4 rfl
  have hc2 := Mm.cellOf (i := 2) hs4 rfl
  have hc3 := Mm.cellOf (i := 3) hs4 rfl
  exact bodyPost_ret (v := .agg #[.int .i64 0, .int .i64 0, .int .i64 0, .int .i64 62]) (by simp [results, Try.results9, go_sem, hc0, hc1, hc2, hc3]) rfl ⟨rfl, hfin⟩

set_option maxRecDepth 100000 in
set_option maxHeartbeats 2000000 in
theorem refRem_none {w : World} {base p r c : Nat} {kf : Nat → Value} {s : Lf.S} (H : Hid (Lf.Rm w base p r c kf s)) (hI : Hid (Lf.Inv s)) (hn : s.pgs.length ≤ 100000) {k : ByteArray} {L R : List Lf.Pg} {P : Lf.Pg} (hs : Hid (Lf.Spl s k L P R)) {A B : List ByteArray} (hk : Hid (Lf.Kp P.ks k A B)) (hb : Hid (B.head? ≠ some k)) :
    Calls Try.prog 11 #[.pointer (some ⟨p, 0, none⟩), .string k] w fun e w' => e = .returned (.agg #[.int .i64 0, .int .i64 0, .int .i64 0, .int .i64 60]) ∧ Lf.Out w base p r kf s w' s := by
  have hkl : P.ks.length ≤ 64 := by have := (hI.out.ks P hs.out.mem).2.2; have := hI.out.f2; omega
  obtain ⟨w1, hw1⟩ : ∃ w1, w.alloc (.cells #[.int .i64 0, .int .i64 0, .int .i64 0, .int .i64 0] 39) = w1 := ⟨_, rfl⟩
  have HB1 : Hid (Below w.heap.size w w1) := Mm.hid (by rw [← hw1]; exact (Below.refl _ _).alloc (Nat.le_refl _) _)
  have HX1 : Hid (w1.heap[w.heap.size]? = some (.cells #[.int .i64 0, .int .i64 0, .int .i64 0, .int .i64 0] 39 (0, 0))) := Mm.hid (by rw [← hw1]; exact Mm.newAt _ _ rfl)
  have hno : Lf.inKs P.ks k = false := by
    cases h9 : Lf.inKs P.ks k with
    | false => rfl
    | true => exact absurd ((hk.out.mem (hI.out.ks P hs.out.mem).1).1 (Lf.inKs_iff.1 h9)) hb.out
  have hhas := refHas_any (Mm.hid (H.out.below HB1.out).rd) hs hn (by omega)
  rw [hno] at hhas
  have HHAS := Mm.hid hhas
  clear hhas hno
  go_enter Try.func11, Try.ntmps11
  go_wp2_with fail
  refine HHAS.out.mono ?_
  rintro e w2 ⟨rfl, hb2⟩
  clear HHAS
  have HB2 : Hid (Below w.heap.size w w2) := Mm.hid (HB1.out.trans (hb2.mono HB1.out.size))
  have HX2 : Hid (w2.heap[w.heap.size]? = some (.cells #[.int .i64 0, .int .i64 0, .int .i64 0, .int .i64 0] 39 (0, 0))) := Mm.hid ((hb2.block _ (Mm.heapLt HX1.out)).trans HX1.out)
  clear hb2 HB1 HX1
  have f0 : w2.cell? ⟨w.heap.size, 0, none⟩ = some (.int .i64 0) := Mm.cellOf HX2.out rfl
  have f1 : w2.cell? ⟨w.heap.size, 1, none⟩ = some (.int .i64 0) := Mm.cellOf HX2.out rfl
  have f2 : w2.cell? ⟨w.heap.size, 2, none⟩ = some (.int .i64 0) := Mm.cellOf HX2.out rfl
  have f3 : w2.cell? ⟨w.heap.size, 3, none⟩ = some (.int .i64 0) := Mm.cellOf HX2.out rfl
  have r0 : w2.frozen? ⟨w.heap.size, 0, none⟩ = false := Lf.unfroz HX2.out
  have r1 : w2.frozen? ⟨w.heap.size, 1, none⟩ = false := Lf.unfroz HX2.out
  have r2 : w2.frozen? ⟨w.heap.size, 2, none⟩ = false := Lf.unfroz HX2.out
  have r3 : w2.frozen? ⟨w.heap.size, 3, none⟩ = false := Lf.unfroz HX2.out
  go_wp2_with fail
  have hfin := Lf.Out.fin H.out (H.out.below HB2.out) (Lf.Tc.of HB2.out) (fun b h => Or.inl h) (.int .i64 0) (.int .i64 0) (.int .i64 0) (.int .i64 60)
  have hs4 := Lf.set4 (y0 := .int .i64 0) (y1 := .int .i64 0) (y2 := .int .i64 0) (y3 := .int .i64 60) HX2.out
  have hc0 := Mm.cellOf (i := 0) hs4 rfl
  have hc1 := Mm.cellOf (i := 1) hs4 rfl
  have hc2 := Mm.cellOf (i := 2) hs4 rfl
  have hc3 := Mm.cellOf (i := 3) hs4 rfl
  exact bodyPost_ret (v := .agg #[.int .i64 0, .int .i64 0, .int .i64 0, .int .i64 60]) (by simp [results, Try.results11, go_sem, hc0, hc1, hc2, hc3]) rfl ⟨rfl, hfin⟩

end Go.Proofs.Ytjnaafgiokdcbaa
