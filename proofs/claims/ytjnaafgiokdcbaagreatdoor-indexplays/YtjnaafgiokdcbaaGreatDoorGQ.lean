/- The reference's Insert and Remove, where nothing turns. -/
import Derived.Test.YtjnaafgiokdcbaaGreatDoorGN
import Derived.Test.YtjnaafgiokdcbaaGreatDoorGM
import Derived.Test.YtjnaafgiokdcbaaGreatDoorGL
import Derived.Test.YtjnaafgiokdcbaaGreatDoorGO
import Derived.Test.YtjnaafgiokdcbaaGreatDoorGP
import Derived.Test.YtjnaafgiokdcbaaGreatDoorGF
set_option maxRecDepth 100000
namespace Go.Proofs.YtjnaafgiokdcbaaGreatDoor
open Go.RowKit

set_option maxRecDepth 100000 in
set_option maxHeartbeats 2000000 in
theorem refIns_long {w : World} {base p r c : Nat} {kf : Nat → Value} {s : Lf.S} (H : Hid (Lf.Rm w base p r c kf s)) {k : ByteArray} (hz : ¬ k.size ≤ 1024) :
    Calls Tryz.prog 35 #[.pointer (some ⟨p, 0, none⟩), .string k] w fun e w' => e = .returned (.agg #[.int .i64 0, .int .i64 0, .int .i64 0, .int .i64 2]) ∧ Lf.Out w base p r kf s w' s := by
  obtain ⟨w1, hw1⟩ : ∃ w1, w.alloc (.cells #[.int .i64 0, .int .i64 0, .int .i64 0, .int .i64 0] 42) = w1 := ⟨_, rfl⟩
  have HB1 : Hid (Below w.heap.size w w1) := Mm.hid (by rw [← hw1]; exact (Below.refl _ _).alloc (Nat.le_refl _) _)
  have HX1 : Hid (w1.heap[w.heap.size]? = some (.cells #[.int .i64 0, .int .i64 0, .int .i64 0, .int .i64 0] 42 (0, 0))) := Mm.hid (by rw [← hw1]; exact Mm.newAt _ _ rfl)
  have hz' : (1024 : Int) < (k.size : Int) := by omega
  have f0 : w1.cell? ⟨w.heap.size, 0, none⟩ = some (.int .i64 0) := Mm.cellOf HX1.out rfl
  have f1 : w1.cell? ⟨w.heap.size, 1, none⟩ = some (.int .i64 0) := Mm.cellOf HX1.out rfl
  have f2 : w1.cell? ⟨w.heap.size, 2, none⟩ = some (.int .i64 0) := Mm.cellOf HX1.out rfl
  have f3 : w1.cell? ⟨w.heap.size, 3, none⟩ = some (.int .i64 0) := Mm.cellOf HX1.out rfl
  have r0 : w1.frozen? ⟨w.heap.size, 0, none⟩ = false := Lf.unfroz HX1.out
  have r1 : w1.frozen? ⟨w.heap.size, 1, none⟩ = false := Lf.unfroz HX1.out
  have r2 : w1.frozen? ⟨w.heap.size, 2, none⟩ = false := Lf.unfroz HX1.out
  have r3 : w1.frozen? ⟨w.heap.size, 3, none⟩ = false := Lf.unfroz HX1.out
  go_enter Tryz.func35, Tryz.ntmps35
  go_wp2_with fail
  have hfin := Lf.Out.fin H.out (H.out.below HB1.out) (Lf.Tc.of HB1.out) (fun b h => Or.inl h) (.int .i64 0) (.int .i64 0) (.int .i64 0) (.int .i64 2)
  have hs4 := Lf.set4 (y0 := .int .i64 0) (y1 := .int .i64 0) (y2 := .int .i64 0) (y3 := .int .i64 2) HX1.out
  have hc0 := Mm.cellOf (i := 0) hs4 rfl
  have hc1 := Mm.cellOf (i := 1) hs4 rfl
  have hc2 := Mm.cellOf (i := 2) hs4 rfl
  have hc3 := Mm.cellOf (i := 3) hs4 rfl
  exact bodyPost_ret (v := .agg #[.int .i64 0, .int .i64 0, .int .i64 0, .int .i64 2]) (by simp [results, Tryz.results35, go_sem, hc0, hc1, hc2, hc3]) rfl ⟨rfl, hfin⟩

set_option maxRecDepth 100000 in
set_option maxHeartbeats 2000000 in
theorem refIns_twice {w : World} {base p r c : Nat} {kf : Nat → Value} {s : Lf.S} (H : Hid (Lf.Rm w base p r c kf s)) (hI : Hid (Lf.Inv s)) (hn : s.pgs.length ≤ 100000) {k : ByteArray} {L R : List Lf.Pg} {P : Lf.Pg} (hs : Hid (Lf.Spl s k L P R)) {A B : List ByteArray} (hk : Hid (Lf.Kp P.ks k A B)) (hb : Hid (B.head? = some k)) (hz : k.size ≤ 1024) :
    Calls Tryz.prog 35 #[.pointer (some ⟨p, 0, none⟩), .string k] w fun e w' => e = .returned (.agg #[.int .i64 0, .int .i64 0, .int .i64 0, .int .i64 62]) ∧ Lf.Out w base p r kf s w' s := by
  have hkl : P.ks.length ≤ 64 := by have := (hI.out.ks P hs.out.mem).2.2; have := hI.out.f2; omega
  obtain ⟨w1, hw1⟩ : ∃ w1, w.alloc (.cells #[.int .i64 0, .int .i64 0, .int .i64 0, .int .i64 0] 42) = w1 := ⟨_, rfl⟩
  have HB1 : Hid (Below w.heap.size w w1) := Mm.hid (by rw [← hw1]; exact (Below.refl _ _).alloc (Nat.le_refl _) _)
  have HX1 : Hid (w1.heap[w.heap.size]? = some (.cells #[.int .i64 0, .int .i64 0, .int .i64 0, .int .i64 0] 42 (0, 0))) := Mm.hid (by rw [← hw1]; exact Mm.newAt _ _ rfl)
  have hno : Lf.inKs P.ks k = true := Lf.inKs_iff.2 ((hk.out.mem (hI.out.ks P hs.out.mem).1).2 hb.out)
  have hhas := refHas_any (Mm.hid (H.out.below HB1.out).rd) hs hn (by omega)
  rw [hno] at hhas
  have HHAS := Mm.hid hhas
  clear hhas hno
  have hz' : ¬ ((1024 : Int) < (k.size : Int)) := by omega
  go_enter Tryz.func35, Tryz.ntmps35
  go_wp2_with fail
  refine HHAS.out.mono ?_
  rintro e w2 ⟨rfl, hb2⟩
  clear HHAS hz'
  have HB2 : Hid (Below w.heap.size w w2) := Mm.hid (HB1.out.trans (hb2.mono HB1.out.size))
  have HX2 : Hid (w2.heap[w.heap.size]? = some (.cells #[.int .i64 0, .int .i64 0, .int .i64 0, .int .i64 0] 42 (0, 0))) := Mm.hid ((hb2.block _ (Mm.heapLt HX1.out)).trans HX1.out)
  clear hb2 HB1 HX1
  have f0 : w2.cell? ⟨w.heap.size, 0, none⟩ = some (.int .i64 0) := Mm.cellOf HX2.out rfl
  have f1 : w2.cell? ⟨w.heap.size, 1, none⟩ = some (.int .i64 0) := Mm.cellOf HX2.out rfl
  have f2 : w2.cell? ⟨w.heap.size, 2, none⟩ = some (.int .i64 0) := Mm.cellOf HX2.out rfl
  have f3 : w2.cell? ⟨w.heap.size, 3, none⟩ = some (.int .i64 0) := Mm.cellOf HX2.out rfl
  have r0 : w2.frozen? ⟨w.heap.size, 0, none⟩ = false := Lf.unfroz HX2.out
  have r1 : w2.frozen? ⟨w.heap.size, 1, none⟩ = false := Lf.unfroz HX2.out
  have r2 : w2.frozen? ⟨w.heap.size, 2, none⟩ = false := Lf.unfroz HX2.out
  have r3 : w2.frozen? ⟨w.heap.size, 3, none⟩ = false := Lf.unfroz HX2.out
  go_wp2_with fail
  have hfin := Lf.Out.fin H.out (H.out.below HB2.out) (Lf.Tc.of HB2.out) (fun b h => Or.inl h) (.int .i64 0) (.int .i64 0) (.int .i64 0) (.int .i64 62)
  have hs4 := Lf.set4 (y0 := .int .i64 0) (y1 := .int .i64 0) (y2 := .int .i64 0) (y3 := .int .i64 62) HX2.out
  have hc0 := Mm.cellOf (i := 0) hs4 rfl
  have hc1 := Mm.cellOf (i := 1) hs4 rfl
  have hc2 := Mm.cellOf (i := 2) hs4 rfl
  have hc3 := Mm.cellOf (i := 3) hs4 rfl
  exact bodyPost_ret (v := .agg #[.int .i64 0, .int .i64 0, .int .i64 0, .int .i64 62]) (by simp [results, Tryz.results35, go_sem, hc0, hc1, hc2, hc3]) rfl ⟨rfl, hfin⟩

set_option maxRecDepth 100000 in
set_option maxHeartbeats 2000000 in
theorem refRem_none {w : World} {base p r c : Nat} {kf : Nat → Value} {s : Lf.S} (H : Hid (Lf.Rm w base p r c kf s)) (hI : Hid (Lf.Inv s)) (hn : s.pgs.length ≤ 100000) {k : ByteArray} {L R : List Lf.Pg} {P : Lf.Pg} (hs : Hid (Lf.Spl s k L P R)) {A B : List ByteArray} (hk : Hid (Lf.Kp P.ks k A B)) (hb : Hid (B.head? ≠ some k)) :
    Calls Tryz.prog 37 #[.pointer (some ⟨p, 0, none⟩), .string k] w fun e w' => e = .returned (.agg #[.int .i64 0, .int .i64 0, .int .i64 0, .int .i64 60]) ∧ Lf.Out w base p r kf s w' s := by
  have hkl : P.ks.length ≤ 64 := by have := (hI.out.ks P hs.out.mem).2.2; have := hI.out.f2; omega
  obtain ⟨w1, hw1⟩ : ∃ w1, w.alloc (.cells #[.int .i64 0, .int .i64 0, .int .i64 0, .int .i64 0] 42) = w1 := ⟨_, rfl⟩
  have HB1 : Hid (Below w.heap.size w w1) := Mm.hid (by rw [← hw1]; exact (Below.refl _ _).alloc (Nat.le_refl _) _)
  have HX1 : Hid (w1.heap[w.heap.size]? = some (.cells #[.int .i64 0, .int .i64 0, .int .i64 0, .int .i64 0] 42 (0, 0))) := Mm.hid (by rw [← hw1]; exact Mm.newAt _ _ rfl)
  have hno : Lf.inKs P.ks k = false := by
    cases h9 : Lf.inKs P.ks k with
    | false => rfl
    | true => exact absurd ((hk.out.mem (hI.out.ks P hs.out.mem).1).1 (Lf.inKs_iff.1 h9)) hb.out
  have hhas := refHas_any (Mm.hid (H.out.below HB1.out).rd) hs hn (by omega)
  rw [hno] at hhas
  have HHAS := Mm.hid hhas
  clear hhas hno
  go_enter Tryz.func37, Tryz.ntmps37
  go_wp2_with fail
  refine HHAS.out.mono ?_
  rintro e w2 ⟨rfl, hb2⟩
  clear HHAS
  have HB2 : Hid (Below w.heap.size w w2) := Mm.hid (HB1.out.trans (hb2.mono HB1.out.size))
  have HX2 : Hid (w2.heap[w.heap.size]? = some (.cells #[.int .i64 0, .int .i64 0, .int .i64 0, .int .i64 0] 42 (0, 0))) := Mm.hid ((hb2.block _ (Mm.heapLt HX1.out)).trans HX1.out)
  clear hb2 HB1 HX1
  have f0 : w2.cell? ⟨w.heap.size, 0, none⟩ = some (.int .i64 0) := Mm.cellOf HX2.out rfl
  have f1 : w2.cell? ⟨w.heap.size, 1, none⟩ = some (.int .i64 0) := Mm.cellOf HX2.out rfl
  have f2 : w2.cell? ⟨w.heap.size, 2, none⟩ = some (.int .i64 0) := Mm.cellOf HX2.out rfl
  have f3 : w2.cell? ⟨w.heap.size, 3, none⟩ = some (.int .i64 0) := Mm.cellOf HX2.out rfl
  have r0 : w2.frozen? ⟨w.heap.size, 0, none⟩ = false := Lf.unfroz HX2.out
  have r1 : w2.frozen? ⟨w.heap.size, 1, none⟩ = false := Lf.unfroz HX2.out
  have r2 : w2.frozen? ⟨w.heap.size, 2, none⟩ = false := Lf.unfroz HX2.out
  have r3 : w2.frozen? ⟨w.heap.size, 3, none⟩ = false := Lf.unfroz HX2.out
  go_wp2_with fail
  have hfin := Lf.Out.fin H.out (H.out.below HB2.out) (Lf.Tc.of HB2.out) (fun b h => Or.inl h) (.int .i64 0) (.int .i64 0) (.int .i64 0) (.int .i64 60)
  have hs4 := Lf.set4 (y0 := .int .i64 0) (y1 := .int .i64 0) (y2 := .int .i64 0) (y3 := .int .i64 60) HX2.out
  have hc0 := Mm.cellOf (i := 0) hs4 rfl
  have hc1 := Mm.cellOf (i := 1) hs4 rfl
  have hc2 := Mm.cellOf (i := 2) hs4 rfl
  have hc3 := Mm.cellOf (i := 3) hs4 rfl
  exact bodyPost_ret (v := .agg #[.int .i64 0, .int .i64 0, .int .i64 0, .int .i64 60]) (by simp [results, Tryz.results37, go_sem, hc0, hc1, hc2, hc3]) rfl ⟨rfl, hfin⟩

end Go.Proofs.YtjnaafgiokdcbaaGreatDoor

/- The reference's Insert and Remove. -/
namespace Go.Proofs.YtjnaafgiokdcbaaGreatDoor
open Go.RowKit
variable {w : World} {base p r c : Nat} {kf : Nat → Value} {s : Lf.S}
theorem refInsert_any (H : Hid (Lf.Rm w base p r c kf s)) (hI : Hid (Lf.Inv s)) (hbase : Hid (base ≤ w.heap.size)) (hn : s.pgs.length ≤ 100000) (hla : s.last ≤ 100000) (k : ByteArray) :
    Calls Tryz.prog 35 #[.pointer (some ⟨p, 0, none⟩), .string k] w fun e w' => ∃ s' l f t er, e = .returned (.agg #[.int .i64 ((l : Nat) : Int), .int .i64 ((f : Nat) : Int), .int .i64 ((t : Nat) : Int), .int .i64 ((er : Nat) : Int)]) ∧ Lf.InsR s k s' l f t er ∧ Lf.Out w base p r kf s w' s' := by
  rcases Nat.lt_or_ge 1024 k.size with hz | hz
  · refine (refIns_long H (by omega)).mono ?_
    rintro e w' ⟨rfl, ho⟩
    exact ⟨s, 0, 0, 0, 2, rfl, .long hz, ho⟩
  · obtain ⟨L, P, R, hs⟩ := Lf.spl_ex hI.out k
    obtain ⟨A, B, hp⟩ := Lf.kp_ex (hI.out.ks P hs.mem).1 k
    by_cases hb : B.head? = some k
    · refine (refIns_twice H hI hn (Mm.hid hs) (Mm.hid hp) (Mm.hid hb) hz).mono ?_
      rintro e w' ⟨rfl, ho⟩
      exact ⟨s, 0, 0, 0, 62, rfl, .twice hs hp hb hz, ho⟩
    · by_cases hf : (A ++ k :: B).length ≤ s.fan
      · refine (refIns_stay H hI hbase hn (Mm.hid hs) (Mm.hid hp) (Mm.hid hb) hz (Mm.hid hf)).mono ?_
        rintro e w' ⟨s', l, f, t, rfl, h1, h2⟩
        exact ⟨s', l, f, t, 0, rfl, h1, h2⟩
      · refine (refIns_part H hI hbase hn (Mm.hid hs) (Mm.hid hp) (Mm.hid hb) hz (Mm.hid hf) hla).mono ?_
        rintro e w' ⟨s', l, f, t, rfl, h1, h2⟩
        exact ⟨s', l, f, t, 0, rfl, h1, h2⟩
theorem refRemove_any (H : Hid (Lf.Rm w base p r c kf s)) (hI : Hid (Lf.Inv s)) (hbase : Hid (base ≤ w.heap.size)) (hn : s.pgs.length ≤ 100000) (k : ByteArray) :
    Calls Tryz.prog 37 #[.pointer (some ⟨p, 0, none⟩), .string k] w fun e w' => ∃ s' l f t er, e = .returned (.agg #[.int .i64 ((l : Nat) : Int), .int .i64 ((f : Nat) : Int), .int .i64 ((t : Nat) : Int), .int .i64 ((er : Nat) : Int)]) ∧ Lf.RemR s k s' l f t er ∧ Lf.Out w base p r kf s w' s' := by
  obtain ⟨L, P, R, hs⟩ := Lf.spl_ex hI.out k
  obtain ⟨A, B, hp⟩ := Lf.kp_ex (hI.out.ks P hs.mem).1 k
  by_cases hb : B.head? = some k
  · cases B with
    | nil => cases hb
    | cons b B =>
      simp at hb; subst hb
      by_cases hf : A ++ B ≠ [] ∨ L ++ R = []
      · refine (refRem_stay H hI hbase hn (Mm.hid hs) (Mm.hid hp) (Mm.hid hf)).mono ?_
        rintro e w' ⟨s', l, f, t, rfl, h1, h2⟩
        exact ⟨s', l, f, t, 0, rfl, h1, h2⟩
      · refine (refRem_join H hI hbase hn (Mm.hid hs) (Mm.hid hp) (Mm.hid ⟨Classical.byContradiction (fun h => hf (Or.inl h)), fun h => hf (Or.inr h)⟩)).mono ?_
        rintro e w' ⟨s', l, f, t, rfl, h1, h2⟩
        exact ⟨s', l, f, t, 0, rfl, h1, h2⟩
  · refine (refRem_none H hI hn (Mm.hid hs) (Mm.hid hp) (Mm.hid hb)).mono ?_
    rintro e w' ⟨rfl, ho⟩
    exact ⟨s, 0, 0, 0, 60, rfl, .none hs hp hb, ho⟩

end Go.Proofs.YtjnaafgiokdcbaaGreatDoor

/- Both side by side. -/
namespace Go.Proofs.YtjnaafgiokdcbaaGreatDoor
open Go.RowKit
namespace Lf
theorem RemR.det {s s1 s2 : S} {k : ByteArray} {l1 f1 t1 e1 l2 f2 t2 e2 : Nat} (h1 : RemR s k s1 l1 f1 t1 e1) (h2 : RemR s k s2 l2 f2 t2 e2) : s1 = s2 ∧ l1 = l2 ∧ f1 = f2 ∧ t1 = t2 ∧ e1 = e2 := by
  cases h1 with
  | none a1 a2 a3 =>
    cases h2 with
    | none _ _ _ => exact ⟨rfl, rfl, rfl, rfl, rfl⟩
    | ok b1 b2 =>
      obtain ⟨_, e, _⟩ := a1.uniq b1
      rw [e] at a2
      exact absurd (by rw [(a2.uniq b2).2]; rfl) a3
  | ok a1 a2 =>
    cases h2 with
    | none b1 b2 b3 =>
      obtain ⟨_, e, _⟩ := a1.uniq b1
      rw [e] at a2
      exact absurd (by rw [← (a2.uniq b2).2]; rfl) b3
    | ok b1 b2 =>
      obtain ⟨e1, e2, e3⟩ := a1.uniq b1
      subst e1; subst e2; subst e3
      obtain ⟨e4, e5⟩ := a2.uniq b2
      injection e5 with _ e5
      subst e4; subst e5
      exact ⟨rfl, rfl, rfl, rfl, rfl⟩
/-- The program's leaves and the reference's in one world. -/
structure Jt (w0 w : World) (tag : Nat → Option Tg) (p : Nat) (s : S) (N base pr r c : Nat) (kf : Nat → Value) (s2 : S) : Prop where
  q : Lq w0.heap.size w tag p s N
  m : Rm w base pr r c kf s2
  t : ∀ b, Rb pr r kf s2 b → tag b = none
  hb : w0.heap.size ≤ base ∧ base ≤ w.heap.size
  bel : Below w0.heap.size w0 w
variable {w0 w w' : World} {tag tag' : Nat → Option Tg} {p N N' base pr r c : Nat} {s s' s2 s2' : S} {kf : Nat → Value}
theorem Jt.below (H : Jt w0 w tag p s N base pr r c kf s2) (hb : Below w.heap.size w w') : Jt w0 w' tag p s N base pr r c kf s2 :=
  ⟨H.q.below hb, H.m.below hb, H.t, ⟨H.hb.1, Nat.le_trans H.hb.2 hb.size⟩, H.bel.trans (hb.mono H.bel.size)⟩
theorem Jt.prog (H : Jt w0 w tag p s N base pr r c kf s2) (hq : Lq w0.heap.size w' tag' p s' N') (hE : Ev tag tag' w w') : Jt w0 w' tag' p s' N' base pr r c kf s2 :=
  ⟨hq, H.m.keep (fun b hlt hb => hE.block b hlt (H.t b hb)), fun b hb => hE.tags b (hb.lt H.m) (H.t b hb), ⟨H.hb.1, Nat.le_trans H.hb.2 hE.size⟩, H.bel.trans (hE.bel H.bel.size H.q.bot)⟩
theorem Jt.ref (H : Jt w0 w tag p s N base pr r c kf s2) (hO : Out w base pr r kf s2 w' s2') : (∃ r' c' kf', Jt w0 w' tag p s N base pr r' c' kf' s2') ∧ Tc pr r w w' := by
  obtain ⟨r', c', kf', h1, h2, h3⟩ := hO
  refine ⟨⟨r', c', kf', H.q.keep h2.size (fun b l hl => h2.block b ?_ ?_ ?_), h1, fun b hb => (h3 b hb).elim (H.t b) (H.q.top b), ⟨H.hb.1, Nat.le_trans H.hb.2 h2.size⟩, H.bel.trans (h2.bel ?_ ?_ H.bel.size)⟩, h2⟩
  · exact Nat.lt_of_not_le (fun h => by rw [H.q.top b h] at hl; cases hl)
  · rintro rfl
    rw [H.t _ (Or.inl rfl)] at hl; cases hl
  · rintro rfl
    rw [H.t _ (Or.inr (Or.inl rfl))] at hl; cases hl
  · exact Nat.le_trans H.hb.1 H.m.lo
  · exact Nat.le_trans H.hb.1 H.m.row.2
theorem Jt.inc (H : Jt w0 w tag p s N base pr r c kf s2) : Jt w0 w tag p s (N + 1) base pr r c kf s2 :=
  ⟨⟨H.q.1, H.q.2.1, Nat.le_succ_of_le H.q.2.2.1, Nat.le_succ_of_le H.q.2.2.2⟩, H.m, H.t, H.hb, H.bel⟩
theorem Jt.le (H : Jt w0 w tag p s N base pr r c kf s2) (h : N ≤ N') : Jt w0 w tag p s N' base pr r c kf s2 :=
  ⟨⟨H.q.1, H.q.2.1, Nat.le_trans H.q.2.2.1 (by omega), Nat.le_trans H.q.2.2.2 h⟩, H.m, H.t, H.hb, H.bel⟩
/-- Nothing outside the two turns. -/
theorem Jt.setB (H : Jt w0 w tag p s N base pr r c kf s2) {b : Nat} (hb : w0.heap.size ≤ b) (ht : tag b = none) (hr : ¬ Rb pr r kf s2 b) (i : Nat) (u : Value) : Jt w0 (w.setCell ⟨b, i, none⟩ u) tag p s N base pr r c kf s2 := by
  have oth : ∀ g, g ≠ b → (w.setCell ⟨b, i, none⟩ u).heap[g]? = w.heap[g]? := fun g hg => heap_setCell_other _ _ _ _ (by simpa using hg)
  refine ⟨H.q.keep (by simp) (fun g l hg => oth g (fun e => by rw [e, ht] at hg; cases hg)), H.m.keep (fun g _ hg => oth g (fun e => hr (by rw [← e]; exact hg))), H.t, ⟨H.hb.1, by simpa using H.hb.2⟩, ?_⟩
  exact ⟨H.bel.os, H.bel.tape, H.bel.output, by simpa using H.bel.size, fun g hg => (oth g (by omega)).trans (H.bel.block g hg)⟩
theorem keys_m1 {s : S} : ksOf s.pgs (-1) = [] := by
  unfold ksOf
  have : s.pgs.find? (fun P => (P.n : Int) == -1) = none := List.find?_eq_none.2 (fun P _ h => by
    simp at h)
  rw [this]
theorem spanK_len {s : S} (_ : Inv s) (frm tto : ByteArray) : (spanK s frm tto).length ≤ (flat s.pgs).length := by
  unfold spanK
  split
  · exact Nat.zero_le _
  · unfold rngK keysIn flat
    refine Nat.le_trans (List.length_filter_le _ _) ?_
    have h1 : (List.takeWhile (upTo tto) (s.pgs.dropWhile (fun P => !decide (P.n = (leafOf s frm).n)))).Sublist s.pgs := (List.takeWhile_sublist _).trans (List.dropWhile_sublist _)
    generalize List.takeWhile (upTo tto) (s.pgs.dropWhile (fun P => !decide (P.n = (leafOf s frm).n))) = T at h1
    rw [List.length_flatMap, List.length_flatMap]
    generalize s.pgs = l at h1
    induction h1 with
    | slnil => exact Nat.le_refl _
    | cons a _ ih => simp only [List.map_cons, List.sum_cons]; omega
    | cons_cons a _ ih => simp only [List.map_cons, List.sum_cons]; omega
theorem spanL_len {s : S} (_ : Inv s) (frm tto : ByteArray) : (spanL s frm tto).length ≤ s.pgs.length := by
  unfold spanL
  split
  · exact Nat.zero_le _
  · unfold rngL nums
    rw [List.length_map]
    exact ((List.takeWhile_sublist _).trans (List.dropWhile_sublist _)).length_le
theorem flat_cnt {s : S} (hI : Inv s) : (flat s.pgs).length = s.count := by rw [flat_len]; exact hI.cnt.symm
end Lf

end Go.Proofs.YtjnaafgiokdcbaaGreatDoor
