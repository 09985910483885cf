/- Has, Of, Len, All, Keys. -/
import Derived.Test.YtjnaafgiokdcbaaLa7
namespace Go.Proofs.Ytjnaafgiokdcbaa
open Go.RowKit

namespace Lf
/-- Leaves at a block, or none at all. -/
def nums (l : List Pg) : List Nat := l.map (fun P => P.n)
end Lf

set_option maxRecDepth 100000 in
set_option maxHeartbeats 2000000 in
theorem has_any {h : Nat} {w : World} {tag : Nat → Option Lf.Tg} {p : Nat} {s : Lf.S} {bl : Nat → Nat} {kv : Nat → Value} {rv : Value} (H : Hid (Lf.Mem h w tag p s bl kv rv)) {k : ByteArray} {L R : List Lf.Pg} {P : Lf.Pg} (hs : Hid (Lf.Spl s k L P R)) (hz : Hid (Lf.Sm s)) {A B : List ByteArray} (hk : Hid (Lf.Kp P.ks k A B)) :
    Calls Try.prog 16 #[.pointer (some ⟨p, 0, none⟩), .string k] w fun e w' => e = .returned (.bool (decide (B.head? = some k))) ∧ Below w.heap.size w w' := by
  have HF := Mm.hid (find_any H hs hz hk)
  go_enter Try.func16, Try.ntmps16
  go_wp2_with fail
  refine HF.out.mono ?_
  rintro e w1 ⟨rfl, hb⟩
  have HB := Mm.hid hb
  clear hb
  go_wp2_with fail
  go_ret
  exact ⟨rfl, HB.out⟩

set_option maxRecDepth 100000 in
set_option maxHeartbeats 2000000 in
theorem has_nil (k : ByteArray) (w : World) : Calls Try.prog 16 #[.pointer none, .string k] w fun e w' => e = .returned (.bool false) ∧ Below w.heap.size w w' := by
  go_enter Try.func16, Try.ntmps16
  go_wp2_with fail
  go_ret
  exact ⟨rfl, Below.refl _ _⟩

set_option maxRecDepth 100000 in
set_option maxHeartbeats 2000000 in
theorem of_any {h : Nat} {w : World} {tag : Nat → Option Lf.Tg} {p : Nat} {s : Lf.S} {bl : Nat → Nat} {kv : Nat → Value} {rv : Value} (H : Hid (Lf.Mem h w tag p s bl kv rv)) {k : ByteArray} {L R : List Lf.Pg} {P : Lf.Pg} (hs : Hid (Lf.Spl s k L P R)) (hz : Hid (Lf.Sm s)) :
    Calls Try.prog 18 #[.pointer (some ⟨p, 0, none⟩), .string k] w fun e w' => e = .returned (.int .i64 (P.n : Int)) ∧ Below w.heap.size w w' := by
  have HD := Mm.hid H.out.drew
  have HP := Mm.hid (place_any HD hs hz)
  have hi : s.pgs[L.length]? = some P := by rw [hs.out.e]; simp
  obtain ⟨g, c, rfl, m1, m2, m3, m4, m5, m6⟩ := H.out.at hi
  have c1 := H.out.c1
  obtain ⟨l, hl⟩ : ∃ l, l = L.length := ⟨_, rfl⟩
  rw [← hl] at m2 m3
  have HL := Mm.hid hl
  have HC : Hid (∀ w1, Below w.drew.heap.size w.drew w1 → w1.cell? ⟨p, 1, none⟩ = some (.slice (some ⟨g, 0, none⟩) s.pgs.length c) ∧ w1.cell? ⟨g, l, none⟩ = some (.pointer (some ⟨bl P.n, 0, none⟩)) ∧ w1.cell? ⟨bl P.n, 0, none⟩ = some (.int .i64 (P.n : Int))) := Mm.hid (fun w1 hb => ⟨(Mm.belAt hb _ (World.block_lt_of_cell? w _ c1)).trans c1, (Mm.belAt hb _ (World.block_lt_of_cell? w _ m3)).trans m3, (Mm.belAt hb _ (World.block_lt_of_cell? w _ m4)).trans m4⟩)
  have g1 : (0 : Int) ≤ (l : Int) := by omega
  have g2 : (l : Int) < (s.pgs.length : Int) := by omega
  have HS0 : Hid (w.drew.cell? ⟨p, 1, none⟩ = some (.slice (some ⟨g, 0, none⟩) s.pgs.length c) ∧ w.drew.cell? ⟨g, l, none⟩ = some (.pointer (some ⟨bl P.n, 0, none⟩)) ∧ w.drew.cell? ⟨bl P.n, 0, none⟩ = some (.int .i64 (P.n : Int))) := Mm.hid (HC.out _ (Below.refl _ _))
  clear hi hl m4 m5 m6 c1 m3
  go_enter Try.func18, Try.ntmps18
  go_wp2_with fail
  go_region_held3 (fun w' => w'.cell? ⟨p, 1, none⟩ = some (.slice (some ⟨g, 0, none⟩) s.pgs.length c) ∧ w'.cell? ⟨g, l, none⟩ = some (.pointer (some ⟨bl P.n, 0, none⟩)) ∧ w'.cell? ⟨bl P.n, 0, none⟩ = some (.int .i64 (P.n : Int))) (first | (with_reducible exact HS0.out) | (with_reducible exact HS1.out) | fail)
    ((go_at_call 32
      with_reducible refine HP.out.mono ?_
      rintro e w1 ⟨rfl, hb⟩
      rw [← HL.out]
      have HB := Mm.hid hb
      have HS1 := Mm.hid (HC.out w1 hb)
      clear hb))
  all_goals
    go_wp2_with fail
    go_ret
    exact ⟨rfl, HB.out.os, HB.out.tape, HB.out.output, HB.out.size, HB.out.block⟩

set_option maxRecDepth 100000 in
set_option maxHeartbeats 2000000 in
theorem of_nil (k : ByteArray) (w : World) : Calls Try.prog 18 #[.pointer none, .string k] w fun e w' => e = .returned (.int .i64 0) ∧ Below w.heap.size w w' := by
  go_enter Try.func18, Try.ntmps18
  go_wp2_with fail
  go_ret
  exact ⟨rfl, Below.refl _ _⟩

set_option maxRecDepth 100000 in
set_option maxHeartbeats 2000000 in
theorem len_any {h : Nat} {w : World} {tag : Nat → Option Lf.Tg} {p : Nat} {s : Lf.S} {bl : Nat → Nat} {kv : Nat → Value} {rv : Value} (H : Hid (Lf.Mem h w tag p s bl kv rv)) :
    Calls Try.prog 22 #[.pointer (some ⟨p, 0, none⟩)] w fun e w' => e = .returned (.int .i64 (s.count : Int)) ∧ Below w.heap.size w w' := by
  have c3 := H.out.c3
  go_enter Try.func22, Try.ntmps22
  go_wp2_with fail
  go_ret
  exact ⟨rfl, Below.refl _ _⟩

set_option maxRecDepth 100000 in
set_option maxHeartbeats 2000000 in
theorem len_nil (w : World) : Calls Try.prog 22 #[.pointer none] w fun e w' => e = .returned (.int .i64 0) ∧ Below w.heap.size w w' := by
  go_enter Try.func22, Try.ntmps22
  go_wp2_with fail
  go_ret
  exact ⟨rfl, Below.refl _ _⟩

set_option maxRecDepth 100000 in
set_option maxHeartbeats 2000000 in
theorem all_nil (w : World) : Calls Try.prog 20 #[.pointer none] w fun e w' => e = .returned (.slice none 0 0) ∧ Below w.heap.size w w' := by
  go_enter Try.func20, Try.ntmps20
  go_wp2_with fail
  go_ret
  exact ⟨rfl, Below.refl _ _⟩

set_option maxRecDepth 100000 in
set_option maxHeartbeats 2000000 in
theorem keys_nil (n : Int) (w : World) : Calls Try.prog 24 #[.pointer none, .int .i64 n] w fun e w' => e = .returned (.slice none 0 0) ∧ Below w.heap.size w w' := by
  go_enter Try.func24, Try.ntmps24
  go_wp2_with fail
  go_ret
  exact ⟨rfl, Below.refl _ _⟩

set_option maxRecDepth 100000 in
set_option maxHeartbeats 2000000 in
theorem all_any {h : Nat} {w : World} {tag : Nat → Option Lf.Tg} {p : Nat} {s : Lf.S} {bl : Nat → Nat} {kv : Nat → Value} {rv : Value} (H : Hid (Lf.Mem h w tag p s bl kv rv)) (hz : Hid (Lf.Sm s)) (hne : s.pgs ≠ []) :
    Calls Try.prog 20 #[.pointer (some ⟨p, 0, none⟩)] w fun e w' => ∃ v, e = .returned v ∧ Mm.Own w' w.heap.size 3 v (Mm.nts (Lf.nums s.pgs)) ∧ Below w.heap.size w w' := by
  obtain ⟨P0, hP0⟩ : ∃ P, s.pgs[0]? = some P := ⟨s.pgs[0]'(List.length_pos_iff.2 hne), List.getElem?_eq_getElem _⟩
  obtain ⟨g, c, rfl, m1, _⟩ := H.out.at hP0
  have c1 := H.out.c1
  obtain ⟨n, hn⟩ : ∃ n, n = s.pgs.length := ⟨_, rfl⟩
  rw [← hn] at c1 m1
  have hnb : n ≤ 10000 := by rw [hn]; exact hz.out.pl
  have HN := Mm.hid hn
  clear hP0 hn hne
  go_enter Try.func20, Try.ntmps20
  go_wp2_with fail
  go_loopw [3, 5, 13] (fun vo _ vi wr => ∃ i : Nat, i ≤ n ∧ vi = .int .i64 (i : Int) ∧ Hid (Mm.Own wr w.heap.size 3 vo (Mm.nts ((Lf.nums s.pgs).take i))) ∧ Hid (Below w.heap.size w wr)) (fun _ _ vi _ => n - (RowKit.intOf vi).toNat)
  case atStart => exact ⟨0, Nat.zero_le _, rfl, Mm.hid (Mm.Own.nil _ _ _), Mm.hid (Below.refl _ _)⟩
  case round =>
    obtain ⟨i, hi1, rfl, HO, HB⟩ := hrel
    rename World => wr
    by_cases hlt : i < n
    · obtain ⟨P, hP⟩ : ∃ P, s.pgs[i]? = some P := ⟨s.pgs[i]'(by rw [← HN.out]; exact hlt), List.getElem?_eq_getElem _⟩
      have HMr := Mm.hid (H.out.below HB.out)
      obtain ⟨g', c', e1, _, _, m3, m4, _⟩ := HMr.out.at hP
      injection e1 with e1 _ _
      injection e1 with e1
      injection e1 with e1
      subst e1
      have HP := Mm.hid hP
      have g1 : (0 : Int) ≤ (i : Int) := by omega
      have g2 : (i : Int) < (n : Int) := by omega
      have HLN : Hid ((Mm.nts ((Lf.nums s.pgs).take i)).length < 1000000) := Mm.hid (by simp; omega)
      have HHB : Hid (w.heap.size ≤ wr.heap.size) := Mm.hid HB.out.size
      obtain ⟨q, cq, evo, _⟩ := HO.out.shape
      obtain ⟨Lq, hLq⟩ : ∃ Lq, Lq = (Mm.nts ((Lf.nums s.pgs).take i)).length := ⟨_, rfl⟩
      rw [← hLq] at evo
      subst evo
      clear hP hLq
      go_wp2_with (at_builtin; refine Mm.appI wr rfl _ _ rfl w.heap.size (.slice q Lq cq) (P.n : Int) _ rfl HO.out _ rfl (by simp) HLN.out HHB.out ?_; intro v1 w1 h1 h2 h3)
      have e : Mm.nts ((Lf.nums s.pgs).take (i + 1)) = Mm.nts ((Lf.nums s.pgs).take i) ++ [.int .i64 (P.n : Int)] := by
        rw [List.take_add_one]
        have : (Lf.nums s.pgs)[i]? = some P.n := by unfold Lf.nums; rw [List.getElem?_map, HP.out]; rfl
        rw [this, Mm.nts_app]; rfl
      exact ⟨⟨v1, _, .int .i64 ((i : Int) + 1), ⟨i + 1, by omega, by go_num, Mm.hid (by rw [e]; exact h1), Mm.hid (HB.out.grown h2 HHB.out (fun g hg => (HO.out.lt hg).2))⟩, rfl, rfl, rfl⟩, by simp [RowKit.intOf]; omega⟩
    · have he : i = n := by omega
      subst he
      go_wp2_with fail
      go_ret
      refine ⟨_, rfl, ?_, HB.out⟩
      have h1 := HO.out
      rw [List.take_of_length_le (by rw [HN.out]; simp [Lf.nums])] at h1
      exact h1
end Go.Proofs.Ytjnaafgiokdcbaa
