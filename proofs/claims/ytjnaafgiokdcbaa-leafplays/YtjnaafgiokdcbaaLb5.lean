/- Insert that fails; join; Remove. -/
import Derived.Test.YtjnaafgiokdcbaaLb4
namespace Go.Proofs.Ytjnaafgiokdcbaa
open Go.RowKit

namespace Lf
theorem beside_at {L R : List Pg} {l : Nat} (h : L ++ R ≠ []) (hl : l = L.length) : ∃ X, (open1 (L ++ R))[l - 1]? = some X ∧ X.n = beside L R := by
  subst hl
  cases L with
  | nil =>
    cases R with
    | nil => exact absurd rfl h
    | cons Q r => exact ⟨{ Q with b := ⟨#[]⟩ }, rfl, rfl⟩
  | cons A L =>
    rcases List.eq_nil_or_concat L with e | ⟨L0, Q, e⟩
    · subst e
      exact ⟨{ A with b := ⟨#[]⟩ }, rfl, rfl⟩
    · subst e
      refine ⟨Q, ?_, ?_⟩
      · show ((({ A with b := ⟨#[]⟩ } : Pg) :: (L0.concat Q ++ R)))[(A :: L0.concat Q).length - 1]? = some Q
        rw [show (A :: L0.concat Q).length - 1 = L0.length + 1 by simp, List.getElem?_cons_succ, List.concat_eq_append, List.append_assoc, List.getElem?_append_right (Nat.le_refl _)]
        simp
      · unfold beside
        have : (A :: L0.concat Q).getLast? = some Q := by simp [List.getLast?_cons]
        rw [this]
end Lf

set_option maxRecDepth 100000 in
set_option maxHeartbeats 2000000 in
theorem insert_nil (k : ByteArray) (w : World) : Calls Try.prog 8 #[.pointer none, .string k] w fun e w' => e = .returned (.tuple #[.int .i64 0, .agg #[.int .i64 0, .int .i64 0], .int .i64 1]) ∧ Below w.heap.size w w' := by
  have e0 : (w.alloc (.cells #[.int .i64 0, .int .i64 0] 35)).cell? ⟨w.heap.size, 0, none⟩ = some (.int .i64 0) := Mm.cellOf (Mm.newAt w _ rfl) rfl
  have e1 : (w.alloc (.cells #[.int .i64 0, .int .i64 0] 35)).cell? ⟨w.heap.size, 1, none⟩ = some (.int .i64 0) := Mm.cellOf (Mm.newAt w _ rfl) rfl
  go_enter Try.func8, Try.ntmps8
  go_wp2_with fail
  exact bodyPost_ret (v := .tuple #[.int .i64 0, .agg #[.int .i64 0, .int .i64 0], .int .i64 1]) (by simp [results, Try.results8, go_sem, e0, e1]) rfl ⟨rfl, (Below.refl _ w).alloc (Nat.le_refl _) _⟩

set_option maxRecDepth 100000 in
set_option maxHeartbeats 2000000 in
theorem insert_long (p : Nat) (k : ByteArray) (hk : 1024 < k.size) (w : World) : Calls Try.prog 8 #[.pointer (some ⟨p, 0, none⟩), .string k] w fun e w' => e = .returned (.tuple #[.int .i64 0, .agg #[.int .i64 0, .int .i64 0], .int .i64 2]) ∧ Below w.heap.size w w' := by
  have e0 : (w.alloc (.cells #[.int .i64 0, .int .i64 0] 35)).cell? ⟨w.heap.size, 0, none⟩ = some (.int .i64 0) := Mm.cellOf (Mm.newAt w _ rfl) rfl
  have e1 : (w.alloc (.cells #[.int .i64 0, .int .i64 0] 35)).cell? ⟨w.heap.size, 1, none⟩ = some (.int .i64 0) := Mm.cellOf (Mm.newAt w _ rfl) rfl
  have hz' : (1024 : Int) < (k.size : Int) := by omega
  clear hk
  go_enter Try.func8, Try.ntmps8
  go_wp2_with fail
  exact bodyPost_ret (v := .tuple #[.int .i64 0, .agg #[.int .i64 0, .int .i64 0], .int .i64 2]) (by simp [results, Try.results8, go_sem, e0, e1]) rfl ⟨rfl, (Below.refl _ w).alloc (Nat.le_refl _) _⟩

set_option maxRecDepth 100000 in
set_option maxHeartbeats 2000000 in
theorem insert_twice {h : Nat} {w : World} {tag : Nat → Option Lf.Tg} {p : Nat} {s : Lf.S} {bl : Nat → Nat} {kv : Nat → Value} {rv : Value} (H : Hid (Lf.Mem h w tag p s bl kv rv)) {k : ByteArray} {L R : List Lf.Pg} {P : Lf.Pg} (hs : Hid (Lf.Spl s k L P R)) (hz : Hid (Lf.Sm s)) {A B : List ByteArray} (hk : Hid (Lf.Kp P.ks k A B)) (hnk : Hid (B.head? = some k)) (hkz : k.size ≤ 1024) :
    Calls Try.prog 8 #[.pointer (some ⟨p, 0, none⟩), .string k] w fun e w' => e = .returned (.tuple #[.int .i64 0, .agg #[.int .i64 0, .int .i64 0], .int .i64 62]) ∧ Below w.heap.size w w' := by
  have HB0 : Hid (Below w.heap.size w (w.alloc (.cells #[.int .i64 0, .int .i64 0] 35))) := Mm.hid ((Below.refl _ w).alloc (Nat.le_refl _) _)
  have HM0 := Mm.hid (H.out.below HB0.out)
  have hfi := find_any HM0 hs hz hk
  rw [decide_eq_true hnk.out] at hfi
  have HFI := Mm.hid hfi
  have hz' : ¬ ((1024 : Int) < (k.size : Int)) := by omega
  clear hfi hkz
  go_enter Try.func8, Try.ntmps8
  go_wp2_with fail
  refine HFI.out.mono ?_
  rintro e w1 ⟨rfl, hb1⟩
  have HB1 : Hid (Below w.heap.size w w1) := Mm.hid (HB0.out.trans (hb1.mono HB0.out.size))
  have hbx : w1.heap[w.heap.size]? = some (.cells #[.int .i64 0, .int .i64 0] 35 (0, 0)) := (hb1.block _ (by simp)).trans (Mm.newAt w _ rfl)
  have e0 : w1.cell? ⟨w.heap.size, 0, none⟩ = some (.int .i64 0) := Mm.cellOf hbx rfl
  have e1 : w1.cell? ⟨w.heap.size, 1, none⟩ = some (.int .i64 0) := Mm.cellOf hbx rfl
  have f0 : w1.frozen? ⟨w.heap.size, 0, none⟩ = false := by simp [World.frozen?, hbx]
  have f1 : w1.frozen? ⟨w.heap.size, 1, none⟩ = false := by simp [World.frozen?, hbx]
  have HBX := Mm.hid hbx
  clear hb1 hbx
  go_wp2_with fail
  obtain ⟨W2, hW2⟩ : ∃ W2, (w1.setCell ⟨w.heap.size, 0, none⟩ (.int .i64 0)).setCell ⟨w.heap.size, 1, none⟩ (.int .i64 0) = W2 := ⟨_, rfl⟩
  have hb2 := Lf.box2n (x' := .int .i64 0) (y' := .int .i64 0) HBX.out
  rw [hW2] at hb2 ⊢
  have e2 : W2.cell? ⟨w.heap.size, 0, none⟩ = some (.int .i64 0) := Mm.cellOf hb2 rfl
  have e3 : W2.cell? ⟨w.heap.size, 1, none⟩ = some (.int .i64 0) := Mm.cellOf hb2 rfl
  exact bodyPost_ret (v := .tuple #[.int .i64 0, .agg #[.int .i64 0, .int .i64 0], .int .i64 62]) (by simp [results, Try.results8, go_sem, e2, e3]) rfl ⟨rfl, by rw [← hW2]; exact (HB1.out.setCell (Nat.le_refl _) _).setCell (Nat.le_refl _) _⟩

set_option maxRecDepth 100000 in
set_option maxHeartbeats 2000000 in
theorem remove_nil (k : ByteArray) (w : World) : Calls Try.prog 10 #[.pointer none, .string k] w fun e w' => e = .returned (.tuple #[.int .i64 0, .agg #[.int .i64 0, .int .i64 0], .int .i64 1]) ∧ Below w.heap.size w w' := by
  have e0 : (w.alloc (.cells #[.int .i64 0, .int .i64 0] 35)).cell? ⟨w.heap.size, 0, none⟩ = some (.int .i64 0) := Mm.cellOf (Mm.newAt w _ rfl) rfl
  have e1 : (w.alloc (.cells #[.int .i64 0, .int .i64 0] 35)).cell? ⟨w.heap.size, 1, none⟩ = some (.int .i64 0) := Mm.cellOf (Mm.newAt w _ rfl) rfl
  go_enter Try.func10, Try.ntmps10
  go_wp2_with fail
  exact bodyPost_ret (v := .tuple #[.int .i64 0, .agg #[.int .i64 0, .int .i64 0], .int .i64 1]) (by simp [results, Try.results10, go_sem, e0, e1]) rfl ⟨rfl, (Below.refl _ w).alloc (Nat.le_refl _) _⟩

set_option maxRecDepth 100000 in
set_option maxHeartbeats 2000000 in
theorem remove_none {h : Nat} {w : World} {tag : Nat → Option Lf.Tg} {p : Nat} {s : Lf.S} {bl : Nat → Nat} {kv : Nat → Value} {rv : Value} (H : Hid (Lf.Mem h w tag p s bl kv rv)) {k : ByteArray} {L R : List Lf.Pg} {P : Lf.Pg} (hs : Hid (Lf.Spl s k L P R)) (hz : Hid (Lf.Sm s)) {A B : List ByteArray} (hk : Hid (Lf.Kp P.ks k A B)) (hnk : Hid (B.head? ≠ some k)) :
    Calls Try.prog 10 #[.pointer (some ⟨p, 0, none⟩), .string k] w fun e w' => e = .returned (.tuple #[.int .i64 0, .agg #[.int .i64 0, .int .i64 0], .int .i64 60]) ∧ Below w.heap.size w w' := by
  have HB0 : Hid (Below w.heap.size w (w.alloc (.cells #[.int .i64 0, .int .i64 0] 35))) := Mm.hid ((Below.refl _ w).alloc (Nat.le_refl _) _)
  have HM0 := Mm.hid (H.out.below HB0.out)
  have hfi := find_any HM0 hs hz hk
  rw [decide_eq_false hnk.out] at hfi
  have HFI := Mm.hid hfi
  clear hfi
  go_enter Try.func10, Try.ntmps10
  go_wp2_with fail
  refine HFI.out.mono ?_
  rintro e w1 ⟨rfl, hb1⟩
  have HB1 : Hid (Below w.heap.size w w1) := Mm.hid (HB0.out.trans (hb1.mono HB0.out.size))
  have hbx : w1.heap[w.heap.size]? = some (.cells #[.int .i64 0, .int .i64 0] 35 (0, 0)) := (hb1.block _ (by simp)).trans (Mm.newAt w _ rfl)
  have e0 : w1.cell? ⟨w.heap.size, 0, none⟩ = some (.int .i64 0) := Mm.cellOf hbx rfl
  have e1 : w1.cell? ⟨w.heap.size, 1, none⟩ = some (.int .i64 0) := Mm.cellOf hbx rfl
  have f0 : w1.frozen? ⟨w.heap.size, 0, none⟩ = false := by simp [World.frozen?, hbx]
  have f1 : w1.frozen? ⟨w.heap.size, 1, none⟩ = false := by simp [World.frozen?, hbx]
  have HBX := Mm.hid hbx
  clear hb1 hbx
  go_wp2_with fail
  obtain ⟨W2, hW2⟩ : ∃ W2, (w1.setCell ⟨w.heap.size, 0, none⟩ (.int .i64 0)).setCell ⟨w.heap.size, 1, none⟩ (.int .i64 0) = W2 := ⟨_, rfl⟩
  have hb2 := Lf.box2n (x' := .int .i64 0) (y' := .int .i64 0) HBX.out
  rw [hW2] at hb2 ⊢
  have e2 : W2.cell? ⟨w.heap.size, 0, none⟩ = some (.int .i64 0) := Mm.cellOf hb2 rfl
  have e3 : W2.cell? ⟨w.heap.size, 1, none⟩ = some (.int .i64 0) := Mm.cellOf hb2 rfl
  exact bodyPost_ret (v := .tuple #[.int .i64 0, .agg #[.int .i64 0, .int .i64 0], .int .i64 60]) (by simp [results, Try.results10, go_sem, e2, e3]) rfl ⟨rfl, by rw [← hW2]; exact (HB1.out.setCell (Nat.le_refl _) _).setCell (Nat.le_refl _) _⟩

set_option maxRecDepth 100000 in
set_option maxHeartbeats 4000000 in
theorem join_any {h : Nat} {w : World} {tag : Nat → Option Lf.Tg} {p : Nat} {s : Lf.S} {bl : Nat → Nat} {kv : Nat → Value} {rv : Value} (H : Hid (Lf.Mem h w tag p s bl kv rv)) {L R : List Lf.Pg} {P : Lf.Pg} (he : s.pgs = L ++ P :: R) (hz : Hid (Lf.Sm s)) (hnd : Hid (s.pgs.Pairwise (fun P Q => P.n ≠ Q.n))) :
    Calls Try.prog 31 #[.pointer (some ⟨p, 0, none⟩), .int .i64 (L.length : Int)] w fun e w' => e = .returned (.agg #[.int .i64 ((Lf.joinM L P R).1 : Int), .int .i64 ((Lf.joinM L P R).2 : Int)]) ∧ ∃ tag' rv', Lf.Mem h w' tag' p (Lf.joinS s L P R) bl kv rv' ∧ Lf.Ev tag tag' w w' ∧ w'.cell? ⟨bl P.n, 0, none⟩ = some (.int .i64 (P.n : Int)) := by
  have hi : s.pgs[L.length]? = some P := by rw [he]; simp
  have hPm : P ∈ s.pgs := by rw [he]; simp
  have HB1 : Hid (Below w.heap.size w (w.alloc (.cells #[.int .i64 0, .int .i64 0] 35))) := Mm.hid ((Below.refl _ w).alloc (Nat.le_refl _) _)
  have HM1 := Mm.hid (H.out.below HB1.out)
  obtain ⟨g, c, rfl, m1, m2, m3, m4, m5, m6⟩ := HM1.out.at hi
  have c1 := HM1.out.c1
  obtain ⟨q, c', ek, k1, k2, k3, k4, k5⟩ := HM1.out.ks hPm
  obtain ⟨n, hn⟩ : ∃ n, n = P.ks.length := ⟨_, rfl⟩
  obtain ⟨N, hN⟩ : ∃ N, N = s.pgs.length := ⟨_, rfl⟩
  obtain ⟨l, hl⟩ : ∃ l, l = L.length := ⟨_, rfl⟩
  rw [← hn] at k1 ek
  rw [← hN] at c1 m1 m2 H HM1
  rw [ek] at m6
  rw [← hl] at m2 m3 ⊢
  have hnb : n ≤ 10000 := by rw [hn]; exact hz.out.kl P hPm
  have hNb : N ≤ 10000 := by rw [hN]; exact hz.out.pl
  have g1 : (0 : Int) ≤ (l : Int) := by omega
  have g2 : (l : Int) < (N : Int) := by omega
  have hNl : N = l + 1 + R.length := by rw [hN, he, hl]; simp; omega
  have e0 : (w.alloc (.cells #[.int .i64 0, .int .i64 0] 35)).cell? ⟨w.heap.size, 0, none⟩ = some (.int .i64 0) := Mm.cellOf (Mm.newAt w _ rfl) rfl
  have e3 : (w.alloc (.cells #[.int .i64 0, .int .i64 0] 35)).cell? ⟨w.heap.size, 1, none⟩ = some (.int .i64 0) := Mm.cellOf (Mm.newAt w _ rfl) rfl
  have HA0 : Hid ((w.alloc (.cells #[.int .i64 0, .int .i64 0] 35)).cell? ⟨bl P.n, 0, none⟩ = some (.int .i64 (P.n : Int))) := Mm.hid m4
  by_cases hkeep : P.ks ≠ [] ∨ L ++ R = []
  · have e1 : Lf.joinS s L P R = s := if_pos hkeep
    have e2 : Lf.joinM L P R = (0, 0) := if_pos hkeep
    rw [e1, e2]
    have hcase : (0 : Int) < (n : Int) ∨ ¬ (0 : Int) < (n : Int) ∧ ((N : Int) == 1) = true := by
      by_cases hn0 : n = 0
      · right
        refine ⟨by omega, ?_⟩
        rcases hkeep with h1 | h1
        · exact absurd (List.length_eq_zero_iff.1 (by omega)) h1
        · have hh : L.length = 0 ∧ R.length = 0 := by
            obtain ⟨r1, r2⟩ := List.append_eq_nil_iff.1 h1
            rw [r1, r2]; exact ⟨rfl, rfl⟩
          simp; omega
      · left; omega
    clear k2 k3 k4 k5 hi hl ek he hn m4 m5 hPm e1 e2 hkeep hN hNl
    rcases hcase with g3 | ⟨g3, g4⟩
    · go_enter Try.func31, Try.ntmps31
      go_wp2_with fail
      exact bodyPost_ret (v := .agg #[.int .i64 0, .int .i64 0]) (by simp [results, Try.results31, go_sem, e0, e3]) rfl ⟨rfl, _, _, HM1.out, Lf.Ev.below HB1.out, HA0.out⟩
    · go_enter Try.func31, Try.ntmps31
      go_wp2_with fail
      exact bodyPost_ret (v := .agg #[.int .i64 0, .int .i64 0]) (by simp [results, Try.results31, go_sem, e0, e3]) rfl ⟨rfl, _, ⟨_, HM1.out⟩, Lf.Ev.below HB1.out, HA0.out⟩
  · have e1 : Lf.joinS s L P R = { s with pgs := Lf.open1 (L ++ R) } := if_neg hkeep
    have e2 : Lf.joinM L P R = (P.n, Lf.beside L R) := if_neg hkeep
    rw [e1, e2]
    have hk0 : P.ks = [] := by
      cases hpk : P.ks with
      | nil => rfl
      | cons a r => exact absurd (Or.inl (by rw [hpk]; simp)) hkeep
    have hn0 : n = 0 := by rw [hn, hk0]; rfl
    subst hn0
    have hLR : L ++ R ≠ [] := fun e => hkeep (Or.inr e)
    have hN2 : 2 ≤ N := by
      have : L.length + R.length ≠ 0 := fun e => hLR (List.length_eq_zero_iff.1 (by rw [List.length_append]; exact e))
      omega
    have g3 : ¬ ((0 : Int) < ((0 : Nat) : Int)) := by omega
    have g4 : ((N : Int) == 1) = false := by simp; omega
    have hpt : (Lf.ptrs bl s.pgs).take l ++ (Lf.ptrs bl s.pgs).drop (l + 1) = Lf.ptrs bl (L ++ R) := by
      rw [he, hl]
      have h1 : Lf.ptrs bl (L ++ P :: R) = Lf.ptrs bl L ++ .pointer (some ⟨bl P.n, 0, none⟩) :: Lf.ptrs bl R := by simp [Lf.ptrs]
      rw [h1, List.take_left' (by simp)]
      rw [show L.length + 1 = (Lf.ptrs bl L).length + 1 by simp, List.drop_append]
      simp [Lf.ptrs]
    have hdl := delP_any g N c l (l + 1) (Lf.ptrs bl s.pgs) h (w.alloc (.cells #[.int .i64 0, .int .i64 0] 35)) (Mm.hid HM1.out.row) (Nat.lt_succ_self _) (by omega) (Mm.hid (Lf.ptrs_one _ _))
    rw [hpt] at hdl
    obtain ⟨M, hM⟩ : ∃ M, M = l + (N - (l + 1)) := ⟨_, rfl⟩
    rw [← hM, show ((l + 1 : Nat) : Int) = (l : Int) + 1 from rfl] at hdl
    have HDL := Mm.hid hdl
    have hMN : M + 1 = N := by omega
    have HE := Mm.hid he
    have HLL := Mm.hid hl
    have HPC := Mm.hid ((HM1.out.pg P hPm).cell)
    have HPT := Mm.hid ((HM1.out.pg P hPm).tb)
    clear k2 k3 k4 k5 hi hl ek he hn m4 m5 hPm e1 e2 hkeep hN hdl hk0 hpt hM hNl
    go_enter Try.func31, Try.ntmps31
    go_wp2_with fail
    with_reducible refine HDL.out.mono ?_
    rintro e w2 ⟨rfl, hown2, hg2⟩
    have HO2 := Mm.hid hown2
    have HG2 := Mm.hid hg2
    have hp2 : w2.heap[p]? = some (.cells #[.int .i64 (s.fan : Int), .slice (some ⟨g, 0, none⟩) N c, .int .i64 (s.last : Int), .int .i64 (s.count : Int)] 66 (0, 0)) := (hg2.block p HM1.out.lt (fun e => by have e' := Option.some.inj e; have h1 := HM1.out.tr g rfl; rw [← e', HM1.out.tp] at h1; cases h1)).trans HM1.out.cell
    have f1 : w2.cell? ⟨p, 1, none⟩ = some (.slice (some ⟨g, 0, none⟩) N c) := Mm.cellOf hp2 rfl
    have f2 : w2.frozen? ⟨p, 1, none⟩ = false := by simp [World.frozen?, hp2]
    obtain ⟨tag3, hM3, hE3⟩ := HM1.out.delPage HE.out (w6 := w2) (v' := .slice (some ⟨g, 0, none⟩) M c) hg2 hown2 rfl
    obtain ⟨W3, hW3⟩ : ∃ W3, w2.setCell ⟨p, 1, none⟩ (.slice (some ⟨g, 0, none⟩) M c) = W3 := ⟨_, rfl⟩
    rw [hW3] at hM3 hE3
    obtain ⟨Q, r, hQ⟩ : ∃ Q r, L ++ R = Q :: r := by
      cases hx : L ++ R with
      | nil => exact absurd hx hLR
      | cons Q r => exact ⟨Q, r, rfl⟩
    have HQ := Mm.hid hQ
    have HM3 := Mm.hid hM3
    have HE3 := Mm.hid hE3
    have hM0 : M = (L ++ R).length := by
      have h1 := hM3.row.shape
      obtain ⟨_, _, e, _⟩ := h1
      injection e with _ e _
      rw [e]; simp
    obtain ⟨g', c9, e9, _, n3, n4, n5, n6, n7⟩ := hM3.at (i := 0) (P := Q) (by show (L ++ R)[0]? = some Q; rw [hQ]; rfl)
    injection e9 with e9 e10 e11
    clear e10
    subst e11
    injection e9 with e9
    injection e9 with e9
    subst e9
    have d1 : W3.cell? ⟨p, 1, none⟩ = some (.slice (some ⟨g, 0, none⟩) M c) := hM3.c1
    have hMpos : 0 < M := by omega
    have hq3 := (hM3.pg Q (by show Q ∈ L ++ R; rw [hQ]; simp)).cell
    have fQ : W3.frozen? ⟨bl Q.n, 1, none⟩ = false := by simp [World.frozen?, hq3]
    have hnPQ : Q.n ≠ P.n := by
      have h1 := hnd.out
      rw [HE.out] at h1
      obtain ⟨n1, n2⟩ := Lf.nd_mid h1
      have h2 : Q ∈ L ++ R := by rw [hQ]; simp
      rcases List.mem_append.1 h2 with h2 | h2
      · exact n1 Q h2
      · exact n2 Q h2
    have hnd3 : ({ s with pgs := L ++ R } : Lf.S).pgs.Pairwise (fun P Q => P.n ≠ Q.n) := by
      have h1 := hnd.out
      rw [HE.out] at h1
      exact h1.sublist (by simp)
    obtain ⟨hM4, hE4⟩ := hM3.setB (P := Q) (r := r) hQ hnd3
    obtain ⟨W4, hW4⟩ : ∃ W4, W3.setCell ⟨bl Q.n, 1, none⟩ (.string ⟨#[]⟩) = W4 := ⟨_, rfl⟩
    rw [hW4] at hM4 hE4
    have hPb4 : W4.heap[bl P.n]? = some (.cells #[.int .i64 (P.n : Int), .string P.b, kv P.n] 63 (0, 0)) := by
      have t1 := HPT.out
      have h1 : w2.heap[bl P.n]? = _ := (hg2.block _ (Mm.heapLt HPC.out) (fun e => by have e' := Option.some.inj e; have h1 := HM1.out.tr g rfl; rw [← e', t1] at h1; cases h1)).trans HPC.out
      have h2 : W3.heap[bl P.n]? = w2.heap[bl P.n]? := by
        rw [← hW3]
        exact heap_setCell_other w2 _ _ _ (fun e => by have e' : bl P.n = p := e; rw [e', HM1.out.tp] at t1; cases t1)
      have h3 : W4.heap[bl P.n]? = W3.heap[bl P.n]? := by
        rw [← hW4]
        refine heap_setCell_other W3 _ _ _ (fun e => ?_)
        have e' : bl P.n = bl Q.n := e
        have t3 := (HM1.out.pg Q (by rw [HE.out]; have h2 : Q ∈ L ++ R := by rw [hQ]; simp
                                     rcases List.mem_append.1 h2 with h2 | h2
                                     · simp [h2]
                                     · simp [h2])).tb
        rw [← e', t1] at t3
        injection t3 with t3
        injection t3 with t3
        exact hnPQ t3.symm
      exact h3.trans (h2.trans h1)
    have a0 : W4.cell? ⟨bl P.n, 0, none⟩ = some (.int .i64 (P.n : Int)) := Mm.cellOf hPb4 rfl
    have a1 : W4.cell? ⟨p, 1, none⟩ = some (.slice (some ⟨g, 0, none⟩) M c) := hM4.c1
    obtain ⟨X, hX, hXn⟩ : ∃ X, (Lf.open1 (L ++ R))[l - 1]? = some X ∧ X.n = Lf.beside L R := Lf.beside_at hLR HLL.out
    obtain ⟨g5, c5, e5, _, _, n8, n9, _, _⟩ := hM4.at hX
    injection e5 with e5 e6 e7
    clear e6
    subst e7
    injection e5 with e5
    injection e5 with e5
    subst e5
    rw [hXn] at n8 n9
    have hbx : W4.heap[w.heap.size]? = some (.cells #[.int .i64 0, .int .i64 0] 35 (0, 0)) := by
      have h0 : tag w.heap.size = none := H.out.top _ (Nat.le_refl _)
      have h1 := hE3.block w.heap.size (by simp) h0
      exact (hE4.block _ (Nat.lt_of_lt_of_le (by simp) hE3.size) (hE3.tags _ (by simp) h0)).trans (h1.trans (Mm.newAt w _ rfl))
    have b0 : W4.cell? ⟨w.heap.size, 0, none⟩ = some (.int .i64 0) := Mm.cellOf hbx rfl
    have b1 : W4.cell? ⟨w.heap.size, 1, none⟩ = some (.int .i64 0) := Mm.cellOf hbx rfl
    have b2 : ∀ i, W4.frozen? ⟨w.heap.size, i, none⟩ = false := fun i => by simp [World.frozen?, hbx]
    have b20 := b2 0
    have b21 := b2 1
    have HBT4 : Hid (tag3 w.heap.size = none) := Mm.hid (hE3.tags _ (by simp) (H.out.top _ (Nat.le_refl _)))
    have HBX := Mm.hid hbx
    have HM4 := Mm.hid hM4
    have HE4 : Hid (Lf.Ev tag tag3 w W4) := Mm.hid ((Lf.Ev.below HB1.out).trans (hE3.trans hE4))
    have hlM : l - 1 < M := by
      have h1 := (List.getElem?_eq_some_iff.1 hX).1
      have h2 : (Lf.open1 (L ++ R)).length = M := by rw [hM0]; cases L ++ R <;> rfl
      omega
    have hmx : max ((l : Int) - 1) 0 = ((l - 1 : Nat) : Int) := by omega
    clear hp2 hown2 hg2 hM3 hE3 n3 n5 n7 hQ hM0 hM4 hE4 hPb4 hX hXn b2 hbx hnd3 hnPQ
    go_wp2_with fail
    clear hW4 hW3 d1 fQ f1 f2
    go_region
    obtain ⟨W10, hW10⟩ : ∃ W10, ((W4.setCell ⟨w.heap.size, 0, none⟩ (.int .i64 (P.n : Int))).setCell ⟨w.heap.size, 1, none⟩ (.int .i64 (Lf.beside L R : Int))).drew = W10 := ⟨_, rfl⟩
    have hb10 : W10.heap[w.heap.size]? = some (.cells #[.int .i64 (P.n : Int), .int .i64 (Lf.beside L R : Int)] 35 (0, 0)) := by rw [← hW10]; exact Lf.box2 HBX.out
    have ea : W10.cell? ⟨w.heap.size, 0, none⟩ = some (.int .i64 (P.n : Int)) := Mm.cellOf hb10 rfl
    have eb : W10.cell? ⟨w.heap.size, 1, none⟩ = some (.int .i64 (Lf.beside L R : Int)) := Mm.cellOf hb10 rfl
    have HM10 := Mm.hid (((HM4.out.set HBT4.out 0 (.int .i64 (P.n : Int))).set HBT4.out 1 (.int .i64 (Lf.beside L R : Int))).drew)
    have HE10 := Mm.hid (((HE4.out.set (Nat.le_refl _) 0 (.int .i64 (P.n : Int))).set (Nat.le_refl _) 1 (.int .i64 (Lf.beside L R : Int))).drew)
    have HA10 : Hid (W10.cell? ⟨bl P.n, 0, none⟩ = some (.int .i64 (P.n : Int))) := Mm.hid (by
      have h1 : tag (bl P.n) = some (.pg P.n) := HPT.out
      have h2 : bl P.n ≠ w.heap.size := fun e => by rw [e, H.out.top _ (Nat.le_refl _)] at h1; cases h1
      rw [← hW10]
      show ((W4.setCell ⟨w.heap.size, 0, none⟩ (.int .i64 (P.n : Int))).setCell ⟨w.heap.size, 1, none⟩ (.int .i64 (Lf.beside L R : Int))).cell? ⟨bl P.n, 0, none⟩ = _
      rw [World.cell?_setCell_other _ _ _ _ (fun e => h2 (by injection e with e _ _; exact e.symm)), World.cell?_setCell_other _ _ _ _ (fun e => h2 (by injection e with e _ _; exact e.symm))]
      exact a0)
    rw [hW10] at HM10 HE10 ⊢
    clear hW10 hb10 b0 b1 b20 b21
    go_wp2_with fail
    exact bodyPost_ret (v := .agg #[.int .i64 (P.n : Int), .int .i64 (Lf.beside L R : Int)]) (by simp [results, Try.results31, go_sem, ea, eb]) rfl ⟨rfl, _, _, HM10.out, HE10.out, HA10.out⟩
end Go.Proofs.Ytjnaafgiokdcbaa
