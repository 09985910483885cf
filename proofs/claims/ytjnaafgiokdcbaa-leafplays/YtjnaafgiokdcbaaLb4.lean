/- Insert. -/
import Derived.Test.YtjnaafgiokdcbaaLb3
namespace Go.Proofs.Ytjnaafgiokdcbaa
open Go.RowKit

namespace Lf
theorem box2n {w : World} {B : Nat} {x y x' y' : Value} {t : TypeId} (h : w.heap[B]? = some (.cells #[x, y] t (0, 0))) : ((w.setCell ⟨B, 0, none⟩ x').setCell ⟨B, 1, none⟩ y').heap[B]? = some (.cells #[x', y'] t (0, 0)) := by
  have h1 := heap_setCell_same w B 0 _ t x' h
  exact heap_setCell_same _ B 1 _ t y' h1
end Lf

set_option maxRecDepth 100000 in
set_option maxHeartbeats 4000000 in
theorem insert_any {h : Nat} {w : World} {tag : Nat → Option Lf.Tg} {p : Nat} {s : Lf.S} {bl : Nat → Nat} {kv : Nat → Value} {rv : Value} (H : Hid (Lf.Mem h w tag p s bl kv rv)) (hh : h ≤ w.heap.size) {k : ByteArray} {L R : List Lf.Pg} {P : Lf.Pg} (hs : Hid (Lf.Spl s k L P R)) (hz : Hid (Lf.Sm s)) (hI : Hid (Lf.Inv s)) {A B : List ByteArray} (hk : Hid (Lf.Kp P.ks k A B)) (hnk : Hid (B.head? ≠ some k)) (hkz : k.size ≤ 1024)
    (HZ1 : Hid (Lf.Sm (Lf.insP s L P R (A ++ k :: B)))) (HZ2 : Hid (Lf.Sm (Lf.insS s L P R (A ++ k :: B)))) {L' R' : List Lf.Pg} {P' : Lf.Pg} (HS2 : Hid (Lf.Spl (Lf.insS s L P R (A ++ k :: B)) k L' P' R')) :
    Calls Try.prog 8 #[.pointer (some ⟨p, 0, none⟩), .string k] w fun e w' => e = .returned (.tuple #[.int .i64 (P'.n : Int), .agg #[.int .i64 ((Lf.partM s (Lf.withKs P (A ++ k :: B))).1 : Int), .int .i64 ((Lf.partM s (Lf.withKs P (A ++ k :: B))).2 : Int)], .int .i64 0]) ∧ ∃ tag' bl' kv' rv', Lf.Mem h w' tag' p (Lf.insS s L P R (A ++ k :: B)) bl' kv' rv' ∧ Lf.Ev tag tag' w w' := by
  have hz' : ¬ ((1024 : Int) < (k.size : Int)) := by omega
  have HKZ : Hid (k.size ≤ 100000) := Mm.hid (by omega)
  obtain ⟨MF, hMF⟩ : ∃ MF : Int, MF = ((Lf.partM s (Lf.withKs P (A ++ k :: B))).1 : Int) := ⟨_, rfl⟩
  obtain ⟨MT, hMT⟩ : ∃ MT : Int, MT = ((Lf.partM s (Lf.withKs P (A ++ k :: B))).2 : Int) := ⟨_, rfl⟩
  have HMF := Mm.hid hMF
  have HMT := Mm.hid hMT
  have HSB : Hid (∀ w' : World, w'.heap[w.heap.size]? = some (.cells #[.int .i64 MF, .int .i64 MT] 35 (0, 0)) → w'.heap[w.heap.size]? = some (.cells #[.int .i64 MF, .int .i64 MT] 35 (0, 0)) ∧ w'.cell? ⟨w.heap.size, 0, none⟩ = some (.int .i64 MF) ∧ w'.cell? ⟨w.heap.size, 1, none⟩ = some (.int .i64 MT) ∧ w'.frozen? ⟨w.heap.size, 0, none⟩ = false ∧ w'.frozen? ⟨w.heap.size, 1, none⟩ = false) := Mm.hid (fun w' hb => ⟨hb, Mm.cellOf hb rfl, Mm.cellOf hb rfl, by simp [World.frozen?, hb], by simp [World.frozen?, hb]⟩)
  have HB0 : Hid (Below w.heap.size w (w.alloc (.cells #[.int .i64 0, .int .i64 0] 35))) := Mm.hid ((Below.refl _ w).alloc (Nat.le_refl _) _)
  have HM0 := Mm.hid (H.out.below HB0.out)
  have hfi := find_any HM0 hs hz hk
  rw [decide_eq_false hnk.out] at hfi
  have HFI := Mm.hid hfi
  have hh0 := Mm.hid hh
  have HF1 : Hid (2 ≤ s.fan) := Mm.hid hI.out.f1
  have HND := Mm.hid hI.out.nd
  have HN1 : Hid ((Lf.insP s L P R (A ++ k :: B)).pgs.Pairwise (fun P Q => P.n ≠ Q.n)) := Mm.hid (by
    have h1 := hI.out.nd
    rw [hs.out.e] at h1
    have e : ∀ X : List Lf.Pg, X.Pairwise (fun P Q => P.n ≠ Q.n) ↔ (X.map (fun P => P.n)).Pairwise (· ≠ ·) := fun X => List.pairwise_map.symm
    rw [e] at h1
    show (L ++ Lf.withKs P (A ++ k :: B) :: R).Pairwise _
    rw [e]
    simpa [Lf.withKs] using h1)
  have HR1 : Hid (∀ Q ∈ (Lf.insP s L P R (A ++ k :: B)).pgs, Q.n ≤ (Lf.insP s L P R (A ++ k :: B)).last) := Mm.hid (by
    intro Q hQ
    have h1 := hI.out.nr
    rw [hs.out.e] at h1
    have hQ' : Q ∈ L ++ Lf.withKs P (A ++ k :: B) :: R := hQ
    rcases List.mem_append.1 hQ' with h2 | h2
    · exact (h1 Q (by simp [h2])).2
    · rcases List.mem_cons.1 h2 with h2 | h2
      · rw [h2]; exact (h1 P (by simp)).2
      · exact (h1 Q (by simp [h2])).2)
  clear hfi hMF hMT hh hkz
  go_enter Try.func8, Try.ntmps8
  go_wp2_with fail
  refine HFI.out.mono ?_
  rintro e w1 ⟨rfl, hb1⟩
  have HB1 : Hid (Below w.heap.size w w1) := Mm.hid (HB0.out.trans (hb1.mono HB0.out.size))
  have HM1 := Mm.hid (HM0.out.below hb1)
  have HE1 : Hid (Lf.Ev tag tag w w1) := Mm.hid (Lf.Ev.below HB1.out)
  have HBX1 : Hid (w1.heap[w.heap.size]? = some (.cells #[.int .i64 0, .int .i64 0] 35 (0, 0))) := Mm.hid ((hb1.block _ (by simp)).trans (Mm.newAt w _ rfl))
  have HBL1 : Hid (w.heap.size < w1.heap.size) := Mm.hid (Mm.heapLt HBX1.out)
  have HBT1 : Hid (tag w.heap.size = none) := Mm.hid (H.out.top _ (Nat.le_refl _))
  have HH : Hid (h ≤ w1.heap.size) := Mm.hid (Nat.le_trans hh0.out HB1.out.size)
  have hi : s.pgs[L.length]? = some P := by rw [hs.out.e]; simp
  have hPm : P ∈ s.pgs := hs.out.mem
  obtain ⟨g, c, rfl, m1, m2, m3, m4, m5, m6⟩ := HM1.out.at hi
  have c1 := HM1.out.c1
  obtain ⟨q, c', ek, k1, k2, k3, k4, k5⟩ := HM1.out.ks hPm
  obtain ⟨n, hn⟩ : ∃ n, n = P.ks.length := ⟨_, rfl⟩
  obtain ⟨N, hN⟩ : ∃ N, N = s.pgs.length := ⟨_, rfl⟩
  obtain ⟨l, hl⟩ : ∃ l, l = L.length := ⟨_, rfl⟩
  rw [← hn] at k1 ek
  rw [← hN] at c1 m1 m2
  rw [ek] at m6
  rw [← hl] at m2 m3 ⊢
  have hnb : n ≤ 10000 := by rw [hn]; exact hz.out.kl P hPm
  have hcn := hz.out.cn
  have g1 : (0 : Int) ≤ (l : Int) := by omega
  have g2 : (l : Int) < (N : Int) := by omega
  have HPM := Mm.hid hPm
  have HNK := Mm.hid hn
  have HLL := Mm.hid hl
  have HEK := Mm.hid ek
  have HE := Mm.hid hs.out.e
  have HC6 := Mm.hid m6
  have HAN : Hid (A.length ≤ n) := Mm.hid (by rw [hn, hk.out.e]; simp)
  have HKS : Hid (Lf.strs (A ++ k :: B) = (Lf.strs P.ks).take A.length ++ .string k :: (Lf.strs P.ks).drop A.length) := Mm.hid (by
    have e : Lf.strs P.ks = Lf.strs A ++ Lf.strs B := by rw [hk.out.e]; simp [Lf.strs]
    have hl : (Lf.strs A).length = A.length := by simp
    rw [e, List.take_left' hl, List.drop_left' hl]
    simp [Lf.strs])
  clear hb1 k2 k3 k4 k5 hi hPm hn hN hl ek m4 m5
  go_wp2_with fail
  clear m6 c1 m3
  refine wp_region_held_drew (S := fun _ => True) (by kernel_rfl) (trivial) (fun hH => ?_)
  refine wpAnyH_take (i := 0) (oi := ?oz1q0) (v := ?vz1q0) ?hiz1q0 ?hsz1q0 ?hfz1q0 ?hrz1q0 ?hQz1q0 (Or.inl ⟨?hwz1q0, ?hyz1q0⟩) ?hSz1q0 ?restz1q0
  case hiz1q0 => (simp; rfl)
  case hsz1q0 => kernel_rfl
  case hfz1q0 => kernel_rfl
  case hrz1q0 => kernel_rfl
  case hQz1q0 => exact fun _ _ _ h => h
  case hwz1q0 => rfl
  case hyz1q0 => (intro wq hSq; (try dsimp only at hSq); go_simp; (try with_reducible rfl))
  case hSz1q0 => assumption
  simp only [Act.put, List.setIfInBounds_toArray, List.set_cons_zero, List.set_cons_succ]
  refine wpAnyH_take (i := 1) (oi := ?oz2q1) (v := ?vz2q1) ?hiz2q1 ?hsz2q1 ?hfz2q1 ?hrz2q1 ?hQz2q1 (Or.inl ⟨?hwz2q1, ?hyz2q1⟩) ?hSz2q1 ?restz2q1
  case hiz2q1 => (simp; rfl)
  case hsz2q1 => kernel_rfl
  case hfz2q1 => kernel_rfl
  case hrz2q1 => kernel_rfl
  case hQz2q1 => exact fun _ _ _ h => h
  case hwz2q1 => rfl
  case hyz2q1 => (intro wq hSq; (try dsimp only at hSq); go_simp; (try with_reducible rfl))
  case hSz2q1 => assumption
  simp only [Act.put, List.setIfInBounds_toArray, List.set_cons_zero, List.set_cons_succ]
  refine wpAnyH_take (i := 2) (oi := ?oz3q2) (v := ?vz3q2) ?hiz3q2 ?hsz3q2 ?hfz3q2 ?hrz3q2 ?hQz3q2 (Or.inl ⟨?hwz3q2, ?hyz3q2⟩) ?hSz3q2 ?restz3q2
  case hiz3q2 => (simp; rfl)
  case hsz3q2 => kernel_rfl
  case hfz3q2 => kernel_rfl
  case hrz3q2 => kernel_rfl
  case hQz3q2 => exact fun _ _ _ h => h
  case hwz3q2 => rfl
  case hyz3q2 => (intro wq hSq; (try dsimp only at hSq); go_simp; (try with_reducible rfl))
  case hSz3q2 => assumption
  simp only [Act.put, List.setIfInBounds_toArray, List.set_cons_zero, List.set_cons_succ]
  refine wpAnyH_take (i := 3) (oi := ?oz4q3) (v := ?vz4q3) ?hiz4q3 ?hsz4q3 ?hfz4q3 ?hrz4q3 ?hQz4q3 (Or.inl ⟨?hwz4q3, ?hyz4q3⟩) ?hSz4q3 ?restz4q3
  case hiz4q3 => (simp; rfl)
  case hsz4q3 => kernel_rfl
  case hfz4q3 => kernel_rfl
  case hrz4q3 => kernel_rfl
  case hQz4q3 => exact fun _ _ _ h => h
  case hwz4q3 => rfl
  case hyz4q3 => (intro wq hSq; (try dsimp only at hSq); go_simp; (try with_reducible rfl))
  case hSz4q3 => assumption
  simp only [Act.put, List.setIfInBounds_toArray, List.set_cons_zero, List.set_cons_succ]
  refine wpAnyH_take (i := 5) (oi := ?oz5q5) (v := ?vz5q5) ?hiz5q5 ?hsz5q5 ?hfz5q5 ?hrz5q5 ?hQz5q5 (Or.inl ⟨?hwz5q5, ?hyz5q5⟩) ?hSz5q5 ?restz5q5
  case hiz5q5 => (simp; rfl)
  case hsz5q5 => kernel_rfl
  case hfz5q5 => kernel_rfl
  case hrz5q5 => kernel_rfl
  case hQz5q5 => exact fun _ _ _ h => h
  case hwz5q5 => rfl
  case hyz5q5 => (intro wq hSq; (try dsimp only at hSq); go_simp; (try with_reducible rfl))
  case hSz5q5 => assumption
  simp only [Act.put, List.setIfInBounds_toArray, List.set_cons_zero, List.set_cons_succ]
  refine wpAnyH_take (i := 6) (oi := ?oz6q6) (v := ?vz6q6) ?hiz6q6 ?hsz6q6 ?hfz6q6 ?hrz6q6 ?hQz6q6 (Or.inl ⟨?hwz6q6, ?hyz6q6⟩) ?hSz6q6 ?restz6q6
  case hiz6q6 => (simp; rfl)
  case hsz6q6 => kernel_rfl
  case hfz6q6 => kernel_rfl
  case hrz6q6 => kernel_rfl
  case hQz6q6 => exact fun _ _ _ h => h
  case hwz6q6 => rfl
  case hyz6q6 => (intro wq hSq; (try dsimp only at hSq); go_simp; (try with_reducible rfl))
  case hSz6q6 => assumption
  simp only [Act.put, List.setIfInBounds_toArray, List.set_cons_zero, List.set_cons_succ]
  refine wpAnyH_ready (rs := [4, 7]) (by kernel_rfl) (by simp) ?_
  refine AllReadyH.cons (o := ?oz7q) ?hz7q (fun K hK => ?rz7q) (AllReadyH.cons (o := ?oz8q) ?hz8q (fun K hK => ?rz8q) AllReadyH.nil)
  case hz7q => (simp; rfl)
  case hz8q => (simp; rfl)
  case rz7q =>
    have hc5 : w1.drew.cell? ⟨bl P.n, 2, none⟩ = some (.slice q n c') := (Mm.belAt (Below.refl _ w1).drew _ (World.block_lt_of_cell? w1 _ HC6.out)).trans HC6.out
    go_simp
    clear hc5
    refine hK.out _ _ (trivial) (fun hHz9q => ?_)
    clear hK K
    refine wpAnyH_ready (rs := [7]) (by kernel_rfl) (by simp) ?_
    refine AllReadyH.cons (o := ?oz10q) ?hz10q (fun K hK => ?rz10q) AllReadyH.nil
    case hz10q => (simp; rfl)
    case rz10q =>
      go_simp
      refine (clone_any k _ HKZ.out).mono ?_
      rintro e w2 ⟨rfl, hb2⟩
      have HB2 : Hid (Below w1.heap.size w1 w2) := Mm.hid ((Below.refl _ w1).drew.trans hb2)
      clear hb2
      go_wp2_with fail
      refine hK.out _ _ (trivial) (fun hHz11q => ?_)
      clear hK K
      refine wpAnyH_ready (rs := [8]) (by kernel_rfl) (by simp) ?_
      refine AllReadyH.cons (o := ?oz12q) ?hz12q (fun K hK => ?rz12q) AllReadyH.nil
      case hz12q => (simp; rfl)
      case rz12q =>
        go_simp
        refine hK.out _ _ (trivial) (fun hHz13q => ?_)
        clear hK K
        refine wpAnyH_ready (rs := [9]) (by kernel_rfl) (by simp) ?_
        refine AllReadyH.cons (o := ?oz14q) ?hz14q (fun K hK => ?rz14q) AllReadyH.nil
        case hz14q => (simp; rfl)
        case rz14q =>
          go_simp
          have hin := insS_any q n c' A.length (Lf.strs P.ks) (.string k) w2.heap.size h (w2.alloc (.cells #[.string k] 9)) (Mm.hid (by have h1 := (HM1.out.pg P HPM.out).own.below (w2 := (w2.alloc (.cells #[.string k] 9))) (HB2.out.alloc HB2.out.size _); rw [HEK.out] at h1; exact h1)) (Mm.hid (by rw [Lf.strs_len]; exact HNK.out.symm)) HAN.out rfl (Mm.hid (Lf.strs_one _)) (Mm.hid (Mm.newAt _ _ rfl)) (Mm.hid (fun g' hg' e => by
            have h1 := ((HM1.out.pg P HPM.out).own.lt (g := g') (by rw [HEK.out, hg']; rfl)).1
            have h2 := HB2.out.size
            omega)) (by omega) (Nat.le_trans HH.out (Nat.le_trans HB2.out.size (by simp)))
          have HIN := Mm.hid hin
          clear hin
          with_reducible refine HIN.out.mono ?_
          rintro e w6 ⟨v6, rfl, hown6, hg6, hl6⟩
          obtain ⟨q6, cq6, ev6, _⟩ := hown6.shape
          obtain ⟨L6, hL6⟩ : ∃ L6, L6 = ((Lf.strs P.ks).take A.length ++ .string k :: (Lf.strs P.ks).drop A.length).length := ⟨_, rfl⟩
          rw [← hL6] at ev6
          subst ev6
          clear hL6
          have HO6 := Mm.hid hown6
          have HG6 : Hid (w1.grownBy w6 (Value.slice q n c').ownBlock) := Mm.hid ⟨hg6.os.trans HB2.out.os, hg6.tape.trans HB2.out.tape, hg6.output.trans HB2.out.output, Nat.le_trans HB2.out.size (Nat.le_trans (by simp) hg6.size), fun b hb hne => (hg6.block b (Nat.lt_of_lt_of_le hb (Nat.le_trans HB2.out.size (by simp))) hne).trans ((HB2.out.alloc HB2.out.size _).block b hb)⟩
          have HL6 : Hid ((Value.slice q6 L6 cq6).ownBlock = (Value.slice q n c').ownBlock ∨ ∀ g', (Value.slice q6 L6 cq6).ownBlock = some g' → w1.heap.size ≤ g') := Mm.hid (by
            rcases hl6 with h1 | h1
            · exact Or.inl h1
            · exact Or.inr (fun g' hg' => by have := h1 g' hg'; have := HB2.out.size; simp at *; omega))
          have HP6 : Hid (w6.heap[bl P.n]? = some (.cells #[.int .i64 (P.n : Int), .string P.b, .slice q n c'] 63 (0, 0))) := Mm.hid (by
            have h1 := (HM1.out.pg P HPM.out).cell
            have h2 := (HM1.out.pg P HPM.out).tb
            rw [HEK.out] at h1
            refine (HG6.out.block _ (Mm.heapLt h1) (fun e => ?_)).trans h1
            have h3 := (HM1.out.pg P HPM.out).tk (bl P.n) (by rw [HEK.out]; exact e.symm)
            rw [h2] at h3; cases h3)
          clear hown6 hg6 hl6
          go_wp2_with fail
          refine hK.out _ _ (trivial) (fun hHz15q => ?_)
          clear hK K
          refine wpAnyH_take (i := 10) (oi := ?oz16q10) (v := ?vz16q10) ?hiz16q10 ?hsz16q10 ?hfz16q10 ?hrz16q10 ?hQz16q10 (Or.inl ⟨?hwz16q10, ?hyz16q10⟩) ?hSz16q10 ?restz16q10
          case hiz16q10 => (simp; rfl)
          case hsz16q10 => kernel_rfl
          case hfz16q10 => kernel_rfl
          case hrz16q10 => kernel_rfl
          case hQz16q10 => exact fun _ _ _ h => h
          case hwz16q10 => rfl
          case hyz16q10 => (intro wq hSq; (try dsimp only at hSq); go_simp; (try with_reducible rfl))
          case hSz16q10 => assumption
          simp only [Act.put, List.setIfInBounds_toArray, List.set_cons_zero, List.set_cons_succ]
          refine wpAnyH_take (i := 11) (oi := ?oz17q11) (v := ?vz17q11) ?hiz17q11 ?hsz17q11 ?hfz17q11 ?hrz17q11 ?hQz17q11 (Or.inl ⟨?hwz17q11, ?hyz17q11⟩) ?hSz17q11 ?restz17q11
          case hiz17q11 => (simp; rfl)
          case hsz17q11 => kernel_rfl
          case hfz17q11 => kernel_rfl
          case hrz17q11 => kernel_rfl
          case hQz17q11 => exact fun _ _ _ h => h
          case hwz17q11 => rfl
          case hyz17q11 => (intro wq hSq; (try dsimp only at hSq); go_simp; (try with_reducible rfl))
          case hSz17q11 => assumption
          simp only [Act.put, List.setIfInBounds_toArray, List.set_cons_zero, List.set_cons_succ]
          refine wpAnyH_ready (rs := [12]) (by kernel_rfl) (by simp) ?_
          refine AllReadyH.cons (o := ?oz18q) ?hz18q (fun K hK => ?rz18q) AllReadyH.nil
          case hz18q => (simp; rfl)
          case rz18q =>
            have hcT : w6.cell? ⟨bl P.n, 2, none⟩ = some (.slice q n c') := Mm.cellOf HP6.out rfl
            have hfz : w6.frozen? ⟨bl P.n, 2, none⟩ = false := by simp [World.frozen?, HP6.out]
            go_simp
            clear hcT hfz
            refine hK.out _ _ (trivial) (fun hHz19q => ?_)
            clear hK K
            refine wpAnyH_done (by kernel_rfl) ?_ _
            obtain ⟨hM3, hE3⟩ := HM1.out.putKeys HE.out HND.out (w1 := w6) (v := .slice q6 L6 cq6) (ks := A ++ k :: B) (by rw [HEK.out]; exact HG6.out) (by rw [HKS.out]; exact HO6.out) (by rw [HEK.out]; exact HL6.out)
            obtain ⟨W3, hW3⟩ : ∃ W3, w6.setCell ⟨bl P.n, 2, none⟩ (.slice q6 L6 cq6) = W3 := ⟨_, rfl⟩
            rw [hW3] at hM3 hE3 ⊢
            have HM3 := Mm.hid hM3
            have HE3 := Mm.hid hE3
            have c3 := hM3.c3
            have f3 := hM3.fr 3
            obtain ⟨hM4, hE4⟩ := hM3.setCount (s.count + 1)
            obtain ⟨W4, hW4⟩ : ∃ W4, W3.setCell ⟨p, 3, none⟩ (.int .i64 ((s.count : Int) + 1)) = W4 := ⟨_, rfl⟩
            rw [show ((s.count + 1 : Nat) : Int) = (s.count : Int) + 1 from rfl, hW4] at hM4 hE4
            have HM4 : Hid (Lf.Mem h W4 _ p (Lf.insP s L P R (A ++ k :: B)) bl _ _) := Mm.hid hM4
            have HE4 : Hid (Lf.Ev tag _ w W4) := Mm.hid (HE1.out.trans (hE3.trans hE4))
            have HH4 : Hid (h ≤ W4.heap.size) := Mm.hid (Nat.le_trans hh0.out HE4.out.size)
            have hpt := part_any HM4 HH4.out (P := Lf.withKs P (A ++ k :: B)) (L := L) (R := R) rfl HZ1 HN1 HR1 HF1.out
            rw [← HLL.out] at hpt
            rw [show Lf.partM (Lf.insP s L P R (A ++ k :: B)) (Lf.withKs P (A ++ k :: B)) = Lf.partM s (Lf.withKs P (A ++ k :: B)) from rfl, ← HMF.out, ← HMT.out] at hpt
            have HPT := Mm.hid hpt
            have HBT4 : Hid (_ = none) := Mm.hid (hE3.tags _ HBL1.out HBT1.out)
            have HBX4 : Hid (W4.heap[w.heap.size]? = some (.cells #[.int .i64 0, .int .i64 0] 35 (0, 0))) := Mm.hid ((hE4.block _ (Nat.lt_of_lt_of_le HBL1.out hE3.size) HBT4.out).trans ((hE3.block _ HBL1.out HBT1.out).trans HBX1.out))
            have HBL4 : Hid (w.heap.size < W4.heap.size) := Mm.hid (Mm.heapLt HBX4.out)
            clear hM3 hE3 hM4 hE4 hpt hW3 HP6 HL6 HG6 HO6 HB2
            go_wp2_with fail
            with_reducible refine HPT.out.mono ?_
            rintro e W7 ⟨rfl, tag7, bl7, kv7, rv7, hM7, hE7⟩
            have HM7 := Mm.hid hM7
            have HE7 : Hid (Lf.Ev tag tag7 w W7) := Mm.hid (HE4.out.trans hE7)
            have HBX7 : Hid (W7.heap[w.heap.size]? = some (.cells #[.int .i64 0, .int .i64 0] 35 (0, 0))) := Mm.hid ((hE7.block _ HBL4.out HBT4.out).trans HBX4.out)
            have HBT7 : Hid (tag7 w.heap.size = none) := Mm.hid (hE7.tags _ HBL4.out HBT4.out)
            have d0 : W7.cell? ⟨w.heap.size, 0, none⟩ = some (.int .i64 0) := Mm.cellOf HBX7.out rfl
            have d1 : W7.cell? ⟨w.heap.size, 1, none⟩ = some (.int .i64 0) := Mm.cellOf HBX7.out rfl
            have fz : ∀ i, W7.frozen? ⟨w.heap.size, i, none⟩ = false := fun i => by simp [World.frozen?, HBX7.out]
            have fz0 := fz 0
            have fz1 := fz 1
            clear hM7 hE7 hW4 c3 f3 fz HPT
            go_wp2_with fail
            obtain ⟨W8, hW8⟩ : ∃ W8, (W7.setCell ⟨w.heap.size, 0, none⟩ (.int .i64 MF)).setCell ⟨w.heap.size, 1, none⟩ (.int .i64 MT) = W8 := ⟨_, rfl⟩
            have HM8 := Mm.hid ((HM7.out.set HBT7.out 0 (.int .i64 MF)).set HBT7.out 1 (.int .i64 MT))
            have HE8 := Mm.hid ((HE7.out.set (Nat.le_refl _) 0 (.int .i64 MF)).set (Nat.le_refl _) 1 (.int .i64 MT))
            have HBX8 := Mm.hid (Lf.box2n (x' := .int .i64 MF) (y' := .int .i64 MT) HBX7.out)
            rw [hW8] at HM8 HE8 HBX8 ⊢
            have HBT8 := HBT7
            have HBL8 : Hid (w.heap.size < W8.drew.heap.size) := Mm.hid (Mm.heapLt HBX8.out)
            clear d0 d1 fz0 fz1 hW8
            refine wp_region_held_drew (S := fun w' => w'.heap[w.heap.size]? = some (.cells #[.int .i64 MF, .int .i64 MT] 35 (0, 0)) ∧ w'.cell? ⟨w.heap.size, 0, none⟩ = some (.int .i64 MF) ∧ w'.cell? ⟨w.heap.size, 1, none⟩ = some (.int .i64 MT) ∧ w'.frozen? ⟨w.heap.size, 0, none⟩ = false ∧ w'.frozen? ⟨w.heap.size, 1, none⟩ = false) (by kernel_rfl) (HSB.out _ (show W8.drew.heap[w.heap.size]? = _ from HBX8.out)) (fun hH => ?_)
            refine wpAnyH_take (i := 0) (oi := ?oyb1q0) (v := ?vyb1q0) ?hiyb1q0 ?hsyb1q0 ?hfyb1q0 ?hryb1q0 ?hQyb1q0 (Or.inl ⟨?hwyb1q0, ?hyyb1q0⟩) ?hSyb1q0 ?restyb1q0
            case hiyb1q0 => (simp; rfl)
            case hsyb1q0 => kernel_rfl
            case hfyb1q0 => kernel_rfl
            case hryb1q0 => kernel_rfl
            case hQyb1q0 => exact fun _ _ _ h => h
            case hwyb1q0 => rfl
            case hyyb1q0 => (intro wq hSq; (try dsimp only at hSq); go_simp; (try with_reducible rfl))
            case hSyb1q0 => assumption
            simp only [Act.put, List.setIfInBounds_toArray, List.set_cons_zero, List.set_cons_succ]
            refine wpAnyH_take (i := 1) (oi := ?oyb2q1) (v := ?vyb2q1) ?hiyb2q1 ?hsyb2q1 ?hfyb2q1 ?hryb2q1 ?hQyb2q1 (Or.inl ⟨?hwyb2q1, ?hyyb2q1⟩) ?hSyb2q1 ?restyb2q1
            case hiyb2q1 => (simp; rfl)
            case hsyb2q1 => kernel_rfl
            case hfyb2q1 => kernel_rfl
            case hryb2q1 => kernel_rfl
            case hQyb2q1 => exact fun _ _ _ h => h
            case hwyb2q1 => rfl
            case hyyb2q1 => (intro wq hSq; (try dsimp only at hSq); go_simp; (try with_reducible rfl))
            case hSyb2q1 => assumption
            simp only [Act.put, List.setIfInBounds_toArray, List.set_cons_zero, List.set_cons_succ]
            refine wpAnyH_take (i := 3) (oi := ?oyb3q3) (v := ?vyb3q3) ?hiyb3q3 ?hsyb3q3 ?hfyb3q3 ?hryb3q3 ?hQyb3q3 (Or.inl ⟨?hwyb3q3, ?hyyb3q3⟩) ?hSyb3q3 ?restyb3q3
            case hiyb3q3 => (simp; rfl)
            case hsyb3q3 => kernel_rfl
            case hfyb3q3 => kernel_rfl
            case hryb3q3 => kernel_rfl
            case hQyb3q3 => exact fun _ _ _ h => h
            case hwyb3q3 => rfl
            case hyyb3q3 => (intro wq hSq; (try dsimp only at hSq); go_simp; (try with_reducible rfl))
            case hSyb3q3 => assumption
            simp only [Act.put, List.setIfInBounds_toArray, List.set_cons_zero, List.set_cons_succ]
            refine wpAnyH_ready (rs := [2]) (by kernel_rfl) (by simp) ?_
            refine AllReadyH.cons (o := ?oyb4q) ?hyb4q (fun K hK => ?ryb4q) AllReadyH.nil
            case hyb4q => (simp; rfl)
            case ryb4q =>
              go_simp
              have hof := of_any (Mm.hid HM8.out.drew) HS2 HZ2
              have HOF := Mm.hid hof
              clear hof
              with_reducible refine HOF.out.mono ?_
              rintro e w9 ⟨rfl, hb9⟩
              have HM9 := Mm.hid ((HM8.out.drew).below hb9)
              have HE9 := Mm.hid ((HE8.out.drew).trans (Lf.Ev.below hb9))
              have HX9 : Hid (w9.heap[w.heap.size]? = some (.cells #[.int .i64 MF, .int .i64 MT] 35 (0, 0))) := Mm.hid ((hb9.block _ HBL8.out).trans HBX8.out)
              clear hb9
              go_wp2_with fail
              refine hK.out _ _ (HSB.out _ HX9.out) (fun hHyb5q => ?_)
              clear hK K
              refine wpAnyH_take (i := 4) (oi := ?oyb6q4) (v := ?vyb6q4) ?hiyb6q4 ?hsyb6q4 ?hfyb6q4 ?hryb6q4 ?hQyb6q4 (Or.inl ⟨?hwyb6q4, ?hyyb6q4⟩) ?hSyb6q4 ?restyb6q4
              case hiyb6q4 => (simp; rfl)
              case hsyb6q4 => kernel_rfl
              case hfyb6q4 => kernel_rfl
              case hryb6q4 => kernel_rfl
              case hQyb6q4 => exact fun _ _ _ h => h
              case hwyb6q4 => rfl
              case hyyb6q4 => (intro wq hSq; (try dsimp only at hSq); go_simp; (try with_reducible rfl))
              case hSyb6q4 => assumption
              simp only [Act.put, List.setIfInBounds_toArray, List.set_cons_zero, List.set_cons_succ]
              refine wpAnyH_ready (rs := [5]) (by kernel_rfl) (by simp) ?_
              refine AllReadyH.cons (o := ?oyb7q) ?hyb7q (fun K hK => ?ryb7q) AllReadyH.nil
              case hyb7q => (simp; rfl)
              case ryb7q =>
                have hq0 : w9.cell? ⟨w.heap.size, 0, none⟩ = some (.int .i64 MF) := Mm.cellOf HX9.out rfl
                have hq1 : w9.cell? ⟨w.heap.size, 1, none⟩ = some (.int .i64 MT) := Mm.cellOf HX9.out rfl
                have hq2 : w9.frozen? ⟨w.heap.size, 0, none⟩ = false := by simp [World.frozen?, HX9.out]
                have hq3 : w9.frozen? ⟨w.heap.size, 1, none⟩ = false := by simp [World.frozen?, HX9.out]
                go_simp
                clear hq0 hq1 hq2 hq3
                refine hK.out _ _ (HSB.out _ (Lf.box2n HX9.out)) (fun hHyb8q => ?_)
                clear hK K
                refine wpAnyH_take (i := 6) (oi := ?oyb9q6) (v := ?vyb9q6) ?hiyb9q6 ?hsyb9q6 ?hfyb9q6 ?hryb9q6 ?hQyb9q6 (Or.inl ⟨?hwyb9q6, ?hyyb9q6⟩) ?hSyb9q6 ?restyb9q6
                case hiyb9q6 => (simp; rfl)
                case hsyb9q6 => kernel_rfl
                case hfyb9q6 => kernel_rfl
                case hryb9q6 => kernel_rfl
                case hQyb9q6 => exact fun _ _ _ h => h
                case hwyb9q6 => rfl
                case hyyb9q6 => (intro wq hSq; (try dsimp only at hSq); go_simp; (try with_reducible rfl))
                case hSyb9q6 => assumption
                simp only [Act.put, List.setIfInBounds_toArray, List.set_cons_zero, List.set_cons_succ]
                refine wpAnyH_done (by kernel_rfl) ?_ _
                have hbE := Lf.box2n (x' := .int .i64 MF) (y' := .int .i64 MT) HX9.out
                have HMR := Mm.hid ((HM9.out.set HBT8.out 0 (.int .i64 MF)).set HBT8.out 1 (.int .i64 MT))
                have HER := Mm.hid ((HE9.out.set (Nat.le_refl _) 0 (.int .i64 MF)).set (Nat.le_refl _) 1 (.int .i64 MT))
                obtain ⟨WE, hWE⟩ : ∃ WE, (w9.setCell ⟨w.heap.size, 0, none⟩ (.int .i64 MF)).setCell ⟨w.heap.size, 1, none⟩ (.int .i64 MT) = WE := ⟨_, rfl⟩
                rw [hWE] at hbE HMR HER ⊢
                have ea : WE.cell? ⟨w.heap.size, 0, none⟩ = some (.int .i64 MF) := Mm.cellOf hbE rfl
                have eb : WE.cell? ⟨w.heap.size, 1, none⟩ = some (.int .i64 MT) := Mm.cellOf hbE rfl
                go_wp2_with fail
                exact bodyPost_ret (v := .tuple #[.int .i64 (P'.n : Int), .agg #[.int .i64 MF, .int .i64 MT], .int .i64 0]) (by simp [results, Try.results8, go_sem, ea, eb]) rfl ⟨by rw [HMF.out, HMT.out], _, _, _, _, HMR.out, HER.out⟩
  case rz8q =>
    go_simp
    refine (clone_any k _ HKZ.out).mono ?_
    rintro e w2 ⟨rfl, hb2⟩
    have HB2 : Hid (Below w1.heap.size w1 w2) := Mm.hid ((Below.refl _ w1).drew.trans hb2)
    clear hb2
    go_wp2_with fail
    refine hK.out _ _ (trivial) (fun hHz20q => ?_)
    clear hK K
    refine wpAnyH_ready (rs := [4, 8]) (by kernel_rfl) (by simp) ?_
    refine AllReadyH.cons (o := ?oz21q) ?hz21q (fun K hK => ?rz21q) (AllReadyH.cons (o := ?oz22q) ?hz22q (fun K hK => ?rz22q) AllReadyH.nil)
    case hz21q => (simp; rfl)
    case hz22q => (simp; rfl)
    case rz21q =>
      have hc5 : w2.cell? ⟨bl P.n, 2, none⟩ = some (.slice q n c') := (Mm.belAt HB2.out _ (World.block_lt_of_cell? w1 _ HC6.out)).trans HC6.out
      go_simp
      clear hc5
      refine hK.out _ _ (trivial) (fun hHz23q => ?_)
      clear hK K
      refine wpAnyH_ready (rs := [8]) (by kernel_rfl) (by simp) ?_
      refine AllReadyH.cons (o := ?oz24q) ?hz24q (fun K hK => ?rz24q) AllReadyH.nil
      case hz24q => (simp; rfl)
      case rz24q =>
        go_simp
        refine hK.out _ _ (trivial) (fun hHz25q => ?_)
        clear hK K
        refine wpAnyH_ready (rs := [9]) (by kernel_rfl) (by simp) ?_
        refine AllReadyH.cons (o := ?oz26q) ?hz26q (fun K hK => ?rz26q) AllReadyH.nil
        case hz26q => (simp; rfl)
        case rz26q =>
          go_simp
          have hin := insS_any q n c' A.length (Lf.strs P.ks) (.string k) w2.heap.size h (w2.alloc (.cells #[.string k] 9)) (Mm.hid (by have h1 := (HM1.out.pg P HPM.out).own.below (w2 := (w2.alloc (.cells #[.string k] 9))) (HB2.out.alloc HB2.out.size _); rw [HEK.out] at h1; exact h1)) (Mm.hid (by rw [Lf.strs_len]; exact HNK.out.symm)) HAN.out rfl (Mm.hid (Lf.strs_one _)) (Mm.hid (Mm.newAt _ _ rfl)) (Mm.hid (fun g' hg' e => by
            have h1 := ((HM1.out.pg P HPM.out).own.lt (g := g') (by rw [HEK.out, hg']; rfl)).1
            have h2 := HB2.out.size
            omega)) (by omega) (Nat.le_trans HH.out (Nat.le_trans HB2.out.size (by simp)))
          have HIN := Mm.hid hin
          clear hin
          with_reducible refine HIN.out.mono ?_
          rintro e w6 ⟨v6, rfl, hown6, hg6, hl6⟩
          obtain ⟨q6, cq6, ev6, _⟩ := hown6.shape
          obtain ⟨L6, hL6⟩ : ∃ L6, L6 = ((Lf.strs P.ks).take A.length ++ .string k :: (Lf.strs P.ks).drop A.length).length := ⟨_, rfl⟩
          rw [← hL6] at ev6
          subst ev6
          clear hL6
          have HO6 := Mm.hid hown6
          have HG6 : Hid (w1.grownBy w6 (Value.slice q n c').ownBlock) := Mm.hid ⟨hg6.os.trans HB2.out.os, hg6.tape.trans HB2.out.tape, hg6.output.trans HB2.out.output, Nat.le_trans HB2.out.size (Nat.le_trans (by simp) hg6.size), fun b hb hne => (hg6.block b (Nat.lt_of_lt_of_le hb (Nat.le_trans HB2.out.size (by simp))) hne).trans ((HB2.out.alloc HB2.out.size _).block b hb)⟩
          have HL6 : Hid ((Value.slice q6 L6 cq6).ownBlock = (Value.slice q n c').ownBlock ∨ ∀ g', (Value.slice q6 L6 cq6).ownBlock = some g' → w1.heap.size ≤ g') := Mm.hid (by
            rcases hl6 with h1 | h1
            · exact Or.inl h1
            · exact Or.inr (fun g' hg' => by have := h1 g' hg'; have := HB2.out.size; simp at *; omega))
          have HP6 : Hid (w6.heap[bl P.n]? = some (.cells #[.int .i64 (P.n : Int), .string P.b, .slice q n c'] 63 (0, 0))) := Mm.hid (by
            have h1 := (HM1.out.pg P HPM.out).cell
            have h2 := (HM1.out.pg P HPM.out).tb
            rw [HEK.out] at h1
            refine (HG6.out.block _ (Mm.heapLt h1) (fun e => ?_)).trans h1
            have h3 := (HM1.out.pg P HPM.out).tk (bl P.n) (by rw [HEK.out]; exact e.symm)
            rw [h2] at h3; cases h3)
          clear hown6 hg6 hl6
          go_wp2_with fail
          refine hK.out _ _ (trivial) (fun hHz27q => ?_)
          clear hK K
          refine wpAnyH_take (i := 10) (oi := ?oz28q10) (v := ?vz28q10) ?hiz28q10 ?hsz28q10 ?hfz28q10 ?hrz28q10 ?hQz28q10 (Or.inl ⟨?hwz28q10, ?hyz28q10⟩) ?hSz28q10 ?restz28q10
          case hiz28q10 => (simp; rfl)
          case hsz28q10 => kernel_rfl
          case hfz28q10 => kernel_rfl
          case hrz28q10 => kernel_rfl
          case hQz28q10 => exact fun _ _ _ h => h
          case hwz28q10 => rfl
          case hyz28q10 => (intro wq hSq; (try dsimp only at hSq); go_simp; (try with_reducible rfl))
          case hSz28q10 => assumption
          simp only [Act.put, List.setIfInBounds_toArray, List.set_cons_zero, List.set_cons_succ]
          refine wpAnyH_take (i := 11) (oi := ?oz29q11) (v := ?vz29q11) ?hiz29q11 ?hsz29q11 ?hfz29q11 ?hrz29q11 ?hQz29q11 (Or.inl ⟨?hwz29q11, ?hyz29q11⟩) ?hSz29q11 ?restz29q11
          case hiz29q11 => (simp; rfl)
          case hsz29q11 => kernel_rfl
          case hfz29q11 => kernel_rfl
          case hrz29q11 => kernel_rfl
          case hQz29q11 => exact fun _ _ _ h => h
          case hwz29q11 => rfl
          case hyz29q11 => (intro wq hSq; (try dsimp only at hSq); go_simp; (try with_reducible rfl))
          case hSz29q11 => assumption
          simp only [Act.put, List.setIfInBounds_toArray, List.set_cons_zero, List.set_cons_succ]
          refine wpAnyH_ready (rs := [12]) (by kernel_rfl) (by simp) ?_
          refine AllReadyH.cons (o := ?oz30q) ?hz30q (fun K hK => ?rz30q) AllReadyH.nil
          case hz30q => (simp; rfl)
          case rz30q =>
            have hcT : w6.cell? ⟨bl P.n, 2, none⟩ = some (.slice q n c') := Mm.cellOf HP6.out rfl
            have hfz : w6.frozen? ⟨bl P.n, 2, none⟩ = false := by simp [World.frozen?, HP6.out]
            go_simp
            clear hcT hfz
            refine hK.out _ _ (trivial) (fun hHz31q => ?_)
            clear hK K
            refine wpAnyH_done (by kernel_rfl) ?_ _
            obtain ⟨hM3, hE3⟩ := HM1.out.putKeys HE.out HND.out (w1 := w6) (v := .slice q6 L6 cq6) (ks := A ++ k :: B) (by rw [HEK.out]; exact HG6.out) (by rw [HKS.out]; exact HO6.out) (by rw [HEK.out]; exact HL6.out)
            obtain ⟨W3, hW3⟩ : ∃ W3, w6.setCell ⟨bl P.n, 2, none⟩ (.slice q6 L6 cq6) = W3 := ⟨_, rfl⟩
            rw [hW3] at hM3 hE3 ⊢
            have HM3 := Mm.hid hM3
            have HE3 := Mm.hid hE3
            have c3 := hM3.c3
            have f3 := hM3.fr 3
            obtain ⟨hM4, hE4⟩ := hM3.setCount (s.count + 1)
            obtain ⟨W4, hW4⟩ : ∃ W4, W3.setCell ⟨p, 3, none⟩ (.int .i64 ((s.count : Int) + 1)) = W4 := ⟨_, rfl⟩
            rw [show ((s.count + 1 : Nat) : Int) = (s.count : Int) + 1 from rfl, hW4] at hM4 hE4
            have HM4 : Hid (Lf.Mem h W4 _ p (Lf.insP s L P R (A ++ k :: B)) bl _ _) := Mm.hid hM4
            have HE4 : Hid (Lf.Ev tag _ w W4) := Mm.hid (HE1.out.trans (hE3.trans hE4))
            have HH4 : Hid (h ≤ W4.heap.size) := Mm.hid (Nat.le_trans hh0.out HE4.out.size)
            have hpt := part_any HM4 HH4.out (P := Lf.withKs P (A ++ k :: B)) (L := L) (R := R) rfl HZ1 HN1 HR1 HF1.out
            rw [← HLL.out] at hpt
            rw [show Lf.partM (Lf.insP s L P R (A ++ k :: B)) (Lf.withKs P (A ++ k :: B)) = Lf.partM s (Lf.withKs P (A ++ k :: B)) from rfl, ← HMF.out, ← HMT.out] at hpt
            have HPT := Mm.hid hpt
            have HBT4 : Hid (_ = none) := Mm.hid (hE3.tags _ HBL1.out HBT1.out)
            have HBX4 : Hid (W4.heap[w.heap.size]? = some (.cells #[.int .i64 0, .int .i64 0] 35 (0, 0))) := Mm.hid ((hE4.block _ (Nat.lt_of_lt_of_le HBL1.out hE3.size) HBT4.out).trans ((hE3.block _ HBL1.out HBT1.out).trans HBX1.out))
            have HBL4 : Hid (w.heap.size < W4.heap.size) := Mm.hid (Mm.heapLt HBX4.out)
            clear hM3 hE3 hM4 hE4 hpt hW3 HP6 HL6 HG6 HO6 HB2
            go_wp2_with fail
            with_reducible refine HPT.out.mono ?_
            rintro e W7 ⟨rfl, tag7, bl7, kv7, rv7, hM7, hE7⟩
            have HM7 := Mm.hid hM7
            have HE7 : Hid (Lf.Ev tag tag7 w W7) := Mm.hid (HE4.out.trans hE7)
            have HBX7 : Hid (W7.heap[w.heap.size]? = some (.cells #[.int .i64 0, .int .i64 0] 35 (0, 0))) := Mm.hid ((hE7.block _ HBL4.out HBT4.out).trans HBX4.out)
            have HBT7 : Hid (tag7 w.heap.size = none) := Mm.hid (hE7.tags _ HBL4.out HBT4.out)
            have d0 : W7.cell? ⟨w.heap.size, 0, none⟩ = some (.int .i64 0) := Mm.cellOf HBX7.out rfl
            have d1 : W7.cell? ⟨w.heap.size, 1, none⟩ = some (.int .i64 0) := Mm.cellOf HBX7.out rfl
            have fz : ∀ i, W7.frozen? ⟨w.heap.size, i, none⟩ = false := fun i => by simp [World.frozen?, HBX7.out]
            have fz0 := fz 0
            have fz1 := fz 1
            clear hM7 hE7 hW4 c3 f3 fz HPT
            go_wp2_with fail
            obtain ⟨W8, hW8⟩ : ∃ W8, (W7.setCell ⟨w.heap.size, 0, none⟩ (.int .i64 MF)).setCell ⟨w.heap.size, 1, none⟩ (.int .i64 MT) = W8 := ⟨_, rfl⟩
            have HM8 := Mm.hid ((HM7.out.set HBT7.out 0 (.int .i64 MF)).set HBT7.out 1 (.int .i64 MT))
            have HE8 := Mm.hid ((HE7.out.set (Nat.le_refl _) 0 (.int .i64 MF)).set (Nat.le_refl _) 1 (.int .i64 MT))
            have HBX8 := Mm.hid (Lf.box2n (x' := .int .i64 MF) (y' := .int .i64 MT) HBX7.out)
            rw [hW8] at HM8 HE8 HBX8 ⊢
            have HBT8 := HBT7
            have HBL8 : Hid (w.heap.size < W8.drew.heap.size) := Mm.hid (Mm.heapLt HBX8.out)
            clear d0 d1 fz0 fz1 hW8
            refine wp_region_held_drew (S := fun w' => w'.heap[w.heap.size]? = some (.cells #[.int .i64 MF, .int .i64 MT] 35 (0, 0)) ∧ w'.cell? ⟨w.heap.size, 0, none⟩ = some (.int .i64 MF) ∧ w'.cell? ⟨w.heap.size, 1, none⟩ = some (.int .i64 MT) ∧ w'.frozen? ⟨w.heap.size, 0, none⟩ = false ∧ w'.frozen? ⟨w.heap.size, 1, none⟩ = false) (by kernel_rfl) (HSB.out _ (show W8.drew.heap[w.heap.size]? = _ from HBX8.out)) (fun hH => ?_)
            refine wpAnyH_take (i := 0) (oi := ?oyc1q0) (v := ?vyc1q0) ?hiyc1q0 ?hsyc1q0 ?hfyc1q0 ?hryc1q0 ?hQyc1q0 (Or.inl ⟨?hwyc1q0, ?hyyc1q0⟩) ?hSyc1q0 ?restyc1q0
            case hiyc1q0 => (simp; rfl)
            case hsyc1q0 => kernel_rfl
            case hfyc1q0 => kernel_rfl
            case hryc1q0 => kernel_rfl
            case hQyc1q0 => exact fun _ _ _ h => h
            case hwyc1q0 => rfl
            case hyyc1q0 => (intro wq hSq; (try dsimp only at hSq); go_simp; (try with_reducible rfl))
            case hSyc1q0 => assumption
            simp only [Act.put, List.setIfInBounds_toArray, List.set_cons_zero, List.set_cons_succ]
            refine wpAnyH_take (i := 1) (oi := ?oyc2q1) (v := ?vyc2q1) ?hiyc2q1 ?hsyc2q1 ?hfyc2q1 ?hryc2q1 ?hQyc2q1 (Or.inl ⟨?hwyc2q1, ?hyyc2q1⟩) ?hSyc2q1 ?restyc2q1
            case hiyc2q1 => (simp; rfl)
            case hsyc2q1 => kernel_rfl
            case hfyc2q1 => kernel_rfl
            case hryc2q1 => kernel_rfl
            case hQyc2q1 => exact fun _ _ _ h => h
            case hwyc2q1 => rfl
            case hyyc2q1 => (intro wq hSq; (try dsimp only at hSq); go_simp; (try with_reducible rfl))
            case hSyc2q1 => assumption
            simp only [Act.put, List.setIfInBounds_toArray, List.set_cons_zero, List.set_cons_succ]
            refine wpAnyH_take (i := 3) (oi := ?oyc3q3) (v := ?vyc3q3) ?hiyc3q3 ?hsyc3q3 ?hfyc3q3 ?hryc3q3 ?hQyc3q3 (Or.inl ⟨?hwyc3q3, ?hyyc3q3⟩) ?hSyc3q3 ?restyc3q3
            case hiyc3q3 => (simp; rfl)
            case hsyc3q3 => kernel_rfl
            case hfyc3q3 => kernel_rfl
            case hryc3q3 => kernel_rfl
            case hQyc3q3 => exact fun _ _ _ h => h
            case hwyc3q3 => rfl
            case hyyc3q3 => (intro wq hSq; (try dsimp only at hSq); go_simp; (try with_reducible rfl))
            case hSyc3q3 => assumption
            simp only [Act.put, List.setIfInBounds_toArray, List.set_cons_zero, List.set_cons_succ]
            refine wpAnyH_ready (rs := [2]) (by kernel_rfl) (by simp) ?_
            refine AllReadyH.cons (o := ?oyc4q) ?hyc4q (fun K hK => ?ryc4q) AllReadyH.nil
            case hyc4q => (simp; rfl)
            case ryc4q =>
              go_simp
              have hof := of_any (Mm.hid HM8.out.drew) HS2 HZ2
              have HOF := Mm.hid hof
              clear hof
              with_reducible refine HOF.out.mono ?_
              rintro e w9 ⟨rfl, hb9⟩
              have HM9 := Mm.hid ((HM8.out.drew).below hb9)
              have HE9 := Mm.hid ((HE8.out.drew).trans (Lf.Ev.below hb9))
              have HX9 : Hid (w9.heap[w.heap.size]? = some (.cells #[.int .i64 MF, .int .i64 MT] 35 (0, 0))) := Mm.hid ((hb9.block _ HBL8.out).trans HBX8.out)
              clear hb9
              go_wp2_with fail
              refine hK.out _ _ (HSB.out _ HX9.out) (fun hHyc5q => ?_)
              clear hK K
              refine wpAnyH_take (i := 4) (oi := ?oyc6q4) (v := ?vyc6q4) ?hiyc6q4 ?hsyc6q4 ?hfyc6q4 ?hryc6q4 ?hQyc6q4 (Or.inl ⟨?hwyc6q4, ?hyyc6q4⟩) ?hSyc6q4 ?restyc6q4
              case hiyc6q4 => (simp; rfl)
              case hsyc6q4 => kernel_rfl
              case hfyc6q4 => kernel_rfl
              case hryc6q4 => kernel_rfl
              case hQyc6q4 => exact fun _ _ _ h => h
              case hwyc6q4 => rfl
              case hyyc6q4 => (intro wq hSq; (try dsimp only at hSq); go_simp; (try with_reducible rfl))
              case hSyc6q4 => assumption
              simp only [Act.put, List.setIfInBounds_toArray, List.set_cons_zero, List.set_cons_succ]
              refine wpAnyH_ready (rs := [5]) (by kernel_rfl) (by simp) ?_
              refine AllReadyH.cons (o := ?oyc7q) ?hyc7q (fun K hK => ?ryc7q) AllReadyH.nil
              case hyc7q => (simp; rfl)
              case ryc7q =>
                have hq0 : w9.cell? ⟨w.heap.size, 0, none⟩ = some (.int .i64 MF) := Mm.cellOf HX9.out rfl
                have hq1 : w9.cell? ⟨w.heap.size, 1, none⟩ = some (.int .i64 MT) := Mm.cellOf HX9.out rfl
                have hq2 : w9.frozen? ⟨w.heap.size, 0, none⟩ = false := by simp [World.frozen?, HX9.out]
                have hq3 : w9.frozen? ⟨w.heap.size, 1, none⟩ = false := by simp [World.frozen?, HX9.out]
                go_simp
                clear hq0 hq1 hq2 hq3
                refine hK.out _ _ (HSB.out _ (Lf.box2n HX9.out)) (fun hHyc8q => ?_)
                clear hK K
                refine wpAnyH_take (i := 6) (oi := ?oyc9q6) (v := ?vyc9q6) ?hiyc9q6 ?hsyc9q6 ?hfyc9q6 ?hryc9q6 ?hQyc9q6 (Or.inl ⟨?hwyc9q6, ?hyyc9q6⟩) ?hSyc9q6 ?restyc9q6
                case hiyc9q6 => (simp; rfl)
                case hsyc9q6 => kernel_rfl
                case hfyc9q6 => kernel_rfl
                case hryc9q6 => kernel_rfl
                case hQyc9q6 => exact fun _ _ _ h => h
                case hwyc9q6 => rfl
                case hyyc9q6 => (intro wq hSq; (try dsimp only at hSq); go_simp; (try with_reducible rfl))
                case hSyc9q6 => assumption
                simp only [Act.put, List.setIfInBounds_toArray, List.set_cons_zero, List.set_cons_succ]
                refine wpAnyH_done (by kernel_rfl) ?_ _
                have hbE := Lf.box2n (x' := .int .i64 MF) (y' := .int .i64 MT) HX9.out
                have HMR := Mm.hid ((HM9.out.set HBT8.out 0 (.int .i64 MF)).set HBT8.out 1 (.int .i64 MT))
                have HER := Mm.hid ((HE9.out.set (Nat.le_refl _) 0 (.int .i64 MF)).set (Nat.le_refl _) 1 (.int .i64 MT))
                obtain ⟨WE, hWE⟩ : ∃ WE, (w9.setCell ⟨w.heap.size, 0, none⟩ (.int .i64 MF)).setCell ⟨w.heap.size, 1, none⟩ (.int .i64 MT) = WE := ⟨_, rfl⟩
                rw [hWE] at hbE HMR HER ⊢
                have ea : WE.cell? ⟨w.heap.size, 0, none⟩ = some (.int .i64 MF) := Mm.cellOf hbE rfl
                have eb : WE.cell? ⟨w.heap.size, 1, none⟩ = some (.int .i64 MT) := Mm.cellOf hbE rfl
                go_wp2_with fail
                exact bodyPost_ret (v := .tuple #[.int .i64 (P'.n : Int), .agg #[.int .i64 MF, .int .i64 MT], .int .i64 0]) (by simp [results, Try.results8, go_sem, ea, eb]) rfl ⟨by rw [HMF.out, HMT.out], _, _, _, _, HMR.out, HER.out⟩
    case rz22q =>
      go_simp
      refine hK.out _ _ (trivial) (fun hHz32q => ?_)
      clear hK K
      refine wpAnyH_ready (rs := [4]) (by kernel_rfl) (by simp) ?_
      refine AllReadyH.cons (o := ?oz33q) ?hz33q (fun K hK => ?rz33q) AllReadyH.nil
      case hz33q => (simp; rfl)
      case rz33q =>
        have hc5 : (w2.alloc (.cells #[.string k] 9)).cell? ⟨bl P.n, 2, none⟩ = some (.slice q n c') := (Mm.belAt (HB2.out.alloc HB2.out.size _) _ (World.block_lt_of_cell? w1 _ HC6.out)).trans HC6.out
        go_simp
        clear hc5
        refine hK.out _ _ (trivial) (fun hHz34q => ?_)
        clear hK K
        refine wpAnyH_ready (rs := [9]) (by kernel_rfl) (by simp) ?_
        refine AllReadyH.cons (o := ?oz35q) ?hz35q (fun K hK => ?rz35q) AllReadyH.nil
        case hz35q => (simp; rfl)
        case rz35q =>
          go_simp
          have hin := insS_any q n c' A.length (Lf.strs P.ks) (.string k) w2.heap.size h (w2.alloc (.cells #[.string k] 9)) (Mm.hid (by have h1 := (HM1.out.pg P HPM.out).own.below (w2 := (w2.alloc (.cells #[.string k] 9))) (HB2.out.alloc HB2.out.size _); rw [HEK.out] at h1; exact h1)) (Mm.hid (by rw [Lf.strs_len]; exact HNK.out.symm)) HAN.out rfl (Mm.hid (Lf.strs_one _)) (Mm.hid (Mm.newAt _ _ rfl)) (Mm.hid (fun g' hg' e => by
            have h1 := ((HM1.out.pg P HPM.out).own.lt (g := g') (by rw [HEK.out, hg']; rfl)).1
            have h2 := HB2.out.size
            omega)) (by omega) (Nat.le_trans HH.out (Nat.le_trans HB2.out.size (by simp)))
          have HIN := Mm.hid hin
          clear hin
          with_reducible refine HIN.out.mono ?_
          rintro e w6 ⟨v6, rfl, hown6, hg6, hl6⟩
          obtain ⟨q6, cq6, ev6, _⟩ := hown6.shape
          obtain ⟨L6, hL6⟩ : ∃ L6, L6 = ((Lf.strs P.ks).take A.length ++ .string k :: (Lf.strs P.ks).drop A.length).length := ⟨_, rfl⟩
          rw [← hL6] at ev6
          subst ev6
          clear hL6
          have HO6 := Mm.hid hown6
          have HG6 : Hid (w1.grownBy w6 (Value.slice q n c').ownBlock) := Mm.hid ⟨hg6.os.trans HB2.out.os, hg6.tape.trans HB2.out.tape, hg6.output.trans HB2.out.output, Nat.le_trans HB2.out.size (Nat.le_trans (by simp) hg6.size), fun b hb hne => (hg6.block b (Nat.lt_of_lt_of_le hb (Nat.le_trans HB2.out.size (by simp))) hne).trans ((HB2.out.alloc HB2.out.size _).block b hb)⟩
          have HL6 : Hid ((Value.slice q6 L6 cq6).ownBlock = (Value.slice q n c').ownBlock ∨ ∀ g', (Value.slice q6 L6 cq6).ownBlock = some g' → w1.heap.size ≤ g') := Mm.hid (by
            rcases hl6 with h1 | h1
            · exact Or.inl h1
            · exact Or.inr (fun g' hg' => by have := h1 g' hg'; have := HB2.out.size; simp at *; omega))
          have HP6 : Hid (w6.heap[bl P.n]? = some (.cells #[.int .i64 (P.n : Int), .string P.b, .slice q n c'] 63 (0, 0))) := Mm.hid (by
            have h1 := (HM1.out.pg P HPM.out).cell
            have h2 := (HM1.out.pg P HPM.out).tb
            rw [HEK.out] at h1
            refine (HG6.out.block _ (Mm.heapLt h1) (fun e => ?_)).trans h1
            have h3 := (HM1.out.pg P HPM.out).tk (bl P.n) (by rw [HEK.out]; exact e.symm)
            rw [h2] at h3; cases h3)
          clear hown6 hg6 hl6
          go_wp2_with fail
          refine hK.out _ _ (trivial) (fun hHz36q => ?_)
          clear hK K
          refine wpAnyH_take (i := 10) (oi := ?oz37q10) (v := ?vz37q10) ?hiz37q10 ?hsz37q10 ?hfz37q10 ?hrz37q10 ?hQz37q10 (Or.inl ⟨?hwz37q10, ?hyz37q10⟩) ?hSz37q10 ?restz37q10
          case hiz37q10 => (simp; rfl)
          case hsz37q10 => kernel_rfl
          case hfz37q10 => kernel_rfl
          case hrz37q10 => kernel_rfl
          case hQz37q10 => exact fun _ _ _ h => h
          case hwz37q10 => rfl
          case hyz37q10 => (intro wq hSq; (try dsimp only at hSq); go_simp; (try with_reducible rfl))
          case hSz37q10 => assumption
          simp only [Act.put, List.setIfInBounds_toArray, List.set_cons_zero, List.set_cons_succ]
          refine wpAnyH_take (i := 11) (oi := ?oz38q11) (v := ?vz38q11) ?hiz38q11 ?hsz38q11 ?hfz38q11 ?hrz38q11 ?hQz38q11 (Or.inl ⟨?hwz38q11, ?hyz38q11⟩) ?hSz38q11 ?restz38q11
          case hiz38q11 => (simp; rfl)
          case hsz38q11 => kernel_rfl
          case hfz38q11 => kernel_rfl
          case hrz38q11 => kernel_rfl
          case hQz38q11 => exact fun _ _ _ h => h
          case hwz38q11 => rfl
          case hyz38q11 => (intro wq hSq; (try dsimp only at hSq); go_simp; (try with_reducible rfl))
          case hSz38q11 => assumption
          simp only [Act.put, List.setIfInBounds_toArray, List.set_cons_zero, List.set_cons_succ]
          refine wpAnyH_ready (rs := [12]) (by kernel_rfl) (by simp) ?_
          refine AllReadyH.cons (o := ?oz39q) ?hz39q (fun K hK => ?rz39q) AllReadyH.nil
          case hz39q => (simp; rfl)
          case rz39q =>
            have hcT : w6.cell? ⟨bl P.n, 2, none⟩ = some (.slice q n c') := Mm.cellOf HP6.out rfl
            have hfz : w6.frozen? ⟨bl P.n, 2, none⟩ = false := by simp [World.frozen?, HP6.out]
            go_simp
            clear hcT hfz
            refine hK.out _ _ (trivial) (fun hHz40q => ?_)
            clear hK K
            refine wpAnyH_done (by kernel_rfl) ?_ _
            obtain ⟨hM3, hE3⟩ := HM1.out.putKeys HE.out HND.out (w1 := w6) (v := .slice q6 L6 cq6) (ks := A ++ k :: B) (by rw [HEK.out]; exact HG6.out) (by rw [HKS.out]; exact HO6.out) (by rw [HEK.out]; exact HL6.out)
            obtain ⟨W3, hW3⟩ : ∃ W3, w6.setCell ⟨bl P.n, 2, none⟩ (.slice q6 L6 cq6) = W3 := ⟨_, rfl⟩
            rw [hW3] at hM3 hE3 ⊢
            have HM3 := Mm.hid hM3
            have HE3 := Mm.hid hE3
            have c3 := hM3.c3
            have f3 := hM3.fr 3
            obtain ⟨hM4, hE4⟩ := hM3.setCount (s.count + 1)
            obtain ⟨W4, hW4⟩ : ∃ W4, W3.setCell ⟨p, 3, none⟩ (.int .i64 ((s.count : Int) + 1)) = W4 := ⟨_, rfl⟩
            rw [show ((s.count + 1 : Nat) : Int) = (s.count : Int) + 1 from rfl, hW4] at hM4 hE4
            have HM4 : Hid (Lf.Mem h W4 _ p (Lf.insP s L P R (A ++ k :: B)) bl _ _) := Mm.hid hM4
            have HE4 : Hid (Lf.Ev tag _ w W4) := Mm.hid (HE1.out.trans (hE3.trans hE4))
            have HH4 : Hid (h ≤ W4.heap.size) := Mm.hid (Nat.le_trans hh0.out HE4.out.size)
            have hpt := part_any HM4 HH4.out (P := Lf.withKs P (A ++ k :: B)) (L := L) (R := R) rfl HZ1 HN1 HR1 HF1.out
            rw [← HLL.out] at hpt
            rw [show Lf.partM (Lf.insP s L P R (A ++ k :: B)) (Lf.withKs P (A ++ k :: B)) = Lf.partM s (Lf.withKs P (A ++ k :: B)) from rfl, ← HMF.out, ← HMT.out] at hpt
            have HPT := Mm.hid hpt
            have HBT4 : Hid (_ = none) := Mm.hid (hE3.tags _ HBL1.out HBT1.out)
            have HBX4 : Hid (W4.heap[w.heap.size]? = some (.cells #[.int .i64 0, .int .i64 0] 35 (0, 0))) := Mm.hid ((hE4.block _ (Nat.lt_of_lt_of_le HBL1.out hE3.size) HBT4.out).trans ((hE3.block _ HBL1.out HBT1.out).trans HBX1.out))
            have HBL4 : Hid (w.heap.size < W4.heap.size) := Mm.hid (Mm.heapLt HBX4.out)
            clear hM3 hE3 hM4 hE4 hpt hW3 HP6 HL6 HG6 HO6 HB2
            go_wp2_with fail
            with_reducible refine HPT.out.mono ?_
            rintro e W7 ⟨rfl, tag7, bl7, kv7, rv7, hM7, hE7⟩
            have HM7 := Mm.hid hM7
            have HE7 : Hid (Lf.Ev tag tag7 w W7) := Mm.hid (HE4.out.trans hE7)
            have HBX7 : Hid (W7.heap[w.heap.size]? = some (.cells #[.int .i64 0, .int .i64 0] 35 (0, 0))) := Mm.hid ((hE7.block _ HBL4.out HBT4.out).trans HBX4.out)
            have HBT7 : Hid (tag7 w.heap.size = none) := Mm.hid (hE7.tags _ HBL4.out HBT4.out)
            have d0 : W7.cell? ⟨w.heap.size, 0, none⟩ = some (.int .i64 0) := Mm.cellOf HBX7.out rfl
            have d1 : W7.cell? ⟨w.heap.size, 1, none⟩ = some (.int .i64 0) := Mm.cellOf HBX7.out rfl
            have fz : ∀ i, W7.frozen? ⟨w.heap.size, i, none⟩ = false := fun i => by simp [World.frozen?, HBX7.out]
            have fz0 := fz 0
            have fz1 := fz 1
            clear hM7 hE7 hW4 c3 f3 fz HPT
            go_wp2_with fail
            obtain ⟨W8, hW8⟩ : ∃ W8, (W7.setCell ⟨w.heap.size, 0, none⟩ (.int .i64 MF)).setCell ⟨w.heap.size, 1, none⟩ (.int .i64 MT) = W8 := ⟨_, rfl⟩
            have HM8 := Mm.hid ((HM7.out.set HBT7.out 0 (.int .i64 MF)).set HBT7.out 1 (.int .i64 MT))
            have HE8 := Mm.hid ((HE7.out.set (Nat.le_refl _) 0 (.int .i64 MF)).set (Nat.le_refl _) 1 (.int .i64 MT))
            have HBX8 := Mm.hid (Lf.box2n (x' := .int .i64 MF) (y' := .int .i64 MT) HBX7.out)
            rw [hW8] at HM8 HE8 HBX8 ⊢
            have HBT8 := HBT7
            have HBL8 : Hid (w.heap.size < W8.drew.heap.size) := Mm.hid (Mm.heapLt HBX8.out)
            clear d0 d1 fz0 fz1 hW8
            refine wp_region_held_drew (S := fun w' => w'.heap[w.heap.size]? = some (.cells #[.int .i64 MF, .int .i64 MT] 35 (0, 0)) ∧ w'.cell? ⟨w.heap.size, 0, none⟩ = some (.int .i64 MF) ∧ w'.cell? ⟨w.heap.size, 1, none⟩ = some (.int .i64 MT) ∧ w'.frozen? ⟨w.heap.size, 0, none⟩ = false ∧ w'.frozen? ⟨w.heap.size, 1, none⟩ = false) (by kernel_rfl) (HSB.out _ (show W8.drew.heap[w.heap.size]? = _ from HBX8.out)) (fun hH => ?_)
            refine wpAnyH_take (i := 0) (oi := ?oyd1q0) (v := ?vyd1q0) ?hiyd1q0 ?hsyd1q0 ?hfyd1q0 ?hryd1q0 ?hQyd1q0 (Or.inl ⟨?hwyd1q0, ?hyyd1q0⟩) ?hSyd1q0 ?restyd1q0
            case hiyd1q0 => (simp; rfl)
            case hsyd1q0 => kernel_rfl
            case hfyd1q0 => kernel_rfl
            case hryd1q0 => kernel_rfl
            case hQyd1q0 => exact fun _ _ _ h => h
            case hwyd1q0 => rfl
            case hyyd1q0 => (intro wq hSq; (try dsimp only at hSq); go_simp; (try with_reducible rfl))
            case hSyd1q0 => assumption
            simp only [Act.put, List.setIfInBounds_toArray, List.set_cons_zero, List.set_cons_succ]
            refine wpAnyH_take (i := 1) (oi := ?oyd2q1) (v := ?vyd2q1) ?hiyd2q1 ?hsyd2q1 ?hfyd2q1 ?hryd2q1 ?hQyd2q1 (Or.inl ⟨?hwyd2q1, ?hyyd2q1⟩) ?hSyd2q1 ?restyd2q1
            case hiyd2q1 => (simp; rfl)
            case hsyd2q1 => kernel_rfl
            case hfyd2q1 => kernel_rfl
            case hryd2q1 => kernel_rfl
            case hQyd2q1 => exact fun _ _ _ h => h
            case hwyd2q1 => rfl
            case hyyd2q1 => (intro wq hSq; (try dsimp only at hSq); go_simp; (try with_reducible rfl))
            case hSyd2q1 => assumption
            simp only [Act.put, List.setIfInBounds_toArray, List.set_cons_zero, List.set_cons_succ]
            refine wpAnyH_take (i := 3) (oi := ?oyd3q3) (v := ?vyd3q3) ?hiyd3q3 ?hsyd3q3 ?hfyd3q3 ?hryd3q3 ?hQyd3q3 (Or.inl ⟨?hwyd3q3, ?hyyd3q3⟩) ?hSyd3q3 ?restyd3q3
            case hiyd3q3 => (simp; rfl)
            case hsyd3q3 => kernel_rfl
            case hfyd3q3 => kernel_rfl
            case hryd3q3 => kernel_rfl
            case hQyd3q3 => exact fun _ _ _ h => h
            case hwyd3q3 => rfl
            case hyyd3q3 => (intro wq hSq; (try dsimp only at hSq); go_simp; (try with_reducible rfl))
            case hSyd3q3 => assumption
            simp only [Act.put, List.setIfInBounds_toArray, List.set_cons_zero, List.set_cons_succ]
            refine wpAnyH_ready (rs := [2]) (by kernel_rfl) (by simp) ?_
            refine AllReadyH.cons (o := ?oyd4q) ?hyd4q (fun K hK => ?ryd4q) AllReadyH.nil
            case hyd4q => (simp; rfl)
            case ryd4q =>
              go_simp
              have hof := of_any (Mm.hid HM8.out.drew) HS2 HZ2
              have HOF := Mm.hid hof
              clear hof
              with_reducible refine HOF.out.mono ?_
              rintro e w9 ⟨rfl, hb9⟩
              have HM9 := Mm.hid ((HM8.out.drew).below hb9)
              have HE9 := Mm.hid ((HE8.out.drew).trans (Lf.Ev.below hb9))
              have HX9 : Hid (w9.heap[w.heap.size]? = some (.cells #[.int .i64 MF, .int .i64 MT] 35 (0, 0))) := Mm.hid ((hb9.block _ HBL8.out).trans HBX8.out)
              clear hb9
              go_wp2_with fail
              refine hK.out _ _ (HSB.out _ HX9.out) (fun hHyd5q => ?_)
              clear hK K
              refine wpAnyH_take (i := 4) (oi := ?oyd6q4) (v := ?vyd6q4) ?hiyd6q4 ?hsyd6q4 ?hfyd6q4 ?hryd6q4 ?hQyd6q4 (Or.inl ⟨?hwyd6q4, ?hyyd6q4⟩) ?hSyd6q4 ?restyd6q4
              case hiyd6q4 => (simp; rfl)
              case hsyd6q4 => kernel_rfl
              case hfyd6q4 => kernel_rfl
              case hryd6q4 => kernel_rfl
              case hQyd6q4 => exact fun _ _ _ h => h
              case hwyd6q4 => rfl
              case hyyd6q4 => (intro wq hSq; (try dsimp only at hSq); go_simp; (try with_reducible rfl))
              case hSyd6q4 => assumption
              simp only [Act.put, List.setIfInBounds_toArray, List.set_cons_zero, List.set_cons_succ]
              refine wpAnyH_ready (rs := [5]) (by kernel_rfl) (by simp) ?_
              refine AllReadyH.cons (o := ?oyd7q) ?hyd7q (fun K hK => ?ryd7q) AllReadyH.nil
              case hyd7q => (simp; rfl)
              case ryd7q =>
                have hq0 : w9.cell? ⟨w.heap.size, 0, none⟩ = some (.int .i64 MF) := Mm.cellOf HX9.out rfl
                have hq1 : w9.cell? ⟨w.heap.size, 1, none⟩ = some (.int .i64 MT) := Mm.cellOf HX9.out rfl
                have hq2 : w9.frozen? ⟨w.heap.size, 0, none⟩ = false := by simp [World.frozen?, HX9.out]
                have hq3 : w9.frozen? ⟨w.heap.size, 1, none⟩ = false := by simp [World.frozen?, HX9.out]
                go_simp
                clear hq0 hq1 hq2 hq3
                refine hK.out _ _ (HSB.out _ (Lf.box2n HX9.out)) (fun hHyd8q => ?_)
                clear hK K
                refine wpAnyH_take (i := 6) (oi := ?oyd9q6) (v := ?vyd9q6) ?hiyd9q6 ?hsyd9q6 ?hfyd9q6 ?hryd9q6 ?hQyd9q6 (Or.inl ⟨?hwyd9q6, ?hyyd9q6⟩) ?hSyd9q6 ?restyd9q6
                case hiyd9q6 => (simp; rfl)
                case hsyd9q6 => kernel_rfl
                case hfyd9q6 => kernel_rfl
                case hryd9q6 => kernel_rfl
                case hQyd9q6 => exact fun _ _ _ h => h
                case hwyd9q6 => rfl
                case hyyd9q6 => (intro wq hSq; (try dsimp only at hSq); go_simp; (try with_reducible rfl))
                case hSyd9q6 => assumption
                simp only [Act.put, List.setIfInBounds_toArray, List.set_cons_zero, List.set_cons_succ]
                refine wpAnyH_done (by kernel_rfl) ?_ _
                have hbE := Lf.box2n (x' := .int .i64 MF) (y' := .int .i64 MT) HX9.out
                have HMR := Mm.hid ((HM9.out.set HBT8.out 0 (.int .i64 MF)).set HBT8.out 1 (.int .i64 MT))
                have HER := Mm.hid ((HE9.out.set (Nat.le_refl _) 0 (.int .i64 MF)).set (Nat.le_refl _) 1 (.int .i64 MT))
                obtain ⟨WE, hWE⟩ : ∃ WE, (w9.setCell ⟨w.heap.size, 0, none⟩ (.int .i64 MF)).setCell ⟨w.heap.size, 1, none⟩ (.int .i64 MT) = WE := ⟨_, rfl⟩
                rw [hWE] at hbE HMR HER ⊢
                have ea : WE.cell? ⟨w.heap.size, 0, none⟩ = some (.int .i64 MF) := Mm.cellOf hbE rfl
                have eb : WE.cell? ⟨w.heap.size, 1, none⟩ = some (.int .i64 MT) := Mm.cellOf hbE rfl
                go_wp2_with fail
                exact bodyPost_ret (v := .tuple #[.int .i64 (P'.n : Int), .agg #[.int .i64 MF, .int .i64 MT], .int .i64 0]) (by simp [results, Try.results8, go_sem, ea, eb]) rfl ⟨by rw [HMF.out, HMT.out], _, _, _, _, HMR.out, HER.out⟩

end Go.Proofs.Ytjnaafgiokdcbaa
