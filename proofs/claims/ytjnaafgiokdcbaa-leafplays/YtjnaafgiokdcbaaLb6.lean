/- Remove. -/
import Derived.Test.YtjnaafgiokdcbaaLb5
namespace Go.Proofs.Ytjnaafgiokdcbaa
open Go.RowKit

set_option maxRecDepth 100000 in
set_option maxHeartbeats 4000000 in
theorem remove_any {h : Nat} {w : World} {tag : Nat → Option Lf.Tg} {p : Nat} {s : Lf.S} {bl : Nat → Nat} {kv : Nat → Value} {rv : Value} (H : Hid (Lf.Mem h w tag p s bl kv rv)) {k : ByteArray} {L R : List Lf.Pg} {P : Lf.Pg} (hs : Hid (Lf.Spl s k L P R)) (hz : Hid (Lf.Sm s)) (hI : Hid (Lf.Inv s)) {A B : List ByteArray} (hk : Hid (Lf.Kp P.ks k A (k :: B))) (HZ1 : Hid (Lf.Sm (Lf.remP s L P R (A ++ B)))) :
    Calls Try.prog 10 #[.pointer (some ⟨p, 0, none⟩), .string k] w fun e w' => e = .returned (.tuple #[.int .i64 (P.n : Int), .agg #[.int .i64 ((Lf.joinM L (Lf.withKs P (A ++ B)) R).1 : Int), .int .i64 ((Lf.joinM L (Lf.withKs P (A ++ B)) R).2 : Int)], .int .i64 0]) ∧ ∃ tag' bl' kv' rv', Lf.Mem h w' tag' p (Lf.remS s L P R (A ++ B)) bl' kv' rv' ∧ Lf.Ev tag tag' w w' := by
  obtain ⟨MF, hMF⟩ : ∃ MF : Int, MF = ((Lf.joinM L (Lf.withKs P (A ++ B)) R).1 : Int) := ⟨_, rfl⟩
  obtain ⟨MT, hMT⟩ : ∃ MT : Int, MT = ((Lf.joinM L (Lf.withKs P (A ++ B)) R).2 : Int) := ⟨_, rfl⟩
  have HMF := Mm.hid hMF
  have HMT := Mm.hid hMT
  have HB0 : Hid (Below w.heap.size w (w.alloc (.cells #[.int .i64 0, .int .i64 0] 35))) := Mm.hid ((Below.refl _ w).alloc (Nat.le_refl _) _)
  have HM0 := Mm.hid (H.out.below HB0.out)
  have hfi := find_any HM0 hs hz hk
  rw [decide_eq_true (show (k :: B).head? = some k from rfl)] at hfi
  have HFI := Mm.hid hfi
  have HND := Mm.hid hI.out.nd
  have HN1 : Hid ((Lf.remP s L P R (A ++ B)).pgs.Pairwise (fun P Q => P.n ≠ Q.n)) := Mm.hid (by
    have h1 := hI.out.nd
    rw [hs.out.e] at h1
    have e : ∀ X : List Lf.Pg, X.Pairwise (fun P Q => P.n ≠ Q.n) ↔ (X.map (fun P => P.n)).Pairwise (· ≠ ·) := fun X => List.pairwise_map.symm
    rw [e] at h1
    show (L ++ Lf.withKs P (A ++ B) :: R).Pairwise _
    rw [e]
    simpa [Lf.withKs] using h1)
  clear hfi hMF hMT
  go_enter Try.func10, Try.ntmps10
  go_wp2_with fail
  refine HFI.out.mono ?_
  rintro e w1 ⟨rfl, hb1⟩
  have HB1 : Hid (Below w.heap.size w w1) := Mm.hid (HB0.out.trans (hb1.mono HB0.out.size))
  have HM1 := Mm.hid (HM0.out.below hb1)
  have HE1 : Hid (Lf.Ev tag tag w w1) := Mm.hid (Lf.Ev.below HB1.out)
  have HBX1 : Hid (w1.heap[w.heap.size]? = some (.cells #[.int .i64 0, .int .i64 0] 35 (0, 0))) := Mm.hid ((hb1.block _ (by simp)).trans (Mm.newAt w _ rfl))
  have HBL1 : Hid (w.heap.size < w1.heap.size) := Mm.hid (Mm.heapLt HBX1.out)
  have HBT1 : Hid (tag w.heap.size = none) := Mm.hid (H.out.top _ (Nat.le_refl _))
  have hi : s.pgs[L.length]? = some P := by rw [hs.out.e]; simp
  have hPm : P ∈ s.pgs := hs.out.mem
  obtain ⟨g, c, rfl, m1, m2, m3, m4, m5, m6⟩ := HM1.out.at hi
  have c1 := HM1.out.c1
  obtain ⟨q, c', ek, k1, k2, k3, k4, k5⟩ := HM1.out.ks hPm
  obtain ⟨n, hn⟩ : ∃ n, n = P.ks.length := ⟨_, rfl⟩
  obtain ⟨N, hN⟩ : ∃ N, N = s.pgs.length := ⟨_, rfl⟩
  obtain ⟨l, hl⟩ : ∃ l, l = L.length := ⟨_, rfl⟩
  obtain ⟨a, ha⟩ : ∃ a, a = A.length := ⟨_, rfl⟩
  rw [← hn] at k1 ek
  rw [← hN] at c1 m1 m2
  have hnk : a < n := by rw [hn, hk.out.e, ha]; simp
  obtain ⟨gk, hgk⟩ : ∃ gk, q = some ⟨gk, 0, none⟩ := by
    rcases k4 with h1 | h1
    · obtain ⟨h2, _⟩ := k3 h1
      rw [h2] at hn; simp at hn; omega
    · exact h1
  subst hgk
  rw [ek] at m6
  rw [← hl] at m2 m3 ⊢
  rw [← ha]
  have hnb : n ≤ 10000 := by rw [hn]; exact hz.out.kl P hPm
  have hcn := hz.out.cn
  have hc1 : 1 ≤ s.count := by
    rw [hI.out.cnt, hs.out.e, List.map_append, List.sum_append, List.map_cons, List.sum_cons]
    omega
  have HWC : Hid ((s.count : Int) - 1 = ((s.count - 1 : Nat) : Int)) := Mm.hid (by omega)
  have g1 : (0 : Int) ≤ (l : Int) := by omega
  have g2 : (l : Int) < (N : Int) := by omega
  have hdl := delS_any gk n c' a (a + 1) (Lf.strs P.ks) h w1 (Mm.hid (by have h1 := (HM1.out.pg P hPm).own; rw [ek] at h1; exact h1)) (Nat.lt_succ_self _) (by omega) (Mm.hid (Lf.strs_one _))
  obtain ⟨M, hM⟩ : ∃ M, M = a + (n - (a + 1)) := ⟨_, rfl⟩
  rw [← hM, show ((a + 1 : Nat) : Int) = (a : Int) + 1 from rfl] at hdl
  have HDL := Mm.hid hdl
  have HPM := Mm.hid hPm
  have HLL := Mm.hid hl
  have HEK := Mm.hid ek
  have HE := Mm.hid hs.out.e
  have HKL : Hid (Lf.strs (A ++ B) = (Lf.strs P.ks).take a ++ (Lf.strs P.ks).drop (a + 1)) := Mm.hid (by
    have e : Lf.strs P.ks = Lf.strs A ++ .string k :: Lf.strs B := by rw [hk.out.e]; simp [Lf.strs]
    have hl : (Lf.strs A).length = a := by rw [ha]; simp
    rw [e, List.take_left' hl, ← hl, List.drop_append]
    simp [Lf.strs])
  clear hb1 k2 k3 k4 k5 hi hPm hn hN hl ek m4 m5 ha hdl hM
  go_wp2_with fail
  with_reducible refine HDL.out.mono ?_
  rintro e w6 ⟨rfl, hown6, hg6⟩
  have hp6 : w6.heap[bl P.n]? = some (.cells #[.int .i64 (P.n : Int), .string P.b, .slice (some ⟨gk, 0, none⟩) n c'] 63 (0, 0)) := by
    have h1 := (HM1.out.pg P HPM.out).cell
    have h2 := (HM1.out.pg P HPM.out).tb
    rw [HEK.out] at h1
    refine (hg6.block _ (Mm.heapLt h1) (fun e => ?_)).trans h1
    have h3 := (HM1.out.pg P HPM.out).tk (bl P.n) (by rw [HEK.out]; exact e.symm)
    rw [h2] at h3; cases h3
  obtain ⟨hM3, hE3⟩ := HM1.out.putKeys HE.out HND.out (w1 := w6) (v := .slice (some ⟨gk, 0, none⟩) M c') (ks := A ++ B) (by rw [HEK.out]; exact hg6) (by rw [HKL.out]; exact hown6) (by rw [HEK.out]; exact Or.inl rfl)
  obtain ⟨W3, hW3⟩ : ∃ W3, w6.setCell ⟨bl P.n, 2, none⟩ (.slice (some ⟨gk, 0, none⟩) M c') = W3 := ⟨_, rfl⟩
  have d6 : w6.cell? ⟨bl P.n, 2, none⟩ = some (.slice (some ⟨gk, 0, none⟩) n c') := Mm.cellOf hp6 rfl
  have f6 : w6.frozen? ⟨bl P.n, 2, none⟩ = false := by simp [World.frozen?, hp6]
  rw [hW3] at hM3 hE3
  have c3 := hM3.c3
  have f3 := hM3.fr 3
  obtain ⟨hM4, hE4⟩ := hM3.setCount (s.count - 1)
  obtain ⟨W4, hW4⟩ : ∃ W4, W3.setCell ⟨p, 3, none⟩ (.int .i64 ((s.count : Int) - 1)) = W4 := ⟨_, rfl⟩
  rw [← HWC.out, hW4] at hM4 hE4
  have HM4 : Hid (Lf.Mem h W4 _ p (Lf.remP s L P R (A ++ B)) bl _ _) := Mm.hid hM4
  have HE4 : Hid (Lf.Ev tag _ w W4) := Mm.hid (HE1.out.trans (hE3.trans hE4))
  have HBT4 : Hid (_ = none) := Mm.hid (hE3.tags _ HBL1.out HBT1.out)
  have HBX4 : Hid (W4.heap[w.heap.size]? = some (.cells #[.int .i64 0, .int .i64 0] 35 (0, 0))) := Mm.hid ((hE4.block _ (Nat.lt_of_lt_of_le HBL1.out hE3.size) HBT4.out).trans ((hE3.block _ HBL1.out HBT1.out).trans HBX1.out))
  have HBL4 : Hid (w.heap.size < W4.heap.size) := Mm.hid (Mm.heapLt HBX4.out)
  have HA4 : Hid (W4.drew.cell? ⟨bl P.n, 0, none⟩ = some (.int .i64 (P.n : Int))) := Mm.hid (Mm.cellOf (hM4.pg (Lf.withKs P (A ++ B)) (by simp)).cell rfl)
  have hjn := join_any (Mm.hid HM4.out.drew) (P := Lf.withKs P (A ++ B)) (L := L) (R := R) rfl HZ1 HN1
  rw [← HLL.out] at hjn
  rw [← HMF.out, ← HMT.out] at hjn
  have HJN := Mm.hid hjn
  have HKS : Hid (∀ w9 : World, w9.cell? ⟨bl P.n, 0, none⟩ = some (.int .i64 (P.n : Int)) → ((w9.setCell ⟨w.heap.size, 0, none⟩ (.int .i64 MF)).setCell ⟨w.heap.size, 1, none⟩ (.int .i64 MT)).cell? ⟨bl P.n, 0, none⟩ = some (.int .i64 (P.n : Int))) := Mm.hid (fun w9 h9 => by
    have h1 := (HM1.out.pg P HPM.out).tb
    have h2 : bl P.n ≠ w.heap.size := fun e => by rw [e, HBT1.out] at h1; cases h1
    rw [World.cell?_setCell_other _ _ _ _ (fun e => h2 (by injection e with e _ _; exact e.symm)), World.cell?_setCell_other _ _ _ _ (fun e => h2 (by injection e with e _ _; exact e.symm))]
    exact h9)
  clear hM3 hE3 hM4 hE4 hjn hown6 hg6 hp6 m6 c1 m3
  go_wp2_with fail
  clear hW3 hW4 c3 f3 d6 f6
  refine wp_region_held_drew (S := fun w' => w'.cell? ⟨bl P.n, 0, none⟩ = some (.int .i64 (P.n : Int))) (by kernel_rfl) (HA4.out) (fun hH => ?_)
  refine wpAnyH_take (i := 0) (oi := ?oz1q0) (v := ?vz1q0) ?hiz1q0 ?hsz1q0 ?hfz1q0 ?hrz1q0 ?hQz1q0 (Or.inl ⟨?hwz1q0, ?hyz1q0⟩) ?hSz1q0 ?restz1q0
  case hiz1q0 => (simp; rfl)
  case hsz1q0 => kernel_rfl
  case hfz1q0 => kernel_rfl
  case hrz1q0 => kernel_rfl
  case hQz1q0 => exact fun _ _ _ h => h
  case hwz1q0 => rfl
  case hyz1q0 => (intro wq hSq; (try dsimp only at hSq); go_simp; (try with_reducible rfl))
  case hSz1q0 => assumption
  simp only [Act.put, List.setIfInBounds_toArray, List.set_cons_zero, List.set_cons_succ]
  refine wpAnyH_take (i := 1) (oi := ?oz2q1) (v := ?vz2q1) ?hiz2q1 ?hsz2q1 ?hfz2q1 ?hrz2q1 ?hQz2q1 (Or.inl ⟨?hwz2q1, ?hyz2q1⟩) ?hSz2q1 ?restz2q1
  case hiz2q1 => (simp; rfl)
  case hsz2q1 => kernel_rfl
  case hfz2q1 => kernel_rfl
  case hrz2q1 => kernel_rfl
  case hQz2q1 => exact fun _ _ _ h => h
  case hwz2q1 => rfl
  case hyz2q1 => (intro wq hSq; (try dsimp only at hSq); go_simp; (try with_reducible rfl))
  case hSz2q1 => assumption
  simp only [Act.put, List.setIfInBounds_toArray, List.set_cons_zero, List.set_cons_succ]
  refine wpAnyH_take (i := 2) (oi := ?oz3q2) (v := ?vz3q2) ?hiz3q2 ?hsz3q2 ?hfz3q2 ?hrz3q2 ?hQz3q2 (Or.inl ⟨?hwz3q2, ?hyz3q2⟩) ?hSz3q2 ?restz3q2
  case hiz3q2 => (simp; rfl)
  case hsz3q2 => kernel_rfl
  case hfz3q2 => kernel_rfl
  case hrz3q2 => kernel_rfl
  case hQz3q2 => exact fun _ _ _ h => h
  case hwz3q2 => rfl
  case hyz3q2 => (intro wq hSq; (try dsimp only at hSq); go_simp; (try with_reducible rfl))
  case hSz3q2 => assumption
  simp only [Act.put, List.setIfInBounds_toArray, List.set_cons_zero, List.set_cons_succ]
  refine wpAnyH_take (i := 3) (oi := ?oz4q3) (v := ?vz4q3) ?hiz4q3 ?hsz4q3 ?hfz4q3 ?hrz4q3 ?hQz4q3 (Or.inl ⟨?hwz4q3, ?hyz4q3⟩) ?hSz4q3 ?restz4q3
  case hiz4q3 => (simp; rfl)
  case hsz4q3 => kernel_rfl
  case hfz4q3 => kernel_rfl
  case hrz4q3 => kernel_rfl
  case hQz4q3 => exact fun _ _ _ h => h
  case hwz4q3 => rfl
  case hyz4q3 => (intro wq hSq; (try dsimp only at hSq); go_simp; (try with_reducible rfl))
  case hSz4q3 => assumption
  simp only [Act.put, List.setIfInBounds_toArray, List.set_cons_zero, List.set_cons_succ]
  refine wpAnyH_take (i := 4) (oi := ?oz5q4) (v := ?vz5q4) ?hiz5q4 ?hsz5q4 ?hfz5q4 ?hrz5q4 ?hQz5q4 (Or.inl ⟨?hwz5q4, ?hyz5q4⟩) ?hSz5q4 ?restz5q4
  case hiz5q4 => (simp; rfl)
  case hsz5q4 => kernel_rfl
  case hfz5q4 => kernel_rfl
  case hrz5q4 => kernel_rfl
  case hQz5q4 => exact fun _ _ _ h => h
  case hwz5q4 => rfl
  case hyz5q4 => (intro wq hSq; (try dsimp only at hSq); go_simp; (try with_reducible rfl))
  case hSz5q4 => assumption
  simp only [Act.put, List.setIfInBounds_toArray, List.set_cons_zero, List.set_cons_succ]
  refine wpAnyH_take (i := 5) (oi := ?oz6q5) (v := ?vz6q5) ?hiz6q5 ?hsz6q5 ?hfz6q5 ?hrz6q5 ?hQz6q5 (Or.inl ⟨?hwz6q5, ?hyz6q5⟩) ?hSz6q5 ?restz6q5
  case hiz6q5 => (simp; rfl)
  case hsz6q5 => kernel_rfl
  case hfz6q5 => kernel_rfl
  case hrz6q5 => kernel_rfl
  case hQz6q5 => exact fun _ _ _ h => h
  case hwz6q5 => rfl
  case hyz6q5 => (intro wq hSq; (try dsimp only at hSq); go_simp; (try with_reducible rfl))
  case hSz6q5 => assumption
  simp only [Act.put, List.setIfInBounds_toArray, List.set_cons_zero, List.set_cons_succ]
  refine wpAnyH_ready (rs := [6]) (by kernel_rfl) (by simp) ?_
  refine AllReadyH.cons (o := ?oz7q) ?hz7q (fun K hK => ?rz7q) AllReadyH.nil
  case hz7q => (simp; rfl)
  case rz7q =>
    go_simp
    with_reducible refine HJN.out.mono ?_
    rintro e w9 ⟨rfl, tag9, rv9, hM9, hE9, hA9⟩
    have HM9 := Mm.hid hM9
    have HE9 : Hid (Lf.Ev tag tag9 w w9) := Mm.hid (HE4.out.drew.trans hE9)
    have HA9 : Hid (w9.cell? ⟨bl P.n, 0, none⟩ = some (.int .i64 (P.n : Int))) := Mm.hid hA9
    have HX9 : Hid (w9.heap[w.heap.size]? = some (.cells #[.int .i64 0, .int .i64 0] 35 (0, 0))) := Mm.hid ((hE9.block _ HBL4.out HBT4.out).trans HBX4.out)
    have HBT9 : Hid (tag9 w.heap.size = none) := Mm.hid (hE9.tags _ HBL4.out HBT4.out)
    clear hM9 hE9 hA9
    go_wp2_with fail
    refine hK.out _ _ (HA9.out) (fun hHz8q => ?_)
    clear hK K
    refine wpAnyH_take (i := 7) (oi := ?oz9q7) (v := ?vz9q7) ?hiz9q7 ?hsz9q7 ?hfz9q7 ?hrz9q7 ?hQz9q7 (Or.inl ⟨?hwz9q7, ?hyz9q7⟩) ?hSz9q7 ?restz9q7
    case hiz9q7 => (simp; rfl)
    case hsz9q7 => kernel_rfl
    case hfz9q7 => kernel_rfl
    case hrz9q7 => kernel_rfl
    case hQz9q7 => exact fun _ _ _ h => h
    case hwz9q7 => rfl
    case hyz9q7 => (intro wq hSq; (try dsimp only at hSq); go_simp; (try with_reducible rfl))
    case hSz9q7 => assumption
    simp only [Act.put, List.setIfInBounds_toArray, List.set_cons_zero, List.set_cons_succ]
    refine wpAnyH_ready (rs := [8]) (by kernel_rfl) (by simp) ?_
    refine AllReadyH.cons (o := ?oz10q) ?hz10q (fun K hK => ?rz10q) AllReadyH.nil
    case hz10q => (simp; rfl)
    case rz10q =>
      have hq0 : w9.cell? ⟨w.heap.size, 0, none⟩ = some (.int .i64 0) := Mm.cellOf HX9.out rfl
      have hq1 : w9.cell? ⟨w.heap.size, 1, none⟩ = some (.int .i64 0) := Mm.cellOf HX9.out rfl
      have hq2 : w9.frozen? ⟨w.heap.size, 0, none⟩ = false := by simp [World.frozen?, HX9.out]
      have hq3 : w9.frozen? ⟨w.heap.size, 1, none⟩ = false := by simp [World.frozen?, HX9.out]
      go_simp
      clear hq0 hq1 hq2 hq3
      refine hK.out _ _ (HKS.out w9 HA9.out) (fun hHz11q => ?_)
      clear hK K
      refine wpAnyH_take (i := 9) (oi := ?oz12q9) (v := ?vz12q9) ?hiz12q9 ?hsz12q9 ?hfz12q9 ?hrz12q9 ?hQz12q9 (Or.inl ⟨?hwz12q9, ?hyz12q9⟩) ?hSz12q9 ?restz12q9
      case hiz12q9 => (simp; rfl)
      case hsz12q9 => kernel_rfl
      case hfz12q9 => kernel_rfl
      case hrz12q9 => kernel_rfl
      case hQz12q9 => exact fun _ _ _ h => h
      case hwz12q9 => rfl
      case hyz12q9 => (intro wq hSq; (try dsimp only at hSq); go_simp; (try with_reducible rfl))
      case hSz12q9 => assumption
      simp only [Act.put, List.setIfInBounds_toArray, List.set_cons_zero, List.set_cons_succ]
      refine wpAnyH_done (by kernel_rfl) ?_ _
      have hbE := Lf.box2n (x' := .int .i64 MF) (y' := .int .i64 MT) HX9.out
      have HMR := Mm.hid ((HM9.out.set HBT9.out 0 (.int .i64 MF)).set HBT9.out 1 (.int .i64 MT))
      have HER := Mm.hid ((HE9.out.set (Nat.le_refl _) 0 (.int .i64 MF)).set (Nat.le_refl _) 1 (.int .i64 MT))
      obtain ⟨WE, hWE⟩ : ∃ WE, (w9.setCell ⟨w.heap.size, 0, none⟩ (.int .i64 MF)).setCell ⟨w.heap.size, 1, none⟩ (.int .i64 MT) = WE := ⟨_, rfl⟩
      rw [hWE] at hbE HMR HER ⊢
      have ea : WE.cell? ⟨w.heap.size, 0, none⟩ = some (.int .i64 MF) := Mm.cellOf hbE rfl
      have eb : WE.cell? ⟨w.heap.size, 1, none⟩ = some (.int .i64 MT) := Mm.cellOf hbE rfl
      go_wp2_with fail
      exact bodyPost_ret (v := .tuple #[.int .i64 (P.n : Int), .agg #[.int .i64 MF, .int .i64 MT], .int .i64 0]) (by simp [results, Try.results10, go_sem, ea, eb]) rfl ⟨by rw [HMF.out, HMT.out], _, _, _, _, HMR.out, HER.out⟩

end Go.Proofs.Ytjnaafgiokdcbaa
