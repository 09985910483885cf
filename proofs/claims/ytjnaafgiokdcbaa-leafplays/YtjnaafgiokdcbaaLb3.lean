/- part. -/
import Derived.Test.YtjnaafgiokdcbaaLb2
namespace Go.Proofs.Ytjnaafgiokdcbaa
open Go.RowKit

set_option maxRecDepth 100000 in
set_option maxHeartbeats 4000000 in
theorem part_any {h : Nat} {w : World} {tag : Nat → Option Lf.Tg} {p : Nat} {s : Lf.S} {bl : Nat → Nat} {kv : Nat → Value} {rv : Value} (H : Hid (Lf.Mem h w tag p s bl kv rv)) (hh : h ≤ w.heap.size) {L R : List Lf.Pg} {P : Lf.Pg} (he : s.pgs = L ++ P :: R) (hz : Hid (Lf.Sm s)) (hnd : Hid (s.pgs.Pairwise (fun P Q => P.n ≠ Q.n))) (hnr : Hid (∀ Q ∈ s.pgs, Q.n ≤ s.last)) (hf : 2 ≤ s.fan) :
    Calls Try.prog 28 #[.pointer (some ⟨p, 0, none⟩), .int .i64 (L.length : Int)] w fun e w' => e = .returned (.agg #[.int .i64 ((Lf.partM s P).1 : Int), .int .i64 ((Lf.partM s P).2 : Int)]) ∧ ∃ tag' bl' kv' rv', Lf.Mem h w' tag' p (Lf.partS s L P R) bl' kv' rv' ∧ Lf.Ev tag tag' w w' := by
  have hi : s.pgs[L.length]? = some P := by rw [he]; simp
  have hPm : P ∈ s.pgs := by rw [he]; simp
  have HB1 : Hid (Below w.heap.size w (w.alloc (.cells #[.int .i64 0, .int .i64 0] 35))) := Mm.hid ((Below.refl _ w).alloc (Nat.le_refl _) _)
  have HM1 := Mm.hid (H.out.below HB1.out)
  obtain ⟨g, c, rfl, m1, m2, m3, m4, m5, m6⟩ := HM1.out.at hi
  have c0 := HM1.out.c0
  have c1 := HM1.out.c1
  have c2 := HM1.out.c2
  have f2 := HM1.out.fr 2
  obtain ⟨q, c', ek, k1, k2, k3, k4, k5⟩ := HM1.out.ks hPm
  obtain ⟨n, hn⟩ : ∃ n, n = P.ks.length := ⟨_, rfl⟩
  obtain ⟨N, hN⟩ : ∃ N, N = s.pgs.length := ⟨_, rfl⟩
  obtain ⟨l, hl⟩ : ∃ l, l = L.length := ⟨_, rfl⟩
  rw [← hn] at k1 ek
  rw [← hN] at c1 m1 m2 H HM1
  rw [ek] at m6
  rw [← hl] at m2 m3 ⊢
  have hnb : n ≤ 10000 := by rw [hn]; exact hz.out.kl P hPm
  have hla := hz.out.la
  have g1 : (0 : Int) ≤ (l : Int) := by omega
  have g2 : (l : Int) < (N : Int) := by omega
  have HLL := Mm.hid hl
  have HN := Mm.hid hN
  have HNK := Mm.hid hn
  by_cases hgt : n ≤ s.fan
  · have g3 : (n : Int) ≤ (s.fan : Int) := by omega
    have e1 : Lf.partS s L P R = s := if_pos (by rw [← hn]; exact hgt)
    have e2 : Lf.partM s P = (0, 0) := if_pos (by rw [← hn]; exact hgt)
    rw [e1, e2]
    have e0 : (w.alloc (.cells #[.int .i64 0, .int .i64 0] 35)).cell? ⟨w.heap.size, 0, none⟩ = some (.int .i64 0) := Mm.cellOf (Mm.newAt w _ rfl) rfl
    have e3 : (w.alloc (.cells #[.int .i64 0, .int .i64 0] 35)).cell? ⟨w.heap.size, 1, none⟩ = some (.int .i64 0) := Mm.cellOf (Mm.newAt w _ rfl) rfl
    clear k2 k3 k4 k5 hi hl ek he hn m4 m5 hPm e1 e2 hgt hN
    go_enter Try.func28, Try.ntmps28
    go_wp2_with fail
    exact bodyPost_ret (v := .agg #[.int .i64 0, .int .i64 0]) (by simp [results, Try.results28, go_sem, e0, e3]) rfl ⟨rfl, _, _, _, _, HM1.out, Lf.Ev.below HB1.out⟩
  · have g3 : ¬ ((n : Int) ≤ (s.fan : Int)) := by omega
    have e1 : Lf.partS s L P R = { s with last := s.last + 1, pgs := L ++ Lf.lower P :: Lf.upper s P :: R } := if_neg (by rw [← hn]; exact hgt)
    have e2 : Lf.partM s P = (P.n, s.last + 1) := if_neg (by rw [← hn]; exact hgt)
    rw [e1, e2]
    have hn3 : 3 ≤ n := by omega
    obtain ⟨gk, hgk⟩ : ∃ gk, q = some ⟨gk, 0, none⟩ := by
      rcases k4 with h1 | h1
      · obtain ⟨h2, _⟩ := k3 h1
        rw [h2] at hn; simp at hn; omega
      · exact h1
    subst hgk
    have hhn : (n + 1) / 2 < n := by omega
    obtain ⟨k0, hk0⟩ : ∃ k0, P.ks[(n + 1) / 2]? = some k0 := ⟨P.ks[(n + 1) / 2]'(by rw [← hn]; exact hhn), List.getElem?_eq_getElem _⟩
    have hk0c : (w.alloc (.cells #[.int .i64 0, .int .i64 0] 35)).cell? ⟨gk, (n + 1) / 2, none⟩ = some (.string k0) := by
      obtain ⟨g', e, h1⟩ := k5 _ _ hk0
      injection e with e; injection e with e; subst e
      exact h1
    obtain ⟨W2, hW2⟩ : ∃ W2, (w.alloc (.cells #[.int .i64 0, .int .i64 0] 35)).setCell ⟨p, 2, none⟩ (.int .i64 ((s.last : Int) + 1)) = W2 := ⟨_, rfl⟩
    have hst := HM1.out.setLast (s.last + 1)
    rw [show ((s.last + 1 : Nat) : Int) = (s.last : Int) + 1 by omega, hW2] at hst
    have HM2 : Hid (Lf.Mem h W2 tag p { s with last := s.last + 1 } bl kv (.slice (some ⟨g, 0, none⟩) N c)) := Mm.hid hst.1
    have HE2 : Hid (Lf.Ev tag tag w W2) := Mm.hid ((Lf.Ev.below HB1.out).trans hst.2)
    have HBX : Hid (W2.heap[w.heap.size]? = some (.cells #[.int .i64 0, .int .i64 0] 35 (0, 0)) ∧ w.heap.size < W2.heap.size) := Mm.hid (by
      have hp := H.out.lt
      rw [← hW2]
      exact ⟨(heap_setCell_other _ _ w.heap.size _ (fun e => by have e' : w.heap.size = p := e; omega)).trans (Mm.newAt w _ rfl), by simp⟩)
    have HBT : Hid (tag w.heap.size = none) := Mm.hid (H.out.top _ (Nat.le_refl _))
    have HC1 : Hid (W2.cell? ⟨p, 1, none⟩ = some (.slice (some ⟨g, 0, none⟩) N c)) := Mm.hid HM2.out.c1
    have hk02 : W2.cell? ⟨gk, (n + 1) / 2, none⟩ = some (.string k0) := by
      obtain ⟨q, c9, e9, _, _, _, _, k9⟩ := HM2.out.ks (P := P) hPm
      rw [ek] at e9
      injection e9 with e9 _ _
      obtain ⟨g', e, h1⟩ := k9 _ _ hk0
      rw [← e9] at e
      injection e with e; injection e with e; subst e
      exact h1
    have HSC : Hid (∀ w', Below W2.heap.size W2 w' → w'.cell? ⟨p, 2, none⟩ = some (.int .i64 ((s.last : Int) + 1)) ∧ w'.cell? ⟨gk, (n + 1) / 2, none⟩ = some (.string k0)) := Mm.hid (fun w' hb => ⟨(Mm.belAt hb _ HM2.out.lt).trans (by rw [HM2.out.c2]; rfl), (Mm.belAt hb _ (World.block_lt_of_cell? W2 _ hk02)).trans hk02⟩)
    have hgg : gk ≠ g := fun e => by
      have h1 := (HM2.out.pg P hPm).tk gk (by rw [ek]; rfl)
      have h2 := HM2.out.tr g rfl
      rw [e, h2] at h1; cases h1
    have hpg : p ≠ g := fun e => by
      have h1 := HM2.out.tr g rfl
      rw [← e, HM2.out.tp] at h1; cases h1
    have hpk : gk ≠ p := fun e => by
      have h1 := (HM2.out.pg P hPm).tk gk (by rw [ek]; rfl)
      rw [e, HM2.out.tp] at h1; cases h1
    have HPG := Mm.hid hpg
    have HK6 : Hid (∀ w6 : World, (∀ b, b < W2.heap.size → b ≠ g → w6.heap[b]? = W2.heap[b]?) → w6.cell? ⟨p, 2, none⟩ = some (.int .i64 ((s.last : Int) + 1)) ∧ w6.cell? ⟨gk, (n + 1) / 2, none⟩ = some (.string k0)) := Mm.hid (fun w6 h6 => ⟨(World.cell?_of_block (a := ⟨p, 2, none⟩) (h6 p HM2.out.lt hpg)).trans (by rw [HM2.out.c2]; rfl), (World.cell?_of_block (a := ⟨gk, (n + 1) / 2, none⟩) (h6 gk (World.block_lt_of_cell? W2 _ hk02) hgg)).trans hk02⟩)
    have HK7 : Hid (∀ (w6 : World) (v6 : Value), (∀ b, b < W2.heap.size → b ≠ g → w6.heap[b]? = W2.heap[b]?) → (w6.setCell ⟨p, 1, none⟩ v6).cell? ⟨p, 2, none⟩ = some (.int .i64 ((s.last : Int) + 1)) ∧ (w6.setCell ⟨p, 1, none⟩ v6).cell? ⟨gk, (n + 1) / 2, none⟩ = some (.string k0)) := Mm.hid (fun w6 v6 h6 => by
      obtain ⟨a1, a2⟩ := HK6.out w6 h6
      refine ⟨?_, ?_⟩
      · rw [World.cell?_setCell_other _ _ _ _ (by simp)]; exact a1
      · rw [World.cell?_setCell_other _ _ _ _ (by intro e; injection e with e _ _; exact hpk e.symm)]; exact a2)
    have hcn : ¬ (c' = (n + 1) / 2) := by omega
    have HCL : Hid (Calls Try.prog 33 #[.slice (some ⟨gk, (n + 1) / 2, none⟩) (n - (n + 1) / 2) (c' - (n + 1) / 2)] W2.drew fun e w' => ∃ v, e = .returned v ∧ Mm.Own w' W2.drew.heap.size 9 v (Lf.strs (Lf.upper s P).ks) ∧ Below W2.drew.heap.size W2.drew w') := Mm.hid (cloneS_any _ _ _ (Lf.upper s P).ks W2.drew (Mm.hid (by show (P.ks.drop (Lf.half P.ks)).length = _; rw [List.length_drop, ← hn]; unfold Lf.half; rw [← hn])) (by omega) (fun e => nomatch e) (Mm.hid (fun j k' hj => by
      refine ⟨_, rfl, ?_⟩
      have hj' : P.ks[(n + 1) / 2 + j]? = some k' := by
        have h1 : (P.ks.drop (Lf.half P.ks))[j]? = some k' := hj
        rw [List.getElem?_drop] at h1
        unfold Lf.half at h1; rw [← hn] at h1; exact h1
      obtain ⟨q, c9, e9, _, _, _, _, k9⟩ := HM2.out.ks (P := P) hPm
      rw [ek] at e9
      injection e9 with e9 _ _
      obtain ⟨g', e, h1⟩ := k9 _ _ hj'
      rw [← e9] at e
      injection e with e; injection e with e; subst e
      rw [Mm.addPlain]
      exact h1)))
    have HE := Mm.hid he
    have HNW : Hid (∀ Q ∈ s.pgs, Q.n ≠ (Lf.upper s P).n) := Mm.hid (fun Q hQ e => by have h1 := hnr.out Q hQ; have h2 : Q.n = s.last + 1 := e; omega)
    have HH : Hid (h ≤ W2.heap.size) := Mm.hid (Nat.le_trans hh HE2.out.size)
    have HEK : Hid (kv P.n = .slice (some ⟨gk, 0, none⟩) n c') := Mm.hid ek
    have hlN : l + 1 ≤ N := by omega
    have HND : Hid ((n : Int) - ((n - (n + 1) / 2 : Nat) : Int) = (((n + 1) / 2 : Nat) : Int)) := Mm.hid (by omega)
    have HLK : Hid (Lf.strs (Lf.lower P).ks = (Lf.strs P.ks).take ((n + 1) / 2) ++ (Lf.strs P.ks).drop n) := Mm.hid (by
      rw [List.drop_of_length_le (by rw [Lf.strs_len, hn]; exact Nat.le_refl _), List.append_nil]
      show Lf.strs (P.ks.take (Lf.half P.ks)) = _
      unfold Lf.half Lf.strs
      rw [← hn, List.map_take])
    have HND7 : Hid ((L ++ P :: Lf.upper s P :: R).Pairwise (fun P Q => P.n ≠ Q.n)) := Mm.hid (by
      have h1 := hnd.out
      have h2 : ∀ Q ∈ s.pgs, Q.n ≠ s.last + 1 := fun Q hQ => by have := hnr.out Q hQ; omega
      rw [he] at h1 h2
      obtain ⟨p1, p2, p3⟩ := List.pairwise_append.1 h1
      obtain ⟨p4, p5⟩ := List.pairwise_cons.1 p2
      refine List.pairwise_append.2 ⟨p1, List.pairwise_cons.2 ⟨fun Q hQ => ?_, List.pairwise_cons.2 ⟨fun Q hQ => ?_, p5⟩⟩, fun Q hQ X hX => ?_⟩
      · rcases List.mem_cons.1 hQ with e | hQ
        · rw [e]; exact h2 P (by simp)
        · exact p4 Q hQ
      · exact fun e => h2 Q (by simp [hQ]) e.symm
      · rcases List.mem_cons.1 hX with e | hX
        · rw [e]; exact p3 Q hQ P (by simp)
        · rcases List.mem_cons.1 hX with e | hX
          · rw [e]; exact h2 Q (by simp [hQ])
          · exact p3 Q hQ X (by simp [hX]))
    have hNb : N ≤ 10000 := by rw [hN]; exact hz.out.pl
    have HWR : Hid (IntKind.i64.wrap ((l : Int) + 1) = ((l + 1 : Nat) : Int)) := Mm.hid (by rw [IntKind.wrap_i64]; omega)
    have hpos : 0 < n - (n + 1) / 2 := by omega
    have HKU : Hid (Lf.upper s P = ⟨s.last + 1, k0, P.ks.drop ((n + 1) / 2)⟩) := Mm.hid (by
      have h1 : Lf.half P.ks = (n + 1) / 2 := by unfold Lf.half; rw [← hn]
      unfold Lf.upper
      rw [h1, List.getD_eq_getElem?_getD, hk0]; rfl)
    clear k2 k3 k4 k5 hi hl ek he hn m4 m5 hPm e1 e2 hgt hN hk0 hst hgg hpg hpk hk02 hk0c
    go_enter Try.func28, Try.ntmps28
    go_wp2_with fail
    clear hW2 c0 c1 c2 f2 m6 m3
    refine wp_region_held_drew (S := fun w' => w'.cell? ⟨p, 2, none⟩ = some (.int .i64 ((s.last : Int) + 1)) ∧ w'.cell? ⟨gk, (n + 1) / 2, none⟩ = some (.string k0)) (by kernel_rfl) (HSC.out _ (Below.refl _ W2).drew) (fun hH => ?_)
    refine wpAnyH_take (i := 0) (oi := ?oz1q0) (v := ?vz1q0) ?hiz1q0 ?hsz1q0 ?hfz1q0 ?hrz1q0 ?hQz1q0 (Or.inl ⟨?hwz1q0, ?hyz1q0⟩) ?hSz1q0 ?restz1q0
    case hiz1q0 => (simp; rfl)
    case hsz1q0 => kernel_rfl
    case hfz1q0 => kernel_rfl
    case hrz1q0 => kernel_rfl
    case hQz1q0 => exact fun _ _ _ h => h
    case hwz1q0 => rfl
    case hyz1q0 => (intro wq hSq; (try dsimp only at hSq); go_simp; (try with_reducible rfl))
    case hSz1q0 => assumption
    simp only [Act.put, List.setIfInBounds_toArray, List.set_cons_zero, List.set_cons_succ]
    refine wpAnyH_take (i := 1) (oi := ?oz2q1) (v := ?vz2q1) ?hiz2q1 ?hsz2q1 ?hfz2q1 ?hrz2q1 ?hQz2q1 (Or.inl ⟨?hwz2q1, ?hyz2q1⟩) ?hSz2q1 ?restz2q1
    case hiz2q1 => (simp; rfl)
    case hsz2q1 => kernel_rfl
    case hfz2q1 => kernel_rfl
    case hrz2q1 => kernel_rfl
    case hQz2q1 => exact fun _ _ _ h => h
    case hwz2q1 => rfl
    case hyz2q1 => (intro wq hSq; (try dsimp only at hSq); go_simp; (try with_reducible rfl))
    case hSz2q1 => assumption
    simp only [Act.put, List.setIfInBounds_toArray, List.set_cons_zero, List.set_cons_succ]
    refine wpAnyH_take (i := 2) (oi := ?oz3q2) (v := ?vz3q2) ?hiz3q2 ?hsz3q2 ?hfz3q2 ?hrz3q2 ?hQz3q2 (Or.inl ⟨?hwz3q2, ?hyz3q2⟩) ?hSz3q2 ?restz3q2
    case hiz3q2 => (simp; rfl)
    case hsz3q2 => kernel_rfl
    case hfz3q2 => kernel_rfl
    case hrz3q2 => kernel_rfl
    case hQz3q2 => exact fun _ _ _ h => h
    case hwz3q2 => rfl
    case hyz3q2 => (intro wq hSq; (try dsimp only at hSq); go_simp; (try with_reducible rfl))
    case hSz3q2 => assumption
    simp only [Act.put, List.setIfInBounds_toArray, List.set_cons_zero, List.set_cons_succ]
    refine wpAnyH_take (i := 3) (oi := ?oz4q3) (v := ?vz4q3) ?hiz4q3 ?hsz4q3 ?hfz4q3 ?hrz4q3 ?hQz4q3 (Or.inl ⟨?hwz4q3, ?hyz4q3⟩) ?hSz4q3 ?restz4q3
    case hiz4q3 => (simp; rfl)
    case hsz4q3 => kernel_rfl
    case hfz4q3 => kernel_rfl
    case hrz4q3 => kernel_rfl
    case hQz4q3 => exact fun _ _ _ h => h
    case hwz4q3 => rfl
    case hyz4q3 => (intro wq hSq; (try dsimp only at hSq); go_simp; (try with_reducible rfl))
    case hSz4q3 => assumption
    simp only [Act.put, List.setIfInBounds_toArray, List.set_cons_zero, List.set_cons_succ]
    refine wpAnyH_take (i := 5) (oi := ?oz5q5) (v := ?vz5q5) ?hiz5q5 ?hsz5q5 ?hfz5q5 ?hrz5q5 ?hQz5q5 (Or.inl ⟨?hwz5q5, ?hyz5q5⟩) ?hSz5q5 ?restz5q5
    case hiz5q5 => (simp; rfl)
    case hsz5q5 => kernel_rfl
    case hfz5q5 => kernel_rfl
    case hrz5q5 => kernel_rfl
    case hQz5q5 => exact fun _ _ _ h => h
    case hwz5q5 => rfl
    case hyz5q5 => (intro wq hSq; (try dsimp only at hSq); go_simp; (try with_reducible rfl))
    case hSz5q5 => assumption
    simp only [Act.put, List.setIfInBounds_toArray, List.set_cons_zero, List.set_cons_succ]
    refine wpAnyH_take (i := 6) (oi := ?oz6q6) (v := ?vz6q6) ?hiz6q6 ?hsz6q6 ?hfz6q6 ?hrz6q6 ?hQz6q6 (Or.inl ⟨?hwz6q6, ?hyz6q6⟩) ?hSz6q6 ?restz6q6
    case hiz6q6 => (simp; rfl)
    case hsz6q6 => kernel_rfl
    case hfz6q6 => kernel_rfl
    case hrz6q6 => kernel_rfl
    case hQz6q6 => exact fun _ _ _ h => h
    case hwz6q6 => rfl
    case hyz6q6 => (intro wq hSq; (try dsimp only at hSq); go_simp; (try with_reducible rfl))
    case hSz6q6 => assumption
    simp only [Act.put, List.setIfInBounds_toArray, List.set_cons_zero, List.set_cons_succ]
    refine wpAnyH_take (i := 7) (oi := ?oz7q7) (v := ?vz7q7) ?hiz7q7 ?hsz7q7 ?hfz7q7 ?hrz7q7 ?hQz7q7 (Or.inl ⟨?hwz7q7, ?hyz7q7⟩) ?hSz7q7 ?restz7q7
    case hiz7q7 => (simp; rfl)
    case hsz7q7 => kernel_rfl
    case hfz7q7 => kernel_rfl
    case hrz7q7 => kernel_rfl
    case hQz7q7 => exact fun _ _ _ h => h
    case hwz7q7 => rfl
    case hyz7q7 => (intro wq hSq; (try dsimp only at hSq); go_simp; (try with_reducible rfl))
    case hSz7q7 => assumption
    simp only [Act.put, List.setIfInBounds_toArray, List.set_cons_zero, List.set_cons_succ]
    refine wpAnyH_take (i := 8) (oi := ?oz8q8) (v := ?vz8q8) ?hiz8q8 ?hsz8q8 ?hfz8q8 ?hrz8q8 ?hQz8q8 (Or.inl ⟨?hwz8q8, ?hyz8q8⟩) ?hSz8q8 ?restz8q8
    case hiz8q8 => (simp; rfl)
    case hsz8q8 => kernel_rfl
    case hfz8q8 => kernel_rfl
    case hrz8q8 => kernel_rfl
    case hQz8q8 => exact fun _ _ _ h => h
    case hwz8q8 => rfl
    case hyz8q8 => (intro wq hSq; (try dsimp only at hSq); go_simp; (try with_reducible rfl))
    case hSz8q8 => assumption
    simp only [Act.put, List.setIfInBounds_toArray, List.set_cons_zero, List.set_cons_succ]
    refine wpAnyH_take (i := 9) (oi := ?oz9q9) (v := ?vz9q9) ?hiz9q9 ?hsz9q9 ?hfz9q9 ?hrz9q9 ?hQz9q9 (Or.inl ⟨?hwz9q9, ?hyz9q9⟩) ?hSz9q9 ?restz9q9
    case hiz9q9 => (simp; rfl)
    case hsz9q9 => kernel_rfl
    case hfz9q9 => kernel_rfl
    case hrz9q9 => kernel_rfl
    case hQz9q9 => exact fun _ _ _ h => h
    case hwz9q9 => rfl
    case hyz9q9 => (intro wq hSq; (try dsimp only at hSq); go_simp; (try with_reducible rfl))
    case hSz9q9 => assumption
    simp only [Act.put, List.setIfInBounds_toArray, List.set_cons_zero, List.set_cons_succ]
    refine wpAnyH_take (i := 10) (oi := ?oz10q10) (v := ?vz10q10) ?hiz10q10 ?hsz10q10 ?hfz10q10 ?hrz10q10 ?hQz10q10 (Or.inl ⟨?hwz10q10, ?hyz10q10⟩) ?hSz10q10 ?restz10q10
    case hiz10q10 => (simp; rfl)
    case hsz10q10 => kernel_rfl
    case hfz10q10 => kernel_rfl
    case hrz10q10 => kernel_rfl
    case hQz10q10 => exact fun _ _ _ h => h
    case hwz10q10 => rfl
    case hyz10q10 => (intro wq hSq; (try dsimp only at hSq); go_simp; (try with_reducible rfl))
    case hSz10q10 => assumption
    simp only [Act.put, List.setIfInBounds_toArray, List.set_cons_zero, List.set_cons_succ]
    refine wpAnyH_take (i := 11) (oi := ?oz11q11) (v := ?vz11q11) ?hiz11q11 ?hsz11q11 ?hfz11q11 ?hrz11q11 ?hQz11q11 (Or.inl ⟨?hwz11q11, ?hyz11q11⟩) ?hSz11q11 ?restz11q11
    case hiz11q11 => (simp; rfl)
    case hsz11q11 => kernel_rfl
    case hfz11q11 => kernel_rfl
    case hrz11q11 => kernel_rfl
    case hQz11q11 => exact fun _ _ _ h => h
    case hwz11q11 => rfl
    case hyz11q11 => (intro wq hSq; (try dsimp only at hSq); go_simp; (try with_reducible rfl))
    case hSz11q11 => assumption
    simp only [Act.put, List.setIfInBounds_toArray, List.set_cons_zero, List.set_cons_succ]
    refine wpAnyH_take (i := 12) (oi := ?oz12q12) (v := ?vz12q12) ?hiz12q12 ?hsz12q12 ?hfz12q12 ?hrz12q12 ?hQz12q12 (Or.inl ⟨?hwz12q12, ?hyz12q12⟩) ?hSz12q12 ?restz12q12
    case hiz12q12 => (simp; rfl)
    case hsz12q12 => kernel_rfl
    case hfz12q12 => kernel_rfl
    case hrz12q12 => kernel_rfl
    case hQz12q12 => exact fun _ _ _ h => h
    case hwz12q12 => rfl
    case hyz12q12 => (intro wq hSq; (try dsimp only at hSq); go_simp; (try with_reducible rfl))
    case hSz12q12 => assumption
    simp only [Act.put, List.setIfInBounds_toArray, List.set_cons_zero, List.set_cons_succ]
    refine wpAnyH_take (i := 13) (oi := ?oz13q13) (v := ?vz13q13) ?hiz13q13 ?hsz13q13 ?hfz13q13 ?hrz13q13 ?hQz13q13 (Or.inl ⟨?hwz13q13, ?hyz13q13⟩) ?hSz13q13 ?restz13q13
    case hiz13q13 => (simp; rfl)
    case hsz13q13 => kernel_rfl
    case hfz13q13 => kernel_rfl
    case hrz13q13 => kernel_rfl
    case hQz13q13 => exact fun _ _ _ h => h
    case hwz13q13 => rfl
    case hyz13q13 => (intro wq hSq; (try dsimp only at hSq); go_simp; (try with_reducible rfl))
    case hSz13q13 => assumption
    simp only [Act.put, List.setIfInBounds_toArray, List.set_cons_zero, List.set_cons_succ]
    refine wpAnyH_take (i := 14) (oi := ?oz14q14) (v := ?vz14q14) ?hiz14q14 ?hsz14q14 ?hfz14q14 ?hrz14q14 ?hQz14q14 (Or.inl ⟨?hwz14q14, ?hyz14q14⟩) ?hSz14q14 ?restz14q14
    case hiz14q14 => (simp; rfl)
    case hsz14q14 => kernel_rfl
    case hfz14q14 => kernel_rfl
    case hrz14q14 => kernel_rfl
    case hQz14q14 => exact fun _ _ _ h => h
    case hwz14q14 => rfl
    case hyz14q14 => (intro wq hSq; (try dsimp only at hSq); go_simp; (try with_reducible rfl))
    case hSz14q14 => assumption
    simp only [Act.put, List.setIfInBounds_toArray, List.set_cons_zero, List.set_cons_succ]
    refine wpAnyH_ready (rs := [4, 15]) (by kernel_rfl) (by simp) ?_
    refine AllReadyH.cons (o := ?oz15q) ?hz15q (fun K hK => ?rz15q) (AllReadyH.cons (o := ?oz16q) ?hz16q (fun K hK => ?rz16q) AllReadyH.nil)
    case hz15q => (simp; rfl)
    case hz16q => (simp; rfl)
    case rz15q =>
      have hc5 : Hid (W2.drew.cell? ⟨p, 1, none⟩ = some (.slice (some ⟨g, 0, none⟩) N c)) := Mm.hid ((Mm.belAt (Below.refl _ W2).drew _ HM2.out.lt).trans HC1.out)
      have hc6 := hc5.out
      go_simp
      clear hc5 hc6
      refine hK.out _ _ (HSC.out _ (Below.refl _ W2).drew) (fun hHz17q => ?_)
      clear hK K
      refine wpAnyH_ready (rs := [15]) (by kernel_rfl) (by simp) ?_
      refine AllReadyH.cons (o := ?oz18q) ?hz18q (fun K hK => ?rz18q) AllReadyH.nil
      case hz18q => (simp; rfl)
      case rz18q =>
        go_simp
        refine HCL.out.mono ?_
        rintro e w3 ⟨v2, rfl, hown2, hb2⟩
        have HB3 : Hid (Below W2.heap.size W2 w3) := Mm.hid ((Below.refl _ W2).drew.trans hb2)
        obtain ⟨q2, cq2, ev2, _⟩ := hown2.shape
        obtain ⟨L2, hL2⟩ : ∃ L2, L2 = (Lf.strs (Lf.upper s P).ks).length := ⟨_, rfl⟩
        rw [← hL2] at ev2
        subst ev2
        have HO2 : Hid (Mm.Own w3 W2.heap.size 9 (.slice q2 L2 cq2) (Lf.strs (Lf.upper s P).ks)) := Mm.hid hown2
        clear hown2 hb2 hL2
        go_wp2_with fail
        refine hK.out _ _ (HSC.out _ HB3.out) (fun hHz19q => ?_)
        clear hK K
        refine wpAnyH_take (i := 16) (oi := ?oz20q16) (v := ?vz20q16) ?hiz20q16 ?hsz20q16 ?hfz20q16 ?hrz20q16 ?hQz20q16 (Or.inl ⟨?hwz20q16, ?hyz20q16⟩) ?hSz20q16 ?restz20q16
        case hiz20q16 => (simp; rfl)
        case hsz20q16 => kernel_rfl
        case hfz20q16 => kernel_rfl
        case hrz20q16 => kernel_rfl
        case hQz20q16 => exact fun _ _ _ h => h
        case hwz20q16 => rfl
        case hyz20q16 => (intro wq hSq; (try dsimp only at hSq); go_simp; (try with_reducible rfl))
        case hSz20q16 => assumption
        simp only [Act.put, List.setIfInBounds_toArray, List.set_cons_zero, List.set_cons_succ]
        refine wpAnyH_ready (rs := [17]) (by kernel_rfl) (by simp) ?_
        refine AllReadyH.cons (o := ?oz21q) ?hz21q (fun K hK => ?rz21q) AllReadyH.nil
        case hz21q => (simp; rfl)
        case rz21q =>
          go_simp
          refine hK.out _ _ (HSC.out _ (HB3.out.alloc HB3.out.size _)) (fun hHz22q => ?_)
          clear hK K
          refine wpAnyH_ready (rs := [18]) (by kernel_rfl) (by simp) ?_
          refine AllReadyH.cons (o := ?oz23q) ?hz23q (fun K hK => ?rz23q) AllReadyH.nil
          case hz23q => (simp; rfl)
          case rz23q =>
            go_simp
            refine hK.out _ _ (HSC.out _ ((HB3.out.alloc HB3.out.size _).alloc (Nat.le_trans HB3.out.size (by simp)) _)) (fun hHz24q => ?_)
            clear hK K
            refine wpAnyH_ready (rs := [19]) (by kernel_rfl) (by simp) ?_
            refine AllReadyH.cons (o := ?oz25q) ?hz25q (fun K hK => ?rz25q) AllReadyH.nil
            case hz25q => (simp; rfl)
            case rz25q =>
              go_simp
              have hin := insP_any (some ⟨g, 0, none⟩) N c (l + 1) (Lf.ptrs bl s.pgs) (.pointer (some ⟨w3.heap.size, 0, none⟩)) (w3.heap.size + 1) h ((w3.alloc (.cells #[.int .i64 ((s.last : Int) + 1), .string k0, .slice q2 L2 cq2] 63)).alloc (.cells #[.pointer (some ⟨w3.heap.size, 0, none⟩)] 61)) (Mm.hid (HM2.out.row.below ((HB3.out.alloc HB3.out.size _).alloc (Nat.le_trans HB3.out.size (by simp)) _))) (Mm.hid (by rw [Lf.ptrs_len]; exact HN.out.symm)) hlN rfl (Mm.hid (Lf.ptrs_one _ _)) (Mm.hid (Mm.newAt _ _ (by simp))) (Mm.hid (fun g' hg' => by injection hg' with hg'; injection hg' with hg'; have h1 := (HM2.out.row.lt (g := g) rfl).1; have h2 := HB3.out.size; omega)) (by omega) (Nat.le_trans HH.out (Nat.le_trans HB3.out.size (by simp; omega)))
              rw [← HWR.out] at hin
              have HIN := Mm.hid hin
              clear hin
              with_reducible refine HIN.out.mono ?_
              rintro e w6 ⟨v6, rfl, hown6, hg6, hl6⟩
              obtain ⟨q6, cq6, ev6, _⟩ := hown6.shape
              obtain ⟨L6, hL6⟩ : ∃ L6, L6 = ((Lf.ptrs bl s.pgs).take (l + 1) ++ .pointer (some ⟨w3.heap.size, 0, none⟩) :: (Lf.ptrs bl s.pgs).drop (l + 1)).length := ⟨_, rfl⟩
              rw [← hL6] at ev6
              subst ev6
              clear hL6
              have HO6 := Mm.hid hown6
              have HG6 : Hid (((w3.alloc (Lf.pageObj (Lf.upper s P) (.slice q2 L2 cq2))).alloc (Lf.ptrObj w3.heap.size)).grownBy w6 (Value.slice (some ⟨g, 0, none⟩) N c).ownBlock) := Mm.hid (by rw [show Lf.pageObj (Lf.upper s P) (.slice q2 L2 cq2) = .cells #[.int .i64 ((s.last : Int) + 1), .string k0, .slice q2 L2 cq2] 63 from by rw [HKU.out]; rfl]; exact hg6)
              have HL6 : Hid ((Value.slice q6 L6 cq6).ownBlock = (Value.slice (some ⟨g, 0, none⟩) N c).ownBlock ∨ ∀ g', (Value.slice q6 L6 cq6).ownBlock = some g' → w3.heap.size + 2 ≤ g') := Mm.hid (by
                rcases hl6 with h1 | h1
                · exact Or.inl h1
                · exact Or.inr (fun g' hg' => by have := h1 g' hg'; simp at this; omega))
              have HS6 : Hid (∀ b, b < W2.heap.size → b ≠ g → w6.heap[b]? = W2.heap[b]?) := Mm.hid (fun b hb hne => (hg6.block b (Nat.lt_of_lt_of_le hb (Nat.le_trans HB3.out.size (by simp; omega))) (fun e => hne (Option.some.inj e))).trans (((HB3.out.alloc HB3.out.size _).alloc (Nat.le_trans HB3.out.size (by simp)) _).block b hb))
              clear hown6 hg6 hl6
              go_wp2_with fail
              refine hK.out _ _ (HK6.out w6 HS6.out) (fun hHz26q => ?_)
              clear hK K
              refine wpAnyH_take (i := 20) (oi := ?oz27q20) (v := ?vz27q20) ?hiz27q20 ?hsz27q20 ?hfz27q20 ?hrz27q20 ?hQz27q20 (Or.inl ⟨?hwz27q20, ?hyz27q20⟩) ?hSz27q20 ?restz27q20
              case hiz27q20 => (simp; rfl)
              case hsz27q20 => kernel_rfl
              case hfz27q20 => kernel_rfl
              case hrz27q20 => kernel_rfl
              case hQz27q20 => exact fun _ _ _ h => h
              case hwz27q20 => rfl
              case hyz27q20 => (intro wq hSq; (try dsimp only at hSq); go_simp; (try with_reducible rfl))
              case hSz27q20 => assumption
              simp only [Act.put, List.setIfInBounds_toArray, List.set_cons_zero, List.set_cons_succ]
              refine wpAnyH_take (i := 21) (oi := ?oz28q21) (v := ?vz28q21) ?hiz28q21 ?hsz28q21 ?hfz28q21 ?hrz28q21 ?hQz28q21 (Or.inl ⟨?hwz28q21, ?hyz28q21⟩) ?hSz28q21 ?restz28q21
              case hiz28q21 => (simp; rfl)
              case hsz28q21 => kernel_rfl
              case hfz28q21 => kernel_rfl
              case hrz28q21 => kernel_rfl
              case hQz28q21 => exact fun _ _ _ h => h
              case hwz28q21 => rfl
              case hyz28q21 => (intro wq hSq; (try dsimp only at hSq); go_simp; (try with_reducible rfl))
              case hSz28q21 => assumption
              simp only [Act.put, List.setIfInBounds_toArray, List.set_cons_zero, List.set_cons_succ]
              refine wpAnyH_ready (rs := [22]) (by kernel_rfl) (by simp) ?_
              refine AllReadyH.cons (o := ?oz29q) ?hz29q (fun K hK => ?rz29q) AllReadyH.nil
              case hz29q => (simp; rfl)
              case rz29q =>
                have hW6 : w6.heap[p]? = some (.cells #[.int .i64 (s.fan : Int), .slice (some ⟨g, 0, none⟩) N c, .int .i64 ((s.last + 1 : Nat) : Int), .int .i64 (s.count : Int)] 66 (0, 0)) := (HS6.out p HM2.out.lt HPG.out).trans HM2.out.cell
                have hcT : w6.cell? ⟨p, 1, none⟩ = some (.slice (some ⟨g, 0, none⟩) N c) := Mm.cellOf hW6 rfl
                have hfz : w6.frozen? ⟨p, 1, none⟩ = false := by simp [World.frozen?, hW6]
                go_simp
                clear hcT hfz hW6
                refine hK.out _ _ (HK7.out w6 (.slice q6 L6 cq6) HS6.out) (fun hHz30q => ?_)
                clear hK K
                refine wpAnyH_done (by kernel_rfl) ?_ _
                obtain ⟨tag7, bl7, kv7, hM7, hE7, hb7, hk7⟩ := HM2.out.insPage (P2 := Lf.upper s P) HE.out HNW.out HH.out HB3.out HO2.out HG6.out (by rw [← HLL.out]; exact HO6.out) HL6.out
                obtain ⟨W7, hW7⟩ : ∃ W7, w6.setCell ⟨p, 1, none⟩ (.slice q6 L6 cq6) = W7 := ⟨_, rfl⟩
                rw [hW7] at hM7 hE7 ⊢
                have HX7 : Hid (W7.heap[w.heap.size]? = W2.heap[w.heap.size]?) := Mm.hid (hE7.block _ HBX.out.2 HBT.out)
                have HM7 := Mm.hid hM7
                have HE7 := Mm.hid hE7
                have HK7K : Hid (bl7 P.n = bl P.n ∧ kv7 P.n = kv P.n) := Mm.hid ⟨hb7, hk7⟩
                clear hM7 hE7 hW7 HS6 HL6 HG6 HO6 HO2 HB3 hb7 hk7
                have hpg := (HM7.out.pg P (by simp)).cell
                rw [HK7K.out.1, HK7K.out.2] at hpg
                have m6 : W7.cell? ⟨bl P.n, 2, none⟩ = some (.slice (some ⟨gk, 0, none⟩) n c') := by rw [← HEK.out]; exact Mm.cellOf hpg rfl
                have hdl := delS_any gk n c' ((n + 1) / 2) n (Lf.strs P.ks) h W7 (Mm.hid (by have h1 := (HM7.out.pg P (by simp)).own; rw [HK7K.out.2, HEK.out] at h1; exact h1)) hhn (Nat.le_refl _) (Mm.hid (Lf.strs_one _))
                rw [← HND.out] at hdl
                simp only [Nat.sub_self, Nat.add_zero] at hdl
                have HDL := Mm.hid hdl
                clear hpg hdl
                go_wp2_with fail
                with_reducible refine HDL.out.mono ?_
                rintro e w8 ⟨rfl, hown8, hg8⟩
                obtain ⟨hM9, hE9⟩ := HM7.out.putKeys (P := P) (L := L) (R := Lf.upper s P :: R) rfl HND7.out (w1 := w8) (v := .slice (some ⟨gk, 0, none⟩) ((n + 1) / 2) c') (ks := (Lf.lower P).ks) (by rw [HK7K.out.2, HEK.out]; exact hg8) (by rw [HLK.out]; exact hown8) (Or.inl (by rw [HK7K.out.2, HEK.out]; rfl))
                rw [HK7K.out.1] at hM9 hE9
                have hp8 : w8.heap[bl P.n]? = some (.cells #[.int .i64 (P.n : Int), .string P.b, .slice (some ⟨gk, 0, none⟩) n c'] 63 (0, 0)) := by
                  have h1 := (HM7.out.pg P (by simp)).cell
                  have h2 := (HM7.out.pg P (by simp)).tb
                  rw [HK7K.out.1, HK7K.out.2, HEK.out] at h1
                  rw [HK7K.out.1] at h2
                  have h3 := (HM7.out.pg P (by simp)).tk gk (by rw [HK7K.out.2, HEK.out]; rfl)
                  exact (hg8.block _ (Mm.heapLt h1) (fun e => by have e' := Option.some.inj e; rw [e', h3] at h2; cases h2)).trans h1
                have c8 : w8.cell? ⟨bl P.n, 2, none⟩ = some (.slice (some ⟨gk, 0, none⟩) n c') := Mm.cellOf hp8 rfl
                have f8 : w8.frozen? ⟨bl P.n, 2, none⟩ = false := by simp [World.frozen?, hp8]
                obtain ⟨W9, hW9⟩ : ∃ W9, w8.setCell ⟨bl P.n, 2, none⟩ (.slice (some ⟨gk, 0, none⟩) ((n + 1) / 2) c') = W9 := ⟨_, rfl⟩
                rw [hW9] at hM9 hE9
                have e4 : W9.cell? ⟨bl P.n, 0, none⟩ = some (.int .i64 (P.n : Int)) := by
                  rw [← hW9, World.cell?_setCell_other _ _ _ _ (by simp)]; exact Mm.cellOf hp8 rfl
                have e5 : W9.cell? ⟨p, 2, none⟩ = some (.int .i64 ((s.last : Int) + 1)) := hM9.c2
                have hbx : W9.heap[w.heap.size]? = some (.cells #[.int .i64 0, .int .i64 0] 35 (0, 0)) := (hE9.block _ (Nat.lt_of_lt_of_le HBX.out.2 HE7.out.size) (HE7.out.tags _ HBX.out.2 HBT.out)).trans (HX7.out.trans HBX.out.1)
                have e6 : W9.cell? ⟨w.heap.size, 0, none⟩ = some (.int .i64 0) := Mm.cellOf hbx rfl
                have e7 : W9.cell? ⟨w.heap.size, 1, none⟩ = some (.int .i64 0) := Mm.cellOf hbx rfl
                have f6 : ∀ i, W9.frozen? ⟨w.heap.size, i, none⟩ = false := fun i => by simp [World.frozen?, hbx]
                have f60 := f6 0
                have f61 := f6 1
                have HM9 := Mm.hid hM9
                have HE9 : Hid (Lf.Ev tag _ w W9) := Mm.hid (HE2.out.trans (HE7.out.trans hE9))
                have HBX9 := Mm.hid hbx
                have HBT9 : Hid (_ = none) := Mm.hid (hE9.tags _ (Nat.lt_of_lt_of_le HBX.out.2 HE7.out.size) (HE7.out.tags _ HBX.out.2 HBT.out))
                clear hM9 hE9 hp8 hown8 hg8 hbx f6 m6
                go_wp2_with fail
                clear hW9 c8 f8
                go_region
                obtain ⟨W10, hW10⟩ : ∃ W10, ((W9.setCell ⟨w.heap.size, 0, none⟩ (.int .i64 (P.n : Int))).setCell ⟨w.heap.size, 1, none⟩ (.int .i64 ((s.last : Int) + 1))).drew = W10 := ⟨_, rfl⟩
                have hb10 : W10.heap[w.heap.size]? = some (.cells #[.int .i64 (P.n : Int), .int .i64 ((s.last : Int) + 1)] 35 (0, 0)) := by rw [← hW10]; exact Lf.box2 HBX9.out
                have ea : W10.cell? ⟨w.heap.size, 0, none⟩ = some (.int .i64 (P.n : Int)) := Mm.cellOf hb10 rfl
                have eb : W10.cell? ⟨w.heap.size, 1, none⟩ = some (.int .i64 ((s.last : Int) + 1)) := Mm.cellOf hb10 rfl
                have HM10 := Mm.hid (((HM9.out.set HBT9.out 0 (.int .i64 (P.n : Int))).set HBT9.out 1 (.int .i64 ((s.last : Int) + 1))).drew)
                have HE10 := Mm.hid (((HE9.out.set (Nat.le_refl _) 0 (.int .i64 (P.n : Int))).set (Nat.le_refl _) 1 (.int .i64 ((s.last : Int) + 1))).drew)
                rw [hW10] at HM10 HE10 ⊢
                clear hW10 hb10 e4 e5 e6 e7 f60 f61
                go_wp2_with fail
                exact bodyPost_ret (v := .agg #[.int .i64 (P.n : Int), .int .i64 ((s.last : Int) + 1)]) (by simp [results, Try.results28, go_sem, ea, eb]) rfl ⟨rfl, _, _, _, _, HM10.out, HE10.out⟩
    case rz16q =>
      go_simp
      refine HCL.out.mono ?_
      rintro e w3 ⟨v2, rfl, hown2, hb2⟩
      have HB3 : Hid (Below W2.heap.size W2 w3) := Mm.hid ((Below.refl _ W2).drew.trans hb2)
      obtain ⟨q2, cq2, ev2, _⟩ := hown2.shape
      obtain ⟨L2, hL2⟩ : ∃ L2, L2 = (Lf.strs (Lf.upper s P).ks).length := ⟨_, rfl⟩
      rw [← hL2] at ev2
      subst ev2
      have HO2 : Hid (Mm.Own w3 W2.heap.size 9 (.slice q2 L2 cq2) (Lf.strs (Lf.upper s P).ks)) := Mm.hid hown2
      clear hown2 hb2 hL2
      go_wp2_with fail
      refine hK.out _ _ (HSC.out _ HB3.out) (fun hHz31q => ?_)
      clear hK K
      refine wpAnyH_take (i := 16) (oi := ?oz32q16) (v := ?vz32q16) ?hiz32q16 ?hsz32q16 ?hfz32q16 ?hrz32q16 ?hQz32q16 (Or.inl ⟨?hwz32q16, ?hyz32q16⟩) ?hSz32q16 ?restz32q16
      case hiz32q16 => (simp; rfl)
      case hsz32q16 => kernel_rfl
      case hfz32q16 => kernel_rfl
      case hrz32q16 => kernel_rfl
      case hQz32q16 => exact fun _ _ _ h => h
      case hwz32q16 => rfl
      case hyz32q16 => (intro wq hSq; (try dsimp only at hSq); go_simp; (try with_reducible rfl))
      case hSz32q16 => assumption
      simp only [Act.put, List.setIfInBounds_toArray, List.set_cons_zero, List.set_cons_succ]
      refine wpAnyH_ready (rs := [4, 17]) (by kernel_rfl) (by simp) ?_
      refine AllReadyH.cons (o := ?oz33q) ?hz33q (fun K hK => ?rz33q) (AllReadyH.cons (o := ?oz34q) ?hz34q (fun K hK => ?rz34q) AllReadyH.nil)
      case hz33q => (simp; rfl)
      case hz34q => (simp; rfl)
      case rz33q =>
        have hc5 : Hid (w3.cell? ⟨p, 1, none⟩ = some (.slice (some ⟨g, 0, none⟩) N c)) := Mm.hid ((Mm.belAt HB3.out _ HM2.out.lt).trans HC1.out)
        have hc6 := hc5.out
        go_simp
        clear hc5 hc6
        refine hK.out _ _ (HSC.out _ HB3.out) (fun hHz35q => ?_)
        clear hK K
        refine wpAnyH_ready (rs := [17]) (by kernel_rfl) (by simp) ?_
        refine AllReadyH.cons (o := ?oz36q) ?hz36q (fun K hK => ?rz36q) AllReadyH.nil
        case hz36q => (simp; rfl)
        case rz36q =>
          go_simp
          refine hK.out _ _ (HSC.out _ (HB3.out.alloc HB3.out.size _)) (fun hHz37q => ?_)
          clear hK K
          refine wpAnyH_ready (rs := [18]) (by kernel_rfl) (by simp) ?_
          refine AllReadyH.cons (o := ?oz38q) ?hz38q (fun K hK => ?rz38q) AllReadyH.nil
          case hz38q => (simp; rfl)
          case rz38q =>
            go_simp
            refine hK.out _ _ (HSC.out _ ((HB3.out.alloc HB3.out.size _).alloc (Nat.le_trans HB3.out.size (by simp)) _)) (fun hHz39q => ?_)
            clear hK K
            refine wpAnyH_ready (rs := [19]) (by kernel_rfl) (by simp) ?_
            refine AllReadyH.cons (o := ?oz40q) ?hz40q (fun K hK => ?rz40q) AllReadyH.nil
            case hz40q => (simp; rfl)
            case rz40q =>
              go_simp
              have hin := insP_any (some ⟨g, 0, none⟩) N c (l + 1) (Lf.ptrs bl s.pgs) (.pointer (some ⟨w3.heap.size, 0, none⟩)) (w3.heap.size + 1) h ((w3.alloc (.cells #[.int .i64 ((s.last : Int) + 1), .string k0, .slice q2 L2 cq2] 63)).alloc (.cells #[.pointer (some ⟨w3.heap.size, 0, none⟩)] 61)) (Mm.hid (HM2.out.row.below ((HB3.out.alloc HB3.out.size _).alloc (Nat.le_trans HB3.out.size (by simp)) _))) (Mm.hid (by rw [Lf.ptrs_len]; exact HN.out.symm)) hlN rfl (Mm.hid (Lf.ptrs_one _ _)) (Mm.hid (Mm.newAt _ _ (by simp))) (Mm.hid (fun g' hg' => by injection hg' with hg'; injection hg' with hg'; have h1 := (HM2.out.row.lt (g := g) rfl).1; have h2 := HB3.out.size; omega)) (by omega) (Nat.le_trans HH.out (Nat.le_trans HB3.out.size (by simp; omega)))
              rw [← HWR.out] at hin
              have HIN := Mm.hid hin
              clear hin
              with_reducible refine HIN.out.mono ?_
              rintro e w6 ⟨v6, rfl, hown6, hg6, hl6⟩
              obtain ⟨q6, cq6, ev6, _⟩ := hown6.shape
              obtain ⟨L6, hL6⟩ : ∃ L6, L6 = ((Lf.ptrs bl s.pgs).take (l + 1) ++ .pointer (some ⟨w3.heap.size, 0, none⟩) :: (Lf.ptrs bl s.pgs).drop (l + 1)).length := ⟨_, rfl⟩
              rw [← hL6] at ev6
              subst ev6
              clear hL6
              have HO6 := Mm.hid hown6
              have HG6 : Hid (((w3.alloc (Lf.pageObj (Lf.upper s P) (.slice q2 L2 cq2))).alloc (Lf.ptrObj w3.heap.size)).grownBy w6 (Value.slice (some ⟨g, 0, none⟩) N c).ownBlock) := Mm.hid (by rw [show Lf.pageObj (Lf.upper s P) (.slice q2 L2 cq2) = .cells #[.int .i64 ((s.last : Int) + 1), .string k0, .slice q2 L2 cq2] 63 from by rw [HKU.out]; rfl]; exact hg6)
              have HL6 : Hid ((Value.slice q6 L6 cq6).ownBlock = (Value.slice (some ⟨g, 0, none⟩) N c).ownBlock ∨ ∀ g', (Value.slice q6 L6 cq6).ownBlock = some g' → w3.heap.size + 2 ≤ g') := Mm.hid (by
                rcases hl6 with h1 | h1
                · exact Or.inl h1
                · exact Or.inr (fun g' hg' => by have := h1 g' hg'; simp at this; omega))
              have HS6 : Hid (∀ b, b < W2.heap.size → b ≠ g → w6.heap[b]? = W2.heap[b]?) := Mm.hid (fun b hb hne => (hg6.block b (Nat.lt_of_lt_of_le hb (Nat.le_trans HB3.out.size (by simp; omega))) (fun e => hne (Option.some.inj e))).trans (((HB3.out.alloc HB3.out.size _).alloc (Nat.le_trans HB3.out.size (by simp)) _).block b hb))
              clear hown6 hg6 hl6
              go_wp2_with fail
              refine hK.out _ _ (HK6.out w6 HS6.out) (fun hHz41q => ?_)
              clear hK K
              refine wpAnyH_take (i := 20) (oi := ?oz42q20) (v := ?vz42q20) ?hiz42q20 ?hsz42q20 ?hfz42q20 ?hrz42q20 ?hQz42q20 (Or.inl ⟨?hwz42q20, ?hyz42q20⟩) ?hSz42q20 ?restz42q20
              case hiz42q20 => (simp; rfl)
              case hsz42q20 => kernel_rfl
              case hfz42q20 => kernel_rfl
              case hrz42q20 => kernel_rfl
              case hQz42q20 => exact fun _ _ _ h => h
              case hwz42q20 => rfl
              case hyz42q20 => (intro wq hSq; (try dsimp only at hSq); go_simp; (try with_reducible rfl))
              case hSz42q20 => assumption
              simp only [Act.put, List.setIfInBounds_toArray, List.set_cons_zero, List.set_cons_succ]
              refine wpAnyH_take (i := 21) (oi := ?oz43q21) (v := ?vz43q21) ?hiz43q21 ?hsz43q21 ?hfz43q21 ?hrz43q21 ?hQz43q21 (Or.inl ⟨?hwz43q21, ?hyz43q21⟩) ?hSz43q21 ?restz43q21
              case hiz43q21 => (simp; rfl)
              case hsz43q21 => kernel_rfl
              case hfz43q21 => kernel_rfl
              case hrz43q21 => kernel_rfl
              case hQz43q21 => exact fun _ _ _ h => h
              case hwz43q21 => rfl
              case hyz43q21 => (intro wq hSq; (try dsimp only at hSq); go_simp; (try with_reducible rfl))
              case hSz43q21 => assumption
              simp only [Act.put, List.setIfInBounds_toArray, List.set_cons_zero, List.set_cons_succ]
              refine wpAnyH_ready (rs := [22]) (by kernel_rfl) (by simp) ?_
              refine AllReadyH.cons (o := ?oz44q) ?hz44q (fun K hK => ?rz44q) AllReadyH.nil
              case hz44q => (simp; rfl)
              case rz44q =>
                have hW6 : w6.heap[p]? = some (.cells #[.int .i64 (s.fan : Int), .slice (some ⟨g, 0, none⟩) N c, .int .i64 ((s.last + 1 : Nat) : Int), .int .i64 (s.count : Int)] 66 (0, 0)) := (HS6.out p HM2.out.lt HPG.out).trans HM2.out.cell
                have hcT : w6.cell? ⟨p, 1, none⟩ = some (.slice (some ⟨g, 0, none⟩) N c) := Mm.cellOf hW6 rfl
                have hfz : w6.frozen? ⟨p, 1, none⟩ = false := by simp [World.frozen?, hW6]
                go_simp
                clear hcT hfz hW6
                refine hK.out _ _ (HK7.out w6 (.slice q6 L6 cq6) HS6.out) (fun hHz45q => ?_)
                clear hK K
                refine wpAnyH_done (by kernel_rfl) ?_ _
                obtain ⟨tag7, bl7, kv7, hM7, hE7, hb7, hk7⟩ := HM2.out.insPage (P2 := Lf.upper s P) HE.out HNW.out HH.out HB3.out HO2.out HG6.out (by rw [← HLL.out]; exact HO6.out) HL6.out
                obtain ⟨W7, hW7⟩ : ∃ W7, w6.setCell ⟨p, 1, none⟩ (.slice q6 L6 cq6) = W7 := ⟨_, rfl⟩
                rw [hW7] at hM7 hE7 ⊢
                have HX7 : Hid (W7.heap[w.heap.size]? = W2.heap[w.heap.size]?) := Mm.hid (hE7.block _ HBX.out.2 HBT.out)
                have HM7 := Mm.hid hM7
                have HE7 := Mm.hid hE7
                have HK7K : Hid (bl7 P.n = bl P.n ∧ kv7 P.n = kv P.n) := Mm.hid ⟨hb7, hk7⟩
                clear hM7 hE7 hW7 HS6 HL6 HG6 HO6 HO2 HB3 hb7 hk7
                have hpg := (HM7.out.pg P (by simp)).cell
                rw [HK7K.out.1, HK7K.out.2] at hpg
                have m6 : W7.cell? ⟨bl P.n, 2, none⟩ = some (.slice (some ⟨gk, 0, none⟩) n c') := by rw [← HEK.out]; exact Mm.cellOf hpg rfl
                have hdl := delS_any gk n c' ((n + 1) / 2) n (Lf.strs P.ks) h W7 (Mm.hid (by have h1 := (HM7.out.pg P (by simp)).own; rw [HK7K.out.2, HEK.out] at h1; exact h1)) hhn (Nat.le_refl _) (Mm.hid (Lf.strs_one _))
                rw [← HND.out] at hdl
                simp only [Nat.sub_self, Nat.add_zero] at hdl
                have HDL := Mm.hid hdl
                clear hpg hdl
                go_wp2_with fail
                with_reducible refine HDL.out.mono ?_
                rintro e w8 ⟨rfl, hown8, hg8⟩
                obtain ⟨hM9, hE9⟩ := HM7.out.putKeys (P := P) (L := L) (R := Lf.upper s P :: R) rfl HND7.out (w1 := w8) (v := .slice (some ⟨gk, 0, none⟩) ((n + 1) / 2) c') (ks := (Lf.lower P).ks) (by rw [HK7K.out.2, HEK.out]; exact hg8) (by rw [HLK.out]; exact hown8) (Or.inl (by rw [HK7K.out.2, HEK.out]; rfl))
                rw [HK7K.out.1] at hM9 hE9
                have hp8 : w8.heap[bl P.n]? = some (.cells #[.int .i64 (P.n : Int), .string P.b, .slice (some ⟨gk, 0, none⟩) n c'] 63 (0, 0)) := by
                  have h1 := (HM7.out.pg P (by simp)).cell
                  have h2 := (HM7.out.pg P (by simp)).tb
                  rw [HK7K.out.1, HK7K.out.2, HEK.out] at h1
                  rw [HK7K.out.1] at h2
                  have h3 := (HM7.out.pg P (by simp)).tk gk (by rw [HK7K.out.2, HEK.out]; rfl)
                  exact (hg8.block _ (Mm.heapLt h1) (fun e => by have e' := Option.some.inj e; rw [e', h3] at h2; cases h2)).trans h1
                have c8 : w8.cell? ⟨bl P.n, 2, none⟩ = some (.slice (some ⟨gk, 0, none⟩) n c') := Mm.cellOf hp8 rfl
                have f8 : w8.frozen? ⟨bl P.n, 2, none⟩ = false := by simp [World.frozen?, hp8]
                obtain ⟨W9, hW9⟩ : ∃ W9, w8.setCell ⟨bl P.n, 2, none⟩ (.slice (some ⟨gk, 0, none⟩) ((n + 1) / 2) c') = W9 := ⟨_, rfl⟩
                rw [hW9] at hM9 hE9
                have e4 : W9.cell? ⟨bl P.n, 0, none⟩ = some (.int .i64 (P.n : Int)) := by
                  rw [← hW9, World.cell?_setCell_other _ _ _ _ (by simp)]; exact Mm.cellOf hp8 rfl
                have e5 : W9.cell? ⟨p, 2, none⟩ = some (.int .i64 ((s.last : Int) + 1)) := hM9.c2
                have hbx : W9.heap[w.heap.size]? = some (.cells #[.int .i64 0, .int .i64 0] 35 (0, 0)) := (hE9.block _ (Nat.lt_of_lt_of_le HBX.out.2 HE7.out.size) (HE7.out.tags _ HBX.out.2 HBT.out)).trans (HX7.out.trans HBX.out.1)
                have e6 : W9.cell? ⟨w.heap.size, 0, none⟩ = some (.int .i64 0) := Mm.cellOf hbx rfl
                have e7 : W9.cell? ⟨w.heap.size, 1, none⟩ = some (.int .i64 0) := Mm.cellOf hbx rfl
                have f6 : ∀ i, W9.frozen? ⟨w.heap.size, i, none⟩ = false := fun i => by simp [World.frozen?, hbx]
                have f60 := f6 0
                have f61 := f6 1
                have HM9 := Mm.hid hM9
                have HE9 : Hid (Lf.Ev tag _ w W9) := Mm.hid (HE2.out.trans (HE7.out.trans hE9))
                have HBX9 := Mm.hid hbx
                have HBT9 : Hid (_ = none) := Mm.hid (hE9.tags _ (Nat.lt_of_lt_of_le HBX.out.2 HE7.out.size) (HE7.out.tags _ HBX.out.2 HBT.out))
                clear hM9 hE9 hp8 hown8 hg8 hbx f6 m6
                go_wp2_with fail
                clear hW9 c8 f8
                go_region
                obtain ⟨W10, hW10⟩ : ∃ W10, ((W9.setCell ⟨w.heap.size, 0, none⟩ (.int .i64 (P.n : Int))).setCell ⟨w.heap.size, 1, none⟩ (.int .i64 ((s.last : Int) + 1))).drew = W10 := ⟨_, rfl⟩
                have hb10 : W10.heap[w.heap.size]? = some (.cells #[.int .i64 (P.n : Int), .int .i64 ((s.last : Int) + 1)] 35 (0, 0)) := by rw [← hW10]; exact Lf.box2 HBX9.out
                have ea : W10.cell? ⟨w.heap.size, 0, none⟩ = some (.int .i64 (P.n : Int)) := Mm.cellOf hb10 rfl
                have eb : W10.cell? ⟨w.heap.size, 1, none⟩ = some (.int .i64 ((s.last : Int) + 1)) := Mm.cellOf hb10 rfl
                have HM10 := Mm.hid (((HM9.out.set HBT9.out 0 (.int .i64 (P.n : Int))).set HBT9.out 1 (.int .i64 ((s.last : Int) + 1))).drew)
                have HE10 := Mm.hid (((HE9.out.set (Nat.le_refl _) 0 (.int .i64 (P.n : Int))).set (Nat.le_refl _) 1 (.int .i64 ((s.last : Int) + 1))).drew)
                rw [hW10] at HM10 HE10 ⊢
                clear hW10 hb10 e4 e5 e6 e7 f60 f61
                go_wp2_with fail
                exact bodyPost_ret (v := .agg #[.int .i64 (P.n : Int), .int .i64 ((s.last : Int) + 1)]) (by simp [results, Try.results28, go_sem, ea, eb]) rfl ⟨rfl, _, _, _, _, HM10.out, HE10.out⟩
      case rz34q =>
        go_simp
        refine hK.out _ _ (HSC.out _ (HB3.out.alloc HB3.out.size _)) (fun hHz46q => ?_)
        clear hK K
        refine wpAnyH_ready (rs := [4, 18]) (by kernel_rfl) (by simp) ?_
        refine AllReadyH.cons (o := ?oz47q) ?hz47q (fun K hK => ?rz47q) (AllReadyH.cons (o := ?oz48q) ?hz48q (fun K hK => ?rz48q) AllReadyH.nil)
        case hz47q => (simp; rfl)
        case hz48q => (simp; rfl)
        case rz47q =>
          have hc5 : Hid ((w3.alloc (.cells #[.int .i64 ((s.last : Int) + 1), .string k0, .slice q2 L2 cq2] 63)).cell? ⟨p, 1, none⟩ = some (.slice (some ⟨g, 0, none⟩) N c)) := Mm.hid ((Mm.belAt (HB3.out.alloc HB3.out.size _) _ HM2.out.lt).trans HC1.out)
          have hc6 := hc5.out
          go_simp
          clear hc5 hc6
          refine hK.out _ _ (HSC.out _ (HB3.out.alloc HB3.out.size _)) (fun hHz49q => ?_)
          clear hK K
          refine wpAnyH_ready (rs := [18]) (by kernel_rfl) (by simp) ?_
          refine AllReadyH.cons (o := ?oz50q) ?hz50q (fun K hK => ?rz50q) AllReadyH.nil
          case hz50q => (simp; rfl)
          case rz50q =>
            go_simp
            refine hK.out _ _ (HSC.out _ ((HB3.out.alloc HB3.out.size _).alloc (Nat.le_trans HB3.out.size (by simp)) _)) (fun hHz51q => ?_)
            clear hK K
            refine wpAnyH_ready (rs := [19]) (by kernel_rfl) (by simp) ?_
            refine AllReadyH.cons (o := ?oz52q) ?hz52q (fun K hK => ?rz52q) AllReadyH.nil
            case hz52q => (simp; rfl)
            case rz52q =>
              go_simp
              have hin := insP_any (some ⟨g, 0, none⟩) N c (l + 1) (Lf.ptrs bl s.pgs) (.pointer (some ⟨w3.heap.size, 0, none⟩)) (w3.heap.size + 1) h ((w3.alloc (.cells #[.int .i64 ((s.last : Int) + 1), .string k0, .slice q2 L2 cq2] 63)).alloc (.cells #[.pointer (some ⟨w3.heap.size, 0, none⟩)] 61)) (Mm.hid (HM2.out.row.below ((HB3.out.alloc HB3.out.size _).alloc (Nat.le_trans HB3.out.size (by simp)) _))) (Mm.hid (by rw [Lf.ptrs_len]; exact HN.out.symm)) hlN rfl (Mm.hid (Lf.ptrs_one _ _)) (Mm.hid (Mm.newAt _ _ (by simp))) (Mm.hid (fun g' hg' => by injection hg' with hg'; injection hg' with hg'; have h1 := (HM2.out.row.lt (g := g) rfl).1; have h2 := HB3.out.size; omega)) (by omega) (Nat.le_trans HH.out (Nat.le_trans HB3.out.size (by simp; omega)))
              rw [← HWR.out] at hin
              have HIN := Mm.hid hin
              clear hin
              with_reducible refine HIN.out.mono ?_
              rintro e w6 ⟨v6, rfl, hown6, hg6, hl6⟩
              obtain ⟨q6, cq6, ev6, _⟩ := hown6.shape
              obtain ⟨L6, hL6⟩ : ∃ L6, L6 = ((Lf.ptrs bl s.pgs).take (l + 1) ++ .pointer (some ⟨w3.heap.size, 0, none⟩) :: (Lf.ptrs bl s.pgs).drop (l + 1)).length := ⟨_, rfl⟩
              rw [← hL6] at ev6
              subst ev6
              clear hL6
              have HO6 := Mm.hid hown6
              have HG6 : Hid (((w3.alloc (Lf.pageObj (Lf.upper s P) (.slice q2 L2 cq2))).alloc (Lf.ptrObj w3.heap.size)).grownBy w6 (Value.slice (some ⟨g, 0, none⟩) N c).ownBlock) := Mm.hid (by rw [show Lf.pageObj (Lf.upper s P) (.slice q2 L2 cq2) = .cells #[.int .i64 ((s.last : Int) + 1), .string k0, .slice q2 L2 cq2] 63 from by rw [HKU.out]; rfl]; exact hg6)
              have HL6 : Hid ((Value.slice q6 L6 cq6).ownBlock = (Value.slice (some ⟨g, 0, none⟩) N c).ownBlock ∨ ∀ g', (Value.slice q6 L6 cq6).ownBlock = some g' → w3.heap.size + 2 ≤ g') := Mm.hid (by
                rcases hl6 with h1 | h1
                · exact Or.inl h1
                · exact Or.inr (fun g' hg' => by have := h1 g' hg'; simp at this; omega))
              have HS6 : Hid (∀ b, b < W2.heap.size → b ≠ g → w6.heap[b]? = W2.heap[b]?) := Mm.hid (fun b hb hne => (hg6.block b (Nat.lt_of_lt_of_le hb (Nat.le_trans HB3.out.size (by simp; omega))) (fun e => hne (Option.some.inj e))).trans (((HB3.out.alloc HB3.out.size _).alloc (Nat.le_trans HB3.out.size (by simp)) _).block b hb))
              clear hown6 hg6 hl6
              go_wp2_with fail
              refine hK.out _ _ (HK6.out w6 HS6.out) (fun hHz53q => ?_)
              clear hK K
              refine wpAnyH_take (i := 20) (oi := ?oz54q20) (v := ?vz54q20) ?hiz54q20 ?hsz54q20 ?hfz54q20 ?hrz54q20 ?hQz54q20 (Or.inl ⟨?hwz54q20, ?hyz54q20⟩) ?hSz54q20 ?restz54q20
              case hiz54q20 => (simp; rfl)
              case hsz54q20 => kernel_rfl
              case hfz54q20 => kernel_rfl
              case hrz54q20 => kernel_rfl
              case hQz54q20 => exact fun _ _ _ h => h
              case hwz54q20 => rfl
              case hyz54q20 => (intro wq hSq; (try dsimp only at hSq); go_simp; (try with_reducible rfl))
              case hSz54q20 => assumption
              simp only [Act.put, List.setIfInBounds_toArray, List.set_cons_zero, List.set_cons_succ]
              refine wpAnyH_take (i := 21) (oi := ?oz55q21) (v := ?vz55q21) ?hiz55q21 ?hsz55q21 ?hfz55q21 ?hrz55q21 ?hQz55q21 (Or.inl ⟨?hwz55q21, ?hyz55q21⟩) ?hSz55q21 ?restz55q21
              case hiz55q21 => (simp; rfl)
              case hsz55q21 => kernel_rfl
              case hfz55q21 => kernel_rfl
              case hrz55q21 => kernel_rfl
              case hQz55q21 => exact fun _ _ _ h => h
              case hwz55q21 => rfl
              case hyz55q21 => (intro wq hSq; (try dsimp only at hSq); go_simp; (try with_reducible rfl))
              case hSz55q21 => assumption
              simp only [Act.put, List.setIfInBounds_toArray, List.set_cons_zero, List.set_cons_succ]
              refine wpAnyH_ready (rs := [22]) (by kernel_rfl) (by simp) ?_
              refine AllReadyH.cons (o := ?oz56q) ?hz56q (fun K hK => ?rz56q) AllReadyH.nil
              case hz56q => (simp; rfl)
              case rz56q =>
                have hW6 : w6.heap[p]? = some (.cells #[.int .i64 (s.fan : Int), .slice (some ⟨g, 0, none⟩) N c, .int .i64 ((s.last + 1 : Nat) : Int), .int .i64 (s.count : Int)] 66 (0, 0)) := (HS6.out p HM2.out.lt HPG.out).trans HM2.out.cell
                have hcT : w6.cell? ⟨p, 1, none⟩ = some (.slice (some ⟨g, 0, none⟩) N c) := Mm.cellOf hW6 rfl
                have hfz : w6.frozen? ⟨p, 1, none⟩ = false := by simp [World.frozen?, hW6]
                go_simp
                clear hcT hfz hW6
                refine hK.out _ _ (HK7.out w6 (.slice q6 L6 cq6) HS6.out) (fun hHz57q => ?_)
                clear hK K
                refine wpAnyH_done (by kernel_rfl) ?_ _
                obtain ⟨tag7, bl7, kv7, hM7, hE7, hb7, hk7⟩ := HM2.out.insPage (P2 := Lf.upper s P) HE.out HNW.out HH.out HB3.out HO2.out HG6.out (by rw [← HLL.out]; exact HO6.out) HL6.out
                obtain ⟨W7, hW7⟩ : ∃ W7, w6.setCell ⟨p, 1, none⟩ (.slice q6 L6 cq6) = W7 := ⟨_, rfl⟩
                rw [hW7] at hM7 hE7 ⊢
                have HX7 : Hid (W7.heap[w.heap.size]? = W2.heap[w.heap.size]?) := Mm.hid (hE7.block _ HBX.out.2 HBT.out)
                have HM7 := Mm.hid hM7
                have HE7 := Mm.hid hE7
                have HK7K : Hid (bl7 P.n = bl P.n ∧ kv7 P.n = kv P.n) := Mm.hid ⟨hb7, hk7⟩
                clear hM7 hE7 hW7 HS6 HL6 HG6 HO6 HO2 HB3 hb7 hk7
                have hpg := (HM7.out.pg P (by simp)).cell
                rw [HK7K.out.1, HK7K.out.2] at hpg
                have m6 : W7.cell? ⟨bl P.n, 2, none⟩ = some (.slice (some ⟨gk, 0, none⟩) n c') := by rw [← HEK.out]; exact Mm.cellOf hpg rfl
                have hdl := delS_any gk n c' ((n + 1) / 2) n (Lf.strs P.ks) h W7 (Mm.hid (by have h1 := (HM7.out.pg P (by simp)).own; rw [HK7K.out.2, HEK.out] at h1; exact h1)) hhn (Nat.le_refl _) (Mm.hid (Lf.strs_one _))
                rw [← HND.out] at hdl
                simp only [Nat.sub_self, Nat.add_zero] at hdl
                have HDL := Mm.hid hdl
                clear hpg hdl
                go_wp2_with fail
                with_reducible refine HDL.out.mono ?_
                rintro e w8 ⟨rfl, hown8, hg8⟩
                obtain ⟨hM9, hE9⟩ := HM7.out.putKeys (P := P) (L := L) (R := Lf.upper s P :: R) rfl HND7.out (w1 := w8) (v := .slice (some ⟨gk, 0, none⟩) ((n + 1) / 2) c') (ks := (Lf.lower P).ks) (by rw [HK7K.out.2, HEK.out]; exact hg8) (by rw [HLK.out]; exact hown8) (Or.inl (by rw [HK7K.out.2, HEK.out]; rfl))
                rw [HK7K.out.1] at hM9 hE9
                have hp8 : w8.heap[bl P.n]? = some (.cells #[.int .i64 (P.n : Int), .string P.b, .slice (some ⟨gk, 0, none⟩) n c'] 63 (0, 0)) := by
                  have h1 := (HM7.out.pg P (by simp)).cell
                  have h2 := (HM7.out.pg P (by simp)).tb
                  rw [HK7K.out.1, HK7K.out.2, HEK.out] at h1
                  rw [HK7K.out.1] at h2
                  have h3 := (HM7.out.pg P (by simp)).tk gk (by rw [HK7K.out.2, HEK.out]; rfl)
                  exact (hg8.block _ (Mm.heapLt h1) (fun e => by have e' := Option.some.inj e; rw [e', h3] at h2; cases h2)).trans h1
                have c8 : w8.cell? ⟨bl P.n, 2, none⟩ = some (.slice (some ⟨gk, 0, none⟩) n c') := Mm.cellOf hp8 rfl
                have f8 : w8.frozen? ⟨bl P.n, 2, none⟩ = false := by simp [World.frozen?, hp8]
                obtain ⟨W9, hW9⟩ : ∃ W9, w8.setCell ⟨bl P.n, 2, none⟩ (.slice (some ⟨gk, 0, none⟩) ((n + 1) / 2) c') = W9 := ⟨_, rfl⟩
                rw [hW9] at hM9 hE9
                have e4 : W9.cell? ⟨bl P.n, 0, none⟩ = some (.int .i64 (P.n : Int)) := by
                  rw [← hW9, World.cell?_setCell_other _ _ _ _ (by simp)]; exact Mm.cellOf hp8 rfl
                have e5 : W9.cell? ⟨p, 2, none⟩ = some (.int .i64 ((s.last : Int) + 1)) := hM9.c2
                have hbx : W9.heap[w.heap.size]? = some (.cells #[.int .i64 0, .int .i64 0] 35 (0, 0)) := (hE9.block _ (Nat.lt_of_lt_of_le HBX.out.2 HE7.out.size) (HE7.out.tags _ HBX.out.2 HBT.out)).trans (HX7.out.trans HBX.out.1)
                have e6 : W9.cell? ⟨w.heap.size, 0, none⟩ = some (.int .i64 0) := Mm.cellOf hbx rfl
                have e7 : W9.cell? ⟨w.heap.size, 1, none⟩ = some (.int .i64 0) := Mm.cellOf hbx rfl
                have f6 : ∀ i, W9.frozen? ⟨w.heap.size, i, none⟩ = false := fun i => by simp [World.frozen?, hbx]
                have f60 := f6 0
                have f61 := f6 1
                have HM9 := Mm.hid hM9
                have HE9 : Hid (Lf.Ev tag _ w W9) := Mm.hid (HE2.out.trans (HE7.out.trans hE9))
                have HBX9 := Mm.hid hbx
                have HBT9 : Hid (_ = none) := Mm.hid (hE9.tags _ (Nat.lt_of_lt_of_le HBX.out.2 HE7.out.size) (HE7.out.tags _ HBX.out.2 HBT.out))
                clear hM9 hE9 hp8 hown8 hg8 hbx f6 m6
                go_wp2_with fail
                clear hW9 c8 f8
                go_region
                obtain ⟨W10, hW10⟩ : ∃ W10, ((W9.setCell ⟨w.heap.size, 0, none⟩ (.int .i64 (P.n : Int))).setCell ⟨w.heap.size, 1, none⟩ (.int .i64 ((s.last : Int) + 1))).drew = W10 := ⟨_, rfl⟩
                have hb10 : W10.heap[w.heap.size]? = some (.cells #[.int .i64 (P.n : Int), .int .i64 ((s.last : Int) + 1)] 35 (0, 0)) := by rw [← hW10]; exact Lf.box2 HBX9.out
                have ea : W10.cell? ⟨w.heap.size, 0, none⟩ = some (.int .i64 (P.n : Int)) := Mm.cellOf hb10 rfl
                have eb : W10.cell? ⟨w.heap.size, 1, none⟩ = some (.int .i64 ((s.last : Int) + 1)) := Mm.cellOf hb10 rfl
                have HM10 := Mm.hid (((HM9.out.set HBT9.out 0 (.int .i64 (P.n : Int))).set HBT9.out 1 (.int .i64 ((s.last : Int) + 1))).drew)
                have HE10 := Mm.hid (((HE9.out.set (Nat.le_refl _) 0 (.int .i64 (P.n : Int))).set (Nat.le_refl _) 1 (.int .i64 ((s.last : Int) + 1))).drew)
                rw [hW10] at HM10 HE10 ⊢
                clear hW10 hb10 e4 e5 e6 e7 f60 f61
                go_wp2_with fail
                exact bodyPost_ret (v := .agg #[.int .i64 (P.n : Int), .int .i64 ((s.last : Int) + 1)]) (by simp [results, Try.results28, go_sem, ea, eb]) rfl ⟨rfl, _, _, _, _, HM10.out, HE10.out⟩
        case rz48q =>
          go_simp
          refine hK.out _ _ (HSC.out _ ((HB3.out.alloc HB3.out.size _).alloc (Nat.le_trans HB3.out.size (by simp)) _)) (fun hHz58q => ?_)
          clear hK K
          refine wpAnyH_ready (rs := [4]) (by kernel_rfl) (by simp) ?_
          refine AllReadyH.cons (o := ?oz59q) ?hz59q (fun K hK => ?rz59q) AllReadyH.nil
          case hz59q => (simp; rfl)
          case rz59q =>
            have hc5 : Hid (((w3.alloc (.cells #[.int .i64 ((s.last : Int) + 1), .string k0, .slice q2 L2 cq2] 63)).alloc (.cells #[.pointer (some ⟨w3.heap.size, 0, none⟩)] 61)).cell? ⟨p, 1, none⟩ = some (.slice (some ⟨g, 0, none⟩) N c)) := Mm.hid ((Mm.belAt ((HB3.out.alloc HB3.out.size _).alloc (Nat.le_trans HB3.out.size (by simp)) _) _ HM2.out.lt).trans HC1.out)
            have hc6 := hc5.out
            go_simp
            clear hc5 hc6
            refine hK.out _ _ (HSC.out _ ((HB3.out.alloc HB3.out.size _).alloc (Nat.le_trans HB3.out.size (by simp)) _)) (fun hHz60q => ?_)
            clear hK K
            refine wpAnyH_ready (rs := [19]) (by kernel_rfl) (by simp) ?_
            refine AllReadyH.cons (o := ?oz61q) ?hz61q (fun K hK => ?rz61q) AllReadyH.nil
            case hz61q => (simp; rfl)
            case rz61q =>
              go_simp
              have hin := insP_any (some ⟨g, 0, none⟩) N c (l + 1) (Lf.ptrs bl s.pgs) (.pointer (some ⟨w3.heap.size, 0, none⟩)) (w3.heap.size + 1) h ((w3.alloc (.cells #[.int .i64 ((s.last : Int) + 1), .string k0, .slice q2 L2 cq2] 63)).alloc (.cells #[.pointer (some ⟨w3.heap.size, 0, none⟩)] 61)) (Mm.hid (HM2.out.row.below ((HB3.out.alloc HB3.out.size _).alloc (Nat.le_trans HB3.out.size (by simp)) _))) (Mm.hid (by rw [Lf.ptrs_len]; exact HN.out.symm)) hlN rfl (Mm.hid (Lf.ptrs_one _ _)) (Mm.hid (Mm.newAt _ _ (by simp))) (Mm.hid (fun g' hg' => by injection hg' with hg'; injection hg' with hg'; have h1 := (HM2.out.row.lt (g := g) rfl).1; have h2 := HB3.out.size; omega)) (by omega) (Nat.le_trans HH.out (Nat.le_trans HB3.out.size (by simp; omega)))
              rw [← HWR.out] at hin
              have HIN := Mm.hid hin
              clear hin
              with_reducible refine HIN.out.mono ?_
              rintro e w6 ⟨v6, rfl, hown6, hg6, hl6⟩
              obtain ⟨q6, cq6, ev6, _⟩ := hown6.shape
              obtain ⟨L6, hL6⟩ : ∃ L6, L6 = ((Lf.ptrs bl s.pgs).take (l + 1) ++ .pointer (some ⟨w3.heap.size, 0, none⟩) :: (Lf.ptrs bl s.pgs).drop (l + 1)).length := ⟨_, rfl⟩
              rw [← hL6] at ev6
              subst ev6
              clear hL6
              have HO6 := Mm.hid hown6
              have HG6 : Hid (((w3.alloc (Lf.pageObj (Lf.upper s P) (.slice q2 L2 cq2))).alloc (Lf.ptrObj w3.heap.size)).grownBy w6 (Value.slice (some ⟨g, 0, none⟩) N c).ownBlock) := Mm.hid (by rw [show Lf.pageObj (Lf.upper s P) (.slice q2 L2 cq2) = .cells #[.int .i64 ((s.last : Int) + 1), .string k0, .slice q2 L2 cq2] 63 from by rw [HKU.out]; rfl]; exact hg6)
              have HL6 : Hid ((Value.slice q6 L6 cq6).ownBlock = (Value.slice (some ⟨g, 0, none⟩) N c).ownBlock ∨ ∀ g', (Value.slice q6 L6 cq6).ownBlock = some g' → w3.heap.size + 2 ≤ g') := Mm.hid (by
                rcases hl6 with h1 | h1
                · exact Or.inl h1
                · exact Or.inr (fun g' hg' => by have := h1 g' hg'; simp at this; omega))
              have HS6 : Hid (∀ b, b < W2.heap.size → b ≠ g → w6.heap[b]? = W2.heap[b]?) := Mm.hid (fun b hb hne => (hg6.block b (Nat.lt_of_lt_of_le hb (Nat.le_trans HB3.out.size (by simp; omega))) (fun e => hne (Option.some.inj e))).trans (((HB3.out.alloc HB3.out.size _).alloc (Nat.le_trans HB3.out.size (by simp)) _).block b hb))
              clear hown6 hg6 hl6
              go_wp2_with fail
              refine hK.out _ _ (HK6.out w6 HS6.out) (fun hHz62q => ?_)
              clear hK K
              refine wpAnyH_take (i := 20) (oi := ?oz63q20) (v := ?vz63q20) ?hiz63q20 ?hsz63q20 ?hfz63q20 ?hrz63q20 ?hQz63q20 (Or.inl ⟨?hwz63q20, ?hyz63q20⟩) ?hSz63q20 ?restz63q20
              case hiz63q20 => (simp; rfl)
              case hsz63q20 => kernel_rfl
              case hfz63q20 => kernel_rfl
              case hrz63q20 => kernel_rfl
              case hQz63q20 => exact fun _ _ _ h => h
              case hwz63q20 => rfl
              case hyz63q20 => (intro wq hSq; (try dsimp only at hSq); go_simp; (try with_reducible rfl))
              case hSz63q20 => assumption
              simp only [Act.put, List.setIfInBounds_toArray, List.set_cons_zero, List.set_cons_succ]
              refine wpAnyH_take (i := 21) (oi := ?oz64q21) (v := ?vz64q21) ?hiz64q21 ?hsz64q21 ?hfz64q21 ?hrz64q21 ?hQz64q21 (Or.inl ⟨?hwz64q21, ?hyz64q21⟩) ?hSz64q21 ?restz64q21
              case hiz64q21 => (simp; rfl)
              case hsz64q21 => kernel_rfl
              case hfz64q21 => kernel_rfl
              case hrz64q21 => kernel_rfl
              case hQz64q21 => exact fun _ _ _ h => h
              case hwz64q21 => rfl
              case hyz64q21 => (intro wq hSq; (try dsimp only at hSq); go_simp; (try with_reducible rfl))
              case hSz64q21 => assumption
              simp only [Act.put, List.setIfInBounds_toArray, List.set_cons_zero, List.set_cons_succ]
              refine wpAnyH_ready (rs := [22]) (by kernel_rfl) (by simp) ?_
              refine AllReadyH.cons (o := ?oz65q) ?hz65q (fun K hK => ?rz65q) AllReadyH.nil
              case hz65q => (simp; rfl)
              case rz65q =>
                have hW6 : w6.heap[p]? = some (.cells #[.int .i64 (s.fan : Int), .slice (some ⟨g, 0, none⟩) N c, .int .i64 ((s.last + 1 : Nat) : Int), .int .i64 (s.count : Int)] 66 (0, 0)) := (HS6.out p HM2.out.lt HPG.out).trans HM2.out.cell
                have hcT : w6.cell? ⟨p, 1, none⟩ = some (.slice (some ⟨g, 0, none⟩) N c) := Mm.cellOf hW6 rfl
                have hfz : w6.frozen? ⟨p, 1, none⟩ = false := by simp [World.frozen?, hW6]
                go_simp
                clear hcT hfz hW6
                refine hK.out _ _ (HK7.out w6 (.slice q6 L6 cq6) HS6.out) (fun hHz66q => ?_)
                clear hK K
                refine wpAnyH_done (by kernel_rfl) ?_ _
                obtain ⟨tag7, bl7, kv7, hM7, hE7, hb7, hk7⟩ := HM2.out.insPage (P2 := Lf.upper s P) HE.out HNW.out HH.out HB3.out HO2.out HG6.out (by rw [← HLL.out]; exact HO6.out) HL6.out
                obtain ⟨W7, hW7⟩ : ∃ W7, w6.setCell ⟨p, 1, none⟩ (.slice q6 L6 cq6) = W7 := ⟨_, rfl⟩
                rw [hW7] at hM7 hE7 ⊢
                have HX7 : Hid (W7.heap[w.heap.size]? = W2.heap[w.heap.size]?) := Mm.hid (hE7.block _ HBX.out.2 HBT.out)
                have HM7 := Mm.hid hM7
                have HE7 := Mm.hid hE7
                have HK7K : Hid (bl7 P.n = bl P.n ∧ kv7 P.n = kv P.n) := Mm.hid ⟨hb7, hk7⟩
                clear hM7 hE7 hW7 HS6 HL6 HG6 HO6 HO2 HB3 hb7 hk7
                have hpg := (HM7.out.pg P (by simp)).cell
                rw [HK7K.out.1, HK7K.out.2] at hpg
                have m6 : W7.cell? ⟨bl P.n, 2, none⟩ = some (.slice (some ⟨gk, 0, none⟩) n c') := by rw [← HEK.out]; exact Mm.cellOf hpg rfl
                have hdl := delS_any gk n c' ((n + 1) / 2) n (Lf.strs P.ks) h W7 (Mm.hid (by have h1 := (HM7.out.pg P (by simp)).own; rw [HK7K.out.2, HEK.out] at h1; exact h1)) hhn (Nat.le_refl _) (Mm.hid (Lf.strs_one _))
                rw [← HND.out] at hdl
                simp only [Nat.sub_self, Nat.add_zero] at hdl
                have HDL := Mm.hid hdl
                clear hpg hdl
                go_wp2_with fail
                with_reducible refine HDL.out.mono ?_
                rintro e w8 ⟨rfl, hown8, hg8⟩
                obtain ⟨hM9, hE9⟩ := HM7.out.putKeys (P := P) (L := L) (R := Lf.upper s P :: R) rfl HND7.out (w1 := w8) (v := .slice (some ⟨gk, 0, none⟩) ((n + 1) / 2) c') (ks := (Lf.lower P).ks) (by rw [HK7K.out.2, HEK.out]; exact hg8) (by rw [HLK.out]; exact hown8) (Or.inl (by rw [HK7K.out.2, HEK.out]; rfl))
                rw [HK7K.out.1] at hM9 hE9
                have hp8 : w8.heap[bl P.n]? = some (.cells #[.int .i64 (P.n : Int), .string P.b, .slice (some ⟨gk, 0, none⟩) n c'] 63 (0, 0)) := by
                  have h1 := (HM7.out.pg P (by simp)).cell
                  have h2 := (HM7.out.pg P (by simp)).tb
                  rw [HK7K.out.1, HK7K.out.2, HEK.out] at h1
                  rw [HK7K.out.1] at h2
                  have h3 := (HM7.out.pg P (by simp)).tk gk (by rw [HK7K.out.2, HEK.out]; rfl)
                  exact (hg8.block _ (Mm.heapLt h1) (fun e => by have e' := Option.some.inj e; rw [e', h3] at h2; cases h2)).trans h1
                have c8 : w8.cell? ⟨bl P.n, 2, none⟩ = some (.slice (some ⟨gk, 0, none⟩) n c') := Mm.cellOf hp8 rfl
                have f8 : w8.frozen? ⟨bl P.n, 2, none⟩ = false := by simp [World.frozen?, hp8]
                obtain ⟨W9, hW9⟩ : ∃ W9, w8.setCell ⟨bl P.n, 2, none⟩ (.slice (some ⟨gk, 0, none⟩) ((n + 1) / 2) c') = W9 := ⟨_, rfl⟩
                rw [hW9] at hM9 hE9
                have e4 : W9.cell? ⟨bl P.n, 0, none⟩ = some (.int .i64 (P.n : Int)) := by
                  rw [← hW9, World.cell?_setCell_other _ _ _ _ (by simp)]; exact Mm.cellOf hp8 rfl
                have e5 : W9.cell? ⟨p, 2, none⟩ = some (.int .i64 ((s.last : Int) + 1)) := hM9.c2
                have hbx : W9.heap[w.heap.size]? = some (.cells #[.int .i64 0, .int .i64 0] 35 (0, 0)) := (hE9.block _ (Nat.lt_of_lt_of_le HBX.out.2 HE7.out.size) (HE7.out.tags _ HBX.out.2 HBT.out)).trans (HX7.out.trans HBX.out.1)
                have e6 : W9.cell? ⟨w.heap.size, 0, none⟩ = some (.int .i64 0) := Mm.cellOf hbx rfl
                have e7 : W9.cell? ⟨w.heap.size, 1, none⟩ = some (.int .i64 0) := Mm.cellOf hbx rfl
                have f6 : ∀ i, W9.frozen? ⟨w.heap.size, i, none⟩ = false := fun i => by simp [World.frozen?, hbx]
                have f60 := f6 0
                have f61 := f6 1
                have HM9 := Mm.hid hM9
                have HE9 : Hid (Lf.Ev tag _ w W9) := Mm.hid (HE2.out.trans (HE7.out.trans hE9))
                have HBX9 := Mm.hid hbx
                have HBT9 : Hid (_ = none) := Mm.hid (hE9.tags _ (Nat.lt_of_lt_of_le HBX.out.2 HE7.out.size) (HE7.out.tags _ HBX.out.2 HBT.out))
                clear hM9 hE9 hp8 hown8 hg8 hbx f6 m6
                go_wp2_with fail
                clear hW9 c8 f8
                go_region
                obtain ⟨W10, hW10⟩ : ∃ W10, ((W9.setCell ⟨w.heap.size, 0, none⟩ (.int .i64 (P.n : Int))).setCell ⟨w.heap.size, 1, none⟩ (.int .i64 ((s.last : Int) + 1))).drew = W10 := ⟨_, rfl⟩
                have hb10 : W10.heap[w.heap.size]? = some (.cells #[.int .i64 (P.n : Int), .int .i64 ((s.last : Int) + 1)] 35 (0, 0)) := by rw [← hW10]; exact Lf.box2 HBX9.out
                have ea : W10.cell? ⟨w.heap.size, 0, none⟩ = some (.int .i64 (P.n : Int)) := Mm.cellOf hb10 rfl
                have eb : W10.cell? ⟨w.heap.size, 1, none⟩ = some (.int .i64 ((s.last : Int) + 1)) := Mm.cellOf hb10 rfl
                have HM10 := Mm.hid (((HM9.out.set HBT9.out 0 (.int .i64 (P.n : Int))).set HBT9.out 1 (.int .i64 ((s.last : Int) + 1))).drew)
                have HE10 := Mm.hid (((HE9.out.set (Nat.le_refl _) 0 (.int .i64 (P.n : Int))).set (Nat.le_refl _) 1 (.int .i64 ((s.last : Int) + 1))).drew)
                rw [hW10] at HM10 HE10 ⊢
                clear hW10 hb10 e4 e5 e6 e7 f60 f61
                go_wp2_with fail
                exact bodyPost_ret (v := .agg #[.int .i64 (P.n : Int), .int .i64 ((s.last : Int) + 1)]) (by simp [results, Try.results28, go_sem, ea, eb]) rfl ⟨rfl, _, _, _, _, HM10.out, HE10.out⟩

end Go.Proofs.Ytjnaafgiokdcbaa
