/- part. -/
import Derived.Test.YtjnaafgiokdcbaaGreatDoorGC
namespace Go.Proofs.YtjnaafgiokdcbaaGreatDoor
open Go.RowKit

set_option maxRecDepth 100000 in
set_option maxHeartbeats 4000000 in
theorem part_any {h : Nat} {w : World} {tag : Nat → Option Lf.Tg} {p : Nat} {s : Lf.S} {bl : Nat → Nat} {kv : Nat → Value} {rv : Value} (H : Hid (Lf.Mem h w tag p s bl kv rv)) (hh : h ≤ w.heap.size) {L R : List Lf.Pg} {P : Lf.Pg} (he : s.pgs = L ++ P :: R) (hz : Hid (Lf.Sm s)) (hnd : Hid (s.pgs.Pairwise (fun P Q => P.n ≠ Q.n))) (hnr : Hid (∀ Q ∈ s.pgs, Q.n ≤ s.last)) (hf : 2 ≤ s.fan) :
    Calls Tryz.prog 55 #[.pointer (some ⟨p, 0, none⟩), .int .i64 (L.length : Int)] w fun e w' => e = .returned (.agg #[.int .i64 ((Lf.partM s P).1 : Int), .int .i64 ((Lf.partM s P).2 : Int)]) ∧ ∃ tag' bl' kv' rv', Lf.Mem h w' tag' p (Lf.partS s L P R) bl' kv' rv' ∧ Lf.Ev tag tag' w w' := by
  have hi : s.pgs[L.length]? = some P := by rw [he]; simp
  have hPm : P ∈ s.pgs := by rw [he]; simp
  have HB1 : Hid (Below w.heap.size w (w.alloc (.cells #[.int .i64 0, .int .i64 0] 38))) := Mm.hid ((Below.refl _ w).alloc (Nat.le_refl _) _)
  have HM1 := Mm.hid (H.out.below HB1.out)
  obtain ⟨g, c, rfl, m1, m2, m3, m4, m5, m6⟩ := HM1.out.at hi
  have c0 := HM1.out.c0
  have c1 := HM1.out.c1
  have c2 := HM1.out.c2
  have f2 := HM1.out.fr 2
  obtain ⟨q, c', ek, k1, k2, k3, k4, k5⟩ := HM1.out.ks hPm
  obtain ⟨n, hn⟩ : ∃ n, n = P.ks.length := ⟨_, rfl⟩
  obtain ⟨N, hN⟩ : ∃ N, N = s.pgs.length := ⟨_, rfl⟩
  obtain ⟨l, hl⟩ : ∃ l, l = L.length := ⟨_, rfl⟩
  rw [← hn] at k1 ek
  rw [← hN] at c1 m1 m2 H HM1
  rw [ek] at m6
  rw [← hl] at m2 m3 ⊢
  have hnb : n ≤ 10000 := by rw [hn]; exact hz.out.kl P hPm
  have hla := hz.out.la
  have g1 : (0 : Int) ≤ (l : Int) := by omega
  have g2 : (l : Int) < (N : Int) := by omega
  have HLL := Mm.hid hl
  have HN := Mm.hid hN
  have HNK := Mm.hid hn
  by_cases hgt : n ≤ s.fan
  · have g3 : (n : Int) ≤ (s.fan : Int) := by omega
    have e1 : Lf.partS s L P R = s := if_pos (by rw [← hn]; exact hgt)
    have e2 : Lf.partM s P = (0, 0) := if_pos (by rw [← hn]; exact hgt)
    rw [e1, e2]
    have e0 : (w.alloc (.cells #[.int .i64 0, .int .i64 0] 38)).cell? ⟨w.heap.size, 0, none⟩ = some (.int .i64 0) := Mm.cellOf (Mm.newAt w _ rfl) rfl
    have e3 : (w.alloc (.cells #[.int .i64 0, .int .i64 0] 38)).cell? ⟨w.heap.size, 1, none⟩ = some (.int .i64 0) := Mm.cellOf (Mm.newAt w _ rfl) rfl
    clear k2 k3 k4 k5 hi hl ek he hn m4 m5 hPm e1 e2 hgt hN
    go_enter Tryz.func55, Tryz.ntmps55
    go_wp2_with fail
    exact bodyPost_ret (v := .agg #[.int .i64 0, .int .i64 0]) (by simp [results, Tryz.results55, go_sem, e0, e3]) rfl ⟨rfl, _, _, _, _, HM1.out, Lf.Ev.below HB1.out⟩
  · have g3 : ¬ ((n : Int) ≤ (s.fan : Int)) := by omega
    have e1 : Lf.partS s L P R = { s with last := s.last + 1, pgs := L ++ Lf.lower P :: Lf.upper s P :: R } := if_neg (by rw [← hn]; exact hgt)
    have e2 : Lf.partM s P = (P.n, s.last + 1) := if_neg (by rw [← hn]; exact hgt)
    rw [e1, e2]
    have hn3 : 3 ≤ n := by omega
    obtain ⟨gk, hgk⟩ : ∃ gk, q = some ⟨gk, 0, none⟩ := by
      rcases k4 with h1 | h1
      · obtain ⟨h2, _⟩ := k3 h1
        rw [h2] at hn; simp at hn; omega
      · exact h1
    subst hgk
    have hhn : (n + 1) / 2 < n := by omega
    obtain ⟨k0, hk0⟩ : ∃ k0, P.ks[(n + 1) / 2]? = some k0 := ⟨P.ks[(n + 1) / 2]'(by rw [← hn]; exact hhn), List.getElem?_eq_getElem _⟩
    have hk0c : (w.alloc (.cells #[.int .i64 0, .int .i64 0] 38)).cell? ⟨gk, (n + 1) / 2, none⟩ = some (.string k0) := by
      obtain ⟨g', e, h1⟩ := k5 _ _ hk0
      injection e with e; injection e with e; subst e
      exact h1
    obtain ⟨W2, hW2⟩ : ∃ W2, (w.alloc (.cells #[.int .i64 0, .int .i64 0] 38)).setCell ⟨p, 2, none⟩ (.int .i64 ((s.last : Int) + 1)) = W2 := ⟨_, rfl⟩
    have hst := HM1.out.setLast (s.last + 1)
    rw [show ((s.last + 1 : Nat) : Int) = (s.last : Int) + 1 by omega, hW2] at hst
    have HM2 : Hid (Lf.Mem h W2 tag p { s with last := s.last + 1 } bl kv (.slice (some ⟨g, 0, none⟩) N c)) := Mm.hid hst.1
    have HE2 : Hid (Lf.Ev tag tag w W2) := Mm.hid ((Lf.Ev.below HB1.out).trans hst.2)
    have HBX : Hid (W2.heap[w.heap.size]? = some (.cells #[.int .i64 0, .int .i64 0] 38 (0, 0)) ∧ w.heap.size < W2.heap.size) := Mm.hid (by
      have hp := H.out.lt
      rw [← hW2]
      exact ⟨(heap_setCell_other _ _ w.heap.size _ (fun e => by have e' : w.heap.size = p := e; omega)).trans (Mm.newAt w _ rfl), by simp⟩)
    have HBT : Hid (tag w.heap.size = none) := Mm.hid (H.out.top _ (Nat.le_refl _))
    have HC1 : Hid (W2.cell? ⟨p, 1, none⟩ = some (.slice (some ⟨g, 0, none⟩) N c)) := Mm.hid HM2.out.c1
    have hk02 : W2.cell? ⟨gk, (n + 1) / 2, none⟩ = some (.string k0) := by
      obtain ⟨q, c9, e9, _, _, _, _, k9⟩ := HM2.out.ks (P := P) hPm
      rw [ek] at e9
      injection e9 with e9 _ _
      obtain ⟨g', e, h1⟩ := k9 _ _ hk0
      rw [← e9] at e
      injection e with e; injection e with e; subst e
      exact h1
    have HSC : Hid (∀ w', Below W2.heap.size W2 w' → w'.cell? ⟨p, 2, none⟩ = some (.int .i64 ((s.last : Int) + 1)) ∧ w'.cell? ⟨gk, (n + 1) / 2, none⟩ = some (.string k0)) := Mm.hid (fun w' hb => ⟨(Mm.belAt hb _ HM2.out.lt).trans (by rw [HM2.out.c2]; rfl), (Mm.belAt hb _ (World.block_lt_of_cell? W2 _ hk02)).trans hk02⟩)
    have hgg : gk ≠ g := fun e => by
      have h1 := (HM2.out.pg P hPm).tk gk (by rw [ek]; rfl)
      have h2 := HM2.out.tr g rfl
      rw [e, h2] at h1; cases h1
    have hpg : p ≠ g := fun e => by
      have h1 := HM2.out.tr g rfl
      rw [← e, HM2.out.tp] at h1; cases h1
    have hpk : gk ≠ p := fun e => by
      have h1 := (HM2.out.pg P hPm).tk gk (by rw [ek]; rfl)
      rw [e, HM2.out.tp] at h1; cases h1
    have HPG := Mm.hid hpg
    have HK6 : Hid (∀ w6 : World, (∀ b, b < W2.heap.size → b ≠ g → w6.heap[b]? = W2.heap[b]?) → w6.cell? ⟨p, 2, none⟩ = some (.int .i64 ((s.last : Int) + 1)) ∧ w6.cell? ⟨gk, (n + 1) / 2, none⟩ = some (.string k0)) := Mm.hid (fun w6 h6 => ⟨(World.cell?_of_block (a := ⟨p, 2, none⟩) (h6 p HM2.out.lt hpg)).trans (by rw [HM2.out.c2]; rfl), (World.cell?_of_block (a := ⟨gk, (n + 1) / 2, none⟩) (h6 gk (World.block_lt_of_cell? W2 _ hk02) hgg)).trans hk02⟩)
    have HK7 : Hid (∀ (w6 : World) (v6 : Value), (∀ b, b < W2.heap.size → b ≠ g → w6.heap[b]? = W2.heap[b]?) → (w6.setCell ⟨p, 1, none⟩ v6).cell? ⟨p, 2, none⟩ = some (.int .i64 ((s.last : Int) + 1)) ∧ (w6.setCell ⟨p, 1, none⟩ v6).cell? ⟨gk, (n + 1) / 2, none⟩ = some (.string k0)) := Mm.hid (fun w6 v6 h6 => by
      obtain ⟨a1, a2⟩ := HK6.out w6 h6
      refine ⟨?_, ?_⟩
      · rw [World.cell?_setCell_other _ _ _ _ (by simp)]; exact a1
      · rw [World.cell?_setCell_other _ _ _ _ (by intro e; injection e with e _ _; exact hpk e.symm)]; exact a2)
    have hcn : ¬ (c' = (n + 1) / 2) := by omega
    have HCL : Hid (Calls Tryz.prog 77 #[.slice (some ⟨gk, (n + 1) / 2, none⟩) (n - (n + 1) / 2) (c' - (n + 1) / 2)] W2.drew fun e w' => ∃ v, e = .returned v ∧ Mm.Own w' W2.drew.heap.size 9 v (Lf.strs (Lf.upper s P).ks) ∧ Below W2.drew.heap.size W2.drew w') := Mm.hid (cloneS_any _ _ _ (Lf.upper s P).ks W2.drew (Mm.hid (by show (P.ks.drop (Lf.half P.ks)).length = _; rw [List.length_drop, ← hn]; unfold Lf.half; rw [← hn])) (by omega) (fun e => nomatch e) (Mm.hid (fun j k' hj => by
      refine ⟨_, rfl, ?_⟩
      have hj' : P.ks[(n + 1) / 2 + j]? = some k' := by
        have h1 : (P.ks.drop (Lf.half P.ks))[j]? = some k' := hj
        rw [List.getElem?_drop] at h1
        unfold Lf.half at h1; rw [← hn] at h1; exact h1
      obtain ⟨q, c9, e9, _, _, _, _, k9⟩ := HM2.out.ks (P := P) hPm
      rw [ek] at e9
      injection e9 with e9 _ _
      obtain ⟨g', e, h1⟩ := k9 _ _ hj'
      rw [← e9] at e
      injection e with e; injection e with e; subst e
      rw [Mm.addPlain]
      exact h1)))
    have HE := Mm.hid he
    have HNW : Hid (∀ Q ∈ s.pgs, Q.n ≠ (Lf.upper s P).n) := Mm.hid (fun Q hQ e => by have h1 := hnr.out Q hQ; have h2 : Q.n = s.last + 1 := e; omega)
    have HH : Hid (h ≤ W2.heap.size) := Mm.hid (Nat.le_trans hh HE2.out.size)
    have HEK : Hid (kv P.n = .slice (some ⟨gk, 0, none⟩) n c') := Mm.hid ek
    have hlN : l + 1 ≤ N := by omega
    have HND : Hid ((n : Int) - ((n - (n + 1) / 2 : Nat) : Int) = (((n + 1) / 2 : Nat) : Int)) := Mm.hid (by omega)
    have HLK : Hid (Lf.strs (Lf.lower P).ks = (Lf.strs P.ks).take ((n + 1) / 2) ++ (Lf.strs P.ks).drop n) := Mm.hid (by
      rw [List.drop_of_length_le (by rw [Lf.strs_len, hn]; exact Nat.le_refl _), List.append_nil]
      show Lf.strs (P.ks.take (Lf.half P.ks)) = _
      unfold Lf.half Lf.strs
      rw [← hn, List.map_take])
    have HND7 : Hid ((L ++ P :: Lf.upper s P :: R).Pairwise (fun P Q => P.n ≠ Q.n)) := Mm.hid (by
      have h1 := hnd.out
      have h2 : ∀ Q ∈ s.pgs, Q.n ≠ s.last + 1 := fun Q hQ => by have := hnr.out Q hQ; omega
      rw [he] at h1 h2
      obtain ⟨p1, p2, p3⟩ := List.pairwise_append.1 h1
      obtain ⟨p4, p5⟩ := List.pairwise_cons.1 p2
      refine List.pairwise_append.2 ⟨p1, List.pairwise_cons.2 ⟨fun Q hQ => ?_, List.pairwise_cons.2 ⟨fun Q hQ => ?_, p5⟩⟩, fun Q hQ X hX => ?_⟩
      · rcases List.mem_cons.1 hQ with e | hQ
        · rw [e]; exact h2 P (by simp)
        · exact p4 Q hQ
      · exact fun e => h2 Q (by simp [hQ]) e.symm
      · rcases List.mem_cons.1 hX with e | hX
        · rw [e]; exact p3 Q hQ P (by simp)
        · rcases List.mem_cons.1 hX with e | hX
          · rw [e]; exact h2 Q (by simp [hQ])
          · exact p3 Q hQ X (by simp [hX]))
    have hNb : N ≤ 10000 := by rw [hN]; exact hz.out.pl
    have HWR : Hid (IntKind.i64.wrap ((l : Int) + 1) = ((l + 1 : Nat) : Int)) := Mm.hid (by rw [IntKind.wrap_i64]; omega)
    have hpos : 0 < n - (n + 1) / 2 := by omega
    have HKU : Hid (Lf.upper s P = ⟨s.last + 1, k0, P.ks.drop ((n + 1) / 2)⟩) := Mm.hid (by
      have h1 : Lf.half P.ks = (n + 1) / 2 := by unfold Lf.half; rw [← hn]
      unfold Lf.upper
      rw [h1, List.getD_eq_getElem?_getD, hk0]; rfl)
    clear k2 k3 k4 k5 hi hl ek he hn m4 m5 hPm e1 e2 hgt hN hk0 hst hgg hpg hpk hk02 hk0c
    go_enter Tryz.func55, Tryz.ntmps55
    go_wp2_with fail
    clear hW2 c0 c1 c2 f2 m6 m3
    refine wp_region_held_drew (S := fun w' => w'.cell? ⟨p, 2, none⟩ = some (.int .i64 ((s.last : Int) + 1)) ∧ w'.cell? ⟨gk, (n + 1) / 2, none⟩ = some (.string k0)) (by kernel_rfl) (HSC.out _ (Below.refl _ W2).drew) (fun hH => ?_)
    refine wpAnyH_take (i := 0) (oi := ?oz1q0) (v := ?vz1q0) ?hiz1q0 ?hsz1q0 ?hfz1q0 ?hrz1q0 ?hQz1q0 (Or.inl ⟨?hwz1q0, ?hyz1q0⟩) ?hSz1q0 ?restz1q0
    case hiz1q0 => (simp; rfl)
    case hsz1q0 => kernel_rfl
    case hfz1q0 => kernel_rfl
    case hrz1q0 => kernel_rfl
    case hQz1q0 => exact fun _ _ _ h => h
    case hwz1q0 => rfl
    case hyz1q0 => (intro wq hSq; (try dsimp only at hSq); go_simp; (try with_reducible rfl))
    case hSz1q0 => assumption
    simp only [Act.put, List.setIfInBounds_toArray, List.set_cons_zero, List.set_cons_succ]
    refine wpAnyH_take (i := 1) (oi := ?oz2q1) (v := ?vz2q1) ?hiz2q1 ?hsz2q1 ?hfz2q1 ?hrz2q1 ?hQz2q1 (Or.inl ⟨?hwz2q1, ?hyz2q1⟩) ?hSz2q1 ?restz2q1
    case hiz2q1 => (simp; rfl)
    case hsz2q1 => kernel_rfl
    case hfz2q1 => kernel_rfl
    case hrz2q1 => kernel_rfl
    case hQz2q1 => exact fun _ _ _ h => h
    case hwz2q1 => rfl
    case hyz2q1 => (intro wq hSq; (try dsimp only at hSq); go_simp; (try with_reducible rfl))
    case hSz2q1 => assumption
    simp only [Act.put, List.setIfInBounds_toArray, List.set_cons_zero, List.set_cons_succ]
    refine wpAnyH_take (i := 2) (oi := ?oz3q2) (v := ?vz3q2) ?hiz3q2 ?hsz3q2 ?hfz3q2 ?hrz3q2 ?hQz3q2 (Or.inl ⟨?hwz3q2, ?hyz3q2⟩) ?hSz3q2 ?restz3q2
    case hiz3q2 => (simp; rfl)
    case hsz3q2 => kernel_rfl
    case hfz3q2 => kernel_rfl
    case hrz3q2 => kernel_rfl
    case hQz3q2 => exact fun _ _ _ h => h
    case hwz3q2 => rfl
    case hyz3q2 => (intro wq hSq; (try dsimp only at hSq); go_simp; (try with_reducible rfl))
    case hSz3q2 => assumption
    simp only [Act.put, List.setIfInBounds_toArray, List.set_cons_zero, List.set_cons_succ]
    refine wpAnyH_take (i := 3) (oi := ?oz4q3) (v := ?vz4q3) ?hiz4q3 ?hsz4q3 ?hfz4q3 ?hrz4q3 ?hQz4q3 (Or.inl ⟨?hwz4q3, ?hyz4q3⟩) ?hSz4q3 ?restz4q3
    case hiz4q3 => (simp; rfl)
    case hsz4q3 => kernel_rfl
    case hfz4q3 => kernel_rfl
    case hrz4q3 => kernel_rfl
    case hQz4q3 => exact fun _ _ _ h => h
    case hwz4q3 => rfl
    case hyz4q3 => (intro wq hSq; (try dsimp only at hSq); go_simp; (try with_reducible rfl))
    case hSz4q3 => assumption
    simp only [Act.put, List.setIfInBounds_toArray, List.set_cons_zero, List.set_cons_succ]
    refine wpAnyH_take (i := 5) (oi := ?oz5q5) (v := ?vz5q5) ?hiz5q5 ?hsz5q5 ?hfz5q5 ?hrz5q5 ?hQz5q5 (Or.inl ⟨?hwz5q5, ?hyz5q5⟩) ?hSz5q5 ?restz5q5
    case hiz5q5 => (simp; rfl)
    case hsz5q5 => kernel_rfl
    case hfz5q5 => kernel_rfl
    case hrz5q5 => kernel_rfl
    case hQz5q5 => exact fun _ _ _ h => h
    case hwz5q5 => rfl
    case hyz5q5 => (intro wq hSq; (try dsimp only at hSq); go_simp; (try with_reducible rfl))
    case hSz5q5 => assumption
    simp only [Act.put, List.setIfInBounds_toArray, List.set_cons_zero, List.set_cons_succ]
    refine wpAnyH_take (i := 6) (oi := ?oz6q6) (v := ?vz6q6) ?hiz6q6 ?hsz6q6 ?hfz6q6 ?hrz6q6 ?hQz6q6 (Or.inl ⟨?hwz6q6, ?hyz6q6⟩) ?hSz6q6 ?restz6q6
    case hiz6q6 => (simp; rfl)
    case hsz6q6 => kernel_rfl
    case hfz6q6 => kernel_rfl
    case hrz6q6 => kernel_rfl
    case hQz6q6 => exact fun _ _ _ h => h
    case hwz6q6 => rfl
    case hyz6q6 => (intro wq hSq; (try dsimp only at hSq); go_simp; (try with_reducible rfl))
    case hSz6q6 => assumption
    simp only [Act.put, List.setIfInBounds_toArray, List.set_cons_zero, List.set_cons_succ]
    refine wpAnyH_take (i := 7) (oi := ?oz7q7) (v := ?vz7q7) ?hiz7q7 ?hsz7q7 ?hfz7q7 ?hrz7q7 ?hQz7q7 (Or.inl ⟨?hwz7q7, ?hyz7q7⟩) ?hSz7q7 ?restz7q7
    case hiz7q7 => (simp; rfl)
    case hsz7q7 => kernel_rfl
    case hfz7q7 => kernel_rfl
    case hrz7q7 => kernel_rfl
    case hQz7q7 => exact fun _ _ _ h => h
    case hwz7q7 => rfl
    case hyz7q7 => (intro wq hSq; (try dsimp only at hSq); go_simp; (try with_reducible rfl))
    case hSz7q7 => assumption
    simp only [Act.put, List.setIfInBounds_toArray, List.set_cons_zero, List.set_cons_succ]
    refine wpAnyH_take (i := 8) (oi := ?oz8q8) (v := ?vz8q8) ?hiz8q8 ?hsz8q8 ?hfz8q8 ?hrz8q8 ?hQz8q8 (Or.inl ⟨?hwz8q8, ?hyz8q8⟩) ?hSz8q8 ?restz8q8
    case hiz8q8 => (simp; rfl)
    case hsz8q8 => kernel_rfl
    case hfz8q8 => kernel_rfl
    case hrz8q8 => kernel_rfl
    case hQz8q8 => exact fun _ _ _ h => h
    case hwz8q8 => rfl
    case hyz8q8 => (intro wq hSq; (try dsimp only at hSq); go_simp; (try with_reducible rfl))
    case hSz8q8 => assumption
    simp only [Act.put, List.setIfInBounds_toArray, List.set_cons_zero, List.set_cons_succ]
    refine wpAnyH_take (i := 9) (oi := ?oz9q9) (v := ?vz9q9) ?hiz9q9 ?hsz9q9 ?hfz9q9 ?hrz9q9 ?hQz9q9 (Or.inl ⟨?hwz9q9, ?hyz9q9⟩) ?hSz9q9 ?restz9q9
    case hiz9q9 => (simp; rfl)
    case hsz9q9 => kernel_rfl
    case hfz9q9 => kernel_rfl
    case hrz9q9 => kernel_rfl
    case hQz9q9 => exact fun _ _ _ h => h
    case hwz9q9 => rfl
    case hyz9q9 => (intro wq hSq; (try dsimp only at hSq); go_simp; (try with_reducible rfl))
    case hSz9q9 => assumption
    simp only [Act.put, List.setIfInBounds_toArray, List.set_cons_zero, List.set_cons_succ]
    refine wpAnyH_take (i := 10) (oi := ?oz10q10) (v := ?vz10q10) ?hiz10q10 ?hsz10q10 ?hfz10q10 ?hrz10q10 ?hQz10q10 (Or.inl ⟨?hwz10q10, ?hyz10q10⟩) ?hSz10q10 ?restz10q10
    case hiz10q10 => (simp; rfl)
    case hsz10q10 => kernel_rfl
    case hfz10q10 => kernel_rfl
    case hrz10q10 => kernel_rfl
    case hQz10q10 => exact fun _ _ _ h => h
    case hwz10q10 => rfl
    case hyz10q10 => (intro wq hSq; (try dsimp only at hSq); go_simp; (try with_reducible rfl))
    case hSz10q10 => assumption
    simp only [Act.put, List.setIfInBounds_toArray, List.set_cons_zero, List.set_cons_succ]
    refine wpAnyH_take (i := 11) (oi := ?oz11q11) (v := ?vz11q11) ?hiz11q11 ?hsz11q11 ?hfz11q11 ?hrz11q11 ?hQz11q11 (Or.inl ⟨?hwz11q11, ?hyz11q11⟩) ?hSz11q11 ?restz11q11
    case hiz11q11 => (simp; rfl)
    case hsz11q11 => kernel_rfl
    case hfz11q11 => kernel_rfl
    case hrz11q11 => kernel_rfl
    case hQz11q11 => exact fun _ _ _ h => h
    case hwz11q11 => rfl
    case hyz11q11 => (intro wq hSq; (try dsimp only at hSq); go_simp; (try with_reducible rfl))
    case hSz11q11 => assumption
    simp only [Act.put, List.setIfInBounds_toArray, List.set_cons_zero, List.set_cons_succ]
    refine wpAnyH_take (i := 12) (oi := ?oz12q12) (v := ?vz12q12) ?hiz12q12 ?hsz12q12 ?hfz12q12 ?hrz12q12 ?hQz12q12 (Or.inl ⟨?hwz12q12, ?hyz12q12⟩) ?hSz12q12 ?restz12q12
    case hiz12q12 => (simp; rfl)
    case hsz12q12 => kernel_rfl
    case hfz12q12 => kernel_rfl
    case hrz12q12 => kernel_rfl
    case hQz12q12 => exact fun _ _ _ h => h
    case hwz12q12 => rfl
    case hyz12q12 => (intro wq hSq; (try dsimp only at hSq); go_simp; (try with_reducible rfl))
    case hSz12q12 => assumption
    simp only [Act.put, List.setIfInBounds_toArray, List.set_cons_zero, List.set_cons_succ]
    refine wpAnyH_take (i := 13) (oi := ?oz13q13) (v := ?vz13q13) ?hiz13q13 ?hsz13q13 ?hfz13q13 ?hrz13q13 ?hQz13q13 (Or.inl ⟨?hwz13q13, ?hyz13q13⟩) ?hSz13q13 ?restz13q13
    case hiz13q13 => (simp; rfl)
    case hsz13q13 => kernel_rfl
    case hfz13q13 => kernel_rfl
    case hrz13q13 => kernel_rfl
    case hQz13q13 => exact fun _ _ _ h => h
    case hwz13q13 => rfl
    case hyz13q13 => (intro wq hSq; (try dsimp only at hSq); go_simp; (try with_reducible rfl))
    case hSz13q13 => assumption
    simp only [Act.put, List.setIfInBounds_toArray, List.set_cons_zero, List.set_cons_succ]
    refine wpAnyH_take (i := 14) (oi := ?oz14q14) (v := ?vz14q14) ?hiz14q14 ?hsz14q14 ?hfz14q14 ?hrz14q14 ?hQz14q14 (Or.inl ⟨?hwz14q14, ?hyz14q14⟩) ?hSz14q14 ?restz14q14
    case hiz14q14 => (simp; rfl)
    case hsz14q14 => kernel_rfl
    case hfz14q14 => kernel_rfl
    case hrz14q14 => kernel_rfl
    case hQz14q14 => exact fun _ _ _ h => h
    case hwz14q14 => rfl
    case hyz14q14 => (intro wq hSq; (try dsimp only at hSq); go_simp; (try with_reducible rfl))
    case hSz14q14 => assumption
    simp only [Act.put, List.setIfInBounds_toArray, List.set_cons_zero, List.set_cons_succ]
    refine wpAnyH_ready (rs := [4, 15]) (by kernel_rfl) (by simp) ?_
    refine AllReadyH.cons (o := ?oz15q) ?hz15q (fun K hK => ?rz15q) (AllReadyH.cons (o := ?oz16q) ?hz16q (fun K hK => ?rz16q) AllReadyH.nil)
    case hz15q => (simp; rfl)
    case hz16q => (simp; rfl)
    case rz15q =>
      have hc5 : Hid (W2.drew.cell? ⟨p, 1, none⟩ = some (.slice (some ⟨g, 0, none⟩) N c)) := Mm.hid ((Mm.belAt (Below.refl _ W2).drew _ HM2.out.lt).trans HC1.out)
      have hc6 := hc5.out
      go_simp
      clear hc5 hc6
      refine hK.out _ _ (HSC.out _ (Below.refl _ W2).drew) (fun hHz17q => ?_)
      clear hK K
      refine wpAnyH_ready (rs := [15]) (by kernel_rfl) (by simp) ?_
      refine AllReadyH.cons (o := ?oz18q) ?hz18q (fun K hK => ?rz18q) AllReadyH.nil
      case hz18q => (simp; rfl)
      case rz18q =>
        go_simp
        refine HCL.out.mono ?_
        rintro e w3 ⟨v2, rfl, hown2, hb2⟩
        have HB3 : Hid (Below W2.heap.size W2 w3) := Mm.hid ((Below.refl _ W2).drew.trans hb2)
        obtain ⟨q2, cq2, ev2, _⟩ := hown2.shape
        obtain ⟨L2, hL2⟩ : ∃ L2, L2 = (Lf.strs (Lf.upper s P).ks).length := ⟨_, rfl⟩
        rw [← hL2] at ev2
        subst ev2
        have HO2 : Hid (Mm.Own w3 W2.heap.size 9 (.slice q2 L2 cq2) (Lf.strs (Lf.upper s P).ks)) := Mm.hid hown2
        clear hown2 hb2 hL2
        go_wp2_with fail
        refine hK.out _ _ (HSC.out _ HB3.out) (fun hHz19q => ?_)
        clear hK K
        refine wpAnyH_take (i := 16) (oi := ?oz20q16) (v := ?vz20q16) ?hiz20q16 ?hsz20q16 ?hfz20q16 ?hrz20q16 ?hQz20q16 (Or.inl ⟨?hwz20q16, ?hyz20q16⟩) ?hSz20q16 ?restz20q16
        case hiz20q16 => (simp; rfl)
        case hsz20q16 => kernel_rfl
        case hfz20q16 => kernel_rfl
        case hrz20q16 => kernel_rfl
        case hQz20q16 => exact fun _ _ _ h => h
        case hwz20q16 => rfl
        case hyz20q16 => (intro wq hSq; (try dsimp only at hSq); go_simp; (try with_reducible rfl))
        case hSz20q16 => assumption
        simp only [Act.put, List.setIfInBounds_toArray, List.set_cons_zero, List.set_cons_succ]
        refine wpAnyH_ready (rs := [17]) (by kernel_rfl) (by simp) ?_
        refine AllReadyH.cons (o := ?oz21q) ?hz21q (fun K hK => ?rz21q) AllReadyH.nil
        case hz21q => (simp; rfl)
        case rz21q =>
          go_simp
          refine hK.out _ _ (HSC.out _ (HB3.out.alloc HB3.out.size _)) (fun hHz22q => ?_)
          clear hK K
          refine wpAnyH_ready (rs := [18]) (by kernel_rfl) (by simp) ?_
          refine AllReadyH.cons (o := ?oz23q) ?hz23q (fun K hK => ?rz23q) AllReadyH.nil
          case hz23q => (simp; rfl)
          case rz23q =>
            go_simp
            refine hK.out _ _ (HSC.out _ ((HB3.out.alloc HB3.out.size _).alloc (Nat.le_trans HB3.out.size (by simp)) _)) (fun hHz24q => ?_)
            clear hK K
            refine wpAnyH_ready (rs := [19]) (by kernel_rfl) (by simp) ?_
            refine AllReadyH.cons (o := ?oz25q) ?hz25q (fun K hK => ?rz25q) AllReadyH.nil
            case hz25q => (simp; rfl)
            case rz25q =>
              go_simp
              have hin := insP_any (some ⟨g, 0, none⟩) N c (l + 1) (Lf.ptrs bl s.pgs) (.pointer (some ⟨w3.heap.size, 0, none⟩)) (w3.heap.size + 1) h ((w3.alloc (.cells #[.int .i64 ((s.last : Int) + 1), .string k0, .slice q2 L2 cq2] 96)).alloc (.cells #[.pointer (some ⟨w3.heap.size, 0, none⟩)] 94)) (Mm.hid (HM2.out.row.below ((HB3.out.alloc HB3.out.size _).alloc (Nat.le_trans HB3.out.size (by simp)) _))) (Mm.hid (by rw [Lf.ptrs_len]; exact HN.out.symm)) hlN rfl (Mm.hid (Lf.ptrs_one _ _)) (Mm.hid (Mm.newAt _ _ (by simp))) (Mm.hid (fun g' hg' => by injection hg' with hg'; injection hg' with hg'; have h1 := (HM2.out.row.lt (g := g) rfl).1; have h2 := HB3.out.size; omega)) (by omega) (Nat.le_trans HH.out (Nat.le_trans HB3.out.size (by simp; omega)))
              rw [← HWR.out] at hin
              have HIN := Mm.hid hin
              clear hin
              with_reducible refine HIN.out.mono ?_
              rintro e w6 ⟨v6, rfl, hown6, hg6, hl6⟩
              obtain ⟨q6, cq6, ev6, _⟩ := hown6.shape
              obtain ⟨L6, hL6⟩ : ∃ L6, L6 = ((Lf.ptrs bl s.pgs).take (l + 1) ++ .pointer (some ⟨w3.heap.size, 0, none⟩) :: (Lf.ptrs bl s.pgs).drop (l + 1)).length := ⟨_, rfl⟩
              rw [← hL6] at ev6
              subst ev6
              clear hL6
              have HO6 := Mm.hid hown6
              have HG6 : Hid (((w3.alloc (Lf.pageObj (Lf.upper s P) (.slice q2 L2 cq2))).alloc (Lf.ptrObj w3.heap.size)).grownBy w6 (Value.slice (some ⟨g, 0, none⟩) N c).ownBlock) := Mm.hid (by rw [show Lf.pageObj (Lf.upper s P) (.slice q2 L2 cq2) = .cells #[.int .i64 ((s.last : Int) + 1), .string k0, .slice q2 L2 cq2] 96 from by rw [HKU.out]; rfl]; exact hg6)
              have HL6 : Hid ((Value.slice q6 L6 cq6).ownBlock = (Value.slice (some ⟨g, 0, none⟩) N c).ownBlock ∨ ∀ g', (Value.slice q6 L6 cq6).ownBlock = some g' → w3.heap.size + 2 ≤ g') := Mm.hid (by
                rcases hl6 with h1 | h1
                · exact Or.inl h1
                · exact Or.inr (fun g' hg' => by have := h1 g' hg'; simp at this; omega))
              have HS6 : Hid (∀ b, b < W2.heap.size → b ≠ g → w6.heap[b]? = W2.heap[b]?) := Mm.hid (fun b hb hne => (hg6.block b (Nat.lt_of_lt_of_le hb (Nat.le_trans HB3.out.size (by simp; omega))) (fun e => hne (Option.some.inj e))).trans (((HB3.out.alloc HB3.out.size _).alloc (Nat.le_trans HB3.out.size (by simp)) _).block b hb))
              clear hown6 hg6 hl6
              go_wp2_with fail
              refine hK.out _ _ (HK6.out w6 HS6.out) (fun hHz26q => ?_)
              clear hK K
              refine wpAnyH_take (i := 20) (oi := ?oz27q20) (v := ?vz27q20) ?hiz27q20 ?hsz27q20 ?hfz27q20 ?hrz27q20 ?hQz27q20 (Or.inl ⟨?hwz27q20, ?hyz27q20⟩) ?hSz27q20 ?restz27q20
              case hiz27q20 => (simp; rfl)
              case hsz27q20 => kernel_rfl
              case hfz27q20 => kernel_rfl
              case hrz27q20 => kernel_rfl
              case hQz27q20 => exact fun _ _ _ h => h
              case hwz27q20 => rfl
              case hyz27q20 => (intro wq hSq; (try dsimp only at hSq); go_simp; (try with_reducible rfl))
              case hSz27q20 => assumption
              simp only [Act.put, List.setIfInBounds_toArray, List.set_cons_zero, List.set_cons_succ]
              refine wpAnyH_take (i := 21) (oi := ?oz28q21) (v := ?vz28q21) ?hiz28q21 ?hsz28q21 ?hfz28q21 ?hrz28q21 ?hQz28q21 (Or.inl ⟨?hwz28q21, ?hyz28q21⟩) ?hSz28q21 ?restz28q21
              case hiz28q21 => (simp; rfl)
              case hsz28q21 => kernel_rfl
              case hfz28q21 => kernel_rfl
              case hrz28q21 => kernel_rfl
              case hQz28q21 => exact fun _ _ _ h => h
              case hwz28q21 => rfl
              case hyz28q21 => (intro wq hSq; (try dsimp only at hSq); go_simp; (try with_reducible rfl))
              case hSz28q21 => assumption
              simp only [Act.put, List.setIfInBounds_toArray, List.set_cons_zero, List.set_cons_succ]
              refine wpAnyH_ready (rs := [22]) (by kernel_rfl) (by simp) ?_
              refine AllReadyH.cons (o := ?oz29q) ?hz29q (fun K hK => ?rz29q) AllReadyH.nil
              case hz29q => (simp; rfl)
              case rz29q =>
                have hW6 : w6.heap[p]? = some (.cells #[.int .i64 (s.fan : Int), .slice (some ⟨g, 0, none⟩) N c, .int .i64 ((s.last + 1 : Nat) : Int), .int .i64 (s.count : Int)] 99 (0, 0)) := (HS6.out p HM2.out.lt HPG.out).trans HM2.out.cell
                have hcT : w6.cell? ⟨p, 1, none⟩ = some (.slice (some ⟨g, 0, none⟩) N c) := Mm.cellOf hW6 rfl
                have hfz : w6.frozen? ⟨p, 1, none⟩ = false := by simp [World.frozen?, hW6]
                go_simp
                clear hcT hfz hW6
                refine hK.out _ _ (HK7.out w6 (.slice q6 L6 cq6) HS6.out) (fun hHz30q => ?_)
                clear hK K
                refine wpAnyH_done (by kernel_rfl) ?_ _
                obtain ⟨tag7, bl7, kv7, hM7, hE7, hb7, hk7⟩ := HM2.out.insPage (P2 := Lf.upper s P) HE.out HNW.out HH.out HB3.out HO2.out HG6.out (by rw [← HLL.out]; exact HO6.out) HL6.out
                obtain ⟨W7, hW7⟩ : ∃ W7, w6.setCell ⟨p, 1, none⟩ (.slice q6 L6 cq6) = W7 := ⟨_, rfl⟩
                rw [hW7] at hM7 hE7 ⊢
                have HX7 : Hid (W7.heap[w.heap.size]? = W2.heap[w.heap.size]?) := Mm.hid (hE7.block _ HBX.out.2 HBT.out)
                have HM7 := Mm.hid hM7
                have HE7 := Mm.hid hE7
                have HK7K : Hid (bl7 P.n = bl P.n ∧ kv7 P.n = kv P.n) := Mm.hid ⟨hb7, hk7⟩
                clear hM7 hE7 hW7 HS6 HL6 HG6 HO6 HO2 HB3 hb7 hk7
                have hpg := (HM7.out.pg P (by simp)).cell
                rw [HK7K.out.1, HK7K.out.2] at hpg
                have m6 : W7.cell? ⟨bl P.n, 2, none⟩ = some (.slice (some ⟨gk, 0, none⟩) n c') := by rw [← HEK.out]; exact Mm.cellOf hpg rfl
                have hdl := delS_any gk n c' ((n + 1) / 2) n (Lf.strs P.ks) h W7 (Mm.hid (by have h1 := (HM7.out.pg P (by simp)).own; rw [HK7K.out.2, HEK.out] at h1; exact h1)) hhn (Nat.le_refl _) (Mm.hid (Lf.strs_one _))
                rw [← HND.out] at hdl
                simp only [Nat.sub_self, Nat.add_zero] at hdl
                have HDL := Mm.hid hdl
                clear hpg hdl
                go_wp2_with fail
                with_reducible refine HDL.out.mono ?_
                rintro e w8 ⟨rfl, hown8, hg8⟩
                obtain ⟨hM9, hE9⟩ := HM7.out.putKeys (P := P) (L := L) (R := Lf.upper s P :: R) rfl HND7.out (w1 := w8) (v := .slice (some ⟨gk, 0, none⟩) ((n + 1) / 2) c') (ks := (Lf.lower P).ks) (by rw [HK7K.out.2, HEK.out]; exact hg8) (by rw [HLK.out]; exact hown8) (Or.inl (by rw [HK7K.out.2, HEK.out]; rfl))
                rw [HK7K.out.1] at hM9 hE9
                have hp8 : w8.heap[bl P.n]? = some (.cells #[.int .i64 (P.n : Int), .string P.b, .slice (some ⟨gk, 0, none⟩) n c'] 96 (0, 0)) := by
                  have h1 := (HM7.out.pg P (by simp)).cell
                  have h2 := (HM7.out.pg P (by simp)).tb
                  rw [HK7K.out.1, HK7K.out.2, HEK.out] at h1
                  rw [HK7K.out.1] at h2
                  have h3 := (HM7.out.pg P (by simp)).tk gk (by rw [HK7K.out.2, HEK.out]; rfl)
                  exact (hg8.block _ (Mm.heapLt h1) (fun e => by have e' := Option.some.inj e; rw [e', h3] at h2; cases h2)).trans h1
                have c8 : w8.cell? ⟨bl P.n, 2, none⟩ = some (.slice (some ⟨gk, 0, none⟩) n c') := Mm.cellOf hp8 rfl
                have f8 : w8.frozen? ⟨bl P.n, 2, none⟩ = false := by simp [World.frozen?, hp8]
                obtain ⟨W9, hW9⟩ : ∃ W9, w8.setCell ⟨bl P.n, 2, none⟩ (.slice (some ⟨gk, 0, none⟩) ((n + 1) / 2) c') = W9 := ⟨_, rfl⟩
                rw [hW9] at hM9 hE9
                have e4 : W9.cell? ⟨bl P.n, 0, none⟩ = some (.int .i64 (P.n : Int)) := by
                  rw [← hW9, World.cell?_setCell_other _ _ _ _ (by simp)]; exact Mm.cellOf hp8 rfl
                have e5 : W9.cell? ⟨p, 2, none⟩ = some (.int .i64 ((s.last : Int) + 1)) := hM9.c2
                have hbx : W9.heap[w.heap.size]? = some (.cells #[.int .i64 0, .int .i64 0] 38 (0, 0)) := (hE9.block _ (Nat.lt_of_lt_of_le HBX.out.2 HE7.out.size) (HE7.out.tags _ HBX.out.2 HBT.out)).trans (HX7.out.trans HBX.out.1)
                have e6 : W9.cell? ⟨w.heap.size, 0, none⟩ = some (.int .i64 0) := Mm.cellOf hbx rfl
                have e7 : W9.cell? ⟨w.heap.size, 1, none⟩ = some (.int .i64 0) := Mm.cellOf hbx rfl
                have f6 : ∀ i, W9.frozen? ⟨w.heap.size, i, none⟩ = false := fun i => by simp [World.frozen?, hbx]
                have f60 := f6 0
                have f61 := f6 1
                have HM9 := Mm.hid hM9
                have HE9 : Hid (Lf.Ev tag _ w W9) := Mm.hid (HE2.out.trans (HE7.out.trans hE9))
                have HBX9 := Mm.hid hbx
                have HBT9 : Hid (_ = none) := Mm.hid (hE9.tags _ (Nat.lt_of_lt_of_le HBX.out.2 HE7.out.size) (HE7.out.tags _ HBX.out.2 HBT.out))
                clear hM9 hE9 hp8 hown8 hg8 hbx f6 m6
                go_wp2_with fail
                clear hW9 c8 f8
                go_region
                obtain ⟨W10, hW10⟩ : ∃ W10, ((W9.setCell ⟨w.heap.size, 0, none⟩ (.int .i64 (P.n : Int))).setCell ⟨w.heap.size, 1, none⟩ (.int .i64 ((s.last : Int) + 1))).drew = W10 := ⟨_, rfl⟩
                have hb10 : W10.heap[w.heap.size]? = some (.cells #[.int .i64 (P.n : Int), .int .i64 ((s.last : Int) + 1)] 38 (0, 0)) := by rw [← hW10]; exact Lf.box2 HBX9.out
                have ea : W10.cell? ⟨w.heap.size, 0, none⟩ = some (.int .i64 (P.n : Int)) := Mm.cellOf hb10 rfl
                have eb : W10.cell? ⟨w.heap.size, 1, none⟩ = some (.int .i64 ((s.last : Int) + 1)) := Mm.cellOf hb10 rfl
                have HM10 := Mm.hid (((HM9.out.set HBT9.out 0 (.int .i64 (P.n : Int))).set HBT9.out 1 (.int .i64 ((s.last : Int) + 1))).drew)
                have HE10 := Mm.hid (((HE9.out.set (Nat.le_refl _) 0 (.int .i64 (P.n : Int))).set (Nat.le_refl _) 1 (.int .i64 ((s.last : Int) + 1))).drew)
                rw [hW10] at HM10 HE10 ⊢
                clear hW10 hb10 e4 e5 e6 e7 f60 f61
                go_wp2_with fail
                exact bodyPost_ret (v := .agg #[.int .i64 (P.n : Int), .int .i64 ((s.last : Int) + 1)]) (by simp [results, Tryz.results55, go_sem, ea, eb]) rfl ⟨rfl, _, _, _, _, HM10.out, HE10.out⟩
    case rz16q =>
      go_simp
      refine HCL.out.mono ?_
      rintro e w3 ⟨v2, rfl, hown2, hb2⟩
      have HB3 : Hid (Below W2.heap.size W2 w3) := Mm.hid ((Below.refl _ W2).drew.trans hb2)
      obtain ⟨q2, cq2, ev2, _⟩ := hown2.shape
      obtain ⟨L2, hL2⟩ : ∃ L2, L2 = (Lf.strs (Lf.upper s P).ks).length := ⟨_, rfl⟩
      rw [← hL2] at ev2
      subst ev2
      have HO2 : Hid (Mm.Own w3 W2.heap.size 9 (.slice q2 L2 cq2) (Lf.strs (Lf.upper s P).ks)) := Mm.hid hown2
      clear hown2 hb2 hL2
      go_wp2_with fail
      refine hK.out _ _ (HSC.out _ HB3.out) (fun hHz31q => ?_)
      clear hK K
      refine wpAnyH_take (i := 16) (oi := ?oz32q16) (v := ?vz32q16) ?hiz32q16 ?hsz32q16 ?hfz32q16 ?hrz32q16 ?hQz32q16 (Or.inl ⟨?hwz32q16, ?hyz32q16⟩) ?hSz32q16 ?restz32q16
      case hiz32q16 => (simp; rfl)
      case hsz32q16 => kernel_rfl
      case hfz32q16 => kernel_rfl
      case hrz32q16 => kernel_rfl
      case hQz32q16 => exact fun _ _ _ h => h
      case hwz32q16 => rfl
      case hyz32q16 => (intro wq hSq; (try dsimp only at hSq); go_simp; (try with_reducible rfl))
      case hSz32q16 => assumption
      simp only [Act.put, List.setIfInBounds_toArray, List.set_cons_zero, List.set_cons_succ]
      refine wpAnyH_ready (rs := [4, 17]) (by kernel_rfl) (by simp) ?_
      refine AllReadyH.cons (o := ?oz33q) ?hz33q (fun K hK => ?rz33q) (AllReadyH.cons (o := ?oz34q) ?hz34q (fun K hK => ?rz34q) AllReadyH.nil)
      case hz33q => (simp; rfl)
      case hz34q => (simp; rfl)
      case rz33q =>
        have hc5 : Hid (w3.cell? ⟨p, 1, none⟩ = some (.slice (some ⟨g, 0, none⟩) N c)) := Mm.hid ((Mm.belAt HB3.out _ HM2.out.lt).trans HC1.out)
        have hc6 := hc5.out
        go_simp
        clear hc5 hc6
        refine hK.out _ _ (HSC.out _ HB3.out) (fun hHz35q => ?_)
        clear hK K
        refine wpAnyH_ready (rs := [17]) (by kernel_rfl) (by simp) ?_
        refine AllReadyH.cons (o := ?oz36q) ?hz36q (fun K hK => ?rz36q) AllReadyH.nil
        case hz36q => (simp; rfl)
        case rz36q =>
          go_simp
          refine hK.out _ _ (HSC.out _ (HB3.out.alloc HB3.out.size _)) (fun hHz37q => ?_)
          clear hK K
          refine wpAnyH_ready (rs := [18]) (by kernel_rfl) (by simp) ?_
          refine AllReadyH.cons (o := ?oz38q) ?hz38q (fun K hK => ?rz38q) AllReadyH.nil
          case hz38q => (simp; rfl)
          case rz38q =>
            go_simp
            refine hK.out _ _ (HSC.out _ ((HB3.out.alloc HB3.out.size _).alloc (Nat.le_trans HB3.out.size (by simp)) _)) (fun hHz39q => ?_)
            clear hK K
            refine wpAnyH_ready (rs := [19]) (by kernel_rfl) (by simp) ?_
            refine AllReadyH.cons (o := ?oz40q) ?hz40q (fun K hK => ?rz40q) AllReadyH.nil
            case hz40q => (simp; rfl)
            case rz40q =>
              go_simp
              have hin := insP_any (some ⟨g, 0, none⟩) N c (l + 1) (Lf.ptrs bl s.pgs) (.pointer (some ⟨w3.heap.size, 0, none⟩)) (w3.heap.size + 1) h ((w3.alloc (.cells #[.int .i64 ((s.last : Int) + 1), .string k0, .slice q2 L2 cq2] 96)).alloc (.cells #[.pointer (some ⟨w3.heap.size, 0, none⟩)] 94)) (Mm.hid (HM2.out.row.below ((HB3.out.alloc HB3.out.size _).alloc (Nat.le_trans HB3.out.size (by simp)) _))) (Mm.hid (by rw [Lf.ptrs_len]; exact HN.out.symm)) hlN rfl (Mm.hid (Lf.ptrs_one _ _)) (Mm.hid (Mm.newAt _ _ (by simp))) (Mm.hid (fun g' hg' => by injection hg' with hg'; injection hg' with hg'; have h1 := (HM2.out.row.lt (g := g) rfl).1; have h2 := HB3.out.size; omega)) (by omega) (Nat.le_trans HH.out (Nat.le_trans HB3.out.size (by simp; omega)))
              rw [← HWR.out] at hin
              have HIN := Mm.hid hin
              clear hin
              with_reducible refine HIN.out.mono ?_
              rintro e w6 ⟨v6, rfl, hown6, hg6, hl6⟩
              obtain ⟨q6, cq6, ev6, _⟩ := hown6.shape
              obtain ⟨L6, hL6⟩ : ∃ L6, L6 = ((Lf.ptrs bl s.pgs).take (l + 1) ++ .pointer (some ⟨w3.heap.size, 0, none⟩) :: (Lf.ptrs bl s.pgs).drop (l + 1)).length := ⟨_, rfl⟩
              rw [← hL6] at ev6
              subst ev6
              clear hL6
              have HO6 := Mm.hid hown6
              have HG6 : Hid (((w3.alloc (Lf.pageObj (Lf.upper s P) (.slice q2 L2 cq2))).alloc (Lf.ptrObj w3.heap.size)).grownBy w6 (Value.slice (some ⟨g, 0, none⟩) N c).ownBlock) := Mm.hid (by rw [show Lf.pageObj (Lf.upper s P) (.slice q2 L2 cq2) = .cells #[.int .i64 ((s.last : Int) + 1), .string k0, .slice q2 L2 cq2] 96 from by rw [HKU.out]; rfl]; exact hg6)
              have HL6 : Hid ((Value.slice q6 L6 cq6).ownBlock = (Value.slice (some ⟨g, 0, none⟩) N c).ownBlock ∨ ∀ g', (Value.slice q6 L6 cq6).ownBlock = some g' → w3.heap.size + 2 ≤ g') := Mm.hid (by
                rcases hl6 with h1 | h1
                · exact Or.inl h1
                · exact Or.inr (fun g' hg' => by have := h1 g' hg'; simp at this; omega))
              have HS6 : Hid (∀ b, b < W2.heap.size → b ≠ g → w6.heap[b]? = W2.heap[b]?) := Mm.hid (fun b hb hne => (hg6.block b (Nat.lt_of_lt_of_le hb (Nat.le_trans HB3.out.size (by simp; omega))) (fun e => hne (Option.some.inj e))).trans (((HB3.out.alloc HB3.out.size _).alloc (Nat.le_trans HB3.out.size (by simp)) _).block b hb))
              clear hown6 hg6 hl6
              go_wp2_with fail
              refine hK.out _ _ (HK6.out w6 HS6.out) (fun hHz41q => ?_)
              clear hK K
              refine wpAnyH_take (i := 20) (oi := ?oz42q20) (v := ?vz42q20) ?hiz42q20 ?hsz42q20 ?hfz42q20 ?hrz42q20 ?hQz42q20 (Or.inl ⟨?hwz42q20, ?hyz42q20⟩) ?hSz42q20 ?restz42q20
              case hiz42q20 => (simp; rfl)
              case hsz42q20 => kernel_rfl
              case hfz42q20 => kernel_rfl
              case hrz42q20 => kernel_rfl
              case hQz42q20 => exact fun _ _ _ h => h
              case hwz42q20 => rfl
              case hyz42q20 => (intro wq hSq; (try dsimp only at hSq); go_simp; (try with_reducible rfl))
              case hSz42q20 => assumption
              simp only [Act.put, List.setIfInBounds_toArray, List.set_cons_zero, List.set_cons_succ]
              refine wpAnyH_take (i := 21) (oi := ?oz43q21) (v := ?vz43q21) ?hiz43q21 ?hsz43q21 ?hfz43q21 ?hrz43q21 ?hQz43q21 (Or.inl ⟨?hwz43q21, ?hyz43q21⟩) ?hSz43q21 ?restz43q21
              case hiz43q21 => (simp; rfl)
              case hsz43q21 => kernel_rfl
              case hfz43q21 => kernel_rfl
              case hrz43q21 => kernel_rfl
              case hQz43q21 => exact fun _ _ _ h => h
              case hwz43q21 => rfl
              case hyz43q21 => (intro wq hSq; (try dsimp only at hSq); go_simp; (try with_reducible rfl))
              case hSz43q21 => assumption
              simp only [Act.put, List.setIfInBounds_toArray, List.set_cons_zero, List.set_cons_succ]
              refine wpAnyH_ready (rs := [22]) (by kernel_rfl) (by simp) ?_
              refine AllReadyH.cons (o := ?oz44q) ?hz44q (fun K hK => ?rz44q) AllReadyH.nil
              case hz44q => (simp; rfl)
              case rz44q =>
                have hW6 : w6.heap[p]? = some (.cells #[.int .i64 (s.fan : Int), .slice (some ⟨g, 0, none⟩) N c, .int .i64 ((s.last + 1 : Nat) : Int), .int .i64 (s.count : Int)] 99 (0, 0)) := (HS6.out p HM2.out.lt HPG.out).trans HM2.out.cell
                have hcT : w6.cell? ⟨p, 1, none⟩ = some (.slice (some ⟨g, 0, none⟩) N c) := Mm.cellOf hW6 rfl
                have hfz : w6.frozen? ⟨p, 1, none⟩ = false := by simp [World.frozen?, hW6]
                go_simp
                clear hcT hfz hW6
                refine hK.out _ _ (HK7.out w6 (.slice q6 L6 cq6) HS6.out) (fun hHz45q => ?_)
                clear hK K
                refine wpAnyH_done (by kernel_rfl) ?_ _
                obtain ⟨tag7, bl7, kv7, hM7, hE7, hb7, hk7⟩ := HM2.out.insPage (P2 := Lf.upper s P) HE.out HNW.out HH.out HB3.out HO2.out HG6.out (by rw [← HLL.out]; exact HO6.out) HL6.out
                obtain ⟨W7, hW7⟩ : ∃ W7, w6.setCell ⟨p, 1, none⟩ (.slice q6 L6 cq6) = W7 := ⟨_, rfl⟩
                rw [hW7] at hM7 hE7 ⊢
                have HX7 : Hid (W7.heap[w.heap.size]? = W2.heap[w.heap.size]?) := Mm.hid (hE7.block _ HBX.out.2 HBT.out)
                have HM7 := Mm.hid hM7
                have HE7 := Mm.hid hE7
                have HK7K : Hid (bl7 P.n = bl P.n ∧ kv7 P.n = kv P.n) := Mm.hid ⟨hb7, hk7⟩
                clear hM7 hE7 hW7 HS6 HL6 HG6 HO6 HO2 HB3 hb7 hk7
                have hpg := (HM7.out.pg P (by simp)).cell
                rw [HK7K.out.1, HK7K.out.2] at hpg
                have m6 : W7.cell? ⟨bl P.n, 2, none⟩ = some (.slice (some ⟨gk, 0, none⟩) n c') := by rw [← HEK.out]; exact Mm.cellOf hpg rfl
                have hdl := delS_any gk n c' ((n + 1) / 2) n (Lf.strs P.ks) h W7 (Mm.hid (by have h1 := (HM7.out.pg P (by simp)).own; rw [HK7K.out.2, HEK.out] at h1; exact h1)) hhn (Nat.le_refl _) (Mm.hid (Lf.strs_one _))
                rw [← HND.out] at hdl
                simp only [Nat.sub_self, Nat.add_zero] at hdl
                have HDL := Mm.hid hdl
                clear hpg hdl
                go_wp2_with fail
                with_reducible refine HDL.out.mono ?_
                rintro e w8 ⟨rfl, hown8, hg8⟩
                obtain ⟨hM9, hE9⟩ := HM7.out.putKeys (P := P) (L := L) (R := Lf.upper s P :: R) rfl HND7.out (w1 := w8) (v := .slice (some ⟨gk, 0, none⟩) ((n + 1) / 2) c') (ks := (Lf.lower P).ks) (by rw [HK7K.out.2, HEK.out]; exact hg8) (by rw [HLK.out]; exact hown8) (Or.inl (by rw [HK7K.out.2, HEK.out]; rfl))
                rw [HK7K.out.1] at hM9 hE9
                have hp8 : w8.heap[bl P.n]? = some (.cells #[.int .i64 (P.n : Int), .string P.b, .slice (some ⟨gk, 0, none⟩) n c'] 96 (0, 0)) := by
                  have h1 := (HM7.out.pg P (by simp)).cell
                  have h2 := (HM7.out.pg P (by simp)).tb
                  rw [HK7K.out.1, HK7K.out.2, HEK.out] at h1
                  rw [HK7K.out.1] at h2
                  have h3 := (HM7.out.pg P (by simp)).tk gk (by rw [HK7K.out.2, HEK.out]; rfl)
                  exact (hg8.block _ (Mm.heapLt h1) (fun e => by have e' := Option.some.inj e; rw [e', h3] at h2; cases h2)).trans h1
                have c8 : w8.cell? ⟨bl P.n, 2, none⟩ = some (.slice (some ⟨gk, 0, none⟩) n c') := Mm.cellOf hp8 rfl
                have f8 : w8.frozen? ⟨bl P.n, 2, none⟩ = false := by simp [World.frozen?, hp8]
                obtain ⟨W9, hW9⟩ : ∃ W9, w8.setCell ⟨bl P.n, 2, none⟩ (.slice (some ⟨gk, 0, none⟩) ((n + 1) / 2) c') = W9 := ⟨_, rfl⟩
                rw [hW9] at hM9 hE9
                have e4 : W9.cell? ⟨bl P.n, 0, none⟩ = some (.int .i64 (P.n : Int)) := by
                  rw [← hW9, World.cell?_setCell_other _ _ _ _ (by simp)]; exact Mm.cellOf hp8 rfl
                have e5 : W9.cell? ⟨p, 2, none⟩ = some (.int .i64 ((s.last : Int) + 1)) := hM9.c2
                have hbx : W9.heap[w.heap.size]? = some (.cells #[.int .i64 0, .int .i64 0] 38 (0, 0)) := (hE9.block _ (Nat.lt_of_lt_of_le HBX.out.2 HE7.out.size) (HE7.out.tags _ HBX.out.2 HBT.out)).trans (HX7.out.trans HBX.out.1)
                have e6 : W9.cell? ⟨w.heap.size, 0, none⟩ = some (.int .i64 0) := Mm.cellOf hbx rfl
                have e7 : W9.cell? ⟨w.heap.size, 1, none⟩ = some (.int .i64 0) := Mm.cellOf hbx rfl
                have f6 : ∀ i, W9.frozen? ⟨w.heap.size, i, none⟩ = false := fun i => by simp [World.frozen?, hbx]
                have f60 := f6 0
                have f61 := f6 1
                have HM9 := Mm.hid hM9
                have HE9 : Hid (Lf.Ev tag _ w W9) := Mm.hid (HE2.out.trans (HE7.out.trans hE9))
                have HBX9 := Mm.hid hbx
                have HBT9 : Hid (_ = none) := Mm.hid (hE9.tags _ (Nat.lt_of_lt_of_le HBX.out.2 HE7.out.size) (HE7.out.tags _ HBX.out.2 HBT.out))
                clear hM9 hE9 hp8 hown8 hg8 hbx f6 m6
                go_wp2_with fail
                clear hW9 c8 f8
                go_region
                obtain ⟨W10, hW10⟩ : ∃ W10, ((W9.setCell ⟨w.heap.size, 0, none⟩ (.int .i64 (P.n : Int))).setCell ⟨w.heap.size, 1, none⟩ (.int .i64 ((s.last : Int) + 1))).drew = W10 := ⟨_, rfl⟩
                have hb10 : W10.heap[w.heap.size]? = some (.cells #[.int .i64 (P.n : Int), .int .i64 ((s.last : Int) + 1)] 38 (0, 0)) := by rw [← hW10]; exact Lf.box2 HBX9.out
                have ea : W10.cell? ⟨w.heap.size, 0, none⟩ = some (.int .i64 (P.n : Int)) := Mm.cellOf hb10 rfl
                have eb : W10.cell? ⟨w.heap.size, 1, none⟩ = some (.int .i64 ((s.last : Int) + 1)) := Mm.cellOf hb10 rfl
                have HM10 := Mm.hid (((HM9.out.set HBT9.out 0 (.int .i64 (P.n : Int))).set HBT9.out 1 (.int .i64 ((s.last : Int) + 1))).drew)
                have HE10 := Mm.hid (((HE9.out.set (Nat.le_refl _) 0 (.int .i64 (P.n : Int))).set (Nat.le_refl _) 1 (.int .i64 ((s.last : Int) + 1))).drew)
                rw [hW10] at HM10 HE10 ⊢
                clear hW10 hb10 e4 e5 e6 e7 f60 f61
                go_wp2_with fail
                exact bodyPost_ret (v := .agg #[.int .i64 (P.n : Int), .int .i64 ((s.last : Int) + 1)]) (by simp [results, Tryz.results55, go_sem, ea, eb]) rfl ⟨rfl, _, _, _, _, HM10.out, HE10.out⟩
      case rz34q =>
        go_simp
        refine hK.out _ _ (HSC.out _ (HB3.out.alloc HB3.out.size _)) (fun hHz46q => ?_)
        clear hK K
        refine wpAnyH_ready (rs := [4, 18]) (by kernel_rfl) (by simp) ?_
        refine AllReadyH.cons (o := ?oz47q) ?hz47q (fun K hK => ?rz47q) (AllReadyH.cons (o := ?oz48q) ?hz48q (fun K hK => ?rz48q) AllReadyH.nil)
        case hz47q => (simp; rfl)
        case hz48q => (simp; rfl)
        case rz47q =>
          have hc5 : Hid ((w3.alloc (.cells #[.int .i64 ((s.last : Int) + 1), .string k0, .slice q2 L2 cq2] 96)).cell? ⟨p, 1, none⟩ = some (.slice (some ⟨g, 0, none⟩) N c)) := Mm.hid ((Mm.belAt (HB3.out.alloc HB3.out.size _) _ HM2.out.lt).trans HC1.out)
          have hc6 := hc5.out
          go_simp
          clear hc5 hc6
          refine hK.out _ _ (HSC.out _ (HB3.out.alloc HB3.out.size _)) (fun hHz49q => ?_)
          clear hK K
          refine wpAnyH_ready (rs := [18]) (by kernel_rfl) (by simp) ?_
          refine AllReadyH.cons (o := ?oz50q) ?hz50q (fun K hK => ?rz50q) AllReadyH.nil
          case hz50q => (simp; rfl)
          case rz50q =>
            go_simp
            refine hK.out _ _ (HSC.out _ ((HB3.out.alloc HB3.out.size _).alloc (Nat.le_trans HB3.out.size (by simp)) _)) (fun hHz51q => ?_)
            clear hK K
            refine wpAnyH_ready (rs := [19]) (by kernel_rfl) (by simp) ?_
            refine AllReadyH.cons (o := ?oz52q) ?hz52q (fun K hK => ?rz52q) AllReadyH.nil
            case hz52q => (simp; rfl)
            case rz52q =>
              go_simp
              have hin := insP_any (some ⟨g, 0, none⟩) N c (l + 1) (Lf.ptrs bl s.pgs) (.pointer (some ⟨w3.heap.size, 0, none⟩)) (w3.heap.size + 1) h ((w3.alloc (.cells #[.int .i64 ((s.last : Int) + 1), .string k0, .slice q2 L2 cq2] 96)).alloc (.cells #[.pointer (some ⟨w3.heap.size, 0, none⟩)] 94)) (Mm.hid (HM2.out.row.below ((HB3.out.alloc HB3.out.size _).alloc (Nat.le_trans HB3.out.size (by simp)) _))) (Mm.hid (by rw [Lf.ptrs_len]; exact HN.out.symm)) hlN rfl (Mm.hid (Lf.ptrs_one _ _)) (Mm.hid (Mm.newAt _ _ (by simp))) (Mm.hid (fun g' hg' => by injection hg' with hg'; injection hg' with hg'; have h1 := (HM2.out.row.lt (g := g) rfl).1; have h2 := HB3.out.size; omega)) (by omega) (Nat.le_trans HH.out (Nat.le_trans HB3.out.size (by simp; omega)))
              rw [← HWR.out] at hin
              have HIN := Mm.hid hin
              clear hin
              with_reducible refine HIN.out.mono ?_
              rintro e w6 ⟨v6, rfl, hown6, hg6, hl6⟩
              obtain ⟨q6, cq6, ev6, _⟩ := hown6.shape
              obtain ⟨L6, hL6⟩ : ∃ L6, L6 = ((Lf.ptrs bl s.pgs).take (l + 1) ++ .pointer (some ⟨w3.heap.size, 0, none⟩) :: (Lf.ptrs bl s.pgs).drop (l + 1)).length := ⟨_, rfl⟩
              rw [← hL6] at ev6
              subst ev6
              clear hL6
              have HO6 := Mm.hid hown6
              have HG6 : Hid (((w3.alloc (Lf.pageObj (Lf.upper s P) (.slice q2 L2 cq2))).alloc (Lf.ptrObj w3.heap.size)).grownBy w6 (Value.slice (some ⟨g, 0, none⟩) N c).ownBlock) := Mm.hid (by rw [show Lf.pageObj (Lf.upper s P) (.slice q2 L2 cq2) = .cells #[.int .i64 ((s.last : Int) + 1), .string k0, .slice q2 L2 cq2] 96 from by rw [HKU.out]; rfl]; exact hg6)
              have HL6 : Hid ((Value.slice q6 L6 cq6).ownBlock = (Value.slice (some ⟨g, 0, none⟩) N c).ownBlock ∨ ∀ g', (Value.slice q6 L6 cq6).ownBlock = some g' → w3.heap.size + 2 ≤ g') := Mm.hid (by
                rcases hl6 with h1 | h1
                · exact Or.inl h1
                · exact Or.inr (fun g' hg' => by have := h1 g' hg'; simp at this; omega))
              have HS6 : Hid (∀ b, b < W2.heap.size → b ≠ g → w6.heap[b]? = W2.heap[b]?) := Mm.hid (fun b hb hne => (hg6.block b (Nat.lt_of_lt_of_le hb (Nat.le_trans HB3.out.size (by simp; omega))) (fun e => hne (Option.some.inj e))).trans (((HB3.out.alloc HB3.out.size _).alloc (Nat.le_trans HB3.out.size (by simp)) _).block b hb))
              clear hown6 hg6 hl6
              go_wp2_with fail
              refine hK.out _ _ (HK6.out w6 HS6.out) (fun hHz53q => ?_)
              clear hK K
              refine wpAnyH_take (i := 20) (oi := ?oz54q20) (v := ?vz54q20) ?hiz54q20 ?hsz54q20 ?hfz54q20 ?hrz54q20 ?hQz54q20 (Or.inl ⟨?hwz54q20, ?hyz54q20⟩) ?hSz54q20 ?restz54q20
              case hiz54q20 => (simp; rfl)
              case hsz54q20 => kernel_rfl
              case hfz54q20 => kernel_rfl
              case hrz54q20 => kernel_rfl
              case hQz54q20 => exact fun _ _ _ h => h
              case hwz54q20 => rfl
              case hyz54q20 => (intro wq hSq; (try dsimp only at hSq); go_simp; (try with_reducible rfl))
              case hSz54q20 => assumption
              simp only [Act.put, List.setIfInBounds_toArray, List.set_cons_zero, List.set_cons_succ]
              refine wpAnyH_take (i := 21) (oi := ?oz55q21) (v := ?vz55q21) ?hiz55q21 ?hsz55q21 ?hfz55q21 ?hrz55q21 ?hQz55q21 (Or.inl ⟨?hwz55q21, ?hyz55q21⟩) ?hSz55q21 ?restz55q21
              case hiz55q21 => (simp; rfl)
              case hsz55q21 => kernel_rfl
              case hfz55q21 => kernel_rfl
              case hrz55q21 => kernel_rfl
              case hQz55q21 => exact fun _ _ _ h => h
              case hwz55q21 => rfl
              case hyz55q21 => (intro wq hSq; (try dsimp only at hSq); go_simp; (try with_reducible rfl))
              case hSz55q21 => assumption
              simp only [Act.put, List.setIfInBounds_toArray, List.set_cons_zero, List.set_cons_succ]
              refine wpAnyH_ready (rs := [22]) (by kernel_rfl) (by simp) ?_
              refine AllReadyH.cons (o := ?oz56q) ?hz56q (fun K hK => ?rz56q) AllReadyH.nil
              case hz56q => (simp; rfl)
              case rz56q =>
                have hW6 : w6.heap[p]? = some (.cells #[.int .i64 (s.fan : Int), .slice (some ⟨g, 0, none⟩) N c, .int .i64 ((s.last + 1 : Nat) : Int), .int .i64 (s.count : Int)] 99 (0, 0)) := (HS6.out p HM2.out.lt HPG.out).trans HM2.out.cell
                have hcT : w6.cell? ⟨p, 1, none⟩ = some (.slice (some ⟨g, 0, none⟩) N c) := Mm.cellOf hW6 rfl
                have hfz : w6.frozen? ⟨p, 1, none⟩ = false := by simp [World.frozen?, hW6]
                go_simp
                clear hcT hfz hW6
                refine hK.out _ _ (HK7.out w6 (.slice q6 L6 cq6) HS6.out) (fun hHz57q => ?_)
                clear hK K
                refine wpAnyH_done (by kernel_rfl) ?_ _
                obtain ⟨tag7, bl7, kv7, hM7, hE7, hb7, hk7⟩ := HM2.out.insPage (P2 := Lf.upper s P) HE.out HNW.out HH.out HB3.out HO2.out HG6.out (by rw [← HLL.out]; exact HO6.out) HL6.out
                obtain ⟨W7, hW7⟩ : ∃ W7, w6.setCell ⟨p, 1, none⟩ (.slice q6 L6 cq6) = W7 := ⟨_, rfl⟩
                rw [hW7] at hM7 hE7 ⊢
                have HX7 : Hid (W7.heap[w.heap.size]? = W2.heap[w.heap.size]?) := Mm.hid (hE7.block _ HBX.out.2 HBT.out)
                have HM7 := Mm.hid hM7
                have HE7 := Mm.hid hE7
                have HK7K : Hid (bl7 P.n = bl P.n ∧ kv7 P.n = kv P.n) := Mm.hid ⟨hb7, hk7⟩
                clear hM7 hE7 hW7 HS6 HL6 HG6 HO6 HO2 HB3 hb7 hk7
                have hpg := (HM7.out.pg P (by simp)).cell
                rw [HK7K.out.1, HK7K.out.2] at hpg
                have m6 : W7.cell? ⟨bl P.n, 2, none⟩ = some (.slice (some ⟨gk, 0, none⟩) n c') := by rw [← HEK.out]; exact Mm.cellOf hpg rfl
                have hdl := delS_any gk n c' ((n + 1) / 2) n (Lf.strs P.ks) h W7 (Mm.hid (by have h1 := (HM7.out.pg P (by simp)).own; rw [HK7K.out.2, HEK.out] at h1; exact h1)) hhn (Nat.le_refl _) (Mm.hid (Lf.strs_one _))
                rw [← HND.out] at hdl
                simp only [Nat.sub_self, Nat.add_zero] at hdl
                have HDL := Mm.hid hdl
                clear hpg hdl
                go_wp2_with fail
                with_reducible refine HDL.out.mono ?_
                rintro e w8 ⟨rfl, hown8, hg8⟩
                obtain ⟨hM9, hE9⟩ := HM7.out.putKeys (P := P) (L := L) (R := Lf.upper s P :: R) rfl HND7.out (w1 := w8) (v := .slice (some ⟨gk, 0, none⟩) ((n + 1) / 2) c') (ks := (Lf.lower P).ks) (by rw [HK7K.out.2, HEK.out]; exact hg8) (by rw [HLK.out]; exact hown8) (Or.inl (by rw [HK7K.out.2, HEK.out]; rfl))
                rw [HK7K.out.1] at hM9 hE9
                have hp8 : w8.heap[bl P.n]? = some (.cells #[.int .i64 (P.n : Int), .string P.b, .slice (some ⟨gk, 0, none⟩) n c'] 96 (0, 0)) := by
                  have h1 := (HM7.out.pg P (by simp)).cell
                  have h2 := (HM7.out.pg P (by simp)).tb
                  rw [HK7K.out.1, HK7K.out.2, HEK.out] at h1
                  rw [HK7K.out.1] at h2
                  have h3 := (HM7.out.pg P (by simp)).tk gk (by rw [HK7K.out.2, HEK.out]; rfl)
                  exact (hg8.block _ (Mm.heapLt h1) (fun e => by have e' := Option.some.inj e; rw [e', h3] at h2; cases h2)).trans h1
                have c8 : w8.cell? ⟨bl P.n, 2, none⟩ = some (.slice (some ⟨gk, 0, none⟩) n c') := Mm.cellOf hp8 rfl
                have f8 : w8.frozen? ⟨bl P.n, 2, none⟩ = false := by simp [World.frozen?, hp8]
                obtain ⟨W9, hW9⟩ : ∃ W9, w8.setCell ⟨bl P.n, 2, none⟩ (.slice (some ⟨gk, 0, none⟩) ((n + 1) / 2) c') = W9 := ⟨_, rfl⟩
                rw [hW9] at hM9 hE9
                have e4 : W9.cell? ⟨bl P.n, 0, none⟩ = some (.int .i64 (P.n : Int)) := by
                  rw [← hW9, World.cell?_setCell_other _ _ _ _ (by simp)]; exact Mm.cellOf hp8 rfl
                have e5 : W9.cell? ⟨p, 2, none⟩ = some (.int .i64 ((s.last : Int) + 1)) := hM9.c2
                have hbx : W9.heap[w.heap.size]? = some (.cells #[.int .i64 0, .int .i64 0] 38 (0, 0)) := (hE9.block _ (Nat.lt_of_lt_of_le HBX.out.2 HE7.out.size) (HE7.out.tags _ HBX.out.2 HBT.out)).trans (HX7.out.trans HBX.out.1)
                have e6 : W9.cell? ⟨w.heap.size, 0, none⟩ = some (.int .i64 0) := Mm.cellOf hbx rfl
                have e7 : W9.cell? ⟨w.heap.size, 1, none⟩ = some (.int .i64 0) := Mm.cellOf hbx rfl
                have f6 : ∀ i, W9.frozen? ⟨w.heap.size, i, none⟩ = false := fun i => by simp [World.frozen?, hbx]
                have f60 := f6 0
                have f61 := f6 1
                have HM9 := Mm.hid hM9
                have HE9 : Hid (Lf.Ev tag _ w W9) := Mm.hid (HE2.out.trans (HE7.out.trans hE9))
                have HBX9 := Mm.hid hbx
                have HBT9 : Hid (_ = none) := Mm.hid (hE9.tags _ (Nat.lt_of_lt_of_le HBX.out.2 HE7.out.size) (HE7.out.tags _ HBX.out.2 HBT.out))
                clear hM9 hE9 hp8 hown8 hg8 hbx f6 m6
                go_wp2_with fail
                clear hW9 c8 f8
                go_region
                obtain ⟨W10, hW10⟩ : ∃ W10, ((W9.setCell ⟨w.heap.size, 0, none⟩ (.int .i64 (P.n : Int))).setCell ⟨w.heap.size, 1, none⟩ (.int .i64 ((s.last : Int) + 1))).drew = W10 := ⟨_, rfl⟩
                have hb10 : W10.heap[w.heap.size]? = some (.cells #[.int .i64 (P.n : Int), .int .i64 ((s.last : Int) + 1)] 38 (0, 0)) := by rw [← hW10]; exact Lf.box2 HBX9.out
                have ea : W10.cell? ⟨w.heap.size, 0, none⟩ = some (.int .i64 (P.n : Int)) := Mm.cellOf hb10 rfl
                have eb : W10.cell? ⟨w.heap.size, 1, none⟩ = some (.int .i64 ((s.last : Int) + 1)) := Mm.cellOf hb10 rfl
                have HM10 := Mm.hid (((HM9.out.set HBT9.out 0 (.int .i64 (P.n : Int))).set HBT9.out 1 (.int .i64 ((s.last : Int) + 1))).drew)
                have HE10 := Mm.hid (((HE9.out.set (Nat.le_refl _) 0 (.int .i64 (P.n : Int))).set (Nat.le_refl _) 1 (.int .i64 ((s.last : Int) + 1))).drew)
                rw [hW10] at HM10 HE10 ⊢
                clear hW10 hb10 e4 e5 e6 e7 f60 f61
                go_wp2_with fail
                exact bodyPost_ret (v := .agg #[.int .i64 (P.n : Int), .int .i64 ((s.last : Int) + 1)]) (by simp [results, Tryz.results55, go_sem, ea, eb]) rfl ⟨rfl, _, _, _, _, HM10.out, HE10.out⟩
        case rz48q =>
          go_simp
          refine hK.out _ _ (HSC.out _ ((HB3.out.alloc HB3.out.size _).alloc (Nat.le_trans HB3.out.size (by simp)) _)) (fun hHz58q => ?_)
          clear hK K
          refine wpAnyH_ready (rs := [4]) (by kernel_rfl) (by simp) ?_
          refine AllReadyH.cons (o := ?oz59q) ?hz59q (fun K hK => ?rz59q) AllReadyH.nil
          case hz59q => (simp; rfl)
          case rz59q =>
            have hc5 : Hid (((w3.alloc (.cells #[.int .i64 ((s.last : Int) + 1), .string k0, .slice q2 L2 cq2] 96)).alloc (.cells #[.pointer (some ⟨w3.heap.size, 0, none⟩)] 94)).cell? ⟨p, 1, none⟩ = some (.slice (some ⟨g, 0, none⟩) N c)) := Mm.hid ((Mm.belAt ((HB3.out.alloc HB3.out.size _).alloc (Nat.le_trans HB3.out.size (by simp)) _) _ HM2.out.lt).trans HC1.out)
            have hc6 := hc5.out
            go_simp
            clear hc5 hc6
            refine hK.out _ _ (HSC.out _ ((HB3.out.alloc HB3.out.size _).alloc (Nat.le_trans HB3.out.size (by simp)) _)) (fun hHz60q => ?_)
            clear hK K
            refine wpAnyH_ready (rs := [19]) (by kernel_rfl) (by simp) ?_
            refine AllReadyH.cons (o := ?oz61q) ?hz61q (fun K hK => ?rz61q) AllReadyH.nil
            case hz61q => (simp; rfl)
            case rz61q =>
              go_simp
              have hin := insP_any (some ⟨g, 0, none⟩) N c (l + 1) (Lf.ptrs bl s.pgs) (.pointer (some ⟨w3.heap.size, 0, none⟩)) (w3.heap.size + 1) h ((w3.alloc (.cells #[.int .i64 ((s.last : Int) + 1), .string k0, .slice q2 L2 cq2] 96)).alloc (.cells #[.pointer (some ⟨w3.heap.size, 0, none⟩)] 94)) (Mm.hid (HM2.out.row.below ((HB3.out.alloc HB3.out.size _).alloc (Nat.le_trans HB3.out.size (by simp)) _))) (Mm.hid (by rw [Lf.ptrs_len]; exact HN.out.symm)) hlN rfl (Mm.hid (Lf.ptrs_one _ _)) (Mm.hid (Mm.newAt _ _ (by simp))) (Mm.hid (fun g' hg' => by injection hg' with hg'; injection hg' with hg'; have h1 := (HM2.out.row.lt (g := g) rfl).1; have h2 := HB3.out.size; omega)) (by omega) (Nat.le_trans HH.out (Nat.le_trans HB3.out.size (by simp; omega)))
              rw [← HWR.out] at hin
              have HIN := Mm.hid hin
              clear hin
              with_reducible refine HIN.out.mono ?_
              rintro e w6 ⟨v6, rfl, hown6, hg6, hl6⟩
              obtain ⟨q6, cq6, ev6, _⟩ := hown6.shape
              obtain ⟨L6, hL6⟩ : ∃ L6, L6 = ((Lf.ptrs bl s.pgs).take (l + 1) ++ .pointer (some ⟨w3.heap.size, 0, none⟩) :: (Lf.ptrs bl s.pgs).drop (l + 1)).length := ⟨_, rfl⟩
              rw [← hL6] at ev6
              subst ev6
              clear hL6
              have HO6 := Mm.hid hown6
              have HG6 : Hid (((w3.alloc (Lf.pageObj (Lf.upper s P) (.slice q2 L2 cq2))).alloc (Lf.ptrObj w3.heap.size)).grownBy w6 (Value.slice (some ⟨g, 0, none⟩) N c).ownBlock) := Mm.hid (by rw [show Lf.pageObj (Lf.upper s P) (.slice q2 L2 cq2) = .cells #[.int .i64 ((s.last : Int) + 1), .string k0, .slice q2 L2 cq2] 96 from by rw [HKU.out]; rfl]; exact hg6)
              have HL6 : Hid ((Value.slice q6 L6 cq6).ownBlock = (Value.slice (some ⟨g, 0, none⟩) N c).ownBlock ∨ ∀ g', (Value.slice q6 L6 cq6).ownBlock = some g' → w3.heap.size + 2 ≤ g') := Mm.hid (by
                rcases hl6 with h1 | h1
                · exact Or.inl h1
                · exact Or.inr (fun g' hg' => by have := h1 g' hg'; simp at this; omega))
              have HS6 : Hid (∀ b, b < W2.heap.size → b ≠ g → w6.heap[b]? = W2.heap[b]?) := Mm.hid (fun b hb hne => (hg6.block b (Nat.lt_of_lt_of_le hb (Nat.le_trans HB3.out.size (by simp; omega))) (fun e => hne (Option.some.inj e))).trans (((HB3.out.alloc HB3.out.size _).alloc (Nat.le_trans HB3.out.size (by simp)) _).block b hb))
              clear hown6 hg6 hl6
              go_wp2_with fail
              refine hK.out _ _ (HK6.out w6 HS6.out) (fun hHz62q => ?_)
              clear hK K
              refine wpAnyH_take (i := 20) (oi := ?oz63q20) (v := ?vz63q20) ?hiz63q20 ?hsz63q20 ?hfz63q20 ?hrz63q20 ?hQz63q20 (Or.inl ⟨?hwz63q20, ?hyz63q20⟩) ?hSz63q20 ?restz63q20
              case hiz63q20 => (simp; rfl)
              case hsz63q20 => kernel_rfl
              case hfz63q20 => kernel_rfl
              case hrz63q20 => kernel_rfl
              case hQz63q20 => exact fun _ _ _ h => h
              case hwz63q20 => rfl
              case hyz63q20 => (intro wq hSq; (try dsimp only at hSq); go_simp; (try with_reducible rfl))
              case hSz63q20 => assumption
              simp only [Act.put, List.setIfInBounds_toArray, List.set_cons_zero, List.set_cons_succ]
              refine wpAnyH_take (i := 21) (oi := ?oz64q21) (v := ?vz64q21) ?hiz64q21 ?hsz64q21 ?hfz64q21 ?hrz64q21 ?hQz64q21 (Or.inl ⟨?hwz64q21, ?hyz64q21⟩) ?hSz64q21 ?restz64q21
              case hiz64q21 => (simp; rfl)
              case hsz64q21 => kernel_rfl
              case hfz64q21 => kernel_rfl
              case hrz64q21 => kernel_rfl
              case hQz64q21 => exact fun _ _ _ h => h
              case hwz64q21 => rfl
              case hyz64q21 => (intro wq hSq; (try dsimp only at hSq); go_simp; (try with_reducible rfl))
              case hSz64q21 => assumption
              simp only [Act.put, List.setIfInBounds_toArray, List.set_cons_zero, List.set_cons_succ]
              refine wpAnyH_ready (rs := [22]) (by kernel_rfl) (by simp) ?_
              refine AllReadyH.cons (o := ?oz65q) ?hz65q (fun K hK => ?rz65q) AllReadyH.nil
              case hz65q => (simp; rfl)
              case rz65q =>
                have hW6 : w6.heap[p]? = some (.cells #[.int .i64 (s.fan : Int), .slice (some ⟨g, 0, none⟩) N c, .int .i64 ((s.last + 1 : Nat) : Int), .int .i64 (s.count : Int)] 99 (0, 0)) := (HS6.out p HM2.out.lt HPG.out).trans HM2.out.cell
                have hcT : w6.cell? ⟨p, 1, none⟩ = some (.slice (some ⟨g, 0, none⟩) N c) := Mm.cellOf hW6 rfl
                have hfz : w6.frozen? ⟨p, 1, none⟩ = false := by simp [World.frozen?, hW6]
                go_simp
                clear hcT hfz hW6
                refine hK.out _ _ (HK7.out w6 (.slice q6 L6 cq6) HS6.out) (fun hHz66q => ?_)
                clear hK K
                refine wpAnyH_done (by kernel_rfl) ?_ _
                obtain ⟨tag7, bl7, kv7, hM7, hE7, hb7, hk7⟩ := HM2.out.insPage (P2 := Lf.upper s P) HE.out HNW.out HH.out HB3.out HO2.out HG6.out (by rw [← HLL.out]; exact HO6.out) HL6.out
                obtain ⟨W7, hW7⟩ : ∃ W7, w6.setCell ⟨p, 1, none⟩ (.slice q6 L6 cq6) = W7 := ⟨_, rfl⟩
                rw [hW7] at hM7 hE7 ⊢
                have HX7 : Hid (W7.heap[w.heap.size]? = W2.heap[w.heap.size]?) := Mm.hid (hE7.block _ HBX.out.2 HBT.out)
                have HM7 := Mm.hid hM7
                have HE7 := Mm.hid hE7
                have HK7K : Hid (bl7 P.n = bl P.n ∧ kv7 P.n = kv P.n) := Mm.hid ⟨hb7, hk7⟩
                clear hM7 hE7 hW7 HS6 HL6 HG6 HO6 HO2 HB3 hb7 hk7
                have hpg := (HM7.out.pg P (by simp)).cell
                rw [HK7K.out.1, HK7K.out.2] at hpg
                have m6 : W7.cell? ⟨bl P.n, 2, none⟩ = some (.slice (some ⟨gk, 0, none⟩) n c') := by rw [← HEK.out]; exact Mm.cellOf hpg rfl
                have hdl := delS_any gk n c' ((n + 1) / 2) n (Lf.strs P.ks) h W7 (Mm.hid (by have h1 := (HM7.out.pg P (by simp)).own; rw [HK7K.out.2, HEK.out] at h1; exact h1)) hhn (Nat.le_refl _) (Mm.hid (Lf.strs_one _))
                rw [← HND.out] at hdl
                simp only [Nat.sub_self, Nat.add_zero] at hdl
                have HDL := Mm.hid hdl
                clear hpg hdl
                go_wp2_with fail
                with_reducible refine HDL.out.mono ?_
                rintro e w8 ⟨rfl, hown8, hg8⟩
                obtain ⟨hM9, hE9⟩ := HM7.out.putKeys (P := P) (L := L) (R := Lf.upper s P :: R) rfl HND7.out (w1 := w8) (v := .slice (some ⟨gk, 0, none⟩) ((n + 1) / 2) c') (ks := (Lf.lower P).ks) (by rw [HK7K.out.2, HEK.out]; exact hg8) (by rw [HLK.out]; exact hown8) (Or.inl (by rw [HK7K.out.2, HEK.out]; rfl))
                rw [HK7K.out.1] at hM9 hE9
                have hp8 : w8.heap[bl P.n]? = some (.cells #[.int .i64 (P.n : Int), .string P.b, .slice (some ⟨gk, 0, none⟩) n c'] 96 (0, 0)) := by
                  have h1 := (HM7.out.pg P (by simp)).cell
                  have h2 := (HM7.out.pg P (by simp)).tb
                  rw [HK7K.out.1, HK7K.out.2, HEK.out] at h1
                  rw [HK7K.out.1] at h2
                  have h3 := (HM7.out.pg P (by simp)).tk gk (by rw [HK7K.out.2, HEK.out]; rfl)
                  exact (hg8.block _ (Mm.heapLt h1) (fun e => by have e' := Option.some.inj e; rw [e', h3] at h2; cases h2)).trans h1
                have c8 : w8.cell? ⟨bl P.n, 2, none⟩ = some (.slice (some ⟨gk, 0, none⟩) n c') := Mm.cellOf hp8 rfl
                have f8 : w8.frozen? ⟨bl P.n, 2, none⟩ = false := by simp [World.frozen?, hp8]
                obtain ⟨W9, hW9⟩ : ∃ W9, w8.setCell ⟨bl P.n, 2, none⟩ (.slice (some ⟨gk, 0, none⟩) ((n + 1) / 2) c') = W9 := ⟨_, rfl⟩
                rw [hW9] at hM9 hE9
                have e4 : W9.cell? ⟨bl P.n, 0, none⟩ = some (.int .i64 (P.n : Int)) := by
                  rw [← hW9, World.cell?_setCell_other _ _ _ _ (by simp)]; exact Mm.cellOf hp8 rfl
                have e5 : W9.cell? ⟨p, 2, none⟩ = some (.int .i64 ((s.last : Int) + 1)) := hM9.c2
                have hbx : W9.heap[w.heap.size]? = some (.cells #[.int .i64 0, .int .i64 0] 38 (0, 0)) := (hE9.block _ (Nat.lt_of_lt_of_le HBX.out.2 HE7.out.size) (HE7.out.tags _ HBX.out.2 HBT.out)).trans (HX7.out.trans HBX.out.1)
                have e6 : W9.cell? ⟨w.heap.size, 0, none⟩ = some (.int .i64 0) := Mm.cellOf hbx rfl
                have e7 : W9.cell? ⟨w.heap.size, 1, none⟩ = some (.int .i64 0) := Mm.cellOf hbx rfl
                have f6 : ∀ i, W9.frozen? ⟨w.heap.size, i, none⟩ = false := fun i => by simp [World.frozen?, hbx]
                have f60 := f6 0
                have f61 := f6 1
                have HM9 := Mm.hid hM9
                have HE9 : Hid (Lf.Ev tag _ w W9) := Mm.hid (HE2.out.trans (HE7.out.trans hE9))
                have HBX9 := Mm.hid hbx
                have HBT9 : Hid (_ = none) := Mm.hid (hE9.tags _ (Nat.lt_of_lt_of_le HBX.out.2 HE7.out.size) (HE7.out.tags _ HBX.out.2 HBT.out))
                clear hM9 hE9 hp8 hown8 hg8 hbx f6 m6
                go_wp2_with fail
                clear hW9 c8 f8
                go_region
                obtain ⟨W10, hW10⟩ : ∃ W10, ((W9.setCell ⟨w.heap.size, 0, none⟩ (.int .i64 (P.n : Int))).setCell ⟨w.heap.size, 1, none⟩ (.int .i64 ((s.last : Int) + 1))).drew = W10 := ⟨_, rfl⟩
                have hb10 : W10.heap[w.heap.size]? = some (.cells #[.int .i64 (P.n : Int), .int .i64 ((s.last : Int) + 1)] 38 (0, 0)) := by rw [← hW10]; exact Lf.box2 HBX9.out
                have ea : W10.cell? ⟨w.heap.size, 0, none⟩ = some (.int .i64 (P.n : Int)) := Mm.cellOf hb10 rfl
                have eb : W10.cell? ⟨w.heap.size, 1, none⟩ = some (.int .i64 ((s.last : Int) + 1)) := Mm.cellOf hb10 rfl
                have HM10 := Mm.hid (((HM9.out.set HBT9.out 0 (.int .i64 (P.n : Int))).set HBT9.out 1 (.int .i64 ((s.last : Int) + 1))).drew)
                have HE10 := Mm.hid (((HE9.out.set (Nat.le_refl _) 0 (.int .i64 (P.n : Int))).set (Nat.le_refl _) 1 (.int .i64 ((s.last : Int) + 1))).drew)
                rw [hW10] at HM10 HE10 ⊢
                clear hW10 hb10 e4 e5 e6 e7 f60 f61
                go_wp2_with fail
                exact bodyPost_ret (v := .agg #[.int .i64 (P.n : Int), .int .i64 ((s.last : Int) + 1)]) (by simp [results, Tryz.results55, go_sem, ea, eb]) rfl ⟨rfl, _, _, _, _, HM10.out, HE10.out⟩

end Go.Proofs.YtjnaafgiokdcbaaGreatDoor

/- Insert. -/
namespace Go.Proofs.YtjnaafgiokdcbaaGreatDoor
open Go.RowKit

namespace Lf
theorem box2n {w : World} {B : Nat} {x y x' y' : Value} {t : TypeId} (h : w.heap[B]? = some (.cells #[x, y] t (0, 0))) : ((w.setCell ⟨B, 0, none⟩ x').setCell ⟨B, 1, none⟩ y').heap[B]? = some (.cells #[x', y'] t (0, 0)) := by
  have h1 := heap_setCell_same w B 0 _ t x' h
  exact heap_setCell_same _ B 1 _ t y' h1
end Lf

set_option maxRecDepth 100000 in
set_option maxHeartbeats 4000000 in
theorem insert_any {h : Nat} {w : World} {tag : Nat → Option Lf.Tg} {p : Nat} {s : Lf.S} {bl : Nat → Nat} {kv : Nat → Value} {rv : Value} (H : Hid (Lf.Mem h w tag p s bl kv rv)) (hh : h ≤ w.heap.size) {k : ByteArray} {L R : List Lf.Pg} {P : Lf.Pg} (hs : Hid (Lf.Spl s k L P R)) (hz : Hid (Lf.Sm s)) (hI : Hid (Lf.Inv s)) {A B : List ByteArray} (hk : Hid (Lf.Kp P.ks k A B)) (hnk : Hid (B.head? ≠ some k)) (hkz : k.size ≤ 1024)
    (HZ1 : Hid (Lf.Sm (Lf.insP s L P R (A ++ k :: B)))) (HZ2 : Hid (Lf.Sm (Lf.insS s L P R (A ++ k :: B)))) {L' R' : List Lf.Pg} {P' : Lf.Pg} (HS2 : Hid (Lf.Spl (Lf.insS s L P R (A ++ k :: B)) k L' P' R')) :
    Calls Tryz.prog 33 #[.pointer (some ⟨p, 0, none⟩), .string k] w fun e w' => e = .returned (.tuple #[.int .i64 (P'.n : Int), .agg #[.int .i64 ((Lf.partM s (Lf.withKs P (A ++ k :: B))).1 : Int), .int .i64 ((Lf.partM s (Lf.withKs P (A ++ k :: B))).2 : Int)], .int .i64 0]) ∧ ∃ tag' bl' kv' rv', Lf.Mem h w' tag' p (Lf.insS s L P R (A ++ k :: B)) bl' kv' rv' ∧ Lf.Ev tag tag' w w' := by
  have hz' : ¬ ((1024 : Int) < (k.size : Int)) := by omega
  have HKZ : Hid (k.size ≤ 100000) := Mm.hid (by omega)
  obtain ⟨MF, hMF⟩ : ∃ MF : Int, MF = ((Lf.partM s (Lf.withKs P (A ++ k :: B))).1 : Int) := ⟨_, rfl⟩
  obtain ⟨MT, hMT⟩ : ∃ MT : Int, MT = ((Lf.partM s (Lf.withKs P (A ++ k :: B))).2 : Int) := ⟨_, rfl⟩
  have HMF := Mm.hid hMF
  have HMT := Mm.hid hMT
  have HSB : Hid (∀ w' : World, w'.heap[w.heap.size]? = some (.cells #[.int .i64 MF, .int .i64 MT] 38 (0, 0)) → w'.heap[w.heap.size]? = some (.cells #[.int .i64 MF, .int .i64 MT] 38 (0, 0)) ∧ w'.cell? ⟨w.heap.size, 0, none⟩ = some (.int .i64 MF) ∧ w'.cell? ⟨w.heap.size, 1, none⟩ = some (.int .i64 MT) ∧ w'.frozen? ⟨w.heap.size, 0, none⟩ = false ∧ w'.frozen? ⟨w.heap.size, 1, none⟩ = false) := Mm.hid (fun w' hb => ⟨hb, Mm.cellOf hb rfl, Mm.cellOf hb rfl, by simp [World.frozen?, hb], by simp [World.frozen?, hb]⟩)
  have HB0 : Hid (Below w.heap.size w (w.alloc (.cells #[.int .i64 0, .int .i64 0] 38))) := Mm.hid ((Below.refl _ w).alloc (Nat.le_refl _) _)
  have HM0 := Mm.hid (H.out.below HB0.out)
  have hfi := find_any HM0 hs hz hk
  rw [decide_eq_false hnk.out] at hfi
  have HFI := Mm.hid hfi
  have hh0 := Mm.hid hh
  have HF1 : Hid (2 ≤ s.fan) := Mm.hid hI.out.f1
  have HND := Mm.hid hI.out.nd
  have HN1 : Hid ((Lf.insP s L P R (A ++ k :: B)).pgs.Pairwise (fun P Q => P.n ≠ Q.n)) := Mm.hid (by
    have h1 := hI.out.nd
    rw [hs.out.e] at h1
    have e : ∀ X : List Lf.Pg, X.Pairwise (fun P Q => P.n ≠ Q.n) ↔ (X.map (fun P => P.n)).Pairwise (· ≠ ·) := fun X => List.pairwise_map.symm
    rw [e] at h1
    show (L ++ Lf.withKs P (A ++ k :: B) :: R).Pairwise _
    rw [e]
    simpa [Lf.withKs] using h1)
  have HR1 : Hid (∀ Q ∈ (Lf.insP s L P R (A ++ k :: B)).pgs, Q.n ≤ (Lf.insP s L P R (A ++ k :: B)).last) := Mm.hid (by
    intro Q hQ
    have h1 := hI.out.nr
    rw [hs.out.e] at h1
    have hQ' : Q ∈ L ++ Lf.withKs P (A ++ k :: B) :: R := hQ
    rcases List.mem_append.1 hQ' with h2 | h2
    · exact (h1 Q (by simp [h2])).2
    · rcases List.mem_cons.1 h2 with h2 | h2
      · rw [h2]; exact (h1 P (by simp)).2
      · exact (h1 Q (by simp [h2])).2)
  clear hfi hMF hMT hh hkz
  go_enter Tryz.func33, Tryz.ntmps33
  go_wp2_with fail
  refine HFI.out.mono ?_
  rintro e w1 ⟨rfl, hb1⟩
  have HB1 : Hid (Below w.heap.size w w1) := Mm.hid (HB0.out.trans (hb1.mono HB0.out.size))
  have HM1 := Mm.hid (HM0.out.below hb1)
  have HE1 : Hid (Lf.Ev tag tag w w1) := Mm.hid (Lf.Ev.below HB1.out)
  have HBX1 : Hid (w1.heap[w.heap.size]? = some (.cells #[.int .i64 0, .int .i64 0] 38 (0, 0))) := Mm.hid ((hb1.block _ (by simp)).trans (Mm.newAt w _ rfl))
  have HBL1 : Hid (w.heap.size < w1.heap.size) := Mm.hid (Mm.heapLt HBX1.out)
  have HBT1 : Hid (tag w.heap.size = none) := Mm.hid (H.out.top _ (Nat.le_refl _))
  have HH : Hid (h ≤ w1.heap.size) := Mm.hid (Nat.le_trans hh0.out HB1.out.size)
  have hi : s.pgs[L.length]? = some P := by rw [hs.out.e]; simp
  have hPm : P ∈ s.pgs := hs.out.mem
  obtain ⟨g, c, rfl, m1, m2, m3, m4, m5, m6⟩ := HM1.out.at hi
  have c1 := HM1.out.c1
  obtain ⟨q, c', ek, k1, k2, k3, k4, k5⟩ := HM1.out.ks hPm
  obtain ⟨n, hn⟩ : ∃ n, n = P.ks.length := ⟨_, rfl⟩
  obtain ⟨N, hN⟩ : ∃ N, N = s.pgs.length := ⟨_, rfl⟩
  obtain ⟨l, hl⟩ : ∃ l, l = L.length := ⟨_, rfl⟩
  rw [← hn] at k1 ek
  rw [← hN] at c1 m1 m2
  rw [ek] at m6
  rw [← hl] at m2 m3 ⊢
  have hnb : n ≤ 10000 := by rw [hn]; exact hz.out.kl P hPm
  have hcn := hz.out.cn
  have g1 : (0 : Int) ≤ (l : Int) := by omega
  have g2 : (l : Int) < (N : Int) := by omega
  have HPM := Mm.hid hPm
  have HNK := Mm.hid hn
  have HLL := Mm.hid hl
  have HEK := Mm.hid ek
  have HE := Mm.hid hs.out.e
  have HC6 := Mm.hid m6
  have HAN : Hid (A.length ≤ n) := Mm.hid (by rw [hn, hk.out.e]; simp)
  have HKS : Hid (Lf.strs (A ++ k :: B) = (Lf.strs P.ks).take A.length ++ .string k :: (Lf.strs P.ks).drop A.length) := Mm.hid (by
    have e : Lf.strs P.ks = Lf.strs A ++ Lf.strs B := by rw [hk.out.e]; simp [Lf.strs]
    have hl : (Lf.strs A).length = A.length := by simp
    rw [e, List.take_left' hl, List.drop_left' hl]
    simp [Lf.strs])
  clear hb1 k2 k3 k4 k5 hi hPm hn hN hl ek m4 m5
  go_wp2_with fail
  clear m6 c1 m3
  refine wp_region_held_drew (S := fun _ => True) (by kernel_rfl) (trivial) (fun hH => ?_)
  refine wpAnyH_take (i := 0) (oi := ?oz1q0) (v := ?vz1q0) ?hiz1q0 ?hsz1q0 ?hfz1q0 ?hrz1q0 ?hQz1q0 (Or.inl ⟨?hwz1q0, ?hyz1q0⟩) ?hSz1q0 ?restz1q0
  case hiz1q0 => (simp; rfl)
  case hsz1q0 => kernel_rfl
  case hfz1q0 => kernel_rfl
  case hrz1q0 => kernel_rfl
  case hQz1q0 => exact fun _ _ _ h => h
  case hwz1q0 => rfl
  case hyz1q0 => (intro wq hSq; (try dsimp only at hSq); go_simp; (try with_reducible rfl))
  case hSz1q0 => assumption
  simp only [Act.put, List.setIfInBounds_toArray, List.set_cons_zero, List.set_cons_succ]
  refine wpAnyH_take (i := 1) (oi := ?oz2q1) (v := ?vz2q1) ?hiz2q1 ?hsz2q1 ?hfz2q1 ?hrz2q1 ?hQz2q1 (Or.inl ⟨?hwz2q1, ?hyz2q1⟩) ?hSz2q1 ?restz2q1
  case hiz2q1 => (simp; rfl)
  case hsz2q1 => kernel_rfl
  case hfz2q1 => kernel_rfl
  case hrz2q1 => kernel_rfl
  case hQz2q1 => exact fun _ _ _ h => h
  case hwz2q1 => rfl
  case hyz2q1 => (intro wq hSq; (try dsimp only at hSq); go_simp; (try with_reducible rfl))
  case hSz2q1 => assumption
  simp only [Act.put, List.setIfInBounds_toArray, List.set_cons_zero, List.set_cons_succ]
  refine wpAnyH_take (i := 2) (oi := ?oz3q2) (v := ?vz3q2) ?hiz3q2 ?hsz3q2 ?hfz3q2 ?hrz3q2 ?hQz3q2 (Or.inl ⟨?hwz3q2, ?hyz3q2⟩) ?hSz3q2 ?restz3q2
  case hiz3q2 => (simp; rfl)
  case hsz3q2 => kernel_rfl
  case hfz3q2 => kernel_rfl
  case hrz3q2 => kernel_rfl
  case hQz3q2 => exact fun _ _ _ h => h
  case hwz3q2 => rfl
  case hyz3q2 => (intro wq hSq; (try dsimp only at hSq); go_simp; (try with_reducible rfl))
  case hSz3q2 => assumption
  simp only [Act.put, List.setIfInBounds_toArray, List.set_cons_zero, List.set_cons_succ]
  refine wpAnyH_take (i := 3) (oi := ?oz4q3) (v := ?vz4q3) ?hiz4q3 ?hsz4q3 ?hfz4q3 ?hrz4q3 ?hQz4q3 (Or.inl ⟨?hwz4q3, ?hyz4q3⟩) ?hSz4q3 ?restz4q3
  case hiz4q3 => (simp; rfl)
  case hsz4q3 => kernel_rfl
  case hfz4q3 => kernel_rfl
  case hrz4q3 => kernel_rfl
  case hQz4q3 => exact fun _ _ _ h => h
  case hwz4q3 => rfl
  case hyz4q3 => (intro wq hSq; (try dsimp only at hSq); go_simp; (try with_reducible rfl))
  case hSz4q3 => assumption
  simp only [Act.put, List.setIfInBounds_toArray, List.set_cons_zero, List.set_cons_succ]
  refine wpAnyH_take (i := 5) (oi := ?oz5q5) (v := ?vz5q5) ?hiz5q5 ?hsz5q5 ?hfz5q5 ?hrz5q5 ?hQz5q5 (Or.inl ⟨?hwz5q5, ?hyz5q5⟩) ?hSz5q5 ?restz5q5
  case hiz5q5 => (simp; rfl)
  case hsz5q5 => kernel_rfl
  case hfz5q5 => kernel_rfl
  case hrz5q5 => kernel_rfl
  case hQz5q5 => exact fun _ _ _ h => h
  case hwz5q5 => rfl
  case hyz5q5 => (intro wq hSq; (try dsimp only at hSq); go_simp; (try with_reducible rfl))
  case hSz5q5 => assumption
  simp only [Act.put, List.setIfInBounds_toArray, List.set_cons_zero, List.set_cons_succ]
  refine wpAnyH_take (i := 6) (oi := ?oz6q6) (v := ?vz6q6) ?hiz6q6 ?hsz6q6 ?hfz6q6 ?hrz6q6 ?hQz6q6 (Or.inl ⟨?hwz6q6, ?hyz6q6⟩) ?hSz6q6 ?restz6q6
  case hiz6q6 => (simp; rfl)
  case hsz6q6 => kernel_rfl
  case hfz6q6 => kernel_rfl
  case hrz6q6 => kernel_rfl
  case hQz6q6 => exact fun _ _ _ h => h
  case hwz6q6 => rfl
  case hyz6q6 => (intro wq hSq; (try dsimp only at hSq); go_simp; (try with_reducible rfl))
  case hSz6q6 => assumption
  simp only [Act.put, List.setIfInBounds_toArray, List.set_cons_zero, List.set_cons_succ]
  refine wpAnyH_ready (rs := [4, 7]) (by kernel_rfl) (by simp) ?_
  refine AllReadyH.cons (o := ?oz7q) ?hz7q (fun K hK => ?rz7q) (AllReadyH.cons (o := ?oz8q) ?hz8q (fun K hK => ?rz8q) AllReadyH.nil)
  case hz7q => (simp; rfl)
  case hz8q => (simp; rfl)
  case rz7q =>
    have hc5 : w1.drew.cell? ⟨bl P.n, 2, none⟩ = some (.slice q n c') := (Mm.belAt (Below.refl _ w1).drew _ (World.block_lt_of_cell? w1 _ HC6.out)).trans HC6.out
    go_simp
    clear hc5
    refine hK.out _ _ (trivial) (fun hHz9q => ?_)
    clear hK K
    refine wpAnyH_ready (rs := [7]) (by kernel_rfl) (by simp) ?_
    refine AllReadyH.cons (o := ?oz10q) ?hz10q (fun K hK => ?rz10q) AllReadyH.nil
    case hz10q => (simp; rfl)
    case rz10q =>
      go_simp
      refine (lclone_any k _ HKZ.out).mono ?_
      rintro e w2 ⟨rfl, hb2⟩
      have HB2 : Hid (Below w1.heap.size w1 w2) := Mm.hid ((Below.refl _ w1).drew.trans hb2)
      clear hb2
      go_wp2_with fail
      refine hK.out _ _ (trivial) (fun hHz11q => ?_)
      clear hK K
      refine wpAnyH_ready (rs := [8]) (by kernel_rfl) (by simp) ?_
      refine AllReadyH.cons (o := ?oz12q) ?hz12q (fun K hK => ?rz12q) AllReadyH.nil
      case hz12q => (simp; rfl)
      case rz12q =>
        go_simp
        refine hK.out _ _ (trivial) (fun hHz13q => ?_)
        clear hK K
        refine wpAnyH_ready (rs := [9]) (by kernel_rfl) (by simp) ?_
        refine AllReadyH.cons (o := ?oz14q) ?hz14q (fun K hK => ?rz14q) AllReadyH.nil
        case hz14q => (simp; rfl)
        case rz14q =>
          go_simp
          have hin := insS_any q n c' A.length (Lf.strs P.ks) (.string k) w2.heap.size h (w2.alloc (.cells #[.string k] 9)) (Mm.hid (by have h1 := (HM1.out.pg P HPM.out).own.below (w2 := (w2.alloc (.cells #[.string k] 9))) (HB2.out.alloc HB2.out.size _); rw [HEK.out] at h1; exact h1)) (Mm.hid (by rw [Lf.strs_len]; exact HNK.out.symm)) HAN.out rfl (Mm.hid (Lf.strs_one _)) (Mm.hid (Mm.newAt _ _ rfl)) (Mm.hid (fun g' hg' e => by
            have h1 := ((HM1.out.pg P HPM.out).own.lt (g := g') (by rw [HEK.out, hg']; rfl)).1
            have h2 := HB2.out.size
            omega)) (by omega) (Nat.le_trans HH.out (Nat.le_trans HB2.out.size (by simp)))
          have HIN := Mm.hid hin
          clear hin
          with_reducible refine HIN.out.mono ?_
          rintro e w6 ⟨v6, rfl, hown6, hg6, hl6⟩
          obtain ⟨q6, cq6, ev6, _⟩ := hown6.shape
          obtain ⟨L6, hL6⟩ : ∃ L6, L6 = ((Lf.strs P.ks).take A.length ++ .string k :: (Lf.strs P.ks).drop A.length).length := ⟨_, rfl⟩
          rw [← hL6] at ev6
          subst ev6
          clear hL6
          have HO6 := Mm.hid hown6
          have HG6 : Hid (w1.grownBy w6 (Value.slice q n c').ownBlock) := Mm.hid ⟨hg6.os.trans HB2.out.os, hg6.tape.trans HB2.out.tape, hg6.output.trans HB2.out.output, Nat.le_trans HB2.out.size (Nat.le_trans (by simp) hg6.size), fun b hb hne => (hg6.block b (Nat.lt_of_lt_of_le hb (Nat.le_trans HB2.out.size (by simp))) hne).trans ((HB2.out.alloc HB2.out.size _).block b hb)⟩
          have HL6 : Hid ((Value.slice q6 L6 cq6).ownBlock = (Value.slice q n c').ownBlock ∨ ∀ g', (Value.slice q6 L6 cq6).ownBlock = some g' → w1.heap.size ≤ g') := Mm.hid (by
            rcases hl6 with h1 | h1
            · exact Or.inl h1
            · exact Or.inr (fun g' hg' => by have := h1 g' hg'; have := HB2.out.size; simp at *; omega))
          have HP6 : Hid (w6.heap[bl P.n]? = some (.cells #[.int .i64 (P.n : Int), .string P.b, .slice q n c'] 96 (0, 0))) := Mm.hid (by
            have h1 := (HM1.out.pg P HPM.out).cell
            have h2 := (HM1.out.pg P HPM.out).tb
            rw [HEK.out] at h1
            refine (HG6.out.block _ (Mm.heapLt h1) (fun e => ?_)).trans h1
            have h3 := (HM1.out.pg P HPM.out).tk (bl P.n) (by rw [HEK.out]; exact e.symm)
            rw [h2] at h3; cases h3)
          clear hown6 hg6 hl6
          go_wp2_with fail
          refine hK.out _ _ (trivial) (fun hHz15q => ?_)
          clear hK K
          refine wpAnyH_take (i := 10) (oi := ?oz16q10) (v := ?vz16q10) ?hiz16q10 ?hsz16q10 ?hfz16q10 ?hrz16q10 ?hQz16q10 (Or.inl ⟨?hwz16q10, ?hyz16q10⟩) ?hSz16q10 ?restz16q10
          case hiz16q10 => (simp; rfl)
          case hsz16q10 => kernel_rfl
          case hfz16q10 => kernel_rfl
          case hrz16q10 => kernel_rfl
          case hQz16q10 => exact fun _ _ _ h => h
          case hwz16q10 => rfl
          case hyz16q10 => (intro wq hSq; (try dsimp only at hSq); go_simp; (try with_reducible rfl))
          case hSz16q10 => assumption
          simp only [Act.put, List.setIfInBounds_toArray, List.set_cons_zero, List.set_cons_succ]
          refine wpAnyH_take (i := 11) (oi := ?oz17q11) (v := ?vz17q11) ?hiz17q11 ?hsz17q11 ?hfz17q11 ?hrz17q11 ?hQz17q11 (Or.inl ⟨?hwz17q11, ?hyz17q11⟩) ?hSz17q11 ?restz17q11
          case hiz17q11 => (simp; rfl)
          case hsz17q11 => kernel_rfl
          case hfz17q11 => kernel_rfl
          case hrz17q11 => kernel_rfl
          case hQz17q11 => exact fun _ _ _ h => h
          case hwz17q11 => rfl
          case hyz17q11 => (intro wq hSq; (try dsimp only at hSq); go_simp; (try with_reducible rfl))
          case hSz17q11 => assumption
          simp only [Act.put, List.setIfInBounds_toArray, List.set_cons_zero, List.set_cons_succ]
          refine wpAnyH_ready (rs := [12]) (by kernel_rfl) (by simp) ?_
          refine AllReadyH.cons (o := ?oz18q) ?hz18q (fun K hK => ?rz18q) AllReadyH.nil
          case hz18q => (simp; rfl)
          case rz18q =>
            have hcT : w6.cell? ⟨bl P.n, 2, none⟩ = some (.slice q n c') := Mm.cellOf HP6.out rfl
            have hfz : w6.frozen? ⟨bl P.n, 2, none⟩ = false := by simp [World.frozen?, HP6.out]
            go_simp
            clear hcT hfz
            refine hK.out _ _ (trivial) (fun hHz19q => ?_)
            clear hK K
            refine wpAnyH_done (by kernel_rfl) ?_ _
            obtain ⟨hM3, hE3⟩ := HM1.out.putKeys HE.out HND.out (w1 := w6) (v := .slice q6 L6 cq6) (ks := A ++ k :: B) (by rw [HEK.out]; exact HG6.out) (by rw [HKS.out]; exact HO6.out) (by rw [HEK.out]; exact HL6.out)
            obtain ⟨W3, hW3⟩ : ∃ W3, w6.setCell ⟨bl P.n, 2, none⟩ (.slice q6 L6 cq6) = W3 := ⟨_, rfl⟩
            rw [hW3] at hM3 hE3 ⊢
            have HM3 := Mm.hid hM3
            have HE3 := Mm.hid hE3
            have c3 := hM3.c3
            have f3 := hM3.fr 3
            obtain ⟨hM4, hE4⟩ := hM3.setCount (s.count + 1)
            obtain ⟨W4, hW4⟩ : ∃ W4, W3.setCell ⟨p, 3, none⟩ (.int .i64 ((s.count : Int) + 1)) = W4 := ⟨_, rfl⟩
            rw [show ((s.count + 1 : Nat) : Int) = (s.count : Int) + 1 from rfl, hW4] at hM4 hE4
            have HM4 : Hid (Lf.Mem h W4 _ p (Lf.insP s L P R (A ++ k :: B)) bl _ _) := Mm.hid hM4
            have HE4 : Hid (Lf.Ev tag _ w W4) := Mm.hid (HE1.out.trans (hE3.trans hE4))
            have HH4 : Hid (h ≤ W4.heap.size) := Mm.hid (Nat.le_trans hh0.out HE4.out.size)
            have hpt := part_any HM4 HH4.out (P := Lf.withKs P (A ++ k :: B)) (L := L) (R := R) rfl HZ1 HN1 HR1 HF1.out
            rw [← HLL.out] at hpt
            rw [show Lf.partM (Lf.insP s L P R (A ++ k :: B)) (Lf.withKs P (A ++ k :: B)) = Lf.partM s (Lf.withKs P (A ++ k :: B)) from rfl, ← HMF.out, ← HMT.out] at hpt
            have HPT := Mm.hid hpt
            have HBT4 : Hid (_ = none) := Mm.hid (hE3.tags _ HBL1.out HBT1.out)
            have HBX4 : Hid (W4.heap[w.heap.size]? = some (.cells #[.int .i64 0, .int .i64 0] 38 (0, 0))) := Mm.hid ((hE4.block _ (Nat.lt_of_lt_of_le HBL1.out hE3.size) HBT4.out).trans ((hE3.block _ HBL1.out HBT1.out).trans HBX1.out))
            have HBL4 : Hid (w.heap.size < W4.heap.size) := Mm.hid (Mm.heapLt HBX4.out)
            clear hM3 hE3 hM4 hE4 hpt hW3 HP6 HL6 HG6 HO6 HB2
            go_wp2_with fail
            with_reducible refine HPT.out.mono ?_
            rintro e W7 ⟨rfl, tag7, bl7, kv7, rv7, hM7, hE7⟩
            have HM7 := Mm.hid hM7
            have HE7 : Hid (Lf.Ev tag tag7 w W7) := Mm.hid (HE4.out.trans hE7)
            have HBX7 : Hid (W7.heap[w.heap.size]? = some (.cells #[.int .i64 0, .int .i64 0] 38 (0, 0))) := Mm.hid ((hE7.block _ HBL4.out HBT4.out).trans HBX4.out)
            have HBT7 : Hid (tag7 w.heap.size = none) := Mm.hid (hE7.tags _ HBL4.out HBT4.out)
            have d0 : W7.cell? ⟨w.heap.size, 0, none⟩ = some (.int .i64 0) := Mm.cellOf HBX7.out rfl
            have d1 : W7.cell? ⟨w.heap.size, 1, none⟩ = some (.int .i64 0) := Mm.cellOf HBX7.out rfl
            have fz : ∀ i, W7.frozen? ⟨w.heap.size, i, none⟩ = false := fun i => by simp [World.frozen?, HBX7.out]
            have fz0 := fz 0
            have fz1 := fz 1
            clear hM7 hE7 hW4 c3 f3 fz HPT
            go_wp2_with fail
            obtain ⟨W8, hW8⟩ : ∃ W8, (W7.setCell ⟨w.heap.size, 0, none⟩ (.int .i64 MF)).setCell ⟨w.heap.size, 1, none⟩ (.int .i64 MT) = W8 := ⟨_, rfl⟩
            have HM8 := Mm.hid ((HM7.out.set HBT7.out 0 (.int .i64 MF)).set HBT7.out 1 (.int .i64 MT))
            have HE8 := Mm.hid ((HE7.out.set (Nat.le_refl _) 0 (.int .i64 MF)).set (Nat.le_refl _) 1 (.int .i64 MT))
            have HBX8 := Mm.hid (Lf.box2n (x' := .int .i64 MF) (y' := .int .i64 MT) HBX7.out)
            rw [hW8] at HM8 HE8 HBX8 ⊢
            have HBT8 := HBT7
            have HBL8 : Hid (w.heap.size < W8.drew.heap.size) := Mm.hid (Mm.heapLt HBX8.out)
            clear d0 d1 fz0 fz1 hW8
            refine wp_region_held_drew (S := fun w' => w'.heap[w.heap.size]? = some (.cells #[.int .i64 MF, .int .i64 MT] 38 (0, 0)) ∧ w'.cell? ⟨w.heap.size, 0, none⟩ = some (.int .i64 MF) ∧ w'.cell? ⟨w.heap.size, 1, none⟩ = some (.int .i64 MT) ∧ w'.frozen? ⟨w.heap.size, 0, none⟩ = false ∧ w'.frozen? ⟨w.heap.size, 1, none⟩ = false) (by kernel_rfl) (HSB.out _ (show W8.drew.heap[w.heap.size]? = _ from HBX8.out)) (fun hH => ?_)
            refine wpAnyH_take (i := 0) (oi := ?oyb1q0) (v := ?vyb1q0) ?hiyb1q0 ?hsyb1q0 ?hfyb1q0 ?hryb1q0 ?hQyb1q0 (Or.inl ⟨?hwyb1q0, ?hyyb1q0⟩) ?hSyb1q0 ?restyb1q0
            case hiyb1q0 => (simp; rfl)
            case hsyb1q0 => kernel_rfl
            case hfyb1q0 => kernel_rfl
            case hryb1q0 => kernel_rfl
            case hQyb1q0 => exact fun _ _ _ h => h
            case hwyb1q0 => rfl
            case hyyb1q0 => (intro wq hSq; (try dsimp only at hSq); go_simp; (try with_reducible rfl))
            case hSyb1q0 => assumption
            simp only [Act.put, List.setIfInBounds_toArray, List.set_cons_zero, List.set_cons_succ]
            refine wpAnyH_take (i := 1) (oi := ?oyb2q1) (v := ?vyb2q1) ?hiyb2q1 ?hsyb2q1 ?hfyb2q1 ?hryb2q1 ?hQyb2q1 (Or.inl ⟨?hwyb2q1, ?hyyb2q1⟩) ?hSyb2q1 ?restyb2q1
            case hiyb2q1 => (simp; rfl)
            case hsyb2q1 => kernel_rfl
            case hfyb2q1 => kernel_rfl
            case hryb2q1 => kernel_rfl
            case hQyb2q1 => exact fun _ _ _ h => h
            case hwyb2q1 => rfl
            case hyyb2q1 => (intro wq hSq; (try dsimp only at hSq); go_simp; (try with_reducible rfl))
            case hSyb2q1 => assumption
            simp only [Act.put, List.setIfInBounds_toArray, List.set_cons_zero, List.set_cons_succ]
            refine wpAnyH_take (i := 3) (oi := ?oyb3q3) (v := ?vyb3q3) ?hiyb3q3 ?hsyb3q3 ?hfyb3q3 ?hryb3q3 ?hQyb3q3 (Or.inl ⟨?hwyb3q3, ?hyyb3q3⟩) ?hSyb3q3 ?restyb3q3
            case hiyb3q3 => (simp; rfl)
            case hsyb3q3 => kernel_rfl
            case hfyb3q3 => kernel_rfl
            case hryb3q3 => kernel_rfl
            case hQyb3q3 => exact fun _ _ _ h => h
            case hwyb3q3 => rfl
            case hyyb3q3 => (intro wq hSq; (try dsimp only at hSq); go_simp; (try with_reducible rfl))
            case hSyb3q3 => assumption
            simp only [Act.put, List.setIfInBounds_toArray, List.set_cons_zero, List.set_cons_succ]
            refine wpAnyH_ready (rs := [2]) (by kernel_rfl) (by simp) ?_
            refine AllReadyH.cons (o := ?oyb4q) ?hyb4q (fun K hK => ?ryb4q) AllReadyH.nil
            case hyb4q => (simp; rfl)
            case ryb4q =>
              go_simp
              have hof := leafof_any (Mm.hid HM8.out.drew) HS2 HZ2
              have HOF := Mm.hid hof
              clear hof
              with_reducible refine HOF.out.mono ?_
              rintro e w9 ⟨rfl, hb9⟩
              have HM9 := Mm.hid ((HM8.out.drew).below hb9)
              have HE9 := Mm.hid ((HE8.out.drew).trans (Lf.Ev.below hb9))
              have HX9 : Hid (w9.heap[w.heap.size]? = some (.cells #[.int .i64 MF, .int .i64 MT] 38 (0, 0))) := Mm.hid ((hb9.block _ HBL8.out).trans HBX8.out)
              clear hb9
              go_wp2_with fail
              refine hK.out _ _ (HSB.out _ HX9.out) (fun hHyb5q => ?_)
              clear hK K
              refine wpAnyH_take (i := 4) (oi := ?oyb6q4) (v := ?vyb6q4) ?hiyb6q4 ?hsyb6q4 ?hfyb6q4 ?hryb6q4 ?hQyb6q4 (Or.inl ⟨?hwyb6q4, ?hyyb6q4⟩) ?hSyb6q4 ?restyb6q4
              case hiyb6q4 => (simp; rfl)
              case hsyb6q4 => kernel_rfl
              case hfyb6q4 => kernel_rfl
              case hryb6q4 => kernel_rfl
              case hQyb6q4 => exact fun _ _ _ h => h
              case hwyb6q4 => rfl
              case hyyb6q4 => (intro wq hSq; (try dsimp only at hSq); go_simp; (try with_reducible rfl))
              case hSyb6q4 => assumption
              simp only [Act.put, List.setIfInBounds_toArray, List.set_cons_zero, List.set_cons_succ]
              refine wpAnyH_ready (rs := [5]) (by kernel_rfl) (by simp) ?_
              refine AllReadyH.cons (o := ?oyb7q) ?hyb7q (fun K hK => ?ryb7q) AllReadyH.nil
              case hyb7q => (simp; rfl)
              case ryb7q =>
                have hq0 : w9.cell? ⟨w.heap.size, 0, none⟩ = some (.int .i64 MF) := Mm.cellOf HX9.out rfl
                have hq1 : w9.cell? ⟨w.heap.size, 1, none⟩ = some (.int .i64 MT) := Mm.cellOf HX9.out rfl
                have hq2 : w9.frozen? ⟨w.heap.size, 0, none⟩ = false := by simp [World.frozen?, HX9.out]
                have hq3 : w9.frozen? ⟨w.heap.size, 1, none⟩ = false := by simp [World.frozen?, HX9.out]
                go_simp
                clear hq0 hq1 hq2 hq3
                refine hK.out _ _ (HSB.out _ (Lf.box2n HX9.out)) (fun hHyb8q => ?_)
                clear hK K
                refine wpAnyH_take (i := 6) (oi := ?oyb9q6) (v := ?vyb9q6) ?hiyb9q6 ?hsyb9q6 ?hfyb9q6 ?hryb9q6 ?hQyb9q6 (Or.inl ⟨?hwyb9q6, ?hyyb9q6⟩) ?hSyb9q6 ?restyb9q6
                case hiyb9q6 => (simp; rfl)
                case hsyb9q6 => kernel_rfl
                case hfyb9q6 => kernel_rfl
                case hryb9q6 => kernel_rfl
                case hQyb9q6 => exact fun _ _ _ h => h
                case hwyb9q6 => rfl
                case hyyb9q6 => (intro wq hSq; (try dsimp only at hSq); go_simp; (try with_reducible rfl))
                case hSyb9q6 => assumption
                simp only [Act.put, List.setIfInBounds_toArray, List.set_cons_zero, List.set_cons_succ]
                refine wpAnyH_done (by kernel_rfl) ?_ _
                have hbE := Lf.box2n (x' := .int .i64 MF) (y' := .int .i64 MT) HX9.out
                have HMR := Mm.hid ((HM9.out.set HBT8.out 0 (.int .i64 MF)).set HBT8.out 1 (.int .i64 MT))
                have HER := Mm.hid ((HE9.out.set (Nat.le_refl _) 0 (.int .i64 MF)).set (Nat.le_refl _) 1 (.int .i64 MT))
                obtain ⟨WE, hWE⟩ : ∃ WE, (w9.setCell ⟨w.heap.size, 0, none⟩ (.int .i64 MF)).setCell ⟨w.heap.size, 1, none⟩ (.int .i64 MT) = WE := ⟨_, rfl⟩
                rw [hWE] at hbE HMR HER ⊢
                have ea : WE.cell? ⟨w.heap.size, 0, none⟩ = some (.int .i64 MF) := Mm.cellOf hbE rfl
                have eb : WE.cell? ⟨w.heap.size, 1, none⟩ = some (.int .i64 MT) := Mm.cellOf hbE rfl
                go_wp2_with fail
                exact bodyPost_ret (v := .tuple #[.int .i64 (P'.n : Int), .agg #[.int .i64 MF, .int .i64 MT], .int .i64 0]) (by simp [results, Tryz.results33, go_sem, ea, eb]) rfl ⟨by rw [HMF.out, HMT.out], _, _, _, _, HMR.out, HER.out⟩
  case rz8q =>
    go_simp
    refine (lclone_any k _ HKZ.out).mono ?_
    rintro e w2 ⟨rfl, hb2⟩
    have HB2 : Hid (Below w1.heap.size w1 w2) := Mm.hid ((Below.refl _ w1).drew.trans hb2)
    clear hb2
    go_wp2_with fail
    refine hK.out _ _ (trivial) (fun hHz20q => ?_)
    clear hK K
    refine wpAnyH_ready (rs := [4, 8]) (by kernel_rfl) (by simp) ?_
    refine AllReadyH.cons (o := ?oz21q) ?hz21q (fun K hK => ?rz21q) (AllReadyH.cons (o := ?oz22q) ?hz22q (fun K hK => ?rz22q) AllReadyH.nil)
    case hz21q => (simp; rfl)
    case hz22q => (simp; rfl)
    case rz21q =>
      have hc5 : w2.cell? ⟨bl P.n, 2, none⟩ = some (.slice q n c') := (Mm.belAt HB2.out _ (World.block_lt_of_cell? w1 _ HC6.out)).trans HC6.out
      go_simp
      clear hc5
      refine hK.out _ _ (trivial) (fun hHz23q => ?_)
      clear hK K
      refine wpAnyH_ready (rs := [8]) (by kernel_rfl) (by simp) ?_
      refine AllReadyH.cons (o := ?oz24q) ?hz24q (fun K hK => ?rz24q) AllReadyH.nil
      case hz24q => (simp; rfl)
      case rz24q =>
        go_simp
        refine hK.out _ _ (trivial) (fun hHz25q => ?_)
        clear hK K
        refine wpAnyH_ready (rs := [9]) (by kernel_rfl) (by simp) ?_
        refine AllReadyH.cons (o := ?oz26q) ?hz26q (fun K hK => ?rz26q) AllReadyH.nil
        case hz26q => (simp; rfl)
        case rz26q =>
          go_simp
          have hin := insS_any q n c' A.length (Lf.strs P.ks) (.string k) w2.heap.size h (w2.alloc (.cells #[.string k] 9)) (Mm.hid (by have h1 := (HM1.out.pg P HPM.out).own.below (w2 := (w2.alloc (.cells #[.string k] 9))) (HB2.out.alloc HB2.out.size _); rw [HEK.out] at h1; exact h1)) (Mm.hid (by rw [Lf.strs_len]; exact HNK.out.symm)) HAN.out rfl (Mm.hid (Lf.strs_one _)) (Mm.hid (Mm.newAt _ _ rfl)) (Mm.hid (fun g' hg' e => by
            have h1 := ((HM1.out.pg P HPM.out).own.lt (g := g') (by rw [HEK.out, hg']; rfl)).1
            have h2 := HB2.out.size
            omega)) (by omega) (Nat.le_trans HH.out (Nat.le_trans HB2.out.size (by simp)))
          have HIN := Mm.hid hin
          clear hin
          with_reducible refine HIN.out.mono ?_
          rintro e w6 ⟨v6, rfl, hown6, hg6, hl6⟩
          obtain ⟨q6, cq6, ev6, _⟩ := hown6.shape
          obtain ⟨L6, hL6⟩ : ∃ L6, L6 = ((Lf.strs P.ks).take A.length ++ .string k :: (Lf.strs P.ks).drop A.length).length := ⟨_, rfl⟩
          rw [← hL6] at ev6
          subst ev6
          clear hL6
          have HO6 := Mm.hid hown6
          have HG6 : Hid (w1.grownBy w6 (Value.slice q n c').ownBlock) := Mm.hid ⟨hg6.os.trans HB2.out.os, hg6.tape.trans HB2.out.tape, hg6.output.trans HB2.out.output, Nat.le_trans HB2.out.size (Nat.le_trans (by simp) hg6.size), fun b hb hne => (hg6.block b (Nat.lt_of_lt_of_le hb (Nat.le_trans HB2.out.size (by simp))) hne).trans ((HB2.out.alloc HB2.out.size _).block b hb)⟩
          have HL6 : Hid ((Value.slice q6 L6 cq6).ownBlock = (Value.slice q n c').ownBlock ∨ ∀ g', (Value.slice q6 L6 cq6).ownBlock = some g' → w1.heap.size ≤ g') := Mm.hid (by
            rcases hl6 with h1 | h1
            · exact Or.inl h1
            · exact Or.inr (fun g' hg' => by have := h1 g' hg'; have := HB2.out.size; simp at *; omega))
          have HP6 : Hid (w6.heap[bl P.n]? = some (.cells #[.int .i64 (P.n : Int), .string P.b, .slice q n c'] 96 (0, 0))) := Mm.hid (by
            have h1 := (HM1.out.pg P HPM.out).cell
            have h2 := (HM1.out.pg P HPM.out).tb
            rw [HEK.out] at h1
            refine (HG6.out.block _ (Mm.heapLt h1) (fun e => ?_)).trans h1
            have h3 := (HM1.out.pg P HPM.out).tk (bl P.n) (by rw [HEK.out]; exact e.symm)
            rw [h2] at h3; cases h3)
          clear hown6 hg6 hl6
          go_wp2_with fail
          refine hK.out _ _ (trivial) (fun hHz27q => ?_)
          clear hK K
          refine wpAnyH_take (i := 10) (oi := ?oz28q10) (v := ?vz28q10) ?hiz28q10 ?hsz28q10 ?hfz28q10 ?hrz28q10 ?hQz28q10 (Or.inl ⟨?hwz28q10, ?hyz28q10⟩) ?hSz28q10 ?restz28q10
          case hiz28q10 => (simp; rfl)
          case hsz28q10 => kernel_rfl
          case hfz28q10 => kernel_rfl
          case hrz28q10 => kernel_rfl
          case hQz28q10 => exact fun _ _ _ h => h
          case hwz28q10 => rfl
          case hyz28q10 => (intro wq hSq; (try dsimp only at hSq); go_simp; (try with_reducible rfl))
          case hSz28q10 => assumption
          simp only [Act.put, List.setIfInBounds_toArray, List.set_cons_zero, List.set_cons_succ]
          refine wpAnyH_take (i := 11) (oi := ?oz29q11) (v := ?vz29q11) ?hiz29q11 ?hsz29q11 ?hfz29q11 ?hrz29q11 ?hQz29q11 (Or.inl ⟨?hwz29q11, ?hyz29q11⟩) ?hSz29q11 ?restz29q11
          case hiz29q11 => (simp; rfl)
          case hsz29q11 => kernel_rfl
          case hfz29q11 => kernel_rfl
          case hrz29q11 => kernel_rfl
          case hQz29q11 => exact fun _ _ _ h => h
          case hwz29q11 => rfl
          case hyz29q11 => (intro wq hSq; (try dsimp only at hSq); go_simp; (try with_reducible rfl))
          case hSz29q11 => assumption
          simp only [Act.put, List.setIfInBounds_toArray, List.set_cons_zero, List.set_cons_succ]
          refine wpAnyH_ready (rs := [12]) (by kernel_rfl) (by simp) ?_
          refine AllReadyH.cons (o := ?oz30q) ?hz30q (fun K hK => ?rz30q) AllReadyH.nil
          case hz30q => (simp; rfl)
          case rz30q =>
            have hcT : w6.cell? ⟨bl P.n, 2, none⟩ = some (.slice q n c') := Mm.cellOf HP6.out rfl
            have hfz : w6.frozen? ⟨bl P.n, 2, none⟩ = false := by simp [World.frozen?, HP6.out]
            go_simp
            clear hcT hfz
            refine hK.out _ _ (trivial) (fun hHz31q => ?_)
            clear hK K
            refine wpAnyH_done (by kernel_rfl) ?_ _
            obtain ⟨hM3, hE3⟩ := HM1.out.putKeys HE.out HND.out (w1 := w6) (v := .slice q6 L6 cq6) (ks := A ++ k :: B) (by rw [HEK.out]; exact HG6.out) (by rw [HKS.out]; exact HO6.out) (by rw [HEK.out]; exact HL6.out)
            obtain ⟨W3, hW3⟩ : ∃ W3, w6.setCell ⟨bl P.n, 2, none⟩ (.slice q6 L6 cq6) = W3 := ⟨_, rfl⟩
            rw [hW3] at hM3 hE3 ⊢
            have HM3 := Mm.hid hM3
            have HE3 := Mm.hid hE3
            have c3 := hM3.c3
            have f3 := hM3.fr 3
            obtain ⟨hM4, hE4⟩ := hM3.setCount (s.count + 1)
            obtain ⟨W4, hW4⟩ : ∃ W4, W3.setCell ⟨p, 3, none⟩ (.int .i64 ((s.count : Int) + 1)) = W4 := ⟨_, rfl⟩
            rw [show ((s.count + 1 : Nat) : Int) = (s.count : Int) + 1 from rfl, hW4] at hM4 hE4
            have HM4 : Hid (Lf.Mem h W4 _ p (Lf.insP s L P R (A ++ k :: B)) bl _ _) := Mm.hid hM4
            have HE4 : Hid (Lf.Ev tag _ w W4) := Mm.hid (HE1.out.trans (hE3.trans hE4))
            have HH4 : Hid (h ≤ W4.heap.size) := Mm.hid (Nat.le_trans hh0.out HE4.out.size)
            have hpt := part_any HM4 HH4.out (P := Lf.withKs P (A ++ k :: B)) (L := L) (R := R) rfl HZ1 HN1 HR1 HF1.out
            rw [← HLL.out] at hpt
            rw [show Lf.partM (Lf.insP s L P R (A ++ k :: B)) (Lf.withKs P (A ++ k :: B)) = Lf.partM s (Lf.withKs P (A ++ k :: B)) from rfl, ← HMF.out, ← HMT.out] at hpt
            have HPT := Mm.hid hpt
            have HBT4 : Hid (_ = none) := Mm.hid (hE3.tags _ HBL1.out HBT1.out)
            have HBX4 : Hid (W4.heap[w.heap.size]? = some (.cells #[.int .i64 0, .int .i64 0] 38 (0, 0))) := Mm.hid ((hE4.block _ (Nat.lt_of_lt_of_le HBL1.out hE3.size) HBT4.out).trans ((hE3.block _ HBL1.out HBT1.out).trans HBX1.out))
            have HBL4 : Hid (w.heap.size < W4.heap.size) := Mm.hid (Mm.heapLt HBX4.out)
            clear hM3 hE3 hM4 hE4 hpt hW3 HP6 HL6 HG6 HO6 HB2
            go_wp2_with fail
            with_reducible refine HPT.out.mono ?_
            rintro e W7 ⟨rfl, tag7, bl7, kv7, rv7, hM7, hE7⟩
            have HM7 := Mm.hid hM7
            have HE7 : Hid (Lf.Ev tag tag7 w W7) := Mm.hid (HE4.out.trans hE7)
            have HBX7 : Hid (W7.heap[w.heap.size]? = some (.cells #[.int .i64 0, .int .i64 0] 38 (0, 0))) := Mm.hid ((hE7.block _ HBL4.out HBT4.out).trans HBX4.out)
            have HBT7 : Hid (tag7 w.heap.size = none) := Mm.hid (hE7.tags _ HBL4.out HBT4.out)
            have d0 : W7.cell? ⟨w.heap.size, 0, none⟩ = some (.int .i64 0) := Mm.cellOf HBX7.out rfl
            have d1 : W7.cell? ⟨w.heap.size, 1, none⟩ = some (.int .i64 0) := Mm.cellOf HBX7.out rfl
            have fz : ∀ i, W7.frozen? ⟨w.heap.size, i, none⟩ = false := fun i => by simp [World.frozen?, HBX7.out]
            have fz0 := fz 0
            have fz1 := fz 1
            clear hM7 hE7 hW4 c3 f3 fz HPT
            go_wp2_with fail
            obtain ⟨W8, hW8⟩ : ∃ W8, (W7.setCell ⟨w.heap.size, 0, none⟩ (.int .i64 MF)).setCell ⟨w.heap.size, 1, none⟩ (.int .i64 MT) = W8 := ⟨_, rfl⟩
            have HM8 := Mm.hid ((HM7.out.set HBT7.out 0 (.int .i64 MF)).set HBT7.out 1 (.int .i64 MT))
            have HE8 := Mm.hid ((HE7.out.set (Nat.le_refl _) 0 (.int .i64 MF)).set (Nat.le_refl _) 1 (.int .i64 MT))
            have HBX8 := Mm.hid (Lf.box2n (x' := .int .i64 MF) (y' := .int .i64 MT) HBX7.out)
            rw [hW8] at HM8 HE8 HBX8 ⊢
            have HBT8 := HBT7
            have HBL8 : Hid (w.heap.size < W8.drew.heap.size) := Mm.hid (Mm.heapLt HBX8.out)
            clear d0 d1 fz0 fz1 hW8
            refine wp_region_held_drew (S := fun w' => w'.heap[w.heap.size]? = some (.cells #[.int .i64 MF, .int .i64 MT] 38 (0, 0)) ∧ w'.cell? ⟨w.heap.size, 0, none⟩ = some (.int .i64 MF) ∧ w'.cell? ⟨w.heap.size, 1, none⟩ = some (.int .i64 MT) ∧ w'.frozen? ⟨w.heap.size, 0, none⟩ = false ∧ w'.frozen? ⟨w.heap.size, 1, none⟩ = false) (by kernel_rfl) (HSB.out _ (show W8.drew.heap[w.heap.size]? = _ from HBX8.out)) (fun hH => ?_)
            refine wpAnyH_take (i := 0) (oi := ?oyc1q0) (v := ?vyc1q0) ?hiyc1q0 ?hsyc1q0 ?hfyc1q0 ?hryc1q0 ?hQyc1q0 (Or.inl ⟨?hwyc1q0, ?hyyc1q0⟩) ?hSyc1q0 ?restyc1q0
            case hiyc1q0 => (simp; rfl)
            case hsyc1q0 => kernel_rfl
            case hfyc1q0 => kernel_rfl
            case hryc1q0 => kernel_rfl
            case hQyc1q0 => exact fun _ _ _ h => h
            case hwyc1q0 => rfl
            case hyyc1q0 => (intro wq hSq; (try dsimp only at hSq); go_simp; (try with_reducible rfl))
            case hSyc1q0 => assumption
            simp only [Act.put, List.setIfInBounds_toArray, List.set_cons_zero, List.set_cons_succ]
            refine wpAnyH_take (i := 1) (oi := ?oyc2q1) (v := ?vyc2q1) ?hiyc2q1 ?hsyc2q1 ?hfyc2q1 ?hryc2q1 ?hQyc2q1 (Or.inl ⟨?hwyc2q1, ?hyyc2q1⟩) ?hSyc2q1 ?restyc2q1
            case hiyc2q1 => (simp; rfl)
            case hsyc2q1 => kernel_rfl
            case hfyc2q1 => kernel_rfl
            case hryc2q1 => kernel_rfl
            case hQyc2q1 => exact fun _ _ _ h => h
            case hwyc2q1 => rfl
            case hyyc2q1 => (intro wq hSq; (try dsimp only at hSq); go_simp; (try with_reducible rfl))
            case hSyc2q1 => assumption
            simp only [Act.put, List.setIfInBounds_toArray, List.set_cons_zero, List.set_cons_succ]
            refine wpAnyH_take (i := 3) (oi := ?oyc3q3) (v := ?vyc3q3) ?hiyc3q3 ?hsyc3q3 ?hfyc3q3 ?hryc3q3 ?hQyc3q3 (Or.inl ⟨?hwyc3q3, ?hyyc3q3⟩) ?hSyc3q3 ?restyc3q3
            case hiyc3q3 => (simp; rfl)
            case hsyc3q3 => kernel_rfl
            case hfyc3q3 => kernel_rfl
            case hryc3q3 => kernel_rfl
            case hQyc3q3 => exact fun _ _ _ h => h
            case hwyc3q3 => rfl
            case hyyc3q3 => (intro wq hSq; (try dsimp only at hSq); go_simp; (try with_reducible rfl))
            case hSyc3q3 => assumption
            simp only [Act.put, List.setIfInBounds_toArray, List.set_cons_zero, List.set_cons_succ]
            refine wpAnyH_ready (rs := [2]) (by kernel_rfl) (by simp) ?_
            refine AllReadyH.cons (o := ?oyc4q) ?hyc4q (fun K hK => ?ryc4q) AllReadyH.nil
            case hyc4q => (simp; rfl)
            case ryc4q =>
              go_simp
              have hof := leafof_any (Mm.hid HM8.out.drew) HS2 HZ2
              have HOF := Mm.hid hof
              clear hof
              with_reducible refine HOF.out.mono ?_
              rintro e w9 ⟨rfl, hb9⟩
              have HM9 := Mm.hid ((HM8.out.drew).below hb9)
              have HE9 := Mm.hid ((HE8.out.drew).trans (Lf.Ev.below hb9))
              have HX9 : Hid (w9.heap[w.heap.size]? = some (.cells #[.int .i64 MF, .int .i64 MT] 38 (0, 0))) := Mm.hid ((hb9.block _ HBL8.out).trans HBX8.out)
              clear hb9
              go_wp2_with fail
              refine hK.out _ _ (HSB.out _ HX9.out) (fun hHyc5q => ?_)
              clear hK K
              refine wpAnyH_take (i := 4) (oi := ?oyc6q4) (v := ?vyc6q4) ?hiyc6q4 ?hsyc6q4 ?hfyc6q4 ?hryc6q4 ?hQyc6q4 (Or.inl ⟨?hwyc6q4, ?hyyc6q4⟩) ?hSyc6q4 ?restyc6q4
              case hiyc6q4 => (simp; rfl)
              case hsyc6q4 => kernel_rfl
              case hfyc6q4 => kernel_rfl
              case hryc6q4 => kernel_rfl
              case hQyc6q4 => exact fun _ _ _ h => h
              case hwyc6q4 => rfl
              case hyyc6q4 => (intro wq hSq; (try dsimp only at hSq); go_simp; (try with_reducible rfl))
              case hSyc6q4 => assumption
              simp only [Act.put, List.setIfInBounds_toArray, List.set_cons_zero, List.set_cons_succ]
              refine wpAnyH_ready (rs := [5]) (by kernel_rfl) (by simp) ?_
              refine AllReadyH.cons (o := ?oyc7q) ?hyc7q (fun K hK => ?ryc7q) AllReadyH.nil
              case hyc7q => (simp; rfl)
              case ryc7q =>
                have hq0 : w9.cell? ⟨w.heap.size, 0, none⟩ = some (.int .i64 MF) := Mm.cellOf HX9.out rfl
                have hq1 : w9.cell? ⟨w.heap.size, 1, none⟩ = some (.int .i64 MT) := Mm.cellOf HX9.out rfl
                have hq2 : w9.frozen? ⟨w.heap.size, 0, none⟩ = false := by simp [World.frozen?, HX9.out]
                have hq3 : w9.frozen? ⟨w.heap.size, 1, none⟩ = false := by simp [World.frozen?, HX9.out]
                go_simp
                clear hq0 hq1 hq2 hq3
                refine hK.out _ _ (HSB.out _ (Lf.box2n HX9.out)) (fun hHyc8q => ?_)
                clear hK K
                refine wpAnyH_take (i := 6) (oi := ?oyc9q6) (v := ?vyc9q6) ?hiyc9q6 ?hsyc9q6 ?hfyc9q6 ?hryc9q6 ?hQyc9q6 (Or.inl ⟨?hwyc9q6, ?hyyc9q6⟩) ?hSyc9q6 ?restyc9q6
                case hiyc9q6 => (simp; rfl)
                case hsyc9q6 => kernel_rfl
                case hfyc9q6 => kernel_rfl
                case hryc9q6 => kernel_rfl
                case hQyc9q6 => exact fun _ _ _ h => h
                case hwyc9q6 => rfl
                case hyyc9q6 => (intro wq hSq; (try dsimp only at hSq); go_simp; (try with_reducible rfl))
                case hSyc9q6 => assumption
                simp only [Act.put, List.setIfInBounds_toArray, List.set_cons_zero, List.set_cons_succ]
                refine wpAnyH_done (by kernel_rfl) ?_ _
                have hbE := Lf.box2n (x' := .int .i64 MF) (y' := .int .i64 MT) HX9.out
                have HMR := Mm.hid ((HM9.out.set HBT8.out 0 (.int .i64 MF)).set HBT8.out 1 (.int .i64 MT))
                have HER := Mm.hid ((HE9.out.set (Nat.le_refl _) 0 (.int .i64 MF)).set (Nat.le_refl _) 1 (.int .i64 MT))
                obtain ⟨WE, hWE⟩ : ∃ WE, (w9.setCell ⟨w.heap.size, 0, none⟩ (.int .i64 MF)).setCell ⟨w.heap.size, 1, none⟩ (.int .i64 MT) = WE := ⟨_, rfl⟩
                rw [hWE] at hbE HMR HER ⊢
                have ea : WE.cell? ⟨w.heap.size, 0, none⟩ = some (.int .i64 MF) := Mm.cellOf hbE rfl
                have eb : WE.cell? ⟨w.heap.size, 1, none⟩ = some (.int .i64 MT) := Mm.cellOf hbE rfl
                go_wp2_with fail
                exact bodyPost_ret (v := .tuple #[.int .i64 (P'.n : Int), .agg #[.int .i64 MF, .int .i64 MT], .int .i64 0]) (by simp [results, Tryz.results33, go_sem, ea, eb]) rfl ⟨by rw [HMF.out, HMT.out], _, _, _, _, HMR.out, HER.out⟩
    case rz22q =>
      go_simp
      refine hK.out _ _ (trivial) (fun hHz32q => ?_)
      clear hK K
      refine wpAnyH_ready (rs := [4]) (by kernel_rfl) (by simp) ?_
      refine AllReadyH.cons (o := ?oz33q) ?hz33q (fun K hK => ?rz33q) AllReadyH.nil
      case hz33q => (simp; rfl)
      case rz33q =>
        have hc5 : (w2.alloc (.cells #[.string k] 9)).cell? ⟨bl P.n, 2, none⟩ = some (.slice q n c') := (Mm.belAt (HB2.out.alloc HB2.out.size _) _ (World.block_lt_of_cell? w1 _ HC6.out)).trans HC6.out
        go_simp
        clear hc5
        refine hK.out _ _ (trivial) (fun hHz34q => ?_)
        clear hK K
        refine wpAnyH_ready (rs := [9]) (by kernel_rfl) (by simp) ?_
        refine AllReadyH.cons (o := ?oz35q) ?hz35q (fun K hK => ?rz35q) AllReadyH.nil
        case hz35q => (simp; rfl)
        case rz35q =>
          go_simp
          have hin := insS_any q n c' A.length (Lf.strs P.ks) (.string k) w2.heap.size h (w2.alloc (.cells #[.string k] 9)) (Mm.hid (by have h1 := (HM1.out.pg P HPM.out).own.below (w2 := (w2.alloc (.cells #[.string k] 9))) (HB2.out.alloc HB2.out.size _); rw [HEK.out] at h1; exact h1)) (Mm.hid (by rw [Lf.strs_len]; exact HNK.out.symm)) HAN.out rfl (Mm.hid (Lf.strs_one _)) (Mm.hid (Mm.newAt _ _ rfl)) (Mm.hid (fun g' hg' e => by
            have h1 := ((HM1.out.pg P HPM.out).own.lt (g := g') (by rw [HEK.out, hg']; rfl)).1
            have h2 := HB2.out.size
            omega)) (by omega) (Nat.le_trans HH.out (Nat.le_trans HB2.out.size (by simp)))
          have HIN := Mm.hid hin
          clear hin
          with_reducible refine HIN.out.mono ?_
          rintro e w6 ⟨v6, rfl, hown6, hg6, hl6⟩
          obtain ⟨q6, cq6, ev6, _⟩ := hown6.shape
          obtain ⟨L6, hL6⟩ : ∃ L6, L6 = ((Lf.strs P.ks).take A.length ++ .string k :: (Lf.strs P.ks).drop A.length).length := ⟨_, rfl⟩
          rw [← hL6] at ev6
          subst ev6
          clear hL6
          have HO6 := Mm.hid hown6
          have HG6 : Hid (w1.grownBy w6 (Value.slice q n c').ownBlock) := Mm.hid ⟨hg6.os.trans HB2.out.os, hg6.tape.trans HB2.out.tape, hg6.output.trans HB2.out.output, Nat.le_trans HB2.out.size (Nat.le_trans (by simp) hg6.size), fun b hb hne => (hg6.block b (Nat.lt_of_lt_of_le hb (Nat.le_trans HB2.out.size (by simp))) hne).trans ((HB2.out.alloc HB2.out.size _).block b hb)⟩
          have HL6 : Hid ((Value.slice q6 L6 cq6).ownBlock = (Value.slice q n c').ownBlock ∨ ∀ g', (Value.slice q6 L6 cq6).ownBlock = some g' → w1.heap.size ≤ g') := Mm.hid (by
            rcases hl6 with h1 | h1
            · exact Or.inl h1
            · exact Or.inr (fun g' hg' => by have := h1 g' hg'; have := HB2.out.size; simp at *; omega))
          have HP6 : Hid (w6.heap[bl P.n]? = some (.cells #[.int .i64 (P.n : Int), .string P.b, .slice q n c'] 96 (0, 0))) := Mm.hid (by
            have h1 := (HM1.out.pg P HPM.out).cell
            have h2 := (HM1.out.pg P HPM.out).tb
            rw [HEK.out] at h1
            refine (HG6.out.block _ (Mm.heapLt h1) (fun e => ?_)).trans h1
            have h3 := (HM1.out.pg P HPM.out).tk (bl P.n) (by rw [HEK.out]; exact e.symm)
            rw [h2] at h3; cases h3)
          clear hown6 hg6 hl6
          go_wp2_with fail
          refine hK.out _ _ (trivial) (fun hHz36q => ?_)
          clear hK K
          refine wpAnyH_take (i := 10) (oi := ?oz37q10) (v := ?vz37q10) ?hiz37q10 ?hsz37q10 ?hfz37q10 ?hrz37q10 ?hQz37q10 (Or.inl ⟨?hwz37q10, ?hyz37q10⟩) ?hSz37q10 ?restz37q10
          case hiz37q10 => (simp; rfl)
          case hsz37q10 => kernel_rfl
          case hfz37q10 => kernel_rfl
          case hrz37q10 => kernel_rfl
          case hQz37q10 => exact fun _ _ _ h => h
          case hwz37q10 => rfl
          case hyz37q10 => (intro wq hSq; (try dsimp only at hSq); go_simp; (try with_reducible rfl))
          case hSz37q10 => assumption
          simp only [Act.put, List.setIfInBounds_toArray, List.set_cons_zero, List.set_cons_succ]
          refine wpAnyH_take (i := 11) (oi := ?oz38q11) (v := ?vz38q11) ?hiz38q11 ?hsz38q11 ?hfz38q11 ?hrz38q11 ?hQz38q11 (Or.inl ⟨?hwz38q11, ?hyz38q11⟩) ?hSz38q11 ?restz38q11
          case hiz38q11 => (simp; rfl)
          case hsz38q11 => kernel_rfl
          case hfz38q11 => kernel_rfl
          case hrz38q11 => kernel_rfl
          case hQz38q11 => exact fun _ _ _ h => h
          case hwz38q11 => rfl
          case hyz38q11 => (intro wq hSq; (try dsimp only at hSq); go_simp; (try with_reducible rfl))
          case hSz38q11 => assumption
          simp only [Act.put, List.setIfInBounds_toArray, List.set_cons_zero, List.set_cons_succ]
          refine wpAnyH_ready (rs := [12]) (by kernel_rfl) (by simp) ?_
          refine AllReadyH.cons (o := ?oz39q) ?hz39q (fun K hK => ?rz39q) AllReadyH.nil
          case hz39q => (simp; rfl)
          case rz39q =>
            have hcT : w6.cell? ⟨bl P.n, 2, none⟩ = some (.slice q n c') := Mm.cellOf HP6.out rfl
            have hfz : w6.frozen? ⟨bl P.n, 2, none⟩ = false := by simp [World.frozen?, HP6.out]
            go_simp
            clear hcT hfz
            refine hK.out _ _ (trivial) (fun hHz40q => ?_)
            clear hK K
            refine wpAnyH_done (by kernel_rfl) ?_ _
            obtain ⟨hM3, hE3⟩ := HM1.out.putKeys HE.out HND.out (w1 := w6) (v := .slice q6 L6 cq6) (ks := A ++ k :: B) (by rw [HEK.out]; exact HG6.out) (by rw [HKS.out]; exact HO6.out) (by rw [HEK.out]; exact HL6.out)
            obtain ⟨W3, hW3⟩ : ∃ W3, w6.setCell ⟨bl P.n, 2, none⟩ (.slice q6 L6 cq6) = W3 := ⟨_, rfl⟩
            rw [hW3] at hM3 hE3 ⊢
            have HM3 := Mm.hid hM3
            have HE3 := Mm.hid hE3
            have c3 := hM3.c3
            have f3 := hM3.fr 3
            obtain ⟨hM4, hE4⟩ := hM3.setCount (s.count + 1)
            obtain ⟨W4, hW4⟩ : ∃ W4, W3.setCell ⟨p, 3, none⟩ (.int .i64 ((s.count : Int) + 1)) = W4 := ⟨_, rfl⟩
            rw [show ((s.count + 1 : Nat) : Int) = (s.count : Int) + 1 from rfl, hW4] at hM4 hE4
            have HM4 : Hid (Lf.Mem h W4 _ p (Lf.insP s L P R (A ++ k :: B)) bl _ _) := Mm.hid hM4
            have HE4 : Hid (Lf.Ev tag _ w W4) := Mm.hid (HE1.out.trans (hE3.trans hE4))
            have HH4 : Hid (h ≤ W4.heap.size) := Mm.hid (Nat.le_trans hh0.out HE4.out.size)
            have hpt := part_any HM4 HH4.out (P := Lf.withKs P (A ++ k :: B)) (L := L) (R := R) rfl HZ1 HN1 HR1 HF1.out
            rw [← HLL.out] at hpt
            rw [show Lf.partM (Lf.insP s L P R (A ++ k :: B)) (Lf.withKs P (A ++ k :: B)) = Lf.partM s (Lf.withKs P (A ++ k :: B)) from rfl, ← HMF.out, ← HMT.out] at hpt
            have HPT := Mm.hid hpt
            have HBT4 : Hid (_ = none) := Mm.hid (hE3.tags _ HBL1.out HBT1.out)
            have HBX4 : Hid (W4.heap[w.heap.size]? = some (.cells #[.int .i64 0, .int .i64 0] 38 (0, 0))) := Mm.hid ((hE4.block _ (Nat.lt_of_lt_of_le HBL1.out hE3.size) HBT4.out).trans ((hE3.block _ HBL1.out HBT1.out).trans HBX1.out))
            have HBL4 : Hid (w.heap.size < W4.heap.size) := Mm.hid (Mm.heapLt HBX4.out)
            clear hM3 hE3 hM4 hE4 hpt hW3 HP6 HL6 HG6 HO6 HB2
            go_wp2_with fail
            with_reducible refine HPT.out.mono ?_
            rintro e W7 ⟨rfl, tag7, bl7, kv7, rv7, hM7, hE7⟩
            have HM7 := Mm.hid hM7
            have HE7 : Hid (Lf.Ev tag tag7 w W7) := Mm.hid (HE4.out.trans hE7)
            have HBX7 : Hid (W7.heap[w.heap.size]? = some (.cells #[.int .i64 0, .int .i64 0] 38 (0, 0))) := Mm.hid ((hE7.block _ HBL4.out HBT4.out).trans HBX4.out)
            have HBT7 : Hid (tag7 w.heap.size = none) := Mm.hid (hE7.tags _ HBL4.out HBT4.out)
            have d0 : W7.cell? ⟨w.heap.size, 0, none⟩ = some (.int .i64 0) := Mm.cellOf HBX7.out rfl
            have d1 : W7.cell? ⟨w.heap.size, 1, none⟩ = some (.int .i64 0) := Mm.cellOf HBX7.out rfl
            have fz : ∀ i, W7.frozen? ⟨w.heap.size, i, none⟩ = false := fun i => by simp [World.frozen?, HBX7.out]
            have fz0 := fz 0
            have fz1 := fz 1
            clear hM7 hE7 hW4 c3 f3 fz HPT
            go_wp2_with fail
            obtain ⟨W8, hW8⟩ : ∃ W8, (W7.setCell ⟨w.heap.size, 0, none⟩ (.int .i64 MF)).setCell ⟨w.heap.size, 1, none⟩ (.int .i64 MT) = W8 := ⟨_, rfl⟩
            have HM8 := Mm.hid ((HM7.out.set HBT7.out 0 (.int .i64 MF)).set HBT7.out 1 (.int .i64 MT))
            have HE8 := Mm.hid ((HE7.out.set (Nat.le_refl _) 0 (.int .i64 MF)).set (Nat.le_refl _) 1 (.int .i64 MT))
            have HBX8 := Mm.hid (Lf.box2n (x' := .int .i64 MF) (y' := .int .i64 MT) HBX7.out)
            rw [hW8] at HM8 HE8 HBX8 ⊢
            have HBT8 := HBT7
            have HBL8 : Hid (w.heap.size < W8.drew.heap.size) := Mm.hid (Mm.heapLt HBX8.out)
            clear d0 d1 fz0 fz1 hW8
            refine wp_region_held_drew (S := fun w' => w'.heap[w.heap.size]? = some (.cells #[.int .i64 MF, .int .i64 MT] 38 (0, 0)) ∧ w'.cell? ⟨w.heap.size, 0, none⟩ = some (.int .i64 MF) ∧ w'.cell? ⟨w.heap.size, 1, none⟩ = some (.int .i64 MT) ∧ w'.frozen? ⟨w.heap.size, 0, none⟩ = false ∧ w'.frozen? ⟨w.heap.size, 1, none⟩ = false) (by kernel_rfl) (HSB.out _ (show W8.drew.heap[w.heap.size]? = _ from HBX8.out)) (fun hH => ?_)
            refine wpAnyH_take (i := 0) (oi := ?oyd1q0) (v := ?vyd1q0) ?hiyd1q0 ?hsyd1q0 ?hfyd1q0 ?hryd1q0 ?hQyd1q0 (Or.inl ⟨?hwyd1q0, ?hyyd1q0⟩) ?hSyd1q0 ?restyd1q0
            case hiyd1q0 => (simp; rfl)
            case hsyd1q0 => kernel_rfl
            case hfyd1q0 => kernel_rfl
            case hryd1q0 => kernel_rfl
            case hQyd1q0 => exact fun _ _ _ h => h
            case hwyd1q0 => rfl
            case hyyd1q0 => (intro wq hSq; (try dsimp only at hSq); go_simp; (try with_reducible rfl))
            case hSyd1q0 => assumption
            simp only [Act.put, List.setIfInBounds_toArray, List.set_cons_zero, List.set_cons_succ]
            refine wpAnyH_take (i := 1) (oi := ?oyd2q1) (v := ?vyd2q1) ?hiyd2q1 ?hsyd2q1 ?hfyd2q1 ?hryd2q1 ?hQyd2q1 (Or.inl ⟨?hwyd2q1, ?hyyd2q1⟩) ?hSyd2q1 ?restyd2q1
            case hiyd2q1 => (simp; rfl)
            case hsyd2q1 => kernel_rfl
            case hfyd2q1 => kernel_rfl
            case hryd2q1 => kernel_rfl
            case hQyd2q1 => exact fun _ _ _ h => h
            case hwyd2q1 => rfl
            case hyyd2q1 => (intro wq hSq; (try dsimp only at hSq); go_simp; (try with_reducible rfl))
            case hSyd2q1 => assumption
            simp only [Act.put, List.setIfInBounds_toArray, List.set_cons_zero, List.set_cons_succ]
            refine wpAnyH_take (i := 3) (oi := ?oyd3q3) (v := ?vyd3q3) ?hiyd3q3 ?hsyd3q3 ?hfyd3q3 ?hryd3q3 ?hQyd3q3 (Or.inl ⟨?hwyd3q3, ?hyyd3q3⟩) ?hSyd3q3 ?restyd3q3
            case hiyd3q3 => (simp; rfl)
            case hsyd3q3 => kernel_rfl
            case hfyd3q3 => kernel_rfl
            case hryd3q3 => kernel_rfl
            case hQyd3q3 => exact fun _ _ _ h => h
            case hwyd3q3 => rfl
            case hyyd3q3 => (intro wq hSq; (try dsimp only at hSq); go_simp; (try with_reducible rfl))
            case hSyd3q3 => assumption
            simp only [Act.put, List.setIfInBounds_toArray, List.set_cons_zero, List.set_cons_succ]
            refine wpAnyH_ready (rs := [2]) (by kernel_rfl) (by simp) ?_
            refine AllReadyH.cons (o := ?oyd4q) ?hyd4q (fun K hK => ?ryd4q) AllReadyH.nil
            case hyd4q => (simp; rfl)
            case ryd4q =>
              go_simp
              have hof := leafof_any (Mm.hid HM8.out.drew) HS2 HZ2
              have HOF := Mm.hid hof
              clear hof
              with_reducible refine HOF.out.mono ?_
              rintro e w9 ⟨rfl, hb9⟩
              have HM9 := Mm.hid ((HM8.out.drew).below hb9)
              have HE9 := Mm.hid ((HE8.out.drew).trans (Lf.Ev.below hb9))
              have HX9 : Hid (w9.heap[w.heap.size]? = some (.cells #[.int .i64 MF, .int .i64 MT] 38 (0, 0))) := Mm.hid ((hb9.block _ HBL8.out).trans HBX8.out)
              clear hb9
              go_wp2_with fail
              refine hK.out _ _ (HSB.out _ HX9.out) (fun hHyd5q => ?_)
              clear hK K
              refine wpAnyH_take (i := 4) (oi := ?oyd6q4) (v := ?vyd6q4) ?hiyd6q4 ?hsyd6q4 ?hfyd6q4 ?hryd6q4 ?hQyd6q4 (Or.inl ⟨?hwyd6q4, ?hyyd6q4⟩) ?hSyd6q4 ?restyd6q4
              case hiyd6q4 => (simp; rfl)
              case hsyd6q4 => kernel_rfl
              case hfyd6q4 => kernel_rfl
              case hryd6q4 => kernel_rfl
              case hQyd6q4 => exact fun _ _ _ h => h
              case hwyd6q4 => rfl
              case hyyd6q4 => (intro wq hSq; (try dsimp only at hSq); go_simp; (try with_reducible rfl))
              case hSyd6q4 => assumption
              simp only [Act.put, List.setIfInBounds_toArray, List.set_cons_zero, List.set_cons_succ]
              refine wpAnyH_ready (rs := [5]) (by kernel_rfl) (by simp) ?_
              refine AllReadyH.cons (o := ?oyd7q) ?hyd7q (fun K hK => ?ryd7q) AllReadyH.nil
              case hyd7q => (simp; rfl)
              case ryd7q =>
                have hq0 : w9.cell? ⟨w.heap.size, 0, none⟩ = some (.int .i64 MF) := Mm.cellOf HX9.out rfl
                have hq1 : w9.cell? ⟨w.heap.size, 1, none⟩ = some (.int .i64 MT) := Mm.cellOf HX9.out rfl
                have hq2 : w9.frozen? ⟨w.heap.size, 0, none⟩ = false := by simp [World.frozen?, HX9.out]
                have hq3 : w9.frozen? ⟨w.heap.size, 1, none⟩ = false := by simp [World.frozen?, HX9.out]
                go_simp
                clear hq0 hq1 hq2 hq3
                refine hK.out _ _ (HSB.out _ (Lf.box2n HX9.out)) (fun hHyd8q => ?_)
                clear hK K
                refine wpAnyH_take (i := 6) (oi := ?oyd9q6) (v := ?vyd9q6) ?hiyd9q6 ?hsyd9q6 ?hfyd9q6 ?hryd9q6 ?hQyd9q6 (Or.inl ⟨?hwyd9q6, ?hyyd9q6⟩) ?hSyd9q6 ?restyd9q6
                case hiyd9q6 => (simp; rfl)
                case hsyd9q6 => kernel_rfl
                case hfyd9q6 => kernel_rfl
                case hryd9q6 => kernel_rfl
                case hQyd9q6 => exact fun _ _ _ h => h
                case hwyd9q6 => rfl
                case hyyd9q6 => (intro wq hSq; (try dsimp only at hSq); go_simp; (try with_reducible rfl))
                case hSyd9q6 => assumption
                simp only [Act.put, List.setIfInBounds_toArray, List.set_cons_zero, List.set_cons_succ]
                refine wpAnyH_done (by kernel_rfl) ?_ _
                have hbE := Lf.box2n (x' := .int .i64 MF) (y' := .int .i64 MT) HX9.out
                have HMR := Mm.hid ((HM9.out.set HBT8.out 0 (.int .i64 MF)).set HBT8.out 1 (.int .i64 MT))
                have HER := Mm.hid ((HE9.out.set (Nat.le_refl _) 0 (.int .i64 MF)).set (Nat.le_refl _) 1 (.int .i64 MT))
                obtain ⟨WE, hWE⟩ : ∃ WE, (w9.setCell ⟨w.heap.size, 0, none⟩ (.int .i64 MF)).setCell ⟨w.heap.size, 1, none⟩ (.int .i64 MT) = WE := ⟨_, rfl⟩
                rw [hWE] at hbE HMR HER ⊢
                have ea : WE.cell? ⟨w.heap.size, 0, none⟩ = some (.int .i64 MF) := Mm.cellOf hbE rfl
                have eb : WE.cell? ⟨w.heap.size, 1, none⟩ = some (.int .i64 MT) := Mm.cellOf hbE rfl
                go_wp2_with fail
                exact bodyPost_ret (v := .tuple #[.int .i64 (P'.n : Int), .agg #[.int .i64 MF, .int .i64 MT], .int .i64 0]) (by simp [results, Tryz.results33, go_sem, ea, eb]) rfl ⟨by rw [HMF.out, HMT.out], _, _, _, _, HMR.out, HER.out⟩

end Go.Proofs.YtjnaafgiokdcbaaGreatDoor

/- Insert that fails; join; Remove. -/
namespace Go.Proofs.YtjnaafgiokdcbaaGreatDoor
open Go.RowKit

namespace Lf
theorem beside_at {L R : List Pg} {l : Nat} (h : L ++ R ≠ []) (hl : l = L.length) : ∃ X, (open1 (L ++ R))[l - 1]? = some X ∧ X.n = beside L R := by
  subst hl
  cases L with
  | nil =>
    cases R with
    | nil => exact absurd rfl h
    | cons Q r => exact ⟨{ Q with b := ⟨#[]⟩ }, rfl, rfl⟩
  | cons A L =>
    rcases List.eq_nil_or_concat L with e | ⟨L0, Q, e⟩
    · subst e
      exact ⟨{ A with b := ⟨#[]⟩ }, rfl, rfl⟩
    · subst e
      refine ⟨Q, ?_, ?_⟩
      · show ((({ A with b := ⟨#[]⟩ } : Pg) :: (L0.concat Q ++ R)))[(A :: L0.concat Q).length - 1]? = some Q
        rw [show (A :: L0.concat Q).length - 1 = L0.length + 1 by simp, List.getElem?_cons_succ, List.concat_eq_append, List.append_assoc, List.getElem?_append_right (Nat.le_refl _)]
        simp
      · unfold beside
        have : (A :: L0.concat Q).getLast? = some Q := by simp [List.getLast?_cons]
        rw [this]
end Lf

set_option maxRecDepth 100000 in
set_option maxHeartbeats 2000000 in
theorem insert_nil (k : ByteArray) (w : World) : Calls Tryz.prog 33 #[.pointer none, .string k] w fun e w' => e = .returned (.tuple #[.int .i64 0, .agg #[.int .i64 0, .int .i64 0], .int .i64 1]) ∧ Below w.heap.size w w' := by
  have e0 : (w.alloc (.cells #[.int .i64 0, .int .i64 0] 38)).cell? ⟨w.heap.size, 0, none⟩ = some (.int .i64 0) := Mm.cellOf (Mm.newAt w _ rfl) rfl
  have e1 : (w.alloc (.cells #[.int .i64 0, .int .i64 0] 38)).cell? ⟨w.heap.size, 1, none⟩ = some (.int .i64 0) := Mm.cellOf (Mm.newAt w _ rfl) rfl
  go_enter Tryz.func33, Tryz.ntmps33
  go_wp2_with fail
  exact bodyPost_ret (v := .tuple #[.int .i64 0, .agg #[.int .i64 0, .int .i64 0], .int .i64 1]) (by simp [results, Tryz.results33, go_sem, e0, e1]) rfl ⟨rfl, (Below.refl _ w).alloc (Nat.le_refl _) _⟩

set_option maxRecDepth 100000 in
set_option maxHeartbeats 2000000 in
theorem insert_long (p : Nat) (k : ByteArray) (hk : 1024 < k.size) (w : World) : Calls Tryz.prog 33 #[.pointer (some ⟨p, 0, none⟩), .string k] w fun e w' => e = .returned (.tuple #[.int .i64 0, .agg #[.int .i64 0, .int .i64 0], .int .i64 2]) ∧ Below w.heap.size w w' := by
  have e0 : (w.alloc (.cells #[.int .i64 0, .int .i64 0] 38)).cell? ⟨w.heap.size, 0, none⟩ = some (.int .i64 0) := Mm.cellOf (Mm.newAt w _ rfl) rfl
  have e1 : (w.alloc (.cells #[.int .i64 0, .int .i64 0] 38)).cell? ⟨w.heap.size, 1, none⟩ = some (.int .i64 0) := Mm.cellOf (Mm.newAt w _ rfl) rfl
  have hz' : (1024 : Int) < (k.size : Int) := by omega
  clear hk
  go_enter Tryz.func33, Tryz.ntmps33
  go_wp2_with fail
  exact bodyPost_ret (v := .tuple #[.int .i64 0, .agg #[.int .i64 0, .int .i64 0], .int .i64 2]) (by simp [results, Tryz.results33, go_sem, e0, e1]) rfl ⟨rfl, (Below.refl _ w).alloc (Nat.le_refl _) _⟩

set_option maxRecDepth 100000 in
set_option maxHeartbeats 2000000 in
theorem insert_twice {h : Nat} {w : World} {tag : Nat → Option Lf.Tg} {p : Nat} {s : Lf.S} {bl : Nat → Nat} {kv : Nat → Value} {rv : Value} (H : Hid (Lf.Mem h w tag p s bl kv rv)) {k : ByteArray} {L R : List Lf.Pg} {P : Lf.Pg} (hs : Hid (Lf.Spl s k L P R)) (hz : Hid (Lf.Sm s)) {A B : List ByteArray} (hk : Hid (Lf.Kp P.ks k A B)) (hnk : Hid (B.head? = some k)) (hkz : k.size ≤ 1024) :
    Calls Tryz.prog 33 #[.pointer (some ⟨p, 0, none⟩), .string k] w fun e w' => e = .returned (.tuple #[.int .i64 0, .agg #[.int .i64 0, .int .i64 0], .int .i64 62]) ∧ Below w.heap.size w w' := by
  have HB0 : Hid (Below w.heap.size w (w.alloc (.cells #[.int .i64 0, .int .i64 0] 38))) := Mm.hid ((Below.refl _ w).alloc (Nat.le_refl _) _)
  have HM0 := Mm.hid (H.out.below HB0.out)
  have hfi := find_any HM0 hs hz hk
  rw [decide_eq_true hnk.out] at hfi
  have HFI := Mm.hid hfi
  have hz' : ¬ ((1024 : Int) < (k.size : Int)) := by omega
  clear hfi hkz
  go_enter Tryz.func33, Tryz.ntmps33
  go_wp2_with fail
  refine HFI.out.mono ?_
  rintro e w1 ⟨rfl, hb1⟩
  have HB1 : Hid (Below w.heap.size w w1) := Mm.hid (HB0.out.trans (hb1.mono HB0.out.size))
  have hbx : w1.heap[w.heap.size]? = some (.cells #[.int .i64 0, .int .i64 0] 38 (0, 0)) := (hb1.block _ (by simp)).trans (Mm.newAt w _ rfl)
  have e0 : w1.cell? ⟨w.heap.size, 0, none⟩ = some (.int .i64 0) := Mm.cellOf hbx rfl
  have e1 : w1.cell? ⟨w.heap.size, 1, none⟩ = some (.int .i64 0) := Mm.cellOf hbx rfl
  have f0 : w1.frozen? ⟨w.heap.size, 0, none⟩ = false := by simp [World.frozen?, hbx]
  have f1 : w1.frozen? ⟨w.heap.size, 1, none⟩ = false := by simp [World.frozen?, hbx]
  have HBX := Mm.hid hbx
  clear hb1 hbx
  go_wp2_with fail
  obtain ⟨W2, hW2⟩ : ∃ W2, (w1.setCell ⟨w.heap.size, 0, none⟩ (.int .i64 0)).setCell ⟨w.heap.size, 1, none⟩ (.int .i64 0) = W2 := ⟨_, rfl⟩
  have hb2 := Lf.box2n (x' := .int .i64 0) (y' := .int .i64 0) HBX.out
  rw [hW2] at hb2 ⊢
  have e2 : W2.cell? ⟨w.heap.size, 0, none⟩ = some (.int .i64 0) := Mm.cellOf hb2 rfl
  have e3 : W2.cell? ⟨w.heap.size, 1, none⟩ = some (.int .i64 0) := Mm.cellOf hb2 rfl
  exact bodyPost_ret (v := .tuple #[.int .i64 0, .agg #[.int .i64 0, .int .i64 0], .int .i64 62]) (by simp [results, Tryz.results33, go_sem, e2, e3]) rfl ⟨rfl, by rw [← hW2]; exact (HB1.out.setCell (Nat.le_refl _) _).setCell (Nat.le_refl _) _⟩

set_option maxRecDepth 100000 in
set_option maxHeartbeats 2000000 in
theorem remove_nil (k : ByteArray) (w : World) : Calls Tryz.prog 36 #[.pointer none, .string k] w fun e w' => e = .returned (.tuple #[.int .i64 0, .agg #[.int .i64 0, .int .i64 0], .int .i64 1]) ∧ Below w.heap.size w w' := by
  have e0 : (w.alloc (.cells #[.int .i64 0, .int .i64 0] 38)).cell? ⟨w.heap.size, 0, none⟩ = some (.int .i64 0) := Mm.cellOf (Mm.newAt w _ rfl) rfl
  have e1 : (w.alloc (.cells #[.int .i64 0, .int .i64 0] 38)).cell? ⟨w.heap.size, 1, none⟩ = some (.int .i64 0) := Mm.cellOf (Mm.newAt w _ rfl) rfl
  go_enter Tryz.func36, Tryz.ntmps36
  go_wp2_with fail
  exact bodyPost_ret (v := .tuple #[.int .i64 0, .agg #[.int .i64 0, .int .i64 0], .int .i64 1]) (by simp [results, Tryz.results36, go_sem, e0, e1]) rfl ⟨rfl, (Below.refl _ w).alloc (Nat.le_refl _) _⟩

set_option maxRecDepth 100000 in
set_option maxHeartbeats 2000000 in
theorem remove_none {h : Nat} {w : World} {tag : Nat → Option Lf.Tg} {p : Nat} {s : Lf.S} {bl : Nat → Nat} {kv : Nat → Value} {rv : Value} (H : Hid (Lf.Mem h w tag p s bl kv rv)) {k : ByteArray} {L R : List Lf.Pg} {P : Lf.Pg} (hs : Hid (Lf.Spl s k L P R)) (hz : Hid (Lf.Sm s)) {A B : List ByteArray} (hk : Hid (Lf.Kp P.ks k A B)) (hnk : Hid (B.head? ≠ some k)) :
    Calls Tryz.prog 36 #[.pointer (some ⟨p, 0, none⟩), .string k] w fun e w' => e = .returned (.tuple #[.int .i64 0, .agg #[.int .i64 0, .int .i64 0], .int .i64 60]) ∧ Below w.heap.size w w' := by
  have HB0 : Hid (Below w.heap.size w (w.alloc (.cells #[.int .i64 0, .int .i64 0] 38))) := Mm.hid ((Below.refl _ w).alloc (Nat.le_refl _) _)
  have HM0 := Mm.hid (H.out.below HB0.out)
  have hfi := find_any HM0 hs hz hk
  rw [decide_eq_false hnk.out] at hfi
  have HFI := Mm.hid hfi
  clear hfi
  go_enter Tryz.func36, Tryz.ntmps36
  go_wp2_with fail
  refine HFI.out.mono ?_
  rintro e w1 ⟨rfl, hb1⟩
  have HB1 : Hid (Below w.heap.size w w1) := Mm.hid (HB0.out.trans (hb1.mono HB0.out.size))
  have hbx : w1.heap[w.heap.size]? = some (.cells #[.int .i64 0, .int .i64 0] 38 (0, 0)) := (hb1.block _ (by simp)).trans (Mm.newAt w _ rfl)
  have e0 : w1.cell? ⟨w.heap.size, 0, none⟩ = some (.int .i64 0) := Mm.cellOf hbx rfl
  have e1 : w1.cell? ⟨w.heap.size, 1, none⟩ = some (.int .i64 0) := Mm.cellOf hbx rfl
  have f0 : w1.frozen? ⟨w.heap.size, 0, none⟩ = false := by simp [World.frozen?, hbx]
  have f1 : w1.frozen? ⟨w.heap.size, 1, none⟩ = false := by simp [World.frozen?, hbx]
  have HBX := Mm.hid hbx
  clear hb1 hbx
  go_wp2_with fail
  obtain ⟨W2, hW2⟩ : ∃ W2, (w1.setCell ⟨w.heap.size, 0, none⟩ (.int .i64 0)).setCell ⟨w.heap.size, 1, none⟩ (.int .i64 0) = W2 := ⟨_, rfl⟩
  have hb2 := Lf.box2n (x' := .int .i64 0) (y' := .int .i64 0) HBX.out
  rw [hW2] at hb2 ⊢
  have e2 : W2.cell? ⟨w.heap.size, 0, none⟩ = some (.int .i64 0) := Mm.cellOf hb2 rfl
  have e3 : W2.cell? ⟨w.heap.size, 1, none⟩ = some (.int .i64 0) := Mm.cellOf hb2 rfl
  exact bodyPost_ret (v := .tuple #[.int .i64 0, .agg #[.int .i64 0, .int .i64 0], .int .i64 60]) (by simp [results, Tryz.results36, go_sem, e2, e3]) rfl ⟨rfl, by rw [← hW2]; exact (HB1.out.setCell (Nat.le_refl _) _).setCell (Nat.le_refl _) _⟩

set_option maxRecDepth 100000 in
set_option maxHeartbeats 4000000 in
theorem join_any {h : Nat} {w : World} {tag : Nat → Option Lf.Tg} {p : Nat} {s : Lf.S} {bl : Nat → Nat} {kv : Nat → Value} {rv : Value} (H : Hid (Lf.Mem h w tag p s bl kv rv)) {L R : List Lf.Pg} {P : Lf.Pg} (he : s.pgs = L ++ P :: R) (hz : Hid (Lf.Sm s)) (hnd : Hid (s.pgs.Pairwise (fun P Q => P.n ≠ Q.n))) :
    Calls Tryz.prog 60 #[.pointer (some ⟨p, 0, none⟩), .int .i64 (L.length : Int)] w fun e w' => e = .returned (.agg #[.int .i64 ((Lf.joinM L P R).1 : Int), .int .i64 ((Lf.joinM L P R).2 : Int)]) ∧ ∃ tag' rv', Lf.Mem h w' tag' p (Lf.joinS s L P R) bl kv rv' ∧ Lf.Ev tag tag' w w' ∧ w'.cell? ⟨bl P.n, 0, none⟩ = some (.int .i64 (P.n : Int)) := by
  have hi : s.pgs[L.length]? = some P := by rw [he]; simp
  have hPm : P ∈ s.pgs := by rw [he]; simp
  have HB1 : Hid (Below w.heap.size w (w.alloc (.cells #[.int .i64 0, .int .i64 0] 38))) := Mm.hid ((Below.refl _ w).alloc (Nat.le_refl _) _)
  have HM1 := Mm.hid (H.out.below HB1.out)
  obtain ⟨g, c, rfl, m1, m2, m3, m4, m5, m6⟩ := HM1.out.at hi
  have c1 := HM1.out.c1
  obtain ⟨q, c', ek, k1, k2, k3, k4, k5⟩ := HM1.out.ks hPm
  obtain ⟨n, hn⟩ : ∃ n, n = P.ks.length := ⟨_, rfl⟩
  obtain ⟨N, hN⟩ : ∃ N, N = s.pgs.length := ⟨_, rfl⟩
  obtain ⟨l, hl⟩ : ∃ l, l = L.length := ⟨_, rfl⟩
  rw [← hn] at k1 ek
  rw [← hN] at c1 m1 m2 H HM1
  rw [ek] at m6
  rw [← hl] at m2 m3 ⊢
  have hnb : n ≤ 10000 := by rw [hn]; exact hz.out.kl P hPm
  have hNb : N ≤ 10000 := by rw [hN]; exact hz.out.pl
  have g1 : (0 : Int) ≤ (l : Int) := by omega
  have g2 : (l : Int) < (N : Int) := by omega
  have hNl : N = l + 1 + R.length := by rw [hN, he, hl]; simp; omega
  have e0 : (w.alloc (.cells #[.int .i64 0, .int .i64 0] 38)).cell? ⟨w.heap.size, 0, none⟩ = some (.int .i64 0) := Mm.cellOf (Mm.newAt w _ rfl) rfl
  have e3 : (w.alloc (.cells #[.int .i64 0, .int .i64 0] 38)).cell? ⟨w.heap.size, 1, none⟩ = some (.int .i64 0) := Mm.cellOf (Mm.newAt w _ rfl) rfl
  have HA0 : Hid ((w.alloc (.cells #[.int .i64 0, .int .i64 0] 38)).cell? ⟨bl P.n, 0, none⟩ = some (.int .i64 (P.n : Int))) := Mm.hid m4
  by_cases hkeep : P.ks ≠ [] ∨ L ++ R = []
  · have e1 : Lf.joinS s L P R = s := if_pos hkeep
    have e2 : Lf.joinM L P R = (0, 0) := if_pos hkeep
    rw [e1, e2]
    have hcase : (0 : Int) < (n : Int) ∨ ¬ (0 : Int) < (n : Int) ∧ ((N : Int) == 1) = true := by
      by_cases hn0 : n = 0
      · right
        refine ⟨by omega, ?_⟩
        rcases hkeep with h1 | h1
        · exact absurd (List.length_eq_zero_iff.1 (by omega)) h1
        · have hh : L.length = 0 ∧ R.length = 0 := by
            obtain ⟨r1, r2⟩ := List.append_eq_nil_iff.1 h1
            rw [r1, r2]; exact ⟨rfl, rfl⟩
          simp; omega
      · left; omega
    clear k2 k3 k4 k5 hi hl ek he hn m4 m5 hPm e1 e2 hkeep hN hNl
    rcases hcase with g3 | ⟨g3, g4⟩
    · go_enter Tryz.func60, Tryz.ntmps60
      go_wp2_with fail
      exact bodyPost_ret (v := .agg #[.int .i64 0, .int .i64 0]) (by simp [results, Tryz.results60, go_sem, e0, e3]) rfl ⟨rfl, _, _, HM1.out, Lf.Ev.below HB1.out, HA0.out⟩
    · go_enter Tryz.func60, Tryz.ntmps60
      go_wp2_with fail
      exact bodyPost_ret (v := .agg #[.int .i64 0, .int .i64 0]) (by simp [results, Tryz.results60, go_sem, e0, e3]) rfl ⟨rfl, _, ⟨_, HM1.out⟩, Lf.Ev.below HB1.out, HA0.out⟩
  · have e1 : Lf.joinS s L P R = { s with pgs := Lf.open1 (L ++ R) } := if_neg hkeep
    have e2 : Lf.joinM L P R = (P.n, Lf.beside L R) := if_neg hkeep
    rw [e1, e2]
    have hk0 : P.ks = [] := by
      cases hpk : P.ks with
      | nil => rfl
      | cons a r => exact absurd (Or.inl (by rw [hpk]; simp)) hkeep
    have hn0 : n = 0 := by rw [hn, hk0]; rfl
    subst hn0
    have hLR : L ++ R ≠ [] := fun e => hkeep (Or.inr e)
    have hN2 : 2 ≤ N := by
      have : L.length + R.length ≠ 0 := fun e => hLR (List.length_eq_zero_iff.1 (by rw [List.length_append]; exact e))
      omega
    have g3 : ¬ ((0 : Int) < ((0 : Nat) : Int)) := by omega
    have g4 : ((N : Int) == 1) = false := by simp; omega
    have hpt : (Lf.ptrs bl s.pgs).take l ++ (Lf.ptrs bl s.pgs).drop (l + 1) = Lf.ptrs bl (L ++ R) := by
      rw [he, hl]
      have h1 : Lf.ptrs bl (L ++ P :: R) = Lf.ptrs bl L ++ .pointer (some ⟨bl P.n, 0, none⟩) :: Lf.ptrs bl R := by simp [Lf.ptrs]
      rw [h1, List.take_left' (by simp)]
      rw [show L.length + 1 = (Lf.ptrs bl L).length + 1 by simp, List.drop_append]
      simp [Lf.ptrs]
    have hdl := delP_any g N c l (l + 1) (Lf.ptrs bl s.pgs) h (w.alloc (.cells #[.int .i64 0, .int .i64 0] 38)) (Mm.hid HM1.out.row) (Nat.lt_succ_self _) (by omega) (Mm.hid (Lf.ptrs_one _ _))
    rw [hpt] at hdl
    obtain ⟨M, hM⟩ : ∃ M, M = l + (N - (l + 1)) := ⟨_, rfl⟩
    rw [← hM, show ((l + 1 : Nat) : Int) = (l : Int) + 1 from rfl] at hdl
    have HDL := Mm.hid hdl
    have hMN : M + 1 = N := by omega
    have HE := Mm.hid he
    have HLL := Mm.hid hl
    have HPC := Mm.hid ((HM1.out.pg P hPm).cell)
    have HPT := Mm.hid ((HM1.out.pg P hPm).tb)
    clear k2 k3 k4 k5 hi hl ek he hn m4 m5 hPm e1 e2 hkeep hN hdl hk0 hpt hM hNl
    go_enter Tryz.func60, Tryz.ntmps60
    go_wp2_with fail
    with_reducible refine HDL.out.mono ?_
    rintro e w2 ⟨rfl, hown2, hg2⟩
    have HO2 := Mm.hid hown2
    have HG2 := Mm.hid hg2
    have hp2 : w2.heap[p]? = some (.cells #[.int .i64 (s.fan : Int), .slice (some ⟨g, 0, none⟩) N c, .int .i64 (s.last : Int), .int .i64 (s.count : Int)] 99 (0, 0)) := (hg2.block p HM1.out.lt (fun e => by have e' := Option.some.inj e; have h1 := HM1.out.tr g rfl; rw [← e', HM1.out.tp] at h1; cases h1)).trans HM1.out.cell
    have f1 : w2.cell? ⟨p, 1, none⟩ = some (.slice (some ⟨g, 0, none⟩) N c) := Mm.cellOf hp2 rfl
    have f2 : w2.frozen? ⟨p, 1, none⟩ = false := by simp [World.frozen?, hp2]
    obtain ⟨tag3, hM3, hE3⟩ := HM1.out.delPage HE.out (w6 := w2) (v' := .slice (some ⟨g, 0, none⟩) M c) hg2 hown2 rfl
    obtain ⟨W3, hW3⟩ : ∃ W3, w2.setCell ⟨p, 1, none⟩ (.slice (some ⟨g, 0, none⟩) M c) = W3 := ⟨_, rfl⟩
    rw [hW3] at hM3 hE3
    obtain ⟨Q, r, hQ⟩ : ∃ Q r, L ++ R = Q :: r := by
      cases hx : L ++ R with
      | nil => exact absurd hx hLR
      | cons Q r => exact ⟨Q, r, rfl⟩
    have HQ := Mm.hid hQ
    have HM3 := Mm.hid hM3
    have HE3 := Mm.hid hE3
    have hM0 : M = (L ++ R).length := by
      have h1 := hM3.row.shape
      obtain ⟨_, _, e, _⟩ := h1
      injection e with _ e _
      rw [e]; simp
    obtain ⟨g', c9, e9, _, n3, n4, n5, n6, n7⟩ := hM3.at (i := 0) (P := Q) (by show (L ++ R)[0]? = some Q; rw [hQ]; rfl)
    injection e9 with e9 e10 e11
    clear e10
    subst e11
    injection e9 with e9
    injection e9 with e9
    subst e9
    have d1 : W3.cell? ⟨p, 1, none⟩ = some (.slice (some ⟨g, 0, none⟩) M c) := hM3.c1
    have hMpos : 0 < M := by omega
    have hq3 := (hM3.pg Q (by show Q ∈ L ++ R; rw [hQ]; simp)).cell
    have fQ : W3.frozen? ⟨bl Q.n, 1, none⟩ = false := by simp [World.frozen?, hq3]
    have hnPQ : Q.n ≠ P.n := by
      have h1 := hnd.out
      rw [HE.out] at h1
      obtain ⟨n1, n2⟩ := Lf.nd_mid h1
      have h2 : Q ∈ L ++ R := by rw [hQ]; simp
      rcases List.mem_append.1 h2 with h2 | h2
      · exact n1 Q h2
      · exact n2 Q h2
    have hnd3 : ({ s with pgs := L ++ R } : Lf.S).pgs.Pairwise (fun P Q => P.n ≠ Q.n) := by
      have h1 := hnd.out
      rw [HE.out] at h1
      exact h1.sublist (by simp)
    obtain ⟨hM4, hE4⟩ := hM3.setB (P := Q) (r := r) hQ hnd3
    obtain ⟨W4, hW4⟩ : ∃ W4, W3.setCell ⟨bl Q.n, 1, none⟩ (.string ⟨#[]⟩) = W4 := ⟨_, rfl⟩
    rw [hW4] at hM4 hE4
    have hPb4 : W4.heap[bl P.n]? = some (.cells #[.int .i64 (P.n : Int), .string P.b, kv P.n] 96 (0, 0)) := by
      have t1 := HPT.out
      have h1 : w2.heap[bl P.n]? = _ := (hg2.block _ (Mm.heapLt HPC.out) (fun e => by have e' := Option.some.inj e; have h1 := HM1.out.tr g rfl; rw [← e', t1] at h1; cases h1)).trans HPC.out
      have h2 : W3.heap[bl P.n]? = w2.heap[bl P.n]? := by
        rw [← hW3]
        exact heap_setCell_other w2 _ _ _ (fun e => by have e' : bl P.n = p := e; rw [e', HM1.out.tp] at t1; cases t1)
      have h3 : W4.heap[bl P.n]? = W3.heap[bl P.n]? := by
        rw [← hW4]
        refine heap_setCell_other W3 _ _ _ (fun e => ?_)
        have e' : bl P.n = bl Q.n := e
        have t3 := (HM1.out.pg Q (by rw [HE.out]; have h2 : Q ∈ L ++ R := by rw [hQ]; simp
                                     rcases List.mem_append.1 h2 with h2 | h2
                                     · simp [h2]
                                     · simp [h2])).tb
        rw [← e', t1] at t3
        injection t3 with t3
        injection t3 with t3
        exact hnPQ t3.symm
      exact h3.trans (h2.trans h1)
    have a0 : W4.cell? ⟨bl P.n, 0, none⟩ = some (.int .i64 (P.n : Int)) := Mm.cellOf hPb4 rfl
    have a1 : W4.cell? ⟨p, 1, none⟩ = some (.slice (some ⟨g, 0, none⟩) M c) := hM4.c1
    obtain ⟨X, hX, hXn⟩ : ∃ X, (Lf.open1 (L ++ R))[l - 1]? = some X ∧ X.n = Lf.beside L R := Lf.beside_at hLR HLL.out
    obtain ⟨g5, c5, e5, _, _, n8, n9, _, _⟩ := hM4.at hX
    injection e5 with e5 e6 e7
    clear e6
    subst e7
    injection e5 with e5
    injection e5 with e5
    subst e5
    rw [hXn] at n8 n9
    have hbx : W4.heap[w.heap.size]? = some (.cells #[.int .i64 0, .int .i64 0] 38 (0, 0)) := by
      have h0 : tag w.heap.size = none := H.out.top _ (Nat.le_refl _)
      have h1 := hE3.block w.heap.size (by simp) h0
      exact (hE4.block _ (Nat.lt_of_lt_of_le (by simp) hE3.size) (hE3.tags _ (by simp) h0)).trans (h1.trans (Mm.newAt w _ rfl))
    have b0 : W4.cell? ⟨w.heap.size, 0, none⟩ = some (.int .i64 0) := Mm.cellOf hbx rfl
    have b1 : W4.cell? ⟨w.heap.size, 1, none⟩ = some (.int .i64 0) := Mm.cellOf hbx rfl
    have b2 : ∀ i, W4.frozen? ⟨w.heap.size, i, none⟩ = false := fun i => by simp [World.frozen?, hbx]
    have b20 := b2 0
    have b21 := b2 1
    have HBT4 : Hid (tag3 w.heap.size = none) := Mm.hid (hE3.tags _ (by simp) (H.out.top _ (Nat.le_refl _)))
    have HBX := Mm.hid hbx
    have HM4 := Mm.hid hM4
    have HE4 : Hid (Lf.Ev tag tag3 w W4) := Mm.hid ((Lf.Ev.below HB1.out).trans (hE3.trans hE4))
    have hlM : l - 1 < M := by
      have h1 := (List.getElem?_eq_some_iff.1 hX).1
      have h2 : (Lf.open1 (L ++ R)).length = M := by rw [hM0]; cases L ++ R <;> rfl
      omega
    have hmx : max ((l : Int) - 1) 0 = ((l - 1 : Nat) : Int) := by omega
    clear hp2 hown2 hg2 hM3 hE3 n3 n5 n7 hQ hM0 hM4 hE4 hPb4 hX hXn b2 hbx hnd3 hnPQ
    go_wp2_with fail
    clear hW4 hW3 d1 fQ f1 f2
    go_region
    obtain ⟨W10, hW10⟩ : ∃ W10, ((W4.setCell ⟨w.heap.size, 0, none⟩ (.int .i64 (P.n : Int))).setCell ⟨w.heap.size, 1, none⟩ (.int .i64 (Lf.beside L R : Int))).drew = W10 := ⟨_, rfl⟩
    have hb10 : W10.heap[w.heap.size]? = some (.cells #[.int .i64 (P.n : Int), .int .i64 (Lf.beside L R : Int)] 38 (0, 0)) := by rw [← hW10]; exact Lf.box2 HBX.out
    have ea : W10.cell? ⟨w.heap.size, 0, none⟩ = some (.int .i64 (P.n : Int)) := Mm.cellOf hb10 rfl
    have eb : W10.cell? ⟨w.heap.size, 1, none⟩ = some (.int .i64 (Lf.beside L R : Int)) := Mm.cellOf hb10 rfl
    have HM10 := Mm.hid (((HM4.out.set HBT4.out 0 (.int .i64 (P.n : Int))).set HBT4.out 1 (.int .i64 (Lf.beside L R : Int))).drew)
    have HE10 := Mm.hid (((HE4.out.set (Nat.le_refl _) 0 (.int .i64 (P.n : Int))).set (Nat.le_refl _) 1 (.int .i64 (Lf.beside L R : Int))).drew)
    have HA10 : Hid (W10.cell? ⟨bl P.n, 0, none⟩ = some (.int .i64 (P.n : Int))) := Mm.hid (by
      have h1 : tag (bl P.n) = some (.pg P.n) := HPT.out
      have h2 : bl P.n ≠ w.heap.size := fun e => by rw [e, H.out.top _ (Nat.le_refl _)] at h1; cases h1
      rw [← hW10]
      show ((W4.setCell ⟨w.heap.size, 0, none⟩ (.int .i64 (P.n : Int))).setCell ⟨w.heap.size, 1, none⟩ (.int .i64 (Lf.beside L R : Int))).cell? ⟨bl P.n, 0, none⟩ = _
      rw [World.cell?_setCell_other _ _ _ _ (fun e => h2 (by injection e with e _ _; exact e.symm)), World.cell?_setCell_other _ _ _ _ (fun e => h2 (by injection e with e _ _; exact e.symm))]
      exact a0)
    rw [hW10] at HM10 HE10 ⊢
    clear hW10 hb10 b0 b1 b20 b21
    go_wp2_with fail
    exact bodyPost_ret (v := .agg #[.int .i64 (P.n : Int), .int .i64 (Lf.beside L R : Int)]) (by simp [results, Tryz.results60, go_sem, ea, eb]) rfl ⟨rfl, _, _, HM10.out, HE10.out, HA10.out⟩

end Go.Proofs.YtjnaafgiokdcbaaGreatDoor

/- Remove. -/
namespace Go.Proofs.YtjnaafgiokdcbaaGreatDoor
open Go.RowKit

set_option maxRecDepth 100000 in
set_option maxHeartbeats 4000000 in
theorem remove_any {h : Nat} {w : World} {tag : Nat → Option Lf.Tg} {p : Nat} {s : Lf.S} {bl : Nat → Nat} {kv : Nat → Value} {rv : Value} (H : Hid (Lf.Mem h w tag p s bl kv rv)) {k : ByteArray} {L R : List Lf.Pg} {P : Lf.Pg} (hs : Hid (Lf.Spl s k L P R)) (hz : Hid (Lf.Sm s)) (hI : Hid (Lf.Inv s)) {A B : List ByteArray} (hk : Hid (Lf.Kp P.ks k A (k :: B))) (HZ1 : Hid (Lf.Sm (Lf.remP s L P R (A ++ B)))) :
    Calls Tryz.prog 36 #[.pointer (some ⟨p, 0, none⟩), .string k] w fun e w' => e = .returned (.tuple #[.int .i64 (P.n : Int), .agg #[.int .i64 ((Lf.joinM L (Lf.withKs P (A ++ B)) R).1 : Int), .int .i64 ((Lf.joinM L (Lf.withKs P (A ++ B)) R).2 : Int)], .int .i64 0]) ∧ ∃ tag' bl' kv' rv', Lf.Mem h w' tag' p (Lf.remS s L P R (A ++ B)) bl' kv' rv' ∧ Lf.Ev tag tag' w w' := by
  obtain ⟨MF, hMF⟩ : ∃ MF : Int, MF = ((Lf.joinM L (Lf.withKs P (A ++ B)) R).1 : Int) := ⟨_, rfl⟩
  obtain ⟨MT, hMT⟩ : ∃ MT : Int, MT = ((Lf.joinM L (Lf.withKs P (A ++ B)) R).2 : Int) := ⟨_, rfl⟩
  have HMF := Mm.hid hMF
  have HMT := Mm.hid hMT
  have HB0 : Hid (Below w.heap.size w (w.alloc (.cells #[.int .i64 0, .int .i64 0] 38))) := Mm.hid ((Below.refl _ w).alloc (Nat.le_refl _) _)
  have HM0 := Mm.hid (H.out.below HB0.out)
  have hfi := find_any HM0 hs hz hk
  rw [decide_eq_true (show (k :: B).head? = some k from rfl)] at hfi
  have HFI := Mm.hid hfi
  have HND := Mm.hid hI.out.nd
  have HN1 : Hid ((Lf.remP s L P R (A ++ B)).pgs.Pairwise (fun P Q => P.n ≠ Q.n)) := Mm.hid (by
    have h1 := hI.out.nd
    rw [hs.out.e] at h1
    have e : ∀ X : List Lf.Pg, X.Pairwise (fun P Q => P.n ≠ Q.n) ↔ (X.map (fun P => P.n)).Pairwise (· ≠ ·) := fun X => List.pairwise_map.symm
    rw [e] at h1
    show (L ++ Lf.withKs P (A ++ B) :: R).Pairwise _
    rw [e]
    simpa [Lf.withKs] using h1)
  clear hfi hMF hMT
  go_enter Tryz.func36, Tryz.ntmps36
  go_wp2_with fail
  refine HFI.out.mono ?_
  rintro e w1 ⟨rfl, hb1⟩
  have HB1 : Hid (Below w.heap.size w w1) := Mm.hid (HB0.out.trans (hb1.mono HB0.out.size))
  have HM1 := Mm.hid (HM0.out.below hb1)
  have HE1 : Hid (Lf.Ev tag tag w w1) := Mm.hid (Lf.Ev.below HB1.out)
  have HBX1 : Hid (w1.heap[w.heap.size]? = some (.cells #[.int .i64 0, .int .i64 0] 38 (0, 0))) := Mm.hid ((hb1.block _ (by simp)).trans (Mm.newAt w _ rfl))
  have HBL1 : Hid (w.heap.size < w1.heap.size) := Mm.hid (Mm.heapLt HBX1.out)
  have HBT1 : Hid (tag w.heap.size = none) := Mm.hid (H.out.top _ (Nat.le_refl _))
  have hi : s.pgs[L.length]? = some P := by rw [hs.out.e]; simp
  have hPm : P ∈ s.pgs := hs.out.mem
  obtain ⟨g, c, rfl, m1, m2, m3, m4, m5, m6⟩ := HM1.out.at hi
  have c1 := HM1.out.c1
  obtain ⟨q, c', ek, k1, k2, k3, k4, k5⟩ := HM1.out.ks hPm
  obtain ⟨n, hn⟩ : ∃ n, n = P.ks.length := ⟨_, rfl⟩
  obtain ⟨N, hN⟩ : ∃ N, N = s.pgs.length := ⟨_, rfl⟩
  obtain ⟨l, hl⟩ : ∃ l, l = L.length := ⟨_, rfl⟩
  obtain ⟨a, ha⟩ : ∃ a, a = A.length := ⟨_, rfl⟩
  rw [← hn] at k1 ek
  rw [← hN] at c1 m1 m2
  have hnk : a < n := by rw [hn, hk.out.e, ha]; simp
  obtain ⟨gk, hgk⟩ : ∃ gk, q = some ⟨gk, 0, none⟩ := by
    rcases k4 with h1 | h1
    · obtain ⟨h2, _⟩ := k3 h1
      rw [h2] at hn; simp at hn; omega
    · exact h1
  subst hgk
  rw [ek] at m6
  rw [← hl] at m2 m3 ⊢
  rw [← ha]
  have hnb : n ≤ 10000 := by rw [hn]; exact hz.out.kl P hPm
  have hcn := hz.out.cn
  have hc1 : 1 ≤ s.count := by
    rw [hI.out.cnt, hs.out.e, List.map_append, List.sum_append, List.map_cons, List.sum_cons]
    omega
  have HWC : Hid ((s.count : Int) - 1 = ((s.count - 1 : Nat) : Int)) := Mm.hid (by omega)
  have g1 : (0 : Int) ≤ (l : Int) := by omega
  have g2 : (l : Int) < (N : Int) := by omega
  have hdl := delS_any gk n c' a (a + 1) (Lf.strs P.ks) h w1 (Mm.hid (by have h1 := (HM1.out.pg P hPm).own; rw [ek] at h1; exact h1)) (Nat.lt_succ_self _) (by omega) (Mm.hid (Lf.strs_one _))
  obtain ⟨M, hM⟩ : ∃ M, M = a + (n - (a + 1)) := ⟨_, rfl⟩
  rw [← hM, show ((a + 1 : Nat) : Int) = (a : Int) + 1 from rfl] at hdl
  have HDL := Mm.hid hdl
  have HPM := Mm.hid hPm
  have HLL := Mm.hid hl
  have HEK := Mm.hid ek
  have HE := Mm.hid hs.out.e
  have HKL : Hid (Lf.strs (A ++ B) = (Lf.strs P.ks).take a ++ (Lf.strs P.ks).drop (a + 1)) := Mm.hid (by
    have e : Lf.strs P.ks = Lf.strs A ++ .string k :: Lf.strs B := by rw [hk.out.e]; simp [Lf.strs]
    have hl : (Lf.strs A).length = a := by rw [ha]; simp
    rw [e, List.take_left' hl, ← hl, List.drop_append]
    simp [Lf.strs])
  clear hb1 k2 k3 k4 k5 hi hPm hn hN hl ek m4 m5 ha hdl hM
  go_wp2_with fail
  with_reducible refine HDL.out.mono ?_
  rintro e w6 ⟨rfl, hown6, hg6⟩
  have hp6 : w6.heap[bl P.n]? = some (.cells #[.int .i64 (P.n : Int), .string P.b, .slice (some ⟨gk, 0, none⟩) n c'] 96 (0, 0)) := by
    have h1 := (HM1.out.pg P HPM.out).cell
    have h2 := (HM1.out.pg P HPM.out).tb
    rw [HEK.out] at h1
    refine (hg6.block _ (Mm.heapLt h1) (fun e => ?_)).trans h1
    have h3 := (HM1.out.pg P HPM.out).tk (bl P.n) (by rw [HEK.out]; exact e.symm)
    rw [h2] at h3; cases h3
  obtain ⟨hM3, hE3⟩ := HM1.out.putKeys HE.out HND.out (w1 := w6) (v := .slice (some ⟨gk, 0, none⟩) M c') (ks := A ++ B) (by rw [HEK.out]; exact hg6) (by rw [HKL.out]; exact hown6) (by rw [HEK.out]; exact Or.inl rfl)
  obtain ⟨W3, hW3⟩ : ∃ W3, w6.setCell ⟨bl P.n, 2, none⟩ (.slice (some ⟨gk, 0, none⟩) M c') = W3 := ⟨_, rfl⟩
  have d6 : w6.cell? ⟨bl P.n, 2, none⟩ = some (.slice (some ⟨gk, 0, none⟩) n c') := Mm.cellOf hp6 rfl
  have f6 : w6.frozen? ⟨bl P.n, 2, none⟩ = false := by simp [World.frozen?, hp6]
  rw [hW3] at hM3 hE3
  have c3 := hM3.c3
  have f3 := hM3.fr 3
  obtain ⟨hM4, hE4⟩ := hM3.setCount (s.count - 1)
  obtain ⟨W4, hW4⟩ : ∃ W4, W3.setCell ⟨p, 3, none⟩ (.int .i64 ((s.count : Int) - 1)) = W4 := ⟨_, rfl⟩
  rw [← HWC.out, hW4] at hM4 hE4
  have HM4 : Hid (Lf.Mem h W4 _ p (Lf.remP s L P R (A ++ B)) bl _ _) := Mm.hid hM4
  have HE4 : Hid (Lf.Ev tag _ w W4) := Mm.hid (HE1.out.trans (hE3.trans hE4))
  have HBT4 : Hid (_ = none) := Mm.hid (hE3.tags _ HBL1.out HBT1.out)
  have HBX4 : Hid (W4.heap[w.heap.size]? = some (.cells #[.int .i64 0, .int .i64 0] 38 (0, 0))) := Mm.hid ((hE4.block _ (Nat.lt_of_lt_of_le HBL1.out hE3.size) HBT4.out).trans ((hE3.block _ HBL1.out HBT1.out).trans HBX1.out))
  have HBL4 : Hid (w.heap.size < W4.heap.size) := Mm.hid (Mm.heapLt HBX4.out)
  have HA4 : Hid (W4.drew.cell? ⟨bl P.n, 0, none⟩ = some (.int .i64 (P.n : Int))) := Mm.hid (Mm.cellOf (hM4.pg (Lf.withKs P (A ++ B)) (by simp)).cell rfl)
  have hjn := join_any (Mm.hid HM4.out.drew) (P := Lf.withKs P (A ++ B)) (L := L) (R := R) rfl HZ1 HN1
  rw [← HLL.out] at hjn
  rw [← HMF.out, ← HMT.out] at hjn
  have HJN := Mm.hid hjn
  have HKS : Hid (∀ w9 : World, w9.cell? ⟨bl P.n, 0, none⟩ = some (.int .i64 (P.n : Int)) → ((w9.setCell ⟨w.heap.size, 0, none⟩ (.int .i64 MF)).setCell ⟨w.heap.size, 1, none⟩ (.int .i64 MT)).cell? ⟨bl P.n, 0, none⟩ = some (.int .i64 (P.n : Int))) := Mm.hid (fun w9 h9 => by
    have h1 := (HM1.out.pg P HPM.out).tb
    have h2 : bl P.n ≠ w.heap.size := fun e => by rw [e, HBT1.out] at h1; cases h1
    rw [World.cell?_setCell_other _ _ _ _ (fun e => h2 (by injection e with e _ _; exact e.symm)), World.cell?_setCell_other _ _ _ _ (fun e => h2 (by injection e with e _ _; exact e.symm))]
    exact h9)
  clear hM3 hE3 hM4 hE4 hjn hown6 hg6 hp6 m6 c1 m3
  go_wp2_with fail
  clear hW3 hW4 c3 f3 d6 f6
  refine wp_region_held_drew (S := fun w' => w'.cell? ⟨bl P.n, 0, none⟩ = some (.int .i64 (P.n : Int))) (by kernel_rfl) (HA4.out) (fun hH => ?_)
  refine wpAnyH_take (i := 0) (oi := ?oz1q0) (v := ?vz1q0) ?hiz1q0 ?hsz1q0 ?hfz1q0 ?hrz1q0 ?hQz1q0 (Or.inl ⟨?hwz1q0, ?hyz1q0⟩) ?hSz1q0 ?restz1q0
  case hiz1q0 => (simp; rfl)
  case hsz1q0 => kernel_rfl
  case hfz1q0 => kernel_rfl
  case hrz1q0 => kernel_rfl
  case hQz1q0 => exact fun _ _ _ h => h
  case hwz1q0 => rfl
  case hyz1q0 => (intro wq hSq; (try dsimp only at hSq); go_simp; (try with_reducible rfl))
  case hSz1q0 => assumption
  simp only [Act.put, List.setIfInBounds_toArray, List.set_cons_zero, List.set_cons_succ]
  refine wpAnyH_take (i := 1) (oi := ?oz2q1) (v := ?vz2q1) ?hiz2q1 ?hsz2q1 ?hfz2q1 ?hrz2q1 ?hQz2q1 (Or.inl ⟨?hwz2q1, ?hyz2q1⟩) ?hSz2q1 ?restz2q1
  case hiz2q1 => (simp; rfl)
  case hsz2q1 => kernel_rfl
  case hfz2q1 => kernel_rfl
  case hrz2q1 => kernel_rfl
  case hQz2q1 => exact fun _ _ _ h => h
  case hwz2q1 => rfl
  case hyz2q1 => (intro wq hSq; (try dsimp only at hSq); go_simp; (try with_reducible rfl))
  case hSz2q1 => assumption
  simp only [Act.put, List.setIfInBounds_toArray, List.set_cons_zero, List.set_cons_succ]
  refine wpAnyH_take (i := 2) (oi := ?oz3q2) (v := ?vz3q2) ?hiz3q2 ?hsz3q2 ?hfz3q2 ?hrz3q2 ?hQz3q2 (Or.inl ⟨?hwz3q2, ?hyz3q2⟩) ?hSz3q2 ?restz3q2
  case hiz3q2 => (simp; rfl)
  case hsz3q2 => kernel_rfl
  case hfz3q2 => kernel_rfl
  case hrz3q2 => kernel_rfl
  case hQz3q2 => exact fun _ _ _ h => h
  case hwz3q2 => rfl
  case hyz3q2 => (intro wq hSq; (try dsimp only at hSq); go_simp; (try with_reducible rfl))
  case hSz3q2 => assumption
  simp only [Act.put, List.setIfInBounds_toArray, List.set_cons_zero, List.set_cons_succ]
  refine wpAnyH_take (i := 3) (oi := ?oz4q3) (v := ?vz4q3) ?hiz4q3 ?hsz4q3 ?hfz4q3 ?hrz4q3 ?hQz4q3 (Or.inl ⟨?hwz4q3, ?hyz4q3⟩) ?hSz4q3 ?restz4q3
  case hiz4q3 => (simp; rfl)
  case hsz4q3 => kernel_rfl
  case hfz4q3 => kernel_rfl
  case hrz4q3 => kernel_rfl
  case hQz4q3 => exact fun _ _ _ h => h
  case hwz4q3 => rfl
  case hyz4q3 => (intro wq hSq; (try dsimp only at hSq); go_simp; (try with_reducible rfl))
  case hSz4q3 => assumption
  simp only [Act.put, List.setIfInBounds_toArray, List.set_cons_zero, List.set_cons_succ]
  refine wpAnyH_take (i := 4) (oi := ?oz5q4) (v := ?vz5q4) ?hiz5q4 ?hsz5q4 ?hfz5q4 ?hrz5q4 ?hQz5q4 (Or.inl ⟨?hwz5q4, ?hyz5q4⟩) ?hSz5q4 ?restz5q4
  case hiz5q4 => (simp; rfl)
  case hsz5q4 => kernel_rfl
  case hfz5q4 => kernel_rfl
  case hrz5q4 => kernel_rfl
  case hQz5q4 => exact fun _ _ _ h => h
  case hwz5q4 => rfl
  case hyz5q4 => (intro wq hSq; (try dsimp only at hSq); go_simp; (try with_reducible rfl))
  case hSz5q4 => assumption
  simp only [Act.put, List.setIfInBounds_toArray, List.set_cons_zero, List.set_cons_succ]
  refine wpAnyH_take (i := 5) (oi := ?oz6q5) (v := ?vz6q5) ?hiz6q5 ?hsz6q5 ?hfz6q5 ?hrz6q5 ?hQz6q5 (Or.inl ⟨?hwz6q5, ?hyz6q5⟩) ?hSz6q5 ?restz6q5
  case hiz6q5 => (simp; rfl)
  case hsz6q5 => kernel_rfl
  case hfz6q5 => kernel_rfl
  case hrz6q5 => kernel_rfl
  case hQz6q5 => exact fun _ _ _ h => h
  case hwz6q5 => rfl
  case hyz6q5 => (intro wq hSq; (try dsimp only at hSq); go_simp; (try with_reducible rfl))
  case hSz6q5 => assumption
  simp only [Act.put, List.setIfInBounds_toArray, List.set_cons_zero, List.set_cons_succ]
  refine wpAnyH_ready (rs := [6]) (by kernel_rfl) (by simp) ?_
  refine AllReadyH.cons (o := ?oz7q) ?hz7q (fun K hK => ?rz7q) AllReadyH.nil
  case hz7q => (simp; rfl)
  case rz7q =>
    go_simp
    with_reducible refine HJN.out.mono ?_
    rintro e w9 ⟨rfl, tag9, rv9, hM9, hE9, hA9⟩
    have HM9 := Mm.hid hM9
    have HE9 : Hid (Lf.Ev tag tag9 w w9) := Mm.hid (HE4.out.drew.trans hE9)
    have HA9 : Hid (w9.cell? ⟨bl P.n, 0, none⟩ = some (.int .i64 (P.n : Int))) := Mm.hid hA9
    have HX9 : Hid (w9.heap[w.heap.size]? = some (.cells #[.int .i64 0, .int .i64 0] 38 (0, 0))) := Mm.hid ((hE9.block _ HBL4.out HBT4.out).trans HBX4.out)
    have HBT9 : Hid (tag9 w.heap.size = none) := Mm.hid (hE9.tags _ HBL4.out HBT4.out)
    clear hM9 hE9 hA9
    go_wp2_with fail
    refine hK.out _ _ (HA9.out) (fun hHz8q => ?_)
    clear hK K
    refine wpAnyH_take (i := 7) (oi := ?oz9q7) (v := ?vz9q7) ?hiz9q7 ?hsz9q7 ?hfz9q7 ?hrz9q7 ?hQz9q7 (Or.inl ⟨?hwz9q7, ?hyz9q7⟩) ?hSz9q7 ?restz9q7
    case hiz9q7 => (simp; rfl)
    case hsz9q7 => kernel_rfl
    case hfz9q7 => kernel_rfl
    case hrz9q7 => kernel_rfl
    case hQz9q7 => exact fun _ _ _ h => h
    case hwz9q7 => rfl
    case hyz9q7 => (intro wq hSq; (try dsimp only at hSq); go_simp; (try with_reducible rfl))
    case hSz9q7 => assumption
    simp only [Act.put, List.setIfInBounds_toArray, List.set_cons_zero, List.set_cons_succ]
    refine wpAnyH_ready (rs := [8]) (by kernel_rfl) (by simp) ?_
    refine AllReadyH.cons (o := ?oz10q) ?hz10q (fun K hK => ?rz10q) AllReadyH.nil
    case hz10q => (simp; rfl)
    case rz10q =>
      have hq0 : w9.cell? ⟨w.heap.size, 0, none⟩ = some (.int .i64 0) := Mm.cellOf HX9.out rfl
      have hq1 : w9.cell? ⟨w.heap.size, 1, none⟩ = some (.int .i64 0) := Mm.cellOf HX9.out rfl
      have hq2 : w9.frozen? ⟨w.heap.size, 0, none⟩ = false := by simp [World.frozen?, HX9.out]
      have hq3 : w9.frozen? ⟨w.heap.size, 1, none⟩ = false := by simp [World.frozen?, HX9.out]
      go_simp
      clear hq0 hq1 hq2 hq3
      refine hK.out _ _ (HKS.out w9 HA9.out) (fun hHz11q => ?_)
      clear hK K
      refine wpAnyH_take (i := 9) (oi := ?oz12q9) (v := ?vz12q9) ?hiz12q9 ?hsz12q9 ?hfz12q9 ?hrz12q9 ?hQz12q9 (Or.inl ⟨?hwz12q9, ?hyz12q9⟩) ?hSz12q9 ?restz12q9
      case hiz12q9 => (simp; rfl)
      case hsz12q9 => kernel_rfl
      case hfz12q9 => kernel_rfl
      case hrz12q9 => kernel_rfl
      case hQz12q9 => exact fun _ _ _ h => h
      case hwz12q9 => rfl
      case hyz12q9 => (intro wq hSq; (try dsimp only at hSq); go_simp; (try with_reducible rfl))
      case hSz12q9 => assumption
      simp only [Act.put, List.setIfInBounds_toArray, List.set_cons_zero, List.set_cons_succ]
      refine wpAnyH_done (by kernel_rfl) ?_ _
      have hbE := Lf.box2n (x' := .int .i64 MF) (y' := .int .i64 MT) HX9.out
      have HMR := Mm.hid ((HM9.out.set HBT9.out 0 (.int .i64 MF)).set HBT9.out 1 (.int .i64 MT))
      have HER := Mm.hid ((HE9.out.set (Nat.le_refl _) 0 (.int .i64 MF)).set (Nat.le_refl _) 1 (.int .i64 MT))
      obtain ⟨WE, hWE⟩ : ∃ WE, (w9.setCell ⟨w.heap.size, 0, none⟩ (.int .i64 MF)).setCell ⟨w.heap.size, 1, none⟩ (.int .i64 MT) = WE := ⟨_, rfl⟩
      rw [hWE] at hbE HMR HER ⊢
      have ea : WE.cell? ⟨w.heap.size, 0, none⟩ = some (.int .i64 MF) := Mm.cellOf hbE rfl
      have eb : WE.cell? ⟨w.heap.size, 1, none⟩ = some (.int .i64 MT) := Mm.cellOf hbE rfl
      go_wp2_with fail
      exact bodyPost_ret (v := .tuple #[.int .i64 (P.n : Int), .agg #[.int .i64 MF, .int .i64 MT], .int .i64 0]) (by simp [results, Tryz.results36, go_sem, ea, eb]) rfl ⟨by rw [HMF.out, HMT.out], _, _, _, _, HMR.out, HER.out⟩

end Go.Proofs.YtjnaafgiokdcbaaGreatDoor
