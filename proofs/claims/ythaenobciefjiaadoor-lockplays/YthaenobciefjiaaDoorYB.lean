/- The reference's Waits, For walked. -/
import Derived.Test.YthaenobciefjiaaDoorYA
import Derived.Deep.RegionHeld3
namespace Go.Proofs.YthaenobciefjiaaDoor
open Go.RowKit

namespace Lk
theorem find_is {qu : List Hd} (hn : (qu.map (·.ho)).Nodup) {x k : Int} (h : FindR qu x k) : (k = -1 ∧ qu.find? (fun y => y.ho == x) = none) ∨ ∃ (i : Nat) (y : Hd), k = (i : Int) ∧ qu[i]? = some y ∧ y.ho = x ∧ qu.find? (fun y => y.ho == x) = some y := by
  rcases h with ⟨rfl, h⟩ | ⟨i, y, rfl, h, rfl⟩
  · refine Or.inl ⟨rfl, ?_⟩
    rw [List.find?_eq_none]
    intro z hz
    simpa using h z hz
  · refine Or.inr ⟨i, y, rfl, h, rfl, ?_⟩
    have hz := List.mem_of_getElem? h
    induction qu generalizing i with
    | nil => cases hz
    | cons a A ih =>
      rw [List.map_cons, List.nodup_cons] at hn
      rcases List.mem_cons.1 hz with e | e
      · subst e; simp
      · have : a.ho ≠ y.ho := fun e2 => hn.1 (by rw [e2]; exact List.mem_map_of_mem e)
        rw [List.find?_cons_of_neg (by simpa using this)]
        obtain ⟨j, hj⟩ := List.getElem?_of_mem e
        exact ih hn.2 j hj e
/-- What the reference's Waits tells. -/
def wantV : Option Hd → Value
  | none => .agg #[.string ⟨#[]⟩, .int .i64 0, .bool false]
  | some y => .agg #[str y.nm, .int .i64 y.md, .bool true]
end Lk

set_option maxRecDepth 100000 in
set_option maxHeartbeats 1000000 in
theorem refWaits_any (X : List Nat) (W : World) (T : Nat) (r : Lk.Rt) (x : Int) (hR : Hid (Lk.Rm X W T r)) (hn : r.qu.length ≤ 1000) (hnd : Hid ((r.qu.map (·.ho)).Nodup)) :
    Calls Tryd.prog 18 #[.pointer (some ⟨T, 0, none⟩), .int .i64 x] W fun e w' => e = .returned (Lk.wantV (r.qu.find? (fun y => y.ho == x))) ∧ Below W.heap.size W w' := by
  go_enter Tryd.func18, Tryd.ntmps18
  go_wp2_with fail
  have HB1 : Hid (Below W.heap.size W (W.alloc (.cells #[.string ⟨#[]⟩, .int .i64 0, .bool false] 42))) := Lk.hid (Lk.belAl (Below.refl _ _) _)
  have HR1 := Lk.hid (hR.out.below HB1.out)
  refine (refFind_any X _ T r x HR1 hn).mono ?_
  rintro e w' ⟨k, rfl, hf, hq⟩
  obtain rfl := hq.symm
  rcases Lk.find_is hnd.out hf with ⟨rfl, hf2⟩ | ⟨i, y, rfl, hy, -, hf2⟩
  · have HF := Lk.hid hf2
    clear hf hf2
    go_wp2_with fail
    refine bodyPost_ret (v := .agg #[.string ⟨#[]⟩, .int .i64 0, .bool false]) (by simp [results, Tryd.results18, go_sem]) rfl ⟨?_, HB1.out⟩
    rw [HF.out]; rfl
  · have HF := Lk.hid hf2
    obtain ⟨pb, cb, hc, hin, hcap, hnil, ho⟩ := hR.out.qu
    have hT := hR.out.lt
    obtain ⟨b, o, rfl, hlb, c0, c1, c2⟩ := hin.at hy
    obtain rfl := ho b o rfl
    rw [Nat.zero_add] at c0 c1 c2
    have hi := (List.getElem?_eq_some_iff.1 hy).1
    obtain ⟨n, hnn⟩ : ∃ n, n = r.qu.length := ⟨_, rfl⟩
    rw [← hnn] at hc hi hn
    have g1 : (0 : Int) ≤ (i : Int) := by omega
    have g2 : (i : Int) < (n : Int) := by omega
    have HS : Hid (∀ w', Below W.heap.size W w' → Below W.heap.size W w' ∧ w'.cell? ⟨T, 1, none⟩ = some (.slice (some ⟨b, 0, none⟩) n cb) ∧ w'.cell? ⟨b, i * 3, none⟩ = some (Lk.str y.nm) ∧ w'.cell? ⟨b, i * 3 + 2, none⟩ = some (.int .i64 y.md)) := Lk.hid (fun w' hb => ⟨hb, (Lk.belAt hb 1 hT).trans hc, (Lk.belAt hb _ hlb).trans c0, (Lk.belAt hb _ hlb).trans c2⟩)
    clear hf hf2 hin hcap hnil hlb hy hnn hc c0 c1 c2 hT
    go_wp2_with fail
    refine wp_region_held_drew (S := (fun w' => Below W.heap.size W w' ∧ w'.cell? ⟨T, 1, none⟩ = some (.slice (some ⟨b, 0, none⟩) n cb) ∧ w'.cell? ⟨b, i * 3, none⟩ = some (Lk.str y.nm) ∧ w'.cell? ⟨b, i * 3 + 2, none⟩ = some (.int .i64 y.md))) (by kernel_rfl) (HS.out _ HB1.out.drew) (fun hH => ?_)
    refine wpAnyH_take (i := 0) (oi := ?oz1q0) (v := ?vz1q0) ?hiz1q0 ?hsz1q0 ?hfz1q0 ?hrz1q0 ?hQz1q0 (Or.inl ⟨?hwz1q0, ?hyz1q0⟩) ?hSz1q0 ?restz1q0
    case hiz1q0 => (simp; rfl)
    case hsz1q0 => kernel_rfl
    case hfz1q0 => kernel_rfl
    case hrz1q0 => kernel_rfl
    case hQz1q0 => exact fun _ _ _ h => h
    case hwz1q0 => rfl
    case hyz1q0 => (intro wq hSq; (try dsimp only at hSq); go_simp; (try with_reducible rfl))
    case hSz1q0 => assumption
    simp only [Act.put, List.setIfInBounds_toArray, List.set_cons_zero, List.set_cons_succ]
    refine wpAnyH_take (i := 1) (oi := ?oz2q1) (v := ?vz2q1) ?hiz2q1 ?hsz2q1 ?hfz2q1 ?hrz2q1 ?hQz2q1 (Or.inl ⟨?hwz2q1, ?hyz2q1⟩) ?hSz2q1 ?restz2q1
    case hiz2q1 => (simp; rfl)
    case hsz2q1 => kernel_rfl
    case hfz2q1 => kernel_rfl
    case hrz2q1 => kernel_rfl
    case hQz2q1 => exact fun _ _ _ h => h
    case hwz2q1 => rfl
    case hyz2q1 => (intro wq hSq; (try dsimp only at hSq); go_simp; (try with_reducible rfl))
    case hSz2q1 => assumption
    simp only [Act.put, List.setIfInBounds_toArray, List.set_cons_zero, List.set_cons_succ]
    refine wpAnyH_take (i := 2) (oi := ?oz3q2) (v := ?vz3q2) ?hiz3q2 ?hsz3q2 ?hfz3q2 ?hrz3q2 ?hQz3q2 (Or.inl ⟨?hwz3q2, ?hyz3q2⟩) ?hSz3q2 ?restz3q2
    case hiz3q2 => (simp; rfl)
    case hsz3q2 => kernel_rfl
    case hfz3q2 => kernel_rfl
    case hrz3q2 => kernel_rfl
    case hQz3q2 => exact fun _ _ _ h => h
    case hwz3q2 => rfl
    case hyz3q2 => (intro wq hSq; (try dsimp only at hSq); go_simp; (try with_reducible rfl))
    case hSz3q2 => assumption
    simp only [Act.put, List.setIfInBounds_toArray, List.set_cons_zero, List.set_cons_succ]
    refine wpAnyH_take (i := 3) (oi := ?oz4q3) (v := ?vz4q3) ?hiz4q3 ?hsz4q3 ?hfz4q3 ?hrz4q3 ?hQz4q3 (Or.inl ⟨?hwz4q3, ?hyz4q3⟩) ?hSz4q3 ?restz4q3
    case hiz4q3 => (simp; rfl)
    case hsz4q3 => kernel_rfl
    case hfz4q3 => kernel_rfl
    case hrz4q3 => kernel_rfl
    case hQz4q3 => exact fun _ _ _ h => h
    case hwz4q3 => rfl
    case hyz4q3 => (intro wq hSq; (try dsimp only at hSq); go_simp; (try with_reducible rfl))
    case hSz4q3 => assumption
    simp only [Act.put, List.setIfInBounds_toArray, List.set_cons_zero, List.set_cons_succ]
    refine wpAnyH_take (i := 4) (oi := ?oz5q4) (v := ?vz5q4) ?hiz5q4 ?hsz5q4 ?hfz5q4 ?hrz5q4 ?hQz5q4 (Or.inl ⟨?hwz5q4, ?hyz5q4⟩) ?hSz5q4 ?restz5q4
    case hiz5q4 => (simp; rfl)
    case hsz5q4 => kernel_rfl
    case hfz5q4 => kernel_rfl
    case hrz5q4 => kernel_rfl
    case hQz5q4 => exact fun _ _ _ h => h
    case hwz5q4 => rfl
    case hyz5q4 => (intro wq hSq; (try dsimp only at hSq); go_simp; (try with_reducible rfl))
    case hSz5q4 => assumption
    simp only [Act.put, List.setIfInBounds_toArray, List.set_cons_zero, List.set_cons_succ]
    refine wpAnyH_take (i := 5) (oi := ?oz6q5) (v := ?vz6q5) ?hiz6q5 ?hsz6q5 ?hfz6q5 ?hrz6q5 ?hQz6q5 (Or.inl ⟨?hwz6q5, ?hyz6q5⟩) ?hSz6q5 ?restz6q5
    case hiz6q5 => (simp; rfl)
    case hsz6q5 => kernel_rfl
    case hfz6q5 => kernel_rfl
    case hrz6q5 => kernel_rfl
    case hQz6q5 => exact fun _ _ _ h => h
    case hwz6q5 => rfl
    case hyz6q5 => (intro wq hSq; (try dsimp only at hSq); go_simp; (try with_reducible rfl))
    case hSz6q5 => assumption
    simp only [Act.put, List.setIfInBounds_toArray, List.set_cons_zero, List.set_cons_succ]
    refine wpAnyH_take (i := 6) (oi := ?oz7q6) (v := ?vz7q6) ?hiz7q6 ?hsz7q6 ?hfz7q6 ?hrz7q6 ?hQz7q6 (Or.inl ⟨?hwz7q6, ?hyz7q6⟩) ?hSz7q6 ?restz7q6
    case hiz7q6 => (simp; rfl)
    case hsz7q6 => kernel_rfl
    case hfz7q6 => kernel_rfl
    case hrz7q6 => kernel_rfl
    case hQz7q6 => exact fun _ _ _ h => h
    case hwz7q6 => rfl
    case hyz7q6 => (intro wq hSq; (try dsimp only at hSq); go_simp; (try with_reducible rfl))
    case hSz7q6 => assumption
    simp only [Act.put, List.setIfInBounds_toArray, List.set_cons_zero, List.set_cons_succ]
    refine wpAnyH_take (i := 7) (oi := ?oz8q7) (v := ?vz8q7) ?hiz8q7 ?hsz8q7 ?hfz8q7 ?hrz8q7 ?hQz8q7 (Or.inl ⟨?hwz8q7, ?hyz8q7⟩) ?hSz8q7 ?restz8q7
    case hiz8q7 => (simp; rfl)
    case hsz8q7 => kernel_rfl
    case hfz8q7 => kernel_rfl
    case hrz8q7 => kernel_rfl
    case hQz8q7 => exact fun _ _ _ h => h
    case hwz8q7 => rfl
    case hyz8q7 => (intro wq hSq; (try dsimp only at hSq); go_simp; (try with_reducible rfl))
    case hSz8q7 => assumption
    simp only [Act.put, List.setIfInBounds_toArray, List.set_cons_zero, List.set_cons_succ]
    refine wpAnyH_take (i := 8) (oi := ?oz9q8) (v := ?vz9q8) ?hiz9q8 ?hsz9q8 ?hfz9q8 ?hrz9q8 ?hQz9q8 (Or.inl ⟨?hwz9q8, ?hyz9q8⟩) ?hSz9q8 ?restz9q8
    case hiz9q8 => (simp; rfl)
    case hsz9q8 => kernel_rfl
    case hfz9q8 => kernel_rfl
    case hrz9q8 => kernel_rfl
    case hQz9q8 => exact fun _ _ _ h => h
    case hwz9q8 => rfl
    case hyz9q8 => (intro wq hSq; (try dsimp only at hSq); go_simp; (try with_reducible rfl))
    case hSz9q8 => assumption
    simp only [Act.put, List.setIfInBounds_toArray, List.set_cons_zero, List.set_cons_succ]
    refine wpAnyH_take (i := 9) (oi := ?oz10q9) (v := ?vz10q9) ?hiz10q9 ?hsz10q9 ?hfz10q9 ?hrz10q9 ?hQz10q9 (Or.inl ⟨?hwz10q9, ?hyz10q9⟩) ?hSz10q9 ?restz10q9
    case hiz10q9 => (simp; rfl)
    case hsz10q9 => kernel_rfl
    case hfz10q9 => kernel_rfl
    case hrz10q9 => kernel_rfl
    case hQz10q9 => exact fun _ _ _ h => h
    case hwz10q9 => rfl
    case hyz10q9 => (intro wq hSq; (try dsimp only at hSq); go_simp; (try with_reducible rfl))
    case hSz10q9 => assumption
    simp only [Act.put, List.setIfInBounds_toArray, List.set_cons_zero, List.set_cons_succ]
    refine wpAnyH_take (i := 10) (oi := ?oz11q10) (v := ?vz11q10) ?hiz11q10 ?hsz11q10 ?hfz11q10 ?hrz11q10 ?hQz11q10 (Or.inl ⟨?hwz11q10, ?hyz11q10⟩) ?hSz11q10 ?restz11q10
    case hiz11q10 => (simp; rfl)
    case hsz11q10 => kernel_rfl
    case hfz11q10 => kernel_rfl
    case hrz11q10 => kernel_rfl
    case hQz11q10 => exact fun _ _ _ h => h
    case hwz11q10 => rfl
    case hyz11q10 => (intro wq hSq; (try dsimp only at hSq); go_simp; (try with_reducible rfl))
    case hSz11q10 => assumption
    simp only [Act.put, List.setIfInBounds_toArray, List.set_cons_zero, List.set_cons_succ]
    refine wpAnyH_take (i := 11) (oi := ?oz12q11) (v := ?vz12q11) ?hiz12q11 ?hsz12q11 ?hfz12q11 ?hrz12q11 ?hQz12q11 (Or.inl ⟨?hwz12q11, ?hyz12q11⟩) ?hSz12q11 ?restz12q11
    case hiz12q11 => (simp; rfl)
    case hsz12q11 => kernel_rfl
    case hfz12q11 => kernel_rfl
    case hrz12q11 => kernel_rfl
    case hQz12q11 => exact fun _ _ _ h => h
    case hwz12q11 => rfl
    case hyz12q11 => (intro wq hSq; (try dsimp only at hSq); go_simp; (try with_reducible rfl))
    case hSz12q11 => assumption
    simp only [Act.put, List.setIfInBounds_toArray, List.set_cons_zero, List.set_cons_succ]
    refine wpAnyH_take (i := 12) (oi := ?oz13q12) (v := ?vz13q12) ?hiz13q12 ?hsz13q12 ?hfz13q12 ?hrz13q12 ?hQz13q12 (Or.inl ⟨?hwz13q12, ?hyz13q12⟩) ?hSz13q12 ?restz13q12
    case hiz13q12 => (simp; rfl)
    case hsz13q12 => kernel_rfl
    case hfz13q12 => kernel_rfl
    case hrz13q12 => kernel_rfl
    case hQz13q12 => exact fun _ _ _ h => h
    case hwz13q12 => rfl
    case hyz13q12 => (intro wq hSq; (try dsimp only at hSq); go_simp; (try with_reducible rfl))
    case hSz13q12 => assumption
    simp only [Act.put, List.setIfInBounds_toArray, List.set_cons_zero, List.set_cons_succ]
    refine wpAnyH_take (i := 13) (oi := ?oz14q13) (v := ?vz14q13) ?hiz14q13 ?hsz14q13 ?hfz14q13 ?hrz14q13 ?hQz14q13 (Or.inl ⟨?hwz14q13, ?hyz14q13⟩) ?hSz14q13 ?restz14q13
    case hiz14q13 => (simp; rfl)
    case hsz14q13 => kernel_rfl
    case hfz14q13 => kernel_rfl
    case hrz14q13 => kernel_rfl
    case hQz14q13 => exact fun _ _ _ h => h
    case hwz14q13 => rfl
    case hyz14q13 => (intro wq hSq; (try dsimp only at hSq); go_simp; (try with_reducible rfl))
    case hSz14q13 => assumption
    simp only [Act.put, List.setIfInBounds_toArray, List.set_cons_zero, List.set_cons_succ]
    refine wpAnyH_take (i := 14) (oi := ?oz15q14) (v := ?vz15q14) ?hiz15q14 ?hsz15q14 ?hfz15q14 ?hrz15q14 ?hQz15q14 (Or.inl ⟨?hwz15q14, ?hyz15q14⟩) ?hSz15q14 ?restz15q14
    case hiz15q14 => (simp; rfl)
    case hsz15q14 => kernel_rfl
    case hfz15q14 => kernel_rfl
    case hrz15q14 => kernel_rfl
    case hQz15q14 => exact fun _ _ _ h => h
    case hwz15q14 => rfl
    case hyz15q14 => (intro wq hSq; (try dsimp only at hSq); go_simp; (try with_reducible rfl))
    case hSz15q14 => assumption
    simp only [Act.put, List.setIfInBounds_toArray, List.set_cons_zero, List.set_cons_succ]
    refine wpAnyH_take (i := 15) (oi := ?oz16q15) (v := ?vz16q15) ?hiz16q15 ?hsz16q15 ?hfz16q15 ?hrz16q15 ?hQz16q15 (Or.inl ⟨?hwz16q15, ?hyz16q15⟩) ?hSz16q15 ?restz16q15
    case hiz16q15 => (simp; rfl)
    case hsz16q15 => kernel_rfl
    case hfz16q15 => kernel_rfl
    case hrz16q15 => kernel_rfl
    case hQz16q15 => exact fun _ _ _ h => h
    case hwz16q15 => rfl
    case hyz16q15 => (intro wq hSq; (try dsimp only at hSq); go_simp; (try with_reducible rfl))
    case hSz16q15 => assumption
    simp only [Act.put, List.setIfInBounds_toArray, List.set_cons_zero, List.set_cons_succ]
    refine wpAnyH_take (i := 16) (oi := ?oz17q16) (v := ?vz17q16) ?hiz17q16 ?hsz17q16 ?hfz17q16 ?hrz17q16 ?hQz17q16 (Or.inl ⟨?hwz17q16, ?hyz17q16⟩) ?hSz17q16 ?restz17q16
    case hiz17q16 => (simp; rfl)
    case hsz17q16 => kernel_rfl
    case hfz17q16 => kernel_rfl
    case hrz17q16 => kernel_rfl
    case hQz17q16 => exact fun _ _ _ h => h
    case hwz17q16 => rfl
    case hyz17q16 => (intro wq hSq; (try dsimp only at hSq); go_simp; (try with_reducible rfl))
    case hSz17q16 => assumption
    simp only [Act.put, List.setIfInBounds_toArray, List.set_cons_zero, List.set_cons_succ]
    refine wpAnyH_ready (rs := [17]) (by kernel_rfl) (by simp) ?_
    refine AllReadyH.cons (o := ?oz18q) ?hz18q (fun K hK => ?rz18q) AllReadyH.nil
    case hz18q => (simp; rfl)
    case rz18q =>
      go_simp
      refine hK.out _ _ (HS.out _ (Lk.belAl (Below.refl _ _) _).drew) (fun hHz19q => ?_)
      clear hK K
      refine wpAnyH_done (by kernel_rfl) ?_ _
      go_wp2_with fail
      refine bodyPost_ret (v := .agg #[Lk.str y.nm, .int .i64 y.md, .bool true]) (by simp [results, Tryd.results18, go_sem]) rfl ⟨?_, (Lk.belAl (Below.refl _ _) _).drew⟩
      rw [HF.out]; rfl

set_option maxRecDepth 100000 in
set_option maxHeartbeats 1000000 in
theorem refFor_any (X : List Nat) (W : World) (T : Nat) (r : Lk.Rt) (x : Int) (hR : Hid (Lk.Rm X W T r)) (hn : r.has.length ≤ 1000 ∧ r.qu.length ≤ 1000) (hnd : Hid ((r.qu.map (·.ho)).Nodup)) (hok : Hid (∀ y ∈ r.has, y.ok)) :
    Calls Tryd.prog 22 #[.pointer (some ⟨T, 0, none⟩), .int .i64 x] W fun e w' => ∃ p c l, e = .returned (.slice p l.length c) ∧ Lk.Sl w' p l.length c (Lk.numsV l) ∧ Rs.Up (· ≤ ·) l ∧ (∀ o, o ∈ l ↔ ∃ (i : Nat) (y : Lk.Hd), r.qu[i]? = some y ∧ y.ho = x ∧ Lk.BarsR r.has (r.qu.take i) y o) ∧ l.length ≤ 2000 ∧ Below W.heap.size W w' := by
  go_enter Tryd.func22, Tryd.ntmps22
  go_wp2_with fail
  refine (refFind_any X W T r x hR hn.2).mono ?_
  rintro e w' ⟨k, rfl, hf, hq⟩
  obtain rfl := hq.symm
  rcases Lk.find_is hnd.out hf with ⟨rfl, hf2⟩ | ⟨i, y, rfl, hy, hyx, hf2⟩
  · have HNO : Hid (∀ z ∈ r.qu, z.ho ≠ x) := Lk.hid (fun z hz => by simpa using List.find?_eq_none.1 hf2 z hz)
    clear hf hf2
    go_wp2_with fail
    go_ret
    exact ⟨none, 0, [], rfl, Lk.Sl.none _, List.Pairwise.nil, fun o => ⟨(fun h => nomatch h), fun ⟨i, y, hy, e, _⟩ => absurd e (HNO.out y (List.mem_of_getElem? hy))⟩, Nat.zero_le _, Below.refl _ _⟩
  · obtain ⟨pb, cb, hc, hin, hcap, hnil, ho⟩ := hR.out.qu
    obtain ⟨b, o, rfl, hlb, c0, c1, c2⟩ := hin.at hy
    obtain rfl := ho b o rfl
    rw [Nat.zero_add] at c0 c1 c2
    have hi := (List.getElem?_eq_some_iff.1 hy).1
    have HI := Lk.hid hi
    obtain ⟨n, hnn⟩ : ∃ n, n = r.qu.length := ⟨_, rfl⟩
    rw [← hnn] at hc hi
    have g1 : (0 : Int) ≤ (i : Int) := by omega
    have g2 : (i : Int) < (n : Int) := by omega
    have HONE : Hid (∀ (j : Nat) z, r.qu[j]? = some z → z.ho = x → z = y ∧ j = i) := Lk.hid (fun j z hz e => by
      have e1 := (List.getElem?_eq_some_iff.1 hz)
      have e2 := (List.getElem?_eq_some_iff.1 hy)
      have hjl : j < (r.qu.map (·.ho)).length := by rw [List.length_map]; exact e1.1
      have hil : i < (r.qu.map (·.ho)).length := by rw [List.length_map]; exact e2.1
      have h3 : (r.qu.map (·.ho))[j] = (r.qu.map (·.ho))[i] := by rw [List.getElem_map, List.getElem_map, e1.2, e2.2, e, hyx]
      have h4 : j = i := by
        rcases Nat.lt_trichotomy j i with c | c | c
        · exact absurd h3 ((List.pairwise_iff_getElem.1 hnd.out) j i hjl hil c)
        · exact c
        · exact absurd h3.symm ((List.pairwise_iff_getElem.1 hnd.out) i j hil hjl c)
      subst h4
      rw [hy] at hz
      injection hz with hz
      exact ⟨hz.symm, rfl⟩)
    have HY := Lk.hid (And.intro hy hyx)
    have HN := Lk.hid hn
    clear hf hf2 hin hcap hnil hlb hy hyx hnn hn
    go_wp2_with (first | (go_at_call 35; refine (refBarring_any X _ T r y i hR HN.out (Nat.le_of_lt HI.out) hok).mono ?_; rintro e w2 ⟨p2, c2, l2, rfl, s1, s2, s3, s4, s5⟩; have HP := Lk.hid (And.intro s1 (And.intro s2 (And.intro s3 (And.intro s4 s5)))); clear s1 s2 s3 s4 s5))
    go_ret
    refine ⟨p2, c2, l2, rfl, HP.out.1, HP.out.2.1, fun o => (HP.out.2.2.1 o).trans ⟨fun h => ⟨i, y, HY.out.1, HY.out.2, h⟩, fun ⟨j, z, e1, e2, h⟩ => ?_⟩, HP.out.2.2.2.1, HP.out.2.2.2.2⟩
    obtain ⟨rfl, rfl⟩ := HONE.out j z e1 e2
    exact h

end Go.Proofs.YthaenobciefjiaaDoor

/- Texts walked. -/
namespace Go.Proofs.YthaenobciefjiaaDoor
open Go.RowKit

namespace Lk
theorem strs_eq (a b : Bytes) : ((⟨a.toArray⟩ : ByteArray).toList == (⟨b.toArray⟩ : ByteArray).toList) = (a == b) := by rw [ByteArray.toList_eq, ByteArray.toList_eq]
end Lk

set_option maxRecDepth 100000 in
set_option maxHeartbeats 1000000 in
theorem keepTexts_any (la lb : List Lk.Bytes) (pa pb : Option Addr) (ca cb : Nat) (w : World) (ha : Hid (Lk.Sl w pa la.length ca (Lk.strsV la))) (hb : Hid (Lk.Sl w pb lb.length cb (Lk.strsV lb))) (hn : la.length ≤ 10000000) :
    Calls Tryd.prog 23 #[.slice pa la.length ca, .slice pb lb.length cb] w fun e w' => e = .returned (.bool (decide (la = lb))) ∧ Below w.heap.size w w' := by
  by_cases hl : la.length = lb.length
  · obtain ⟨n, hnn⟩ : ∃ n, n = la.length := ⟨_, rfl⟩
    rw [← hl, ← hnn]
    rw [← hnn] at hn ha
    rw [← hl, ← hnn] at hb
    have HN := Lk.hid hnn
    have HL := Lk.hid hl
    clear hl hnn
    go_enter Tryd.func23, Tryd.ntmps23
    go_wp2_with fail
    go_loopw [5] (fun vi wr => ∃ k : Nat, k ≤ n ∧ vi = .int .i64 (k : Int) ∧ Hid (∀ j : Nat, j < k → la[j]? = lb[j]?) ∧ Hid (Below w.heap.size w wr)) (fun vi _ => n - (RowKit.intOf vi).toNat)
    case atStart => exact ⟨0, by omega, rfl, fun j h => absurd h (Nat.not_lt_zero j), Below.refl _ _⟩
    case round =>
      obtain ⟨k, hk, rfl, HI, HB⟩ := hrel
      by_cases hlt : k < n
      · obtain ⟨a, ha1⟩ : ∃ a, la[k]? = some a := ⟨_, List.getElem?_eq_getElem (by rw [← HN.out]; exact hlt)⟩
        obtain ⟨b, hb1⟩ : ∃ b, lb[k]? = some b := ⟨_, List.getElem?_eq_getElem (by rw [← HL.out, ← HN.out]; exact hlt)⟩
        obtain ⟨g1, rfl, hl1, hc1⟩ := (ha.out.below HB.out).txt ha1
        obtain ⟨g2, rfl, hl2, hc2⟩ := (hb.out.below HB.out).txt hb1
        have HA := Lk.hid (And.intro ha1 hb1)
        have g01 : (0 : Int) ≤ (k : Int) := by omega
        have g02 : (k : Int) < (n : Int) := by omega
        clear ha1 hb1 hl1 hl2
        have HCC : Hid (wr.drew.cell? ⟨g1, k, none⟩ = some (Lk.str a) ∧ wr.drew.cell? ⟨g2, k, none⟩ = some (Lk.str b)) := Lk.hid ⟨hc1, hc2⟩
        have hS := Lk.strs_eq a b
        by_cases e : a = b
        · have he : (a == b) = true := by simpa using e
          rw [he] at hS
          have HE := Lk.hid e
          clear e
          go_wp2_with fail
          go_region_held3 (fun w' => w'.cell? ⟨g1, k, none⟩ = some (Lk.str a) ∧ w'.cell? ⟨g2, k, none⟩ = some (Lk.str b)) (with_reducible exact HCC.out) (fail)
          go_wp2_with fail
          refine ⟨⟨k + 1, by omega, by go_num, fun j hj => ?_, HB.out.drew⟩, by simp [RowKit.intOf]; omega⟩
          by_cases ej : j = k
          · subst ej; rw [HA.out.1, HA.out.2, HE.out]
          · exact HI.out j (by omega)
        · have he : (a == b) = false := by simpa using e
          rw [he] at hS
          have HE : Hid (la ≠ lb) := Lk.hid (fun h => e (by have h1 := HA.out.1; rw [h, HA.out.2] at h1; injection h1 with h1; exact h1.symm))
          clear e
          go_wp2_with fail
          go_region_held3 (fun w' => w'.cell? ⟨g1, k, none⟩ = some (Lk.str a) ∧ w'.cell? ⟨g2, k, none⟩ = some (Lk.str b)) (with_reducible exact HCC.out) (fail)
          go_wp2_with fail
          go_ret
          exact ⟨by rw [decide_eq_false HE.out]; rfl, HB.out.drew⟩
      · have HE : Hid (la = lb) := Lk.hid (List.ext_getElem? (fun j => by
          by_cases hj : j < k
          · exact HI.out j hj
          · rw [List.getElem?_eq_none (by have := HN.out; omega), List.getElem?_eq_none (by have := HN.out; have := HL.out; omega)]))
        go_wp2_with fail
        go_ret
        exact ⟨by rw [decide_eq_true HE.out]; rfl, HB.out⟩
  · have hne : ((la.length : Int) == (lb.length : Int)) = false := by simp; omega
    have HE : Hid (la ≠ lb) := Lk.hid (fun h => hl (by rw [h]))
    clear hl
    go_enter Tryd.func23, Tryd.ntmps23
    go_wp2_with fail
    go_ret
    exact ⟨by rw [decide_eq_false HE.out]; rfl, Below.refl _ _⟩

end Go.Proofs.YthaenobciefjiaaDoor

/- LockPlays: what the reference stores. -/
namespace Go.Proofs.YthaenobciefjiaaDoor
open Go.RowKit

namespace Lk
/-- A piece that several ways come to. -/
theorem mergeH {G T : Prop} (m : G → T) (p : G) : T := m p
theorem wpAnyH_eq {P : Program} {md : Region.Mode} {ops : Array Oper} {Q : Exit → Act → World → Prop} {S : World → Prop} {fuel : Nat} {l l' : Array Bool} {a : Act} {w : World} (e : l' = l) (h : wpAnyH P md ops Q S fuel l a w) : wpAnyH P md ops Q S fuel l' a w := by subst e; exact h
theorem Box3.set {W : World} {b : Nat} {y : Hd} (h : Box3 W b y) {T : Nat} (hne : b ≠ T) (k : Nat) (v : Value) : Box3 (W.setCell ⟨T, k, none⟩ v) b y := (Below.heap_setCell W ⟨T, k, none⟩ v b hne).trans h
theorem boxS {W : World} {b : Nat} {y : Hd} (h : Box3 W b y) : W.cell? ⟨b, 0, none⟩ = some (str y.nm) ∧ W.cell? ⟨b, 1, none⟩ = some (.int .i64 y.ho) ∧ W.cell? ⟨b, 2, none⟩ = some (.int .i64 y.md) := ⟨h.c0, h.c1, h.c2⟩
theorem bars_nil {has A : List Hd} {y : Hd} {l : List Int} (h : ∀ o, o ∈ l ↔ BarsR has A y o) : decide ((0 : Int) < (l.length : Int)) = barsRb has A y := by
  rw [Bool.eq_iff_iff, decide_eq_true_eq, barsRb_iff]
  constructor
  · intro hl
    obtain ⟨o, ho⟩ := List.exists_mem_of_length_pos (l := l) (by omega)
    exact ⟨o, (h o).1 ho⟩
  · rintro ⟨o, ho⟩
    have := List.length_pos_of_mem ((h o).2 ho)
    omega
/-- What a call of the reference's that may store comes to. -/
def Ends (X : List Nat) (W w' : World) (T : Nat) (r' : Rt) : Prop := ∃ Y, Rm (Y ++ X) w' T r' ∧ W.grownBy w' (some T) ∧ ∀ b ∈ Y, W.heap.size ≤ b ∧ b < w'.heap.size
theorem Ends.same {X : List Nat} {W w' : World} {T : Nat} {r : Rt} (h : Rm X W T r) (hb : Below W.heap.size W w') : Ends X W w' T r := ⟨[], h.below hb, ⟨hb.os, hb.tape, hb.output, hb.size, fun i hi _ => hb.block i hi⟩, (fun _ h => nomatch h)⟩
theorem grown_tr {a b c : World} {T : Nat} (h : a.grownBy b (some T)) (k : b.grownBy c (some T)) : a.grownBy c (some T) :=
  ⟨k.os.trans h.os, k.tape.trans h.tape, k.output.trans h.output, Nat.le_trans h.size k.size, fun i hi hne => (k.block i (Nat.lt_of_lt_of_le hi h.size) hne).trans (h.block i hi hne)⟩
theorem Ends.trans {X : List Nat} {W w1 w2 : World} {T : Nat} {r r2 : Rt} {Y : List Nat} (_h : Rm (Y ++ X) w1 T r) (hg : W.grownBy w1 (some T)) (hy : ∀ b ∈ Y, W.heap.size ≤ b ∧ b < w1.heap.size) (h2 : Ends (Y ++ X) w1 w2 T r2) : Ends X W w2 T r2 := by
  obtain ⟨Z, h3, h4, h5⟩ := h2
  refine ⟨Z ++ Y, by rw [List.append_assoc]; exact h3, grown_tr hg h4, fun b hb => ?_⟩
  rcases List.mem_append.1 hb with hb | hb
  · exact ⟨Nat.le_trans hg.size (h5 b hb).1, (h5 b hb).2⟩
  · exact ⟨(hy b hb).1, Nat.lt_of_lt_of_le (hy b hb).2 h4.size⟩
theorem set1_heap {W : World} {T : Nat} {a b v : Value} {t : TypeId} {fr : Nat × Nat} (h : W.heap[T]? = some (.cells #[a, b] t fr)) : (W.setCell ⟨T, 1, none⟩ v).heap[T]? = some (.cells #[a, v] t fr) := by
  simp [World.setCell, Array.getElem?_modify, h]
theorem set0_heap {W : World} {T : Nat} {a b v : Value} {t : TypeId} {fr : Nat × Nat} (h : W.heap[T]? = some (.cells #[a, b] t fr)) : (W.setCell ⟨T, 0, none⟩ v).heap[T]? = some (.cells #[v, b] t fr) := by
  simp [World.setCell, Array.getElem?_modify, h]
theorem set_size (W : World) (a : Addr) (v : Value) : (W.setCell a v).heap.size = W.heap.size := by show (W.heap.modify _ _).size = _; rw [Array.size_modify]
theorem set_grown {W Wn : World} (hb : Below W.heap.size W Wn) (T k : Nat) (v : Value) : W.grownBy (Wn.setCell ⟨T, k, none⟩ v) (some T) :=
  ⟨hb.os, hb.tape, hb.output, by rw [set_size]; exact hb.size, fun i hi hne => (Below.heap_setCell Wn ⟨T, k, none⟩ v i (fun e => hne (by rw [e]))).trans (hb.block i hi)⟩
/-- The blocks of a slice. -/
def blk (p : Option Addr) : List Nat := match p with | none => [] | some a => [a.block]
theorem rowX {W : World} {base n size : Nat} {e : TypeId} {v : Value} {cs : List Value} (h : W.ownsRow base e size v n cs) : ∃ p c, v = .slice p n c ∧ n ≤ c ∧ (p = none → n = 0 ∧ c = 0) ∧ Lies W p cs ∧ (∀ b o, p = some ⟨b, o, none⟩ → b ∈ blk p ∧ o = 0) ∧ ∀ b ∈ blk p, base ≤ b ∧ b < W.heap.size := by
  obtain ⟨p, c, h1, h2, h3, h4, h5, h6⟩ := liesOwn2 h
  refine ⟨p, c, h1, h2, h3, h4, fun b o e => ?_, fun b hb => ?_⟩
  · subst e
    exact ⟨by simp [blk], (h5 b o rfl).1⟩
  · cases p with
    | none => simp [blk] at hb
    | some a =>
      obtain ⟨g, rfl⟩ := h6 a rfl
      simp [blk] at hb
      subst hb
      exact (h5 _ _ rfl).2
/-- A new queue is stored. -/
theorem Ends.store1 {X : List Nat} {W Wn : World} {T n base : Nat} {r : Rt} {v : Value} {l : List Hd} {e : TypeId} (h : Rm X W T r) (hb : Below W.heap.size W Wn) (hown : Wn.ownsRow base e 3 v n (cellsH l)) (hbase : W.heap.size ≤ base) (hn : n = l.length) : Ends X W (Wn.setCell ⟨T, 1, none⟩ v) T ⟨r.has, l⟩ := by
  obtain ⟨p, c, rfl, k1, k2, k3, k4, k5⟩ := rowX hown
  have hT := h.lt
  have hR := h.below hb
  obtain ⟨pa, ca, pb, cb, h1, h2, h3, h4, h5, h6, h7, h8, h9⟩ := hR.cell
  have other : ∀ b, b ≠ T → (Wn.setCell ⟨T, 1, none⟩ (.slice p n c)).heap[b]? = Wn.heap[b]? := fun b hne => Below.heap_setCell Wn ⟨T, 1, none⟩ _ b hne
  have hz := set_size Wn ⟨T, 1, none⟩ (.slice p n c)
  subst hn
  refine ⟨blk p, ⟨List.mem_append_right _ h.mem, pa, ca, p, c, set1_heap h1, h2.keep (Nat.le_of_eq hz.symm) (fun b o e => other b (h8 b o e).2.1), Lies.keep k3 (Nat.le_of_eq hz.symm) (fun b o e => other b (fun e2 => ?_)), h4, k2, h6, k1, fun b o e => ⟨List.mem_append_right _ (h8 b o e).1, (h8 b o e).2⟩, fun b o e => ⟨List.mem_append_left _ (k4 b o e).1, fun e2 => ?_, (k4 b o e).2⟩⟩, set_grown hb T 1 _, fun b hm => ⟨Nat.le_trans hbase (k5 b hm).1, by rw [hz]; exact (k5 b hm).2⟩⟩
  · have := (k5 b (k4 b o e).1).1; omega
  · have := (k5 b (k4 b o e).1).1; omega
/-- New modes are stored. -/
theorem Ends.store0 {X : List Nat} {W Wn : World} {T n base : Nat} {r : Rt} {v : Value} {l : List Hd} {e : TypeId} (h : Rm X W T r) (hb : Below W.heap.size W Wn) (hown : Wn.ownsRow base e 3 v n (cellsH l)) (hbase : W.heap.size ≤ base) (hn : n = l.length) : Ends X W (Wn.setCell ⟨T, 0, none⟩ v) T ⟨l, r.qu⟩ := by
  obtain ⟨p, c, rfl, k1, k2, k3, k4, k5⟩ := rowX hown
  have hT := h.lt
  have hR := h.below hb
  obtain ⟨pa, ca, pb, cb, h1, h2, h3, h4, h5, h6, h7, h8, h9⟩ := hR.cell
  have other : ∀ b, b ≠ T → (Wn.setCell ⟨T, 0, none⟩ (.slice p n c)).heap[b]? = Wn.heap[b]? := fun b hne => Below.heap_setCell Wn ⟨T, 0, none⟩ _ b hne
  have hz := set_size Wn ⟨T, 0, none⟩ (.slice p n c)
  subst hn
  refine ⟨blk p, ⟨List.mem_append_right _ h.mem, p, c, pb, cb, set0_heap h1, Lies.keep k3 (Nat.le_of_eq hz.symm) (fun b o e => other b (fun e2 => ?_)), h3.keep (Nat.le_of_eq hz.symm) (fun b o e => other b (h9 b o e).2.1), k2, h5, k1, h7, fun b o e => ⟨List.mem_append_left _ (k4 b o e).1, fun e2 => ?_, (k4 b o e).2⟩, fun b o e => ⟨List.mem_append_right _ (h9 b o e).1, (h9 b o e).2⟩⟩, set_grown hb T 0 _, fun b hm => ⟨Nat.le_trans hbase (k5 b hm).1, by rw [hz]; exact (k5 b hm).2⟩⟩
  · have := (k5 b (k4 b o e).1).1; omega
  · have := (k5 b (k4 b o e).1).1; omega
/-- The table's cells may be stored to. -/
theorem Rm.frz {X : List Nat} {W Wn : World} {T : Nat} {r : Rt} (h : Rm X W T r) (hb : Below W.heap.size W Wn) (k : Nat) : Wn.frozen? ⟨T, k, none⟩ = false := by
  obtain ⟨pa, ca, pb, cb, h1, -⟩ := (h.below hb).cell
  unfold World.frozen?
  simp only [h1]
  simp
end Lk

end Go.Proofs.YthaenobciefjiaaDoor

/- The reference's Names walked. -/
namespace Go.Proofs.YthaenobciefjiaaDoor
open Go.RowKit

namespace Lk
theorem strs_one (l : List Bytes) : ∀ u ∈ strsV l, u.oneCell' = true := fun u hu => by
  obtain ⟨_, _, rfl⟩ := List.mem_map.1 hu
  rfl
theorem bytesLess_eq : ∀ a b : Bytes, Op.bytesLess a b = decide (a < b)
  | [], [] => by simp [Op.bytesLess]
  | _ :: _, [] => by simp [Op.bytesLess]
  | [], _ :: _ => by simp [Op.bytesLess]
  | a :: x, b :: y => by
    rw [Op.bytesLess, bytesLess_eq x y, Bool.eq_iff_iff]
    simp [List.cons_lt_cons_iff]
theorem str_less (a b : Bytes) : Op.bytesLess (⟨a.toArray⟩ : ByteArray).toList (⟨b.toArray⟩ : ByteArray).toList = decide (a < b) := by rw [ByteArray.toList_eq, ByteArray.toList_eq]; exact bytesLess_eq a b
theorem lt_le {a b : Bytes} (h : a < b) : a ≤ b ∧ a ≠ b := ⟨List.le_of_lt h, fun e => by rw [e] at h; exact List.lt_irrefl _ h⟩
theorem not_lt_le {a b : Bytes} (h : ¬ a < b) : b ≤ a := h
/-- One more name, where it belongs. -/
theorem put_names {l : List Bytes} {n : Bytes} {k : Nat} (hu : Rs.Up (· ≤ ·) l) (h1 : ∀ (j : Nat) a, j < k → l[j]? = some a → a < n) (h2 : ∀ a, l[k]? = some a → n ≤ a ∧ n ≠ a) : Rs.Up (· ≤ ·) (l.take k ++ [n] ++ l.drop k) ∧ ∀ o, o ∈ l.take k ++ [n] ++ l.drop k ↔ (o ∈ l ∨ o = n) := by
  refine ⟨?_, fun o => ?_⟩
  · have hu0 := hu
    rw [← List.take_append_drop k l] at hu
    obtain ⟨u1, u2, u3⟩ := List.pairwise_append.1 hu
    have t1 : ∀ a ∈ l.take k, a ≤ n ∧ a ≠ n := fun a ha => by
      obtain ⟨j, hj⟩ := List.getElem?_of_mem ha
      rw [List.getElem?_take] at hj
      split at hj
      · exact lt_le (h1 j a (by assumption) hj)
      · cases hj
    have t2 : ∀ a ∈ l.drop k, n ≤ a ∧ n ≠ a := fun a ha => by
      obtain ⟨j, hj⟩ := List.getElem?_of_mem ha
      rw [List.getElem?_drop] at hj
      obtain ⟨c, hc⟩ : ∃ c, l[k]? = some c := ⟨_, List.getElem?_eq_getElem (by have := (List.getElem?_eq_some_iff.1 hj).1; omega)⟩
      have h4 := h2 c hc
      rcases Nat.eq_zero_or_pos j with e | e
      · subst e
        rw [Nat.add_zero, hc] at hj
        cases hj; exact h4
      · have h3 := (List.pairwise_iff_getElem.1 hu0) k (k + j) (List.getElem?_eq_some_iff.1 hc).1 (List.getElem?_eq_some_iff.1 hj).1 (by omega)
        rw [(List.getElem?_eq_some_iff.1 hc).2, (List.getElem?_eq_some_iff.1 hj).2] at h3
        refine ⟨Rs.le_tr _ _ _ h4.1 h3.1, fun e => ?_⟩
        rw [← e] at h3
        exact h4.2 (Rs.le_an _ _ h4.1 h3.1)
    refine List.pairwise_append.2 ⟨List.pairwise_append.2 ⟨u1, List.pairwise_singleton _ _, fun a ha b hb => ?_⟩, u2, fun a ha b hb => ?_⟩
    · rw [List.mem_singleton.1 hb]
      exact t1 a ha
    · rcases List.mem_append.1 ha with ha | ha
      · exact u3 a ha b hb
      · rw [List.mem_singleton.1 ha]
        exact t2 b hb
  · rw [List.mem_append, List.mem_append, List.mem_singleton]
    have e : o ∈ l ↔ o ∈ l.take k ∨ o ∈ l.drop k := by rw [← List.mem_append, List.take_append_drop]
    rw [e]
    constructor
    · rintro ((h | h) | h)
      · exact Or.inl (Or.inl h)
      · exact Or.inr h
      · exact Or.inl (Or.inr h)
    · rintro ((h | h) | h)
      · exact Or.inl (Or.inl h)
      · exact Or.inr h
      · exact Or.inl (Or.inr h)
theorem put_factsS {w : World} {b n c i : Nat} {l : List Bytes} (h : Sl w (some ⟨b, 0, none⟩) n c (strsV l)) (hn : n = l.length) (hi : i ≤ n) :
    Hid (((some ⟨b, 0, none⟩ : Option Addr) = none → i = 0 ∧ c = 0) ∧ ((if c = i then some (⟨b, 0, none⟩ : Addr) else some ⟨b, i, none⟩) = none → n - i = 0 ∧ c - i = 0)) ∧ Hid ((strsV (l.take i)).length = i * 1 ∧ (strsV (l.drop i)).length = (n - i) * 1) ∧ Hid (Lies w (some ⟨b, 0, none⟩) (strsV (l.take i)) ∧ Lies w (if c = i then some ⟨b, 0, none⟩ else some ⟨b, i, none⟩) (strsV (l.drop i))) := by
  refine ⟨⟨(fun e => nomatch e), fun e => ?_⟩, ⟨?_, ?_⟩, ?_, ?_⟩
  · split at e <;> cases e
  · simp; omega
  · simp; omega
  · have := h.lies.take i
    rwa [← List.map_take] at this
  · have := cut_some (size := 1) h (by simp; omega) hi
    rw [Nat.mul_one] at this
    rwa [← List.map_drop] at this
theorem put_factsS0 {w : World} {n c i : Nat} {l : List Bytes} (h : Sl w none n c (strsV l)) (hn : n = l.length) (hi : i ≤ n) :
    Hid ((i = 0 ∧ c = 0) ∧ (n - i = 0 ∧ c - i = 0)) ∧ Hid ((strsV (l.take i)).length = i * 1 ∧ (strsV (l.drop i)).length = (n - i) * 1) ∧ Hid (Lies w none (strsV (l.take i)) ∧ Lies w none (strsV (l.drop i))) := by
  have h0 := h.nil rfl
  refine ⟨⟨by omega, by omega⟩, ⟨?_, ?_⟩, ?_, ?_⟩
  · simp; omega
  · simp; omega
  · exact Or.inl (by simp; omega)
  · exact Or.inl (by simp; omega)
/-- Under way: the names of the first i. -/
structure Nm (W wr : World) (pl : Option Addr) (n cl : Nat) (al : List Hd) (i : Nat) (p : Option Addr) (c : Nat) (L : List Bytes) : Prop where
  sl : Sl wr p L.length c (strsV L)
  up : Rs.Up (· ≤ ·) L
  mem : ∀ o, o ∈ L ↔ ∃ y ∈ al.take i, y.nm = o
  len : L.length ≤ i
  bel : Below W.heap.size W wr
  al : Sl wr pl n cl (cellsH al)
theorem Nm.below {W wr w2 : World} {pl : Option Addr} {n cl : Nat} {al : List Hd} {i : Nat} {p : Option Addr} {c : Nat} {L : List Bytes} (h : Nm W wr pl n cl al i p c L) (hb : Below wr.heap.size wr w2) : Nm W w2 pl n cl al i p c L := ⟨h.sl.below hb, h.up, h.mem, h.len, belTr h.bel hb, h.al.below hb⟩
theorem take_memH {L : List Hd} {i : Nat} {y z : Hd} (h : L[i]? = some y) : z ∈ L.take (i + 1) ↔ (z ∈ L.take i ∨ z = y) := by
  rw [List.take_add_one, h]; simp
theorem Nm.same {W wr w2 : World} {pl : Option Addr} {n cl : Nat} {al : List Hd} {i : Nat} {p : Option Addr} {c : Nat} {L : List Bytes} {y : Hd} (h : Nm W wr pl n cl al i p c L) (hb : Below wr.heap.size wr w2) (hy : al[i]? = some y) (hm : y.nm ∈ L) : Nm W w2 pl n cl al (i + 1) p c L := by
  refine ⟨h.sl.below hb, h.up, fun o => (h.mem o).trans ?_, by have := h.len; omega, belTr h.bel hb, h.al.below hb⟩
  constructor
  · rintro ⟨z, hz, e⟩
    exact ⟨z, (take_memH hy).2 (Or.inl hz), e⟩
  · rintro ⟨z, hz, e⟩
    rcases (take_memH hy).1 hz with e3 | e3
    · exact ⟨z, e3, e⟩
    · rw [e3] at e
      rw [e] at hm
      exact (h.mem o).1 hm
theorem Nm.put {W wr w2 : World} {pl : Option Addr} {n cl : Nat} {al : List Hd} {i k : Nat} {p p' : Option Addr} {c c' : Nat} {L : List Bytes} {y : Hd} (h : Nm W wr pl n cl al i p c L) (hb : Below wr.heap.size wr w2) (hy : al[i]? = some y) (hk : k ≤ L.length)
    (h1 : ∀ (j : Nat) a, j < k → L[j]? = some a → a < y.nm) (h2 : ∀ a, L[k]? = some a → y.nm ≤ a ∧ y.nm ≠ a) (hs : Sl w2 p' (k + 1 + (L.length - k)) c' (strsV (L.take k) ++ [str y.nm] ++ strsV (L.drop k))) :
    Nm W w2 pl n cl al (i + 1) p' c' (L.take k ++ [y.nm] ++ L.drop k) ∧ (L.take k ++ [y.nm] ++ L.drop k).length = k + 1 + (L.length - k) := by
  obtain ⟨u1, u2⟩ := put_names h.up h1 h2
  have hl : (L.take k ++ [y.nm] ++ L.drop k).length = k + 1 + (L.length - k) := by simp; omega
  refine ⟨⟨by rw [hl]; simpa using hs, u1, fun o => ?_, by rw [hl]; have := h.len; omega, belTr h.bel hb, h.al.below hb⟩, hl⟩
  rw [u2, h.mem]
  constructor
  · rintro (⟨z, hz, e⟩ | e)
    · exact ⟨z, (take_memH hy).2 (Or.inl hz), e⟩
    · exact ⟨y, (take_memH hy).2 (Or.inr rfl), e.symm⟩
  · rintro ⟨z, hz, e⟩
    rcases (take_memH hy).1 hz with e3 | e3
    · exact Or.inl ⟨z, e3, e⟩
    · rw [e3] at e; exact Or.inr e.symm
end Lk

set_option maxRecDepth 100000 in
set_option maxHeartbeats 2000000 in
theorem refNames_any (X : List Nat) (W : World) (T : Nat) (r : Lk.Rt) (hR : Hid (Lk.Rm X W T r)) (hn : r.has.length ≤ 1000 ∧ r.qu.length ≤ 1000) :
    Calls Tryd.prog 25 #[.pointer (some ⟨T, 0, none⟩)] W fun e w' => ∃ p c L, e = .returned (.slice p L.length c) ∧ Lk.Sl w' p L.length c (Lk.strsV L) ∧ Rs.Up (· ≤ ·) L ∧ (∀ n, n ∈ L ↔ ∃ y ∈ r.has ++ r.qu, y.nm = n) ∧ L.length ≤ 2000 ∧ Below W.heap.size W w' := by
  obtain ⟨iH, HIH⟩ : ∃ i, Hid (Tryd.prog.info? 71 = some i ∧ i.zero = some (.agg #[.string ⟨#[]⟩, .int .i64 0, .int .i64 0]) ∧ i.size = 3 ∧ i.bytes = 32) := ⟨_, Tryd.type71, rfl, rfl, rfl⟩
  obtain ⟨iS, HIS⟩ : ∃ i, Hid (Tryd.prog.info? 9 = some i ∧ i.zero = some (.string ⟨#[]⟩) ∧ i.size = 1 ∧ i.bytes = 16) := ⟨_, Tryd.type9, rfl, rfl, rfl⟩
  obtain ⟨pb, cb, hcb, hinb, hcapb, hnilb, hob⟩ := hR.out.qu
  obtain ⟨pa, ca, hca, hina, hcapa, hnila, hoa⟩ := hR.out.has
  obtain ⟨n1, hn1⟩ : ∃ n1, n1 = r.has.length := ⟨_, rfl⟩
  obtain ⟨n2, hn2⟩ : ∃ n2, n2 = r.qu.length := ⟨_, rfl⟩
  rw [← hn1] at hca hn hnila
  rw [← hn2] at hcb hn hnilb
  have HA : Hid ((pa = none → n1 = 0 ∧ ca = 0) ∧ (Lk.cellsH r.has).length = n1 * 3 ∧ Lk.Lies W pa (Lk.cellsH r.has)) := Lk.hid ⟨hnila, by rw [Lk.cellsH_length, hn1], hina⟩
  have HQ : Hid ((pb = none → n2 = 0 ∧ cb = 0) ∧ (Lk.cellsH r.qu).length = n2 * 3 ∧ Lk.Lies W pb (Lk.cellsH r.qu)) := Lk.hid ⟨hnilb, by rw [Lk.cellsH_length, hn2], hinb⟩
  have hT := hR.out.lt
  have HS : Hid (∀ w', Below W.heap.size W w' → Below W.heap.size W w' ∧ w'.cell? ⟨T, 0, none⟩ = some (.slice pa n1 ca) ∧ w'.cell? ⟨T, 1, none⟩ = some (.slice pb n2 cb)) := Lk.hid (fun w' hb => ⟨hb, (Lk.belAt hb 0 hT).trans hca, (Lk.belAt hb 1 hT).trans hcb⟩)
  have HN := Lk.hid (And.intro hn1 hn2)
  clear hnila hnilb hina hinb hcapa hcapb hoa hob hca hcb hT hn1 hn2
  go_enter Tryd.func25, Tryd.ntmps25
  go_wp2_with fail
  refine wp_region_held_drew (S := (fun w' => Below W.heap.size W w' ∧ w'.cell? ⟨T, 0, none⟩ = some (.slice pa n1 ca) ∧ w'.cell? ⟨T, 1, none⟩ = some (.slice pb n2 cb))) (by kernel_rfl) (HS.out _ ((Below.refl _ _).drew)) (fun hH => ?_)
  refine wpAnyH_take (i := 1) (oi := ?oz1q1) (v := ?vz1q1) ?hiz1q1 ?hsz1q1 ?hfz1q1 ?hrz1q1 ?hQz1q1 (Or.inl ⟨?hwz1q1, ?hyz1q1⟩) ?hSz1q1 ?restz1q1
  case hiz1q1 => (simp; rfl)
  case hsz1q1 => kernel_rfl
  case hfz1q1 => kernel_rfl
  case hrz1q1 => kernel_rfl
  case hQz1q1 => exact fun _ _ _ h => h
  case hwz1q1 => rfl
  case hyz1q1 => (intro wq hSq; (try dsimp only at hSq); go_simp; (try with_reducible rfl))
  case hSz1q1 => assumption
  simp only [Act.put, List.setIfInBounds_toArray, List.set_cons_zero, List.set_cons_succ]
  refine wpAnyH_take (i := 2) (oi := ?oz2q2) (v := ?vz2q2) ?hiz2q2 ?hsz2q2 ?hfz2q2 ?hrz2q2 ?hQz2q2 (Or.inl ⟨?hwz2q2, ?hyz2q2⟩) ?hSz2q2 ?restz2q2
  case hiz2q2 => (simp; rfl)
  case hsz2q2 => kernel_rfl
  case hfz2q2 => kernel_rfl
  case hrz2q2 => kernel_rfl
  case hQz2q2 => exact fun _ _ _ h => h
  case hwz2q2 => rfl
  case hyz2q2 => (intro wq hSq; (try dsimp only at hSq); go_simp; (try with_reducible rfl))
  case hSz2q2 => assumption
  simp only [Act.put, List.setIfInBounds_toArray, List.set_cons_zero, List.set_cons_succ]
  refine wpAnyH_take (i := 3) (oi := ?oz3q3) (v := ?vz3q3) ?hiz3q3 ?hsz3q3 ?hfz3q3 ?hrz3q3 ?hQz3q3 (Or.inl ⟨?hwz3q3, ?hyz3q3⟩) ?hSz3q3 ?restz3q3
  case hiz3q3 => (simp; rfl)
  case hsz3q3 => kernel_rfl
  case hfz3q3 => kernel_rfl
  case hrz3q3 => kernel_rfl
  case hQz3q3 => exact fun _ _ _ h => h
  case hwz3q3 => rfl
  case hyz3q3 => (intro wq hSq; (try dsimp only at hSq); go_simp; (try with_reducible rfl))
  case hSz3q3 => assumption
  simp only [Act.put, List.setIfInBounds_toArray, List.set_cons_zero, List.set_cons_succ]
  refine wpAnyH_take (i := 4) (oi := ?oz4q4) (v := ?vz4q4) ?hiz4q4 ?hsz4q4 ?hfz4q4 ?hrz4q4 ?hQz4q4 (Or.inl ⟨?hwz4q4, ?hyz4q4⟩) ?hSz4q4 ?restz4q4
  case hiz4q4 => (simp; rfl)
  case hsz4q4 => kernel_rfl
  case hfz4q4 => kernel_rfl
  case hrz4q4 => kernel_rfl
  case hQz4q4 => exact fun _ _ _ h => h
  case hwz4q4 => rfl
  case hyz4q4 => (intro wq hSq; (try dsimp only at hSq); go_simp; (try with_reducible rfl))
  case hSz4q4 => assumption
  simp only [Act.put, List.setIfInBounds_toArray, List.set_cons_zero, List.set_cons_succ]
  refine wpAnyH_take (i := 6) (oi := ?oz5q6) (v := ?vz5q6) ?hiz5q6 ?hsz5q6 ?hfz5q6 ?hrz5q6 ?hQz5q6 (Or.inl ⟨?hwz5q6, ?hyz5q6⟩) ?hSz5q6 ?restz5q6
  case hiz5q6 => (simp; rfl)
  case hsz5q6 => kernel_rfl
  case hfz5q6 => kernel_rfl
  case hrz5q6 => kernel_rfl
  case hQz5q6 => exact fun _ _ _ h => h
  case hwz5q6 => rfl
  case hyz5q6 => (intro wq hSq; (try dsimp only at hSq); go_simp; (try with_reducible rfl))
  case hSz5q6 => assumption
  simp only [Act.put, List.setIfInBounds_toArray, List.set_cons_zero, List.set_cons_succ]
  refine wpAnyH_take (i := 7) (oi := ?oz6q7) (v := ?vz6q7) ?hiz6q7 ?hsz6q7 ?hfz6q7 ?hrz6q7 ?hQz6q7 (Or.inl ⟨?hwz6q7, ?hyz6q7⟩) ?hSz6q7 ?restz6q7
  case hiz6q7 => (simp; rfl)
  case hsz6q7 => kernel_rfl
  case hfz6q7 => kernel_rfl
  case hrz6q7 => kernel_rfl
  case hQz6q7 => exact fun _ _ _ h => h
  case hwz6q7 => rfl
  case hyz6q7 => (intro wq hSq; (try dsimp only at hSq); go_simp; (try with_reducible rfl))
  case hSz6q7 => assumption
  simp only [Act.put, List.setIfInBounds_toArray, List.set_cons_zero, List.set_cons_succ]
  refine wpAnyH_take (i := 8) (oi := ?oz7q8) (v := ?vz7q8) ?hiz7q8 ?hsz7q8 ?hfz7q8 ?hrz7q8 ?hQz7q8 (Or.inl ⟨?hwz7q8, ?hyz7q8⟩) ?hSz7q8 ?restz7q8
  case hiz7q8 => (simp; rfl)
  case hsz7q8 => kernel_rfl
  case hfz7q8 => kernel_rfl
  case hrz7q8 => kernel_rfl
  case hQz7q8 => exact fun _ _ _ h => h
  case hwz7q8 => rfl
  case hyz7q8 => (intro wq hSq; (try dsimp only at hSq); go_simp; (try with_reducible rfl))
  case hSz7q8 => assumption
  simp only [Act.put, List.setIfInBounds_toArray, List.set_cons_zero, List.set_cons_succ]
  refine wpAnyH_take (i := 9) (oi := ?oz8q9) (v := ?vz8q9) ?hiz8q9 ?hsz8q9 ?hfz8q9 ?hrz8q9 ?hQz8q9 (Or.inl ⟨?hwz8q9, ?hyz8q9⟩) ?hSz8q9 ?restz8q9
  case hiz8q9 => (simp; rfl)
  case hsz8q9 => kernel_rfl
  case hfz8q9 => kernel_rfl
  case hrz8q9 => kernel_rfl
  case hQz8q9 => exact fun _ _ _ h => h
  case hwz8q9 => rfl
  case hyz8q9 => (intro wq hSq; (try dsimp only at hSq); go_simp; (try with_reducible rfl))
  case hSz8q9 => assumption
  simp only [Act.put, List.setIfInBounds_toArray, List.set_cons_zero, List.set_cons_succ]
  refine wpAnyH_ready (rs := [0]) (by kernel_rfl) (by simp) ?_
  refine AllReadyH.cons (o := ?oz9q) ?hz9q (fun K hK => ?rz9q) AllReadyH.nil
  case hz9q => (simp; rfl)
  case rz9q =>
    go_simp
    refine hK.out _ _ (HS.out _ ((Lk.Blk.new2 (Below.refl _ W) _ (g := W.heap.size) rfl).drew.bel)) (fun hHz10q => ?_)
    clear hK K
    refine wpAnyH_ready (rs := [5]) (by kernel_rfl) (by simp) ?_
    refine AllReadyH.cons (o := ?oz11q) ?hz11q (fun K hK => ?rz11q) AllReadyH.nil
    case hz11q => (simp; rfl)
    case rz11q =>
      refine Lk.step_append rfl _ _ 26 rfl W.heap.size 71 iH (.agg #[.string ⟨#[]⟩, .int .i64 0, .int .i64 0]) 3 32 Tryd.underlying26 HIH.out.1 HIH.out.2.1 HIH.out.2.2.1 HIH.out.2.2.2 rfl (by decide) (.slice (some ⟨W.heap.size, 0, none⟩) 0 0) 0 ([]) rfl ((Lk.Blk.new2 (Below.refl _ W) _ (g := W.heap.size) rfl).drew.own) pa n1 ca (Lk.cellsH r.has) rfl (HA.out.1) (HA.out.2.1) (HA.out.2.2.below ((Lk.Blk.new2 (Below.refl _ W) _ (g := W.heap.size) rfl).drew.bel)) (Lk.cellsH_one _) (by unfold maxLen; omega) (by omega) (((Lk.Blk.new2 (Below.refl _ W) _ (g := W.heap.size) rfl).drew.bel).size) ?_
      intro v1 W1 hown1 hgrow1
      rw [List.nil_append, Nat.zero_add] at hown1
      have HB1 := Lk.hid (Lk.belOwn (size := 3) ((Lk.Blk.new2 (Below.refl _ W) _ (g := W.heap.size) rfl).drew.bel) ((Lk.Blk.new2 (Below.refl _ W) _ (g := W.heap.size) rfl).drew.own) (Nat.le_refl _) hgrow1)
      have HOWN1 := Lk.hid hown1
      clear hown1 hgrow1
      refine hK.out _ _ (HS.out _ HB1.out) (fun hHz12q => ?_)
      clear hK K
      refine wpAnyH_ready (rs := [10]) (by kernel_rfl) (by simp) ?_
      refine AllReadyH.cons (o := ?oz13q) ?hz13q (fun K hK => ?rz13q) AllReadyH.nil
      case hz13q => (simp; rfl)
      case rz13q =>
        refine Lk.step_append rfl _ _ 26 rfl W.heap.size 71 iH (.agg #[.string ⟨#[]⟩, .int .i64 0, .int .i64 0]) 3 32 Tryd.underlying26 HIH.out.1 HIH.out.2.1 HIH.out.2.2.1 HIH.out.2.2.2 rfl (by decide) v1 n1 (Lk.cellsH r.has) rfl (HOWN1.out) pb n2 cb (Lk.cellsH r.qu) rfl (HQ.out.1) (HQ.out.2.1) (HQ.out.2.2.below HB1.out) (Lk.cellsH_one _) (by unfold maxLen; omega) (by omega) ((HB1.out).size) ?_
        intro v2 W2 hown2 hgrow2
        have HB2 := Lk.hid (Lk.belOwn (size := 3) (HB1.out) (HOWN1.out) (Nat.le_refl _) hgrow2)
        have HOWN2 := Lk.hid hown2
        clear hown2 hgrow2
        refine hK.out _ _ (HS.out _ HB2.out) (fun hHz14q => ?_)
        clear hK K
        refine wpAnyH_take (i := 11) (oi := ?oz15q11) (v := ?vz15q11) ?hiz15q11 ?hsz15q11 ?hfz15q11 ?hrz15q11 ?hQz15q11 (Or.inl ⟨?hwz15q11, ?hyz15q11⟩) ?hSz15q11 ?restz15q11
        case hiz15q11 => (simp; rfl)
        case hsz15q11 => kernel_rfl
        case hfz15q11 => kernel_rfl
        case hrz15q11 => kernel_rfl
        case hQz15q11 => exact fun _ _ _ h => h
        case hwz15q11 => rfl
        case hyz15q11 => (intro wq hSq; (try dsimp only at hSq); go_simp; (try with_reducible rfl))
        case hSz15q11 => assumption
        simp only [Act.put, List.setIfInBounds_toArray, List.set_cons_zero, List.set_cons_succ]
        refine wpAnyH_done (by kernel_rfl) ?_ _
        rw [← Lk.cellsH_app] at HOWN2
        obtain ⟨pl, cl, rfl, hsl⟩ := Lk.Sl.own HOWN2.out
        obtain ⟨al, hal⟩ : ∃ al, al = r.has ++ r.qu := ⟨_, rfl⟩
        obtain ⟨n, hnn⟩ : ∃ n, n = n1 + n2 := ⟨_, rfl⟩
        rw [← hnn] at hsl
        rw [← hal] at hsl
        have HSL := Lk.hid hsl
        have HAL := Lk.hid (And.intro hal (show n = al.length by rw [hal, List.length_append, ← HN.out.1, ← HN.out.2, hnn]))
        have hn3 : n ≤ 2000 := by omega
        clear HOWN1 HOWN2 HB1 hsl hal HS HA HQ
        go_wp2_with fail
        rw [← hnn]
        clear hnn hn
        go_loopw [3, 5] (fun vl vi wr => ∃ (i : Nat) (p : Option Addr) (c : Nat) (L : List Lk.Bytes), i ≤ n ∧ vi = .int .i64 (i : Int) ∧ vl = .slice p L.length c ∧ Hid (Lk.Nm W wr pl n cl al i p c L)) (fun _ vi _ => n - (RowKit.intOf vi).toNat)
        case atStart => exact ⟨0, none, 0, [], by omega, rfl, rfl, ⟨Lk.Sl.none _, List.Pairwise.nil, fun o => by simp, by simp, HB2.out, HSL.out⟩⟩
        case round =>
          clear HB2 HSL
          obtain ⟨i, p, c, L, hi, rfl, rfl, HL⟩ := hrel
          by_cases hlt : i < n
          · obtain ⟨y, hy⟩ : ∃ y, al[i]? = some y := ⟨_, List.getElem?_eq_getElem (by rw [← HAL.out.2]; exact hlt)⟩
            have HY := Lk.hid hy
            obtain ⟨m, hm⟩ : ∃ m, m = L.length := ⟨_, rfl⟩
            have HM := Lk.hid hm
            have hm2 : m ≤ 2000 := by have := HL.out.len; omega
            rw [← hm]
            have g1 : (0 : Int) ≤ (i : Int) := by omega
            have g2 : (i : Int) < (n : Int) := by omega
            clear hy hm
            go_wp2_with fail
            go_loopw [6] (fun vk wi => ∃ k : Nat, k ≤ m ∧ vk = .int .i64 (k : Int) ∧ Hid (Below wr.heap.size wr wi) ∧ Hid (∀ (j : Nat) a, j < k → L[j]? = some a → a < y.nm)) (fun vk _ => m - (RowKit.intOf vk).toNat)
            case atStart => exact ⟨0, by omega, rfl, Below.refl _ _, fun _ _ h => absurd h (Nat.not_lt_zero _)⟩
            case round =>
              obtain ⟨k, hk, rfl, HB, HK⟩ := hrel
              have HLI := Lk.hid (HL.out.below HB.out)
              obtain ⟨b, o, rfl, hlb, c0, -, -⟩ := Lk.HdIn.at HLI.out.al.lies HY.out
              obtain ⟨b', e'⟩ := HLI.out.al.zero _ rfl
              injection e' with e0 e'
              subst e0 e'
              rw [Nat.zero_add] at c0
              by_cases hkm : k < m
              · obtain ⟨a, ha⟩ : ∃ a, L[k]? = some a := ⟨_, List.getElem?_eq_getElem (by rw [← HM.out]; exact hkm)⟩
                obtain ⟨b2, rfl, hlb2, d0⟩ := HLI.out.sl.txt ha
                have HA := Lk.hid ha
                have q1 : (0 : Int) ≤ (k : Int) := by omega
                have q2 : (k : Int) < (m : Int) := by omega
                have HCC : Hid (wr.drew.cell? ⟨b2, k, none⟩ = some (Lk.str a) ∧ wr.drew.cell? ⟨b, i * 3, none⟩ = some (Lk.str y.nm)) := Lk.hid ⟨d0, c0⟩
                have hS := Lk.bytesLess_eq a y.nm
                have HS2 : Hid (∀ w', Below wr.heap.size wr w' → w'.cell? ⟨b2, k, none⟩ = some (Lk.str a) ∧ w'.cell? ⟨b, i * 3, none⟩ = some (Lk.str y.nm)) := Lk.hid (fun w' hb => ⟨(Lk.belAt hb _ hlb2).trans d0, (Lk.belAt hb _ hlb).trans c0⟩)
                have hkm2 : ((k : Int) == (m : Int)) = false := by simp; omega
                clear ha hlb hlb2
                by_cases e : a < y.nm
                · have he : decide (a < y.nm) = true := decide_eq_true e
                  rw [he] at hS
                  have HE := Lk.hid e
                  clear e
                  go_wp2_with fail
                  go_region_held3 (fun w' => w'.cell? ⟨b2, k, none⟩ = some (Lk.str a) ∧ w'.cell? ⟨b, i * 3, none⟩ = some (Lk.str y.nm)) (with_reducible exact HCC.out) (fail)
                  go_wp2_with fail
                  refine ⟨⟨k + 1, by omega, by go_num, HB.out.drew, fun j a2 hj h2 => ?_⟩, by simp [RowKit.intOf]; omega⟩
                  by_cases ej : j = k
                  · subst ej; rw [HA.out] at h2; cases h2; exact HE.out
                  · exact HK.out j a2 (by omega) h2
                · have he : decide (a < y.nm) = false := decide_eq_false e
                  rw [he] at hS
                  have HE := Lk.hid e
                  clear e
                  by_cases e2 : a = y.nm
                  · have he2 : (a == y.nm) = true := by simpa using e2
                    have he3 : (a != y.nm) = false := by rw [bne, he2]; rfl
                    have HE2 := Lk.hid e2
                    clear e2
                    go_wp2_with fail
                    go_region_held3 (fun w' => w'.cell? ⟨b2, k, none⟩ = some (Lk.str a) ∧ w'.cell? ⟨b, i * 3, none⟩ = some (Lk.str y.nm)) (first | exact HS2.out _ (Below.refl _ _).drew | exact HS2.out _ (Below.refl _ _).drew.drew) (fail)
                    go_wp2_with fail
                    go_region_held3 (fun w' => w'.cell? ⟨b2, k, none⟩ = some (Lk.str a) ∧ w'.cell? ⟨b, i * 3, none⟩ = some (Lk.str y.nm)) (first | exact HS2.out _ (Below.refl _ _).drew | exact HS2.out _ (Below.refl _ _).drew.drew) (fail)
                    go_wp2_with fail
                    exact ⟨⟨i + 1, _, c, L, by omega, by go_num, by rw [← HM.out], HL.out.same (Lk.belTr HB.out (Below.refl _ _).drew.drew) HY.out (by rw [← HE2.out]; exact List.mem_of_getElem? HA.out)⟩, by simp [RowKit.intOf]; omega⟩
                  · have he2 : (a == y.nm) = false := by simpa using e2
                    have he3 : (a != y.nm) = true := by rw [bne, he2]; rfl
                    have HE2 := Lk.hid e2
                    clear e2
                    go_wp2_with fail
                    go_region_held3 (fun w' => w'.cell? ⟨b2, k, none⟩ = some (Lk.str a) ∧ w'.cell? ⟨b, i * 3, none⟩ = some (Lk.str y.nm)) (first | exact HS2.out _ (Below.refl _ _).drew | exact HS2.out _ (Below.refl _ _).drew.drew) (fail)
                    go_wp2_with fail
                    go_region_held3 (fun w' => w'.cell? ⟨b2, k, none⟩ = some (Lk.str a) ∧ w'.cell? ⟨b, i * 3, none⟩ = some (Lk.str y.nm)) (first | exact HS2.out _ (Below.refl _ _).drew | exact HS2.out _ (Below.refl _ _).drew.drew) (fail)
                    go_wp2_with fail
                    have HEW : Hid (Below wr.heap.size wr wr.drew.drew) := Lk.hid (Below.refl _ _).drew.drew
                    have HLW := Lk.hid (HLI.out.below HEW.out)
                    have HH2 : Hid (∀ a, L[k]? = some a → y.nm ≤ a ∧ y.nm ≠ a) := Lk.hid (by intro a2 ha2; rw [HA.out] at ha2; cases ha2; exact ⟨Lk.not_lt_le HE.out, fun e => HE2.out e.symm⟩)
                    generalize wr.drew.drew = w at HEW HLW ⊢
                    obtain ⟨HNIL, HLEN, HLIE⟩ : Hid _ ∧ Hid _ ∧ Hid _ := Lk.put_factsS (by rw [HM.out]; exact HLW.out.sl) HM.out hk
                    have hcap := HLW.out.sl.cap
                    rw [← HM.out] at hcap
                    have gc0 : (0 : Int) ≤ (k : Int) := by omega
                    have gc1 : (k : Int) ≤ (c : Int) := by omega
                    have gc2 : (k : Int) ≤ (m : Int) := by omega
                    have gc3 : (m : Int) ≤ (c : Int) := by omega
                    have HSW : Hid (∀ w', Below w.heap.size w w' → Below w.heap.size w w' ∧ w'.cell? ⟨b, i * 3, none⟩ = some (Lk.str y.nm)) := Lk.hid (fun w' hb => ⟨hb, by
                      obtain ⟨bq, oq, e1, hq2, hq3, -, -⟩ := Lk.HdIn.at HLW.out.al.lies HY.out
                      injection e1 with e1
                      injection e1 with e1 e2
                      subst e1 e2
                      rw [Nat.zero_add] at hq3
                      exact (Lk.belAt hb _ hq2).trans hq3⟩)
                    refine wp_region_held_drew (S := (fun w' => Below w.heap.size w w' ∧ w'.cell? ⟨b, i * 3, none⟩ = some (Lk.str y.nm))) (by kernel_rfl) (HSW.out _ ((Below.refl _ _).drew)) (fun hH => ?_)
                    refine wpAnyH_take (i := 1) (oi := ?ov1q1) (v := ?vv1q1) ?hiv1q1 ?hsv1q1 ?hfv1q1 ?hrv1q1 ?hQv1q1 (Or.inl ⟨?hwv1q1, ?hyv1q1⟩) ?hSv1q1 ?restv1q1
                    case hiv1q1 => (simp; rfl)
                    case hsv1q1 => kernel_rfl
                    case hfv1q1 => kernel_rfl
                    case hrv1q1 => kernel_rfl
                    case hQv1q1 => exact fun _ _ _ h => h
                    case hwv1q1 => rfl
                    case hyv1q1 => (intro wq hSq; (try dsimp only at hSq); go_simp; (try with_reducible rfl))
                    case hSv1q1 => assumption
                    simp only [Act.put, List.setIfInBounds_toArray, List.set_cons_zero, List.set_cons_succ]
                    refine wpAnyH_take (i := 2) (oi := ?ov2q2) (v := ?vv2q2) ?hiv2q2 ?hsv2q2 ?hfv2q2 ?hrv2q2 ?hQv2q2 (Or.inl ⟨?hwv2q2, ?hyv2q2⟩) ?hSv2q2 ?restv2q2
                    case hiv2q2 => (simp; rfl)
                    case hsv2q2 => kernel_rfl
                    case hfv2q2 => kernel_rfl
                    case hrv2q2 => kernel_rfl
                    case hQv2q2 => exact fun _ _ _ h => h
                    case hwv2q2 => rfl
                    case hyv2q2 => (intro wq hSq; (try dsimp only at hSq); go_simp; (try with_reducible rfl))
                    case hSv2q2 => assumption
                    simp only [Act.put, List.setIfInBounds_toArray, List.set_cons_zero, List.set_cons_succ]
                    refine wpAnyH_take (i := 3) (oi := ?ov3q3) (v := ?vv3q3) ?hiv3q3 ?hsv3q3 ?hfv3q3 ?hrv3q3 ?hQv3q3 (Or.inl ⟨?hwv3q3, ?hyv3q3⟩) ?hSv3q3 ?restv3q3
                    case hiv3q3 => (simp; rfl)
                    case hsv3q3 => kernel_rfl
                    case hfv3q3 => kernel_rfl
                    case hrv3q3 => kernel_rfl
                    case hQv3q3 => exact fun _ _ _ h => h
                    case hwv3q3 => rfl
                    case hyv3q3 => (intro wq hSq; (try dsimp only at hSq); go_simp; (try with_reducible rfl))
                    case hSv3q3 => assumption
                    simp only [Act.put, List.setIfInBounds_toArray, List.set_cons_zero, List.set_cons_succ]
                    refine wpAnyH_take (i := 5) (oi := ?ov4q5) (v := ?vv4q5) ?hiv4q5 ?hsv4q5 ?hfv4q5 ?hrv4q5 ?hQv4q5 (Or.inl ⟨?hwv4q5, ?hyv4q5⟩) ?hSv4q5 ?restv4q5
                    case hiv4q5 => (simp; rfl)
                    case hsv4q5 => kernel_rfl
                    case hfv4q5 => kernel_rfl
                    case hrv4q5 => kernel_rfl
                    case hQv4q5 => exact fun _ _ _ h => h
                    case hwv4q5 => rfl
                    case hyv4q5 => (intro wq hSq; (try dsimp only at hSq); go_simp; (try with_reducible rfl))
                    case hSv4q5 => assumption
                    simp only [Act.put, List.setIfInBounds_toArray, List.set_cons_zero, List.set_cons_succ]
                    refine wpAnyH_take (i := 6) (oi := ?ov5q6) (v := ?vv5q6) ?hiv5q6 ?hsv5q6 ?hfv5q6 ?hrv5q6 ?hQv5q6 (Or.inl ⟨?hwv5q6, ?hyv5q6⟩) ?hSv5q6 ?restv5q6
                    case hiv5q6 => (simp; rfl)
                    case hsv5q6 => kernel_rfl
                    case hfv5q6 => kernel_rfl
                    case hrv5q6 => kernel_rfl
                    case hQv5q6 => exact fun _ _ _ h => h
                    case hwv5q6 => rfl
                    case hyv5q6 => (intro wq hSq; (try dsimp only at hSq); go_simp; (try with_reducible rfl))
                    case hSv5q6 => assumption
                    simp only [Act.put, List.setIfInBounds_toArray, List.set_cons_zero, List.set_cons_succ]
                    refine wpAnyH_take (i := 7) (oi := ?ov6q7) (v := ?vv6q7) ?hiv6q7 ?hsv6q7 ?hfv6q7 ?hrv6q7 ?hQv6q7 (Or.inl ⟨?hwv6q7, ?hyv6q7⟩) ?hSv6q7 ?restv6q7
                    case hiv6q7 => (simp; rfl)
                    case hsv6q7 => kernel_rfl
                    case hfv6q7 => kernel_rfl
                    case hrv6q7 => kernel_rfl
                    case hQv6q7 => exact fun _ _ _ h => h
                    case hwv6q7 => rfl
                    case hyv6q7 => (intro wq hSq; (try dsimp only at hSq); go_simp; (try with_reducible rfl))
                    case hSv6q7 => assumption
                    simp only [Act.put, List.setIfInBounds_toArray, List.set_cons_zero, List.set_cons_succ]
                    refine wpAnyH_take (i := 8) (oi := ?ov7q8) (v := ?vv7q8) ?hiv7q8 ?hsv7q8 ?hfv7q8 ?hrv7q8 ?hQv7q8 (Or.inl ⟨?hwv7q8, ?hyv7q8⟩) ?hSv7q8 ?restv7q8
                    case hiv7q8 => (simp; rfl)
                    case hsv7q8 => kernel_rfl
                    case hfv7q8 => kernel_rfl
                    case hrv7q8 => kernel_rfl
                    case hQv7q8 => exact fun _ _ _ h => h
                    case hwv7q8 => rfl
                    case hyv7q8 => (intro wq hSq; (try dsimp only at hSq); go_simp; (try with_reducible rfl))
                    case hSv7q8 => assumption
                    simp only [Act.put, List.setIfInBounds_toArray, List.set_cons_zero, List.set_cons_succ]
                    refine wpAnyH_take (i := 9) (oi := ?ov8q9) (v := ?vv8q9) ?hiv8q9 ?hsv8q9 ?hfv8q9 ?hrv8q9 ?hQv8q9 (Or.inl ⟨?hwv8q9, ?hyv8q9⟩) ?hSv8q9 ?restv8q9
                    case hiv8q9 => (simp; rfl)
                    case hsv8q9 => kernel_rfl
                    case hfv8q9 => kernel_rfl
                    case hrv8q9 => kernel_rfl
                    case hQv8q9 => exact fun _ _ _ h => h
                    case hwv8q9 => rfl
                    case hyv8q9 => (intro wq hSq; (try dsimp only at hSq); go_simp; (try with_reducible rfl))
                    case hSv8q9 => assumption
                    simp only [Act.put, List.setIfInBounds_toArray, List.set_cons_zero, List.set_cons_succ]
                    refine wpAnyH_take (i := 12) (oi := ?ov9q12) (v := ?vv9q12) ?hiv9q12 ?hsv9q12 ?hfv9q12 ?hrv9q12 ?hQv9q12 (Or.inl ⟨?hwv9q12, ?hyv9q12⟩) ?hSv9q12 ?restv9q12
                    case hiv9q12 => (simp; rfl)
                    case hsv9q12 => kernel_rfl
                    case hfv9q12 => kernel_rfl
                    case hrv9q12 => kernel_rfl
                    case hQv9q12 => exact fun _ _ _ h => h
                    case hwv9q12 => rfl
                    case hyv9q12 => (intro wq hSq; (try dsimp only at hSq); go_simp; (try with_reducible rfl))
                    case hSv9q12 => assumption
                    simp only [Act.put, List.setIfInBounds_toArray, List.set_cons_zero, List.set_cons_succ]
                    refine wpAnyH_take (i := 13) (oi := ?ov10q13) (v := ?vv10q13) ?hiv10q13 ?hsv10q13 ?hfv10q13 ?hrv10q13 ?hQv10q13 (Or.inl ⟨?hwv10q13, ?hyv10q13⟩) ?hSv10q13 ?restv10q13
                    case hiv10q13 => (simp; rfl)
                    case hsv10q13 => kernel_rfl
                    case hfv10q13 => kernel_rfl
                    case hrv10q13 => kernel_rfl
                    case hQv10q13 => exact fun _ _ _ h => h
                    case hwv10q13 => rfl
                    case hyv10q13 => (intro wq hSq; (try dsimp only at hSq); go_simp; (try with_reducible rfl))
                    case hSv10q13 => assumption
                    simp only [Act.put, List.setIfInBounds_toArray, List.set_cons_zero, List.set_cons_succ]
                    refine wpAnyH_take (i := 14) (oi := ?ov11q14) (v := ?vv11q14) ?hiv11q14 ?hsv11q14 ?hfv11q14 ?hrv11q14 ?hQv11q14 (Or.inl ⟨?hwv11q14, ?hyv11q14⟩) ?hSv11q14 ?restv11q14
                    case hiv11q14 => (simp; rfl)
                    case hsv11q14 => kernel_rfl
                    case hfv11q14 => kernel_rfl
                    case hrv11q14 => kernel_rfl
                    case hQv11q14 => exact fun _ _ _ h => h
                    case hwv11q14 => rfl
                    case hyv11q14 => (intro wq hSq; (try dsimp only at hSq); go_simp; (try with_reducible rfl))
                    case hSv11q14 => assumption
                    simp only [Act.put, List.setIfInBounds_toArray, List.set_cons_zero, List.set_cons_succ]
                    refine wpAnyH_ready (rs := [0, 10]) (by kernel_rfl) (by simp) ?_
                    refine AllReadyH.cons (o := ?ov12q) ?hv12q (fun K hK => ?rv12q) (AllReadyH.cons (o := ?ov13q) ?hv13q (fun K hK => ?rv13q) AllReadyH.nil)
                    case hv12q => (simp; rfl)
                    case hv13q => (simp; rfl)
                    case rv12q =>
                      go_simp
                      refine hK.out _ _ (HSW.out _ ((Lk.Blk.new2 (Below.refl _ w) _ (g := w.heap.size) rfl).drew.bel)) (fun hHv14q => ?_)
                      clear hK K
                      refine wpAnyH_ready (rs := [4, 10]) (by kernel_rfl) (by simp) ?_
                      refine AllReadyH.cons (o := ?ov15q) ?hv15q (fun K hK => ?rv15q) (AllReadyH.cons (o := ?ov16q) ?hv16q (fun K hK => ?rv16q) AllReadyH.nil)
                      case hv15q => (simp; rfl)
                      case hv16q => (simp; rfl)
                      case rv15q =>
                        refine Lk.step_append rfl _ _ 46 rfl w.heap.size 9 iS (.string ⟨#[]⟩) 1 16 Tryd.underlying46 HIS.out.1 HIS.out.2.1 HIS.out.2.2.1 HIS.out.2.2.2 rfl (by decide) (.slice (some ⟨w.heap.size, 0, none⟩) 0 0) 0 ([]) rfl (((Lk.Blk.new2 (Below.refl _ w) _ (g := w.heap.size) rfl).drew).own) _ k c (Lk.strsV (L.take k)) rfl (HNIL.out.1) (HLEN.out.1) (HLIE.out.1.below ((Lk.Blk.new2 (Below.refl _ w) _ (g := w.heap.size) rfl).drew).bel) (Lk.strs_one _) (by unfold maxLen; omega) (by omega) ((((Lk.Blk.new2 (Below.refl _ w) _ (g := w.heap.size) rfl).drew).bel).size) ?_
                        intro v1 W1 hown1 hgrow1
                        rw [List.nil_append, Nat.zero_add] at hown1
                        have HB1 := Lk.hid (Lk.belOwn (size := 1) (((Lk.Blk.new2 (Below.refl _ w) _ (g := w.heap.size) rfl).drew).bel) (((Lk.Blk.new2 (Below.refl _ w) _ (g := w.heap.size) rfl).drew).own) (Nat.le_refl _) hgrow1)
                        have HOWN1 := Lk.hid hown1
                        clear hown1 hgrow1
                        refine hK.out _ _ (HSW.out _ (HB1.out)) (fun hHv17q => ?_)
                        clear hK K
                        refine wpAnyH_ready (rs := [10]) (by kernel_rfl) (by simp) ?_
                        refine AllReadyH.cons (o := ?ov18q) ?hv18q (fun K hK => ?rv18q) AllReadyH.nil
                        case hv18q => (simp; rfl)
                        case rv18q =>
                          go_simp
                          refine hK.out _ _ (HSW.out _ (Lk.belAl HB1.out _)) (fun hHv19q => ?_)
                          clear hK K
                          refine wpAnyH_ready (rs := [11]) (by kernel_rfl) (by simp) ?_
                          refine AllReadyH.cons (o := ?ov20q) ?hv20q (fun K hK => ?rv20q) AllReadyH.nil
                          case hv20q => (simp; rfl)
                          case rv20q =>
                            refine Lk.step_append rfl _ _ 46 rfl w.heap.size 9 iS (.string ⟨#[]⟩) 1 16 Tryd.underlying46 HIS.out.1 HIS.out.2.1 HIS.out.2.2.1 HIS.out.2.2.2 rfl (by decide) v1 k (Lk.strsV (L.take k)) rfl (HOWN1.out.alloc _) (some ⟨W1.heap.size, 0, none⟩) 1 1 ([Lk.str y.nm]) rfl (fun h => nomatch h) (rfl) ((Lk.Blk.new HB1.out _).lies (cs := [Lk.str y.nm])) (Lk.strs_one [y.nm]) (by unfold maxLen; omega) (by omega) ((Lk.belAl HB1.out _).size) ?_
                            intro v2 W2 hown2 hgrow2
                            have HB2 := Lk.hid (Lk.belOwn (size := 1) (Lk.belAl HB1.out _) (HOWN1.out.alloc _) (Nat.le_refl _) hgrow2)
                            have HOWN2 := Lk.hid hown2
                            clear hown2 hgrow2
                            refine hK.out _ _ (HSW.out _ (HB2.out)) (fun hHv21q => ?_)
                            clear hK K
                            refine wpAnyH_ready (rs := [15]) (by kernel_rfl) (by simp) ?_
                            refine AllReadyH.cons (o := ?ov22q) ?hv22q (fun K hK => ?rv22q) AllReadyH.nil
                            case hv22q => (simp; rfl)
                            case rv22q =>
                              refine Lk.step_append rfl _ _ 46 rfl w.heap.size 9 iS (.string ⟨#[]⟩) 1 16 Tryd.underlying46 HIS.out.1 HIS.out.2.1 HIS.out.2.2.1 HIS.out.2.2.2 rfl (by decide) v2 (k + 1) (Lk.strsV (L.take k) ++ [Lk.str y.nm]) rfl (HOWN2.out) _ (m - k) (c - k) (Lk.strsV (L.drop k)) rfl (HNIL.out.2) (HLEN.out.2) (HLIE.out.2.below HB2.out) (Lk.strs_one _) (by unfold maxLen; omega) (by omega) ((HB2.out).size) ?_
                              intro v3 W3 hown3 hgrow3
                              have HB3 := Lk.hid (Lk.belOwn (size := 1) (HB2.out) (HOWN2.out) (Nat.le_refl _) hgrow3)
                              have HOWN3 := Lk.hid hown3
                              clear hown3 hgrow3
                              refine hK.out _ _ (HSW.out _ (HB3.out)) (fun hHv23q => ?_)
                              clear hK K
                              refine wpAnyH_take (i := 16) (oi := ?ov24q16) (v := ?vv24q16) ?hiv24q16 ?hsv24q16 ?hfv24q16 ?hrv24q16 ?hQv24q16 (Or.inl ⟨?hwv24q16, ?hyv24q16⟩) ?hSv24q16 ?restv24q16
                              case hiv24q16 => (simp; rfl)
                              case hsv24q16 => kernel_rfl
                              case hfv24q16 => kernel_rfl
                              case hrv24q16 => kernel_rfl
                              case hQv24q16 => exact fun _ _ _ h => h
                              case hwv24q16 => rfl
                              case hyv24q16 => (intro wq hSq; (try dsimp only at hSq); go_simp; (try with_reducible rfl))
                              case hSv24q16 => assumption
                              simp only [Act.put, List.setIfInBounds_toArray, List.set_cons_zero, List.set_cons_succ]
                              refine wpAnyH_done (by kernel_rfl) ?_ _
                              obtain ⟨p3, c3, rfl, hS3⟩ := Lk.Sl.own HOWN3.out
                              obtain ⟨hN1, hN2⟩ := HLW.out.put HB3.out HY.out (by rw [← HM.out]; exact hk) HK.out HH2.out (by rw [← HM.out]; exact hS3)
                              have HNF := Lk.hid (And.intro hN1 hN2)
                              clear hN1 hN2 hS3 HOWN3 HOWN2 HOWN1
                              go_wp2_with fail
                              all_goals
                                exact ⟨⟨i + 1, p3, c3, L.take k ++ [y.nm] ++ L.drop k, by omega, by go_num, by rw [HNF.out.2, ← HM.out], HNF.out.1⟩, by simp [RowKit.intOf]; omega⟩
                      case rv16q =>
                        go_simp
                        refine hK.out _ _ (HSW.out _ ((Lk.Blk.new2 (Lk.belAl (Below.refl _ w) _) _ (g := w.heap.size + 1) (by simp)).drew.bel)) (fun hHv25q => ?_)
                        clear hK K
                        refine wpAnyH_ready (rs := [4]) (by kernel_rfl) (by simp) ?_
                        refine AllReadyH.cons (o := ?ov26q) ?hv26q (fun K hK => ?rv26q) AllReadyH.nil
                        case hv26q => (simp; rfl)
                        case rv26q =>
                          refine Lk.step_append rfl _ _ 46 rfl w.heap.size 9 iS (.string ⟨#[]⟩) 1 16 Tryd.underlying46 HIS.out.1 HIS.out.2.1 HIS.out.2.2.1 HIS.out.2.2.2 rfl (by decide) (.slice (some ⟨w.heap.size, 0, none⟩) 0 0) 0 ([]) rfl ((((Lk.Blk.new2 (Below.refl _ w) _ (g := w.heap.size) rfl).alloc _).drew).own) _ k c (Lk.strsV (L.take k)) rfl (HNIL.out.1) (HLEN.out.1) (HLIE.out.1.below (((Lk.Blk.new2 (Below.refl _ w) _ (g := w.heap.size) rfl).alloc _).drew).bel) (Lk.strs_one _) (by unfold maxLen; omega) (by omega) (((((Lk.Blk.new2 (Below.refl _ w) _ (g := w.heap.size) rfl).alloc _).drew).bel).size) ?_
                          intro v1 W1 hown1 hgrow1
                          rw [List.nil_append, Nat.zero_add] at hown1
                          have HB1 := Lk.hid (Lk.belOwn (size := 1) ((((Lk.Blk.new2 (Below.refl _ w) _ (g := w.heap.size) rfl).alloc _).drew).bel) ((((Lk.Blk.new2 (Below.refl _ w) _ (g := w.heap.size) rfl).alloc _).drew).own) (Nat.le_refl _) hgrow1)
                          have HOWN1 := Lk.hid hown1
                          have HX1 := Lk.hid (((Lk.Blk.new2 (Lk.belAl (Below.refl _ w) _) _ (g := w.heap.size + 1) (by simp)).drew).grown hgrow1 (by simp [Value.ownBlock]) (fun k hk => by cases hk; exact Nat.le_refl _))
                          clear hown1 hgrow1
                          refine hK.out _ _ (HSW.out _ (HB1.out)) (fun hHv27q => ?_)
                          clear hK K
                          refine wpAnyH_ready (rs := [11]) (by kernel_rfl) (by simp) ?_
                          refine AllReadyH.cons (o := ?ov28q) ?hv28q (fun K hK => ?rv28q) AllReadyH.nil
                          case hv28q => (simp; rfl)
                          case rv28q =>
                            refine Lk.step_append rfl _ _ 46 rfl w.heap.size 9 iS (.string ⟨#[]⟩) 1 16 Tryd.underlying46 HIS.out.1 HIS.out.2.1 HIS.out.2.2.1 HIS.out.2.2.2 rfl (by decide) v1 k (Lk.strsV (L.take k)) rfl (HOWN1.out) (some ⟨w.heap.size + 1, 0, none⟩) 1 1 ([Lk.str y.nm]) rfl (fun h => nomatch h) (rfl) (HX1.out.lies (cs := [Lk.str y.nm])) (Lk.strs_one [y.nm]) (by unfold maxLen; omega) (by omega) ((HB1.out).size) ?_
                            intro v2 W2 hown2 hgrow2
                            have HB2 := Lk.hid (Lk.belOwn (size := 1) (HB1.out) (HOWN1.out) (Nat.le_refl _) hgrow2)
                            have HOWN2 := Lk.hid hown2
                            clear hown2 hgrow2
                            refine hK.out _ _ (HSW.out _ (HB2.out)) (fun hHv29q => ?_)
                            clear hK K
                            refine wpAnyH_ready (rs := [15]) (by kernel_rfl) (by simp) ?_
                            refine AllReadyH.cons (o := ?ov30q) ?hv30q (fun K hK => ?rv30q) AllReadyH.nil
                            case hv30q => (simp; rfl)
                            case rv30q =>
                              refine Lk.step_append rfl _ _ 46 rfl w.heap.size 9 iS (.string ⟨#[]⟩) 1 16 Tryd.underlying46 HIS.out.1 HIS.out.2.1 HIS.out.2.2.1 HIS.out.2.2.2 rfl (by decide) v2 (k + 1) (Lk.strsV (L.take k) ++ [Lk.str y.nm]) rfl (HOWN2.out) _ (m - k) (c - k) (Lk.strsV (L.drop k)) rfl (HNIL.out.2) (HLEN.out.2) (HLIE.out.2.below HB2.out) (Lk.strs_one _) (by unfold maxLen; omega) (by omega) ((HB2.out).size) ?_
                              intro v3 W3 hown3 hgrow3
                              have HB3 := Lk.hid (Lk.belOwn (size := 1) (HB2.out) (HOWN2.out) (Nat.le_refl _) hgrow3)
                              have HOWN3 := Lk.hid hown3
                              clear hown3 hgrow3
                              refine hK.out _ _ (HSW.out _ (HB3.out)) (fun hHv31q => ?_)
                              clear hK K
                              refine wpAnyH_take (i := 16) (oi := ?ov32q16) (v := ?vv32q16) ?hiv32q16 ?hsv32q16 ?hfv32q16 ?hrv32q16 ?hQv32q16 (Or.inl ⟨?hwv32q16, ?hyv32q16⟩) ?hSv32q16 ?restv32q16
                              case hiv32q16 => (simp; rfl)
                              case hsv32q16 => kernel_rfl
                              case hfv32q16 => kernel_rfl
                              case hrv32q16 => kernel_rfl
                              case hQv32q16 => exact fun _ _ _ h => h
                              case hwv32q16 => rfl
                              case hyv32q16 => (intro wq hSq; (try dsimp only at hSq); go_simp; (try with_reducible rfl))
                              case hSv32q16 => assumption
                              simp only [Act.put, List.setIfInBounds_toArray, List.set_cons_zero, List.set_cons_succ]
                              refine wpAnyH_done (by kernel_rfl) ?_ _
                              obtain ⟨p3, c3, rfl, hS3⟩ := Lk.Sl.own HOWN3.out
                              obtain ⟨hN1, hN2⟩ := HLW.out.put HB3.out HY.out (by rw [← HM.out]; exact hk) HK.out HH2.out (by rw [← HM.out]; exact hS3)
                              have HNF := Lk.hid (And.intro hN1 hN2)
                              clear hN1 hN2 hS3 HOWN3 HOWN2 HOWN1
                              go_wp2_with fail
                              all_goals
                                exact ⟨⟨i + 1, p3, c3, L.take k ++ [y.nm] ++ L.drop k, by omega, by go_num, by rw [HNF.out.2, ← HM.out], HNF.out.1⟩, by simp [RowKit.intOf]; omega⟩
                    case rv13q =>
                      go_simp
                      refine hK.out _ _ (HSW.out _ ((Lk.Blk.new2 (Below.refl _ w) _ (g := w.heap.size) rfl).drew.bel)) (fun hHv33q => ?_)
                      clear hK K
                      refine wpAnyH_ready (rs := [0]) (by kernel_rfl) (by simp) ?_
                      refine AllReadyH.cons (o := ?ov34q) ?hv34q (fun K hK => ?rv34q) AllReadyH.nil
                      case hv34q => (simp; rfl)
                      case rv34q =>
                        go_simp
                        refine hK.out _ _ (HSW.out _ ((Lk.Blk.new2 (Lk.belAl (Below.refl _ w) _) _ (g := w.heap.size + 1) (by simp)).drew.bel)) (fun hHv35q => ?_)
                        clear hK K
                        refine wpAnyH_ready (rs := [4]) (by kernel_rfl) (by simp) ?_
                        refine AllReadyH.cons (o := ?ov36q) ?hv36q (fun K hK => ?rv36q) AllReadyH.nil
                        case hv36q => (simp; rfl)
                        case rv36q =>
                          refine Lk.step_append rfl _ _ 46 rfl w.heap.size 9 iS (.string ⟨#[]⟩) 1 16 Tryd.underlying46 HIS.out.1 HIS.out.2.1 HIS.out.2.2.1 HIS.out.2.2.2 rfl (by decide) (.slice (some ⟨w.heap.size + 1, 0, none⟩) 0 0) 0 ([]) rfl (((Lk.Blk.new2 (Lk.belAl (Below.refl _ w) _) _ (g := w.heap.size + 1) (by simp)).drew).own) _ k c (Lk.strsV (L.take k)) rfl (HNIL.out.1) (HLEN.out.1) (HLIE.out.1.below ((Lk.Blk.new2 (Lk.belAl (Below.refl _ w) _) _ (g := w.heap.size + 1) (by simp)).drew).bel) (Lk.strs_one _) (by unfold maxLen; omega) (by omega) ((((Lk.Blk.new2 (Lk.belAl (Below.refl _ w) _) _ (g := w.heap.size + 1) (by simp)).drew).bel).size) ?_
                          intro v1 W1 hown1 hgrow1
                          rw [List.nil_append, Nat.zero_add] at hown1
                          have HB1 := Lk.hid (Lk.belOwn (size := 1) (((Lk.Blk.new2 (Lk.belAl (Below.refl _ w) _) _ (g := w.heap.size + 1) (by simp)).drew).bel) (((Lk.Blk.new2 (Lk.belAl (Below.refl _ w) _) _ (g := w.heap.size + 1) (by simp)).drew).own) (Nat.le_refl _) hgrow1)
                          have HOWN1 := Lk.hid hown1
                          have HX1 := Lk.hid ((((Lk.Blk.new2 (Below.refl _ w) _ (g := w.heap.size) rfl).alloc _).drew).grown hgrow1 (by simp [Value.ownBlock]) (fun k hk => by cases hk; simp))
                          clear hown1 hgrow1
                          refine hK.out _ _ (HSW.out _ (HB1.out)) (fun hHv37q => ?_)
                          clear hK K
                          refine wpAnyH_ready (rs := [11]) (by kernel_rfl) (by simp) ?_
                          refine AllReadyH.cons (o := ?ov38q) ?hv38q (fun K hK => ?rv38q) AllReadyH.nil
                          case hv38q => (simp; rfl)
                          case rv38q =>
                            refine Lk.step_append rfl _ _ 46 rfl w.heap.size 9 iS (.string ⟨#[]⟩) 1 16 Tryd.underlying46 HIS.out.1 HIS.out.2.1 HIS.out.2.2.1 HIS.out.2.2.2 rfl (by decide) v1 k (Lk.strsV (L.take k)) rfl (HOWN1.out) (some ⟨w.heap.size, 0, none⟩) 1 1 ([Lk.str y.nm]) rfl (fun h => nomatch h) (rfl) (HX1.out.lies (cs := [Lk.str y.nm])) (Lk.strs_one [y.nm]) (by unfold maxLen; omega) (by omega) ((HB1.out).size) ?_
                            intro v2 W2 hown2 hgrow2
                            have HB2 := Lk.hid (Lk.belOwn (size := 1) (HB1.out) (HOWN1.out) (Nat.le_refl _) hgrow2)
                            have HOWN2 := Lk.hid hown2
                            clear hown2 hgrow2
                            refine hK.out _ _ (HSW.out _ (HB2.out)) (fun hHv39q => ?_)
                            clear hK K
                            refine wpAnyH_ready (rs := [15]) (by kernel_rfl) (by simp) ?_
                            refine AllReadyH.cons (o := ?ov40q) ?hv40q (fun K hK => ?rv40q) AllReadyH.nil
                            case hv40q => (simp; rfl)
                            case rv40q =>
                              refine Lk.step_append rfl _ _ 46 rfl w.heap.size 9 iS (.string ⟨#[]⟩) 1 16 Tryd.underlying46 HIS.out.1 HIS.out.2.1 HIS.out.2.2.1 HIS.out.2.2.2 rfl (by decide) v2 (k + 1) (Lk.strsV (L.take k) ++ [Lk.str y.nm]) rfl (HOWN2.out) _ (m - k) (c - k) (Lk.strsV (L.drop k)) rfl (HNIL.out.2) (HLEN.out.2) (HLIE.out.2.below HB2.out) (Lk.strs_one _) (by unfold maxLen; omega) (by omega) ((HB2.out).size) ?_
                              intro v3 W3 hown3 hgrow3
                              have HB3 := Lk.hid (Lk.belOwn (size := 1) (HB2.out) (HOWN2.out) (Nat.le_refl _) hgrow3)
                              have HOWN3 := Lk.hid hown3
                              clear hown3 hgrow3
                              refine hK.out _ _ (HSW.out _ (HB3.out)) (fun hHv41q => ?_)
                              clear hK K
                              refine wpAnyH_take (i := 16) (oi := ?ov42q16) (v := ?vv42q16) ?hiv42q16 ?hsv42q16 ?hfv42q16 ?hrv42q16 ?hQv42q16 (Or.inl ⟨?hwv42q16, ?hyv42q16⟩) ?hSv42q16 ?restv42q16
                              case hiv42q16 => (simp; rfl)
                              case hsv42q16 => kernel_rfl
                              case hfv42q16 => kernel_rfl
                              case hrv42q16 => kernel_rfl
                              case hQv42q16 => exact fun _ _ _ h => h
                              case hwv42q16 => rfl
                              case hyv42q16 => (intro wq hSq; (try dsimp only at hSq); go_simp; (try with_reducible rfl))
                              case hSv42q16 => assumption
                              simp only [Act.put, List.setIfInBounds_toArray, List.set_cons_zero, List.set_cons_succ]
                              refine wpAnyH_done (by kernel_rfl) ?_ _
                              obtain ⟨p3, c3, rfl, hS3⟩ := Lk.Sl.own HOWN3.out
                              obtain ⟨hN1, hN2⟩ := HLW.out.put HB3.out HY.out (by rw [← HM.out]; exact hk) HK.out HH2.out (by rw [← HM.out]; exact hS3)
                              have HNF := Lk.hid (And.intro hN1 hN2)
                              clear hN1 hN2 hS3 HOWN3 HOWN2 HOWN1
                              go_wp2_with fail
                              all_goals
                                exact ⟨⟨i + 1, p3, c3, L.take k ++ [y.nm] ++ L.drop k, by omega, by go_num, by rw [HNF.out.2, ← HM.out], HNF.out.1⟩, by simp [RowKit.intOf]; omega⟩
              · have hkm : k = m := by omega
                subst hkm
                go_wp2_with fail
                refine wp_region_held_drew (S := (fun w' => Below wr.heap.size wr w')) (by kernel_rfl) ((Below.refl _ _).drew) (fun hH => ?_)
                refine wpAnyH_take (i := 0) (oi := ?ou1q0) (v := ?vu1q0) ?hiu1q0 ?hsu1q0 ?hfu1q0 ?hru1q0 ?hQu1q0 (Or.inl ⟨?hwu1q0, ?hyu1q0⟩) ?hSu1q0 ?restu1q0
                case hiu1q0 => (simp; rfl)
                case hsu1q0 => kernel_rfl
                case hfu1q0 => kernel_rfl
                case hru1q0 => kernel_rfl
                case hQu1q0 => exact fun _ _ _ h => h
                case hwu1q0 => rfl
                case hyu1q0 => (intro wq hSq; (try dsimp only at hSq); go_simp; (try with_reducible rfl))
                case hSu1q0 => assumption
                simp only [Act.put, List.setIfInBounds_toArray, List.set_cons_zero, List.set_cons_succ]
                refine wpAnyH_take (i := 1) (oi := ?ou2q1) (v := ?vu2q1) ?hiu2q1 ?hsu2q1 ?hfu2q1 ?hru2q1 ?hQu2q1 (Or.inl ⟨?hwu2q1, ?hyu2q1⟩) ?hSu2q1 ?restu2q1
                case hiu2q1 => (simp; rfl)
                case hsu2q1 => kernel_rfl
                case hfu2q1 => kernel_rfl
                case hru2q1 => kernel_rfl
                case hQu2q1 => exact fun _ _ _ h => h
                case hwu2q1 => rfl
                case hyu2q1 => (intro wq hSq; (try dsimp only at hSq); go_simp; (try with_reducible rfl))
                case hSu2q1 => assumption
                simp only [Act.put, List.setIfInBounds_toArray, List.set_cons_zero, List.set_cons_succ]
                refine wpAnyH_take (i := 2) (oi := ?ou3q2) (v := ?vu3q2) ?hiu3q2 ?hsu3q2 ?hfu3q2 ?hru3q2 ?hQu3q2 (Or.inl ⟨?hwu3q2, ?hyu3q2⟩) ?hSu3q2 ?restu3q2
                case hiu3q2 => (simp; rfl)
                case hsu3q2 => kernel_rfl
                case hfu3q2 => kernel_rfl
                case hru3q2 => kernel_rfl
                case hQu3q2 => exact fun _ _ _ h => h
                case hwu3q2 => rfl
                case hyu3q2 => (intro wq hSq; (try dsimp only at hSq); go_simp; (try with_reducible rfl))
                case hSu3q2 => assumption
                simp only [Act.put, List.setIfInBounds_toArray, List.set_cons_zero, List.set_cons_succ]
                refine wpAnyH_take (i := 3) (oi := ?ou4q3) (v := ?vu4q3) ?hiu4q3 ?hsu4q3 ?hfu4q3 ?hru4q3 ?hQu4q3 (Or.inl ⟨?hwu4q3, ?hyu4q3⟩) ?hSu4q3 ?restu4q3
                case hiu4q3 => (simp; rfl)
                case hsu4q3 => kernel_rfl
                case hfu4q3 => kernel_rfl
                case hru4q3 => kernel_rfl
                case hQu4q3 => exact fun _ _ _ h => h
                case hwu4q3 => rfl
                case hyu4q3 => (intro wq hSq; (try dsimp only at hSq); go_simp; (try with_reducible rfl))
                case hSu4q3 => assumption
                simp only [Act.put, List.setIfInBounds_toArray, List.set_cons_zero, List.set_cons_succ]
                refine wpAnyH_take (i := 4) (oi := ?ou5q4) (v := ?vu5q4) ?hiu5q4 ?hsu5q4 ?hfu5q4 ?hru5q4 ?hQu5q4 (Or.inl ⟨?hwu5q4, ?hyu5q4⟩) ?hSu5q4 ?restu5q4
                case hiu5q4 => (simp; rfl)
                case hsu5q4 => kernel_rfl
                case hfu5q4 => kernel_rfl
                case hru5q4 => kernel_rfl
                case hQu5q4 => exact fun _ _ _ h => h
                case hwu5q4 => rfl
                case hyu5q4 => (intro wq hSq; (try dsimp only at hSq); go_simp; (try with_reducible rfl))
                case hSu5q4 => assumption
                simp only [Act.put, List.setIfInBounds_toArray, List.set_cons_zero, List.set_cons_succ]
                refine wpAnyH_take (i := 5) (oi := ?ou6q5) (v := undef) ?hiu6q5 ?hsu6q5 ?hfu6q5 ?hru6q5 ?hQu6q5 (Or.inr ⟨?hwu6q5, rfl⟩) ?hSu6q5 ?restu6q5
                case hiu6q5 => (simp; rfl)
                case hsu6q5 => kernel_rfl
                case hfu6q5 => kernel_rfl
                case hru6q5 => kernel_rfl
                case hQu6q5 => exact fun _ _ _ h => h
                case hwu6q5 => rfl
                case hSu6q5 => assumption
                simp only [Act.put, List.setIfInBounds_toArray, List.set_cons_zero, List.set_cons_succ]
                refine wpAnyH_take (i := 6) (oi := ?ou7q6) (v := undef) ?hiu7q6 ?hsu7q6 ?hfu7q6 ?hru7q6 ?hQu7q6 (Or.inr ⟨?hwu7q6, rfl⟩) ?hSu7q6 ?restu7q6
                case hiu7q6 => (simp; rfl)
                case hsu7q6 => kernel_rfl
                case hfu7q6 => kernel_rfl
                case hru7q6 => kernel_rfl
                case hQu7q6 => exact fun _ _ _ h => h
                case hwu7q6 => rfl
                case hSu7q6 => assumption
                simp only [Act.put, List.setIfInBounds_toArray, List.set_cons_zero, List.set_cons_succ]
                refine wpAnyH_take (i := 7) (oi := ?ou8q7) (v := undef) ?hiu8q7 ?hsu8q7 ?hfu8q7 ?hru8q7 ?hQu8q7 (Or.inr ⟨?hwu8q7, rfl⟩) ?hSu8q7 ?restu8q7
                case hiu8q7 => (simp; rfl)
                case hsu8q7 => kernel_rfl
                case hfu8q7 => kernel_rfl
                case hru8q7 => kernel_rfl
                case hQu8q7 => exact fun _ _ _ h => h
                case hwu8q7 => rfl
                case hSu8q7 => assumption
                simp only [Act.put, List.setIfInBounds_toArray, List.set_cons_zero, List.set_cons_succ]
                refine wpAnyH_take (i := 8) (oi := ?ou9q8) (v := undef) ?hiu9q8 ?hsu9q8 ?hfu9q8 ?hru9q8 ?hQu9q8 (Or.inr ⟨?hwu9q8, rfl⟩) ?hSu9q8 ?restu9q8
                case hiu9q8 => (simp; rfl)
                case hsu9q8 => kernel_rfl
                case hfu9q8 => kernel_rfl
                case hru9q8 => kernel_rfl
                case hQu9q8 => exact fun _ _ _ h => h
                case hwu9q8 => rfl
                case hSu9q8 => assumption
                simp only [Act.put, List.setIfInBounds_toArray, List.set_cons_zero, List.set_cons_succ]
                refine wpAnyH_take (i := 9) (oi := ?ou10q9) (v := undef) ?hiu10q9 ?hsu10q9 ?hfu10q9 ?hru10q9 ?hQu10q9 (Or.inr ⟨?hwu10q9, rfl⟩) ?hSu10q9 ?restu10q9
                case hiu10q9 => (simp; rfl)
                case hsu10q9 => kernel_rfl
                case hfu10q9 => kernel_rfl
                case hru10q9 => kernel_rfl
                case hQu10q9 => exact fun _ _ _ h => h
                case hwu10q9 => rfl
                case hSu10q9 => assumption
                simp only [Act.put, List.setIfInBounds_toArray, List.set_cons_zero, List.set_cons_succ]
                refine wpAnyH_take (i := 10) (oi := ?ou11q10) (v := undef) ?hiu11q10 ?hsu11q10 ?hfu11q10 ?hru11q10 ?hQu11q10 (Or.inr ⟨?hwu11q10, rfl⟩) ?hSu11q10 ?restu11q10
                case hiu11q10 => (simp; rfl)
                case hsu11q10 => kernel_rfl
                case hfu11q10 => kernel_rfl
                case hru11q10 => kernel_rfl
                case hQu11q10 => exact fun _ _ _ h => h
                case hwu11q10 => rfl
                case hSu11q10 => assumption
                simp only [Act.put, List.setIfInBounds_toArray, List.set_cons_zero, List.set_cons_succ]
                refine wpAnyH_take (i := 11) (oi := ?ou12q11) (v := undef) ?hiu12q11 ?hsu12q11 ?hfu12q11 ?hru12q11 ?hQu12q11 (Or.inr ⟨?hwu12q11, rfl⟩) ?hSu12q11 ?restu12q11
                case hiu12q11 => (simp; rfl)
                case hsu12q11 => kernel_rfl
                case hfu12q11 => kernel_rfl
                case hru12q11 => kernel_rfl
                case hQu12q11 => exact fun _ _ _ h => h
                case hwu12q11 => rfl
                case hSu12q11 => assumption
                simp only [Act.put, List.setIfInBounds_toArray, List.set_cons_zero, List.set_cons_succ]
                refine wpAnyH_take (i := 12) (oi := ?ou13q12) (v := undef) ?hiu13q12 ?hsu13q12 ?hfu13q12 ?hru13q12 ?hQu13q12 (Or.inr ⟨?hwu13q12, rfl⟩) ?hSu13q12 ?restu13q12
                case hiu13q12 => (simp; rfl)
                case hsu13q12 => kernel_rfl
                case hfu13q12 => kernel_rfl
                case hru13q12 => kernel_rfl
                case hQu13q12 => exact fun _ _ _ h => h
                case hwu13q12 => rfl
                case hSu13q12 => assumption
                simp only [Act.put, List.setIfInBounds_toArray, List.set_cons_zero, List.set_cons_succ]
                refine wpAnyH_take (i := 13) (oi := ?ou14q13) (v := undef) ?hiu14q13 ?hsu14q13 ?hfu14q13 ?hru14q13 ?hQu14q13 (Or.inr ⟨?hwu14q13, rfl⟩) ?hSu14q13 ?restu14q13
                case hiu14q13 => (simp; rfl)
                case hsu14q13 => kernel_rfl
                case hfu14q13 => kernel_rfl
                case hru14q13 => kernel_rfl
                case hQu14q13 => exact fun _ _ _ h => h
                case hwu14q13 => rfl
                case hSu14q13 => assumption
                simp only [Act.put, List.setIfInBounds_toArray, List.set_cons_zero, List.set_cons_succ]
                refine wpAnyH_take (i := 14) (oi := ?ou15q14) (v := undef) ?hiu15q14 ?hsu15q14 ?hfu15q14 ?hru15q14 ?hQu15q14 (Or.inr ⟨?hwu15q14, rfl⟩) ?hSu15q14 ?restu15q14
                case hiu15q14 => (simp; rfl)
                case hsu15q14 => kernel_rfl
                case hfu15q14 => kernel_rfl
                case hru15q14 => kernel_rfl
                case hQu15q14 => exact fun _ _ _ h => h
                case hwu15q14 => rfl
                case hSu15q14 => assumption
                simp only [Act.put, List.setIfInBounds_toArray, List.set_cons_zero, List.set_cons_succ]
                refine wpAnyH_take (i := 15) (oi := ?ou16q15) (v := ?vu16q15) ?hiu16q15 ?hsu16q15 ?hfu16q15 ?hru16q15 ?hQu16q15 (Or.inl ⟨?hwu16q15, ?hyu16q15⟩) ?hSu16q15 ?restu16q15
                case hiu16q15 => (simp; rfl)
                case hsu16q15 => kernel_rfl
                case hfu16q15 => kernel_rfl
                case hru16q15 => kernel_rfl
                case hQu16q15 => exact fun _ _ _ h => h
                case hwu16q15 => rfl
                case hyu16q15 => (intro wq hSq; (try dsimp only at hSq); go_simp; (try with_reducible rfl))
                case hSu16q15 => assumption
                simp only [Act.put, List.setIfInBounds_toArray, List.set_cons_zero, List.set_cons_succ]
                refine wpAnyH_done (by kernel_rfl) ?_ _
                go_wp2_with fail
                refine wp_region_held_drew (S := (fun w' => Below wr.heap.size wr w')) (by kernel_rfl) ((Below.refl _ _).drew.drew) (fun hH => ?_)
                refine wpAnyH_take (i := 0) (oi := ?ot1q0) (v := ?vt1q0) ?hit1q0 ?hst1q0 ?hft1q0 ?hrt1q0 ?hQt1q0 (Or.inl ⟨?hwt1q0, ?hyt1q0⟩) ?hSt1q0 ?restt1q0
                case hit1q0 => (simp; rfl)
                case hst1q0 => kernel_rfl
                case hft1q0 => kernel_rfl
                case hrt1q0 => kernel_rfl
                case hQt1q0 => exact fun _ _ _ h => h
                case hwt1q0 => rfl
                case hyt1q0 => (intro wq hSq; (try dsimp only at hSq); go_simp; (try with_reducible rfl))
                case hSt1q0 => assumption
                simp only [Act.put, List.setIfInBounds_toArray, List.set_cons_zero, List.set_cons_succ]
                refine wpAnyH_take (i := 1) (oi := ?ot2q1) (v := ?vt2q1) ?hit2q1 ?hst2q1 ?hft2q1 ?hrt2q1 ?hQt2q1 (Or.inl ⟨?hwt2q1, ?hyt2q1⟩) ?hSt2q1 ?restt2q1
                case hit2q1 => (simp; rfl)
                case hst2q1 => kernel_rfl
                case hft2q1 => kernel_rfl
                case hrt2q1 => kernel_rfl
                case hQt2q1 => exact fun _ _ _ h => h
                case hwt2q1 => rfl
                case hyt2q1 => (intro wq hSq; (try dsimp only at hSq); go_simp; (try with_reducible rfl))
                case hSt2q1 => assumption
                simp only [Act.put, List.setIfInBounds_toArray, List.set_cons_zero, List.set_cons_succ]
                refine wpAnyH_take (i := 2) (oi := ?ot3q2) (v := ?vt3q2) ?hit3q2 ?hst3q2 ?hft3q2 ?hrt3q2 ?hQt3q2 (Or.inl ⟨?hwt3q2, ?hyt3q2⟩) ?hSt3q2 ?restt3q2
                case hit3q2 => (simp; rfl)
                case hst3q2 => kernel_rfl
                case hft3q2 => kernel_rfl
                case hrt3q2 => kernel_rfl
                case hQt3q2 => exact fun _ _ _ h => h
                case hwt3q2 => rfl
                case hyt3q2 => (intro wq hSq; (try dsimp only at hSq); go_simp; (try with_reducible rfl))
                case hSt3q2 => assumption
                simp only [Act.put, List.setIfInBounds_toArray, List.set_cons_zero, List.set_cons_succ]
                refine wpAnyH_take (i := 3) (oi := ?ot4q3) (v := ?vt4q3) ?hit4q3 ?hst4q3 ?hft4q3 ?hrt4q3 ?hQt4q3 (Or.inl ⟨?hwt4q3, ?hyt4q3⟩) ?hSt4q3 ?restt4q3
                case hit4q3 => (simp; rfl)
                case hst4q3 => kernel_rfl
                case hft4q3 => kernel_rfl
                case hrt4q3 => kernel_rfl
                case hQt4q3 => exact fun _ _ _ h => h
                case hwt4q3 => rfl
                case hyt4q3 => (intro wq hSq; (try dsimp only at hSq); go_simp; (try with_reducible rfl))
                case hSt4q3 => assumption
                simp only [Act.put, List.setIfInBounds_toArray, List.set_cons_zero, List.set_cons_succ]
                refine wpAnyH_take (i := 4) (oi := ?ot5q4) (v := ?vt5q4) ?hit5q4 ?hst5q4 ?hft5q4 ?hrt5q4 ?hQt5q4 (Or.inl ⟨?hwt5q4, ?hyt5q4⟩) ?hSt5q4 ?restt5q4
                case hit5q4 => (simp; rfl)
                case hst5q4 => kernel_rfl
                case hft5q4 => kernel_rfl
                case hrt5q4 => kernel_rfl
                case hQt5q4 => exact fun _ _ _ h => h
                case hwt5q4 => rfl
                case hyt5q4 => (intro wq hSq; (try dsimp only at hSq); go_simp; (try with_reducible rfl))
                case hSt5q4 => assumption
                simp only [Act.put, List.setIfInBounds_toArray, List.set_cons_zero, List.set_cons_succ]
                refine wpAnyH_take (i := 5) (oi := ?ot6q5) (v := undef) ?hit6q5 ?hst6q5 ?hft6q5 ?hrt6q5 ?hQt6q5 (Or.inr ⟨?hwt6q5, rfl⟩) ?hSt6q5 ?restt6q5
                case hit6q5 => (simp; rfl)
                case hst6q5 => kernel_rfl
                case hft6q5 => kernel_rfl
                case hrt6q5 => kernel_rfl
                case hQt6q5 => exact fun _ _ _ h => h
                case hwt6q5 => rfl
                case hSt6q5 => assumption
                simp only [Act.put, List.setIfInBounds_toArray, List.set_cons_zero, List.set_cons_succ]
                refine wpAnyH_take (i := 6) (oi := ?ot7q6) (v := undef) ?hit7q6 ?hst7q6 ?hft7q6 ?hrt7q6 ?hQt7q6 (Or.inr ⟨?hwt7q6, rfl⟩) ?hSt7q6 ?restt7q6
                case hit7q6 => (simp; rfl)
                case hst7q6 => kernel_rfl
                case hft7q6 => kernel_rfl
                case hrt7q6 => kernel_rfl
                case hQt7q6 => exact fun _ _ _ h => h
                case hwt7q6 => rfl
                case hSt7q6 => assumption
                simp only [Act.put, List.setIfInBounds_toArray, List.set_cons_zero, List.set_cons_succ]
                refine wpAnyH_take (i := 7) (oi := ?ot8q7) (v := undef) ?hit8q7 ?hst8q7 ?hft8q7 ?hrt8q7 ?hQt8q7 (Or.inr ⟨?hwt8q7, rfl⟩) ?hSt8q7 ?restt8q7
                case hit8q7 => (simp; rfl)
                case hst8q7 => kernel_rfl
                case hft8q7 => kernel_rfl
                case hrt8q7 => kernel_rfl
                case hQt8q7 => exact fun _ _ _ h => h
                case hwt8q7 => rfl
                case hSt8q7 => assumption
                simp only [Act.put, List.setIfInBounds_toArray, List.set_cons_zero, List.set_cons_succ]
                refine wpAnyH_take (i := 8) (oi := ?ot9q8) (v := undef) ?hit9q8 ?hst9q8 ?hft9q8 ?hrt9q8 ?hQt9q8 (Or.inr ⟨?hwt9q8, rfl⟩) ?hSt9q8 ?restt9q8
                case hit9q8 => (simp; rfl)
                case hst9q8 => kernel_rfl
                case hft9q8 => kernel_rfl
                case hrt9q8 => kernel_rfl
                case hQt9q8 => exact fun _ _ _ h => h
                case hwt9q8 => rfl
                case hSt9q8 => assumption
                simp only [Act.put, List.setIfInBounds_toArray, List.set_cons_zero, List.set_cons_succ]
                refine wpAnyH_take (i := 9) (oi := ?ot10q9) (v := undef) ?hit10q9 ?hst10q9 ?hft10q9 ?hrt10q9 ?hQt10q9 (Or.inr ⟨?hwt10q9, rfl⟩) ?hSt10q9 ?restt10q9
                case hit10q9 => (simp; rfl)
                case hst10q9 => kernel_rfl
                case hft10q9 => kernel_rfl
                case hrt10q9 => kernel_rfl
                case hQt10q9 => exact fun _ _ _ h => h
                case hwt10q9 => rfl
                case hSt10q9 => assumption
                simp only [Act.put, List.setIfInBounds_toArray, List.set_cons_zero, List.set_cons_succ]
                refine wpAnyH_take (i := 10) (oi := ?ot11q10) (v := undef) ?hit11q10 ?hst11q10 ?hft11q10 ?hrt11q10 ?hQt11q10 (Or.inr ⟨?hwt11q10, rfl⟩) ?hSt11q10 ?restt11q10
                case hit11q10 => (simp; rfl)
                case hst11q10 => kernel_rfl
                case hft11q10 => kernel_rfl
                case hrt11q10 => kernel_rfl
                case hQt11q10 => exact fun _ _ _ h => h
                case hwt11q10 => rfl
                case hSt11q10 => assumption
                simp only [Act.put, List.setIfInBounds_toArray, List.set_cons_zero, List.set_cons_succ]
                refine wpAnyH_take (i := 11) (oi := ?ot12q11) (v := undef) ?hit12q11 ?hst12q11 ?hft12q11 ?hrt12q11 ?hQt12q11 (Or.inr ⟨?hwt12q11, rfl⟩) ?hSt12q11 ?restt12q11
                case hit12q11 => (simp; rfl)
                case hst12q11 => kernel_rfl
                case hft12q11 => kernel_rfl
                case hrt12q11 => kernel_rfl
                case hQt12q11 => exact fun _ _ _ h => h
                case hwt12q11 => rfl
                case hSt12q11 => assumption
                simp only [Act.put, List.setIfInBounds_toArray, List.set_cons_zero, List.set_cons_succ]
                refine wpAnyH_take (i := 12) (oi := ?ot13q12) (v := undef) ?hit13q12 ?hst13q12 ?hft13q12 ?hrt13q12 ?hQt13q12 (Or.inr ⟨?hwt13q12, rfl⟩) ?hSt13q12 ?restt13q12
                case hit13q12 => (simp; rfl)
                case hst13q12 => kernel_rfl
                case hft13q12 => kernel_rfl
                case hrt13q12 => kernel_rfl
                case hQt13q12 => exact fun _ _ _ h => h
                case hwt13q12 => rfl
                case hSt13q12 => assumption
                simp only [Act.put, List.setIfInBounds_toArray, List.set_cons_zero, List.set_cons_succ]
                refine wpAnyH_take (i := 13) (oi := ?ot14q13) (v := undef) ?hit14q13 ?hst14q13 ?hft14q13 ?hrt14q13 ?hQt14q13 (Or.inr ⟨?hwt14q13, rfl⟩) ?hSt14q13 ?restt14q13
                case hit14q13 => (simp; rfl)
                case hst14q13 => kernel_rfl
                case hft14q13 => kernel_rfl
                case hrt14q13 => kernel_rfl
                case hQt14q13 => exact fun _ _ _ h => h
                case hwt14q13 => rfl
                case hSt14q13 => assumption
                simp only [Act.put, List.setIfInBounds_toArray, List.set_cons_zero, List.set_cons_succ]
                refine wpAnyH_take (i := 14) (oi := ?ot15q14) (v := undef) ?hit15q14 ?hst15q14 ?hft15q14 ?hrt15q14 ?hQt15q14 (Or.inr ⟨?hwt15q14, rfl⟩) ?hSt15q14 ?restt15q14
                case hit15q14 => (simp; rfl)
                case hst15q14 => kernel_rfl
                case hft15q14 => kernel_rfl
                case hrt15q14 => kernel_rfl
                case hQt15q14 => exact fun _ _ _ h => h
                case hwt15q14 => rfl
                case hSt15q14 => assumption
                simp only [Act.put, List.setIfInBounds_toArray, List.set_cons_zero, List.set_cons_succ]
                refine wpAnyH_take (i := 15) (oi := ?ot16q15) (v := ?vt16q15) ?hit16q15 ?hst16q15 ?hft16q15 ?hrt16q15 ?hQt16q15 (Or.inl ⟨?hwt16q15, ?hyt16q15⟩) ?hSt16q15 ?restt16q15
                case hit16q15 => (simp; rfl)
                case hst16q15 => kernel_rfl
                case hft16q15 => kernel_rfl
                case hrt16q15 => kernel_rfl
                case hQt16q15 => exact fun _ _ _ h => h
                case hwt16q15 => rfl
                case hyt16q15 => (intro wq hSq; (try dsimp only at hSq); go_simp; (try with_reducible rfl))
                case hSt16q15 => assumption
                simp only [Act.put, List.setIfInBounds_toArray, List.set_cons_zero, List.set_cons_succ]
                refine wpAnyH_done (by kernel_rfl) ?_ _
                go_wp2_with fail
                rcases p with _ | ad
                · have hz : True := trivial
                  have HEW : Hid (Below wr.heap.size wr wr.drew.drew) := Lk.hid (Below.refl _ _).drew.drew
                  have HLW := Lk.hid (HLI.out.below HEW.out)
                  have HH2 : Hid (∀ a, L[k]? = some a → y.nm ≤ a ∧ y.nm ≠ a) := Lk.hid (by intro a2 h2; have := (List.getElem?_eq_some_iff.1 h2).1; rw [← HM.out] at this; omega)
                  generalize wr.drew.drew = w at HEW HLW ⊢
                  obtain ⟨HNIL, HLEN, HLIE⟩ : Hid _ ∧ Hid _ ∧ Hid _ := Lk.put_factsS0 (by rw [HM.out]; exact HLW.out.sl) HM.out hk
                  have hcap := HLW.out.sl.cap
                  rw [← HM.out] at hcap
                  have gc0 : (0 : Int) ≤ (k : Int) := by omega
                  have gc1 : (k : Int) ≤ (c : Int) := by omega
                  have gc2 : (k : Int) ≤ (k : Int) := by omega
                  have gc3 : (k : Int) ≤ (c : Int) := by omega
                  have HSW : Hid (∀ w', Below w.heap.size w w' → Below w.heap.size w w' ∧ w'.cell? ⟨b, i * 3, none⟩ = some (Lk.str y.nm)) := Lk.hid (fun w' hb => ⟨hb, by
                    obtain ⟨bq, oq, e1, hq2, hq3, -, -⟩ := Lk.HdIn.at HLW.out.al.lies HY.out
                    injection e1 with e1
                    injection e1 with e1 e2
                    subst e1 e2
                    rw [Nat.zero_add] at hq3
                    exact (Lk.belAt hb _ hq2).trans hq3⟩)
                  refine wp_region_held_drew (S := (fun w' => Below w.heap.size w w' ∧ w'.cell? ⟨b, i * 3, none⟩ = some (Lk.str y.nm))) (by kernel_rfl) (HSW.out _ ((Below.refl _ _).drew)) (fun hH => ?_)
                  refine wpAnyH_take (i := 1) (oi := ?os1q1) (v := ?vs1q1) ?his1q1 ?hss1q1 ?hfs1q1 ?hrs1q1 ?hQs1q1 (Or.inl ⟨?hws1q1, ?hys1q1⟩) ?hSs1q1 ?rests1q1
                  case his1q1 => (simp; rfl)
                  case hss1q1 => kernel_rfl
                  case hfs1q1 => kernel_rfl
                  case hrs1q1 => kernel_rfl
                  case hQs1q1 => exact fun _ _ _ h => h
                  case hws1q1 => rfl
                  case hys1q1 => (intro wq hSq; (try dsimp only at hSq); go_simp; (try with_reducible rfl))
                  case hSs1q1 => assumption
                  simp only [Act.put, List.setIfInBounds_toArray, List.set_cons_zero, List.set_cons_succ]
                  refine wpAnyH_take (i := 2) (oi := ?os2q2) (v := ?vs2q2) ?his2q2 ?hss2q2 ?hfs2q2 ?hrs2q2 ?hQs2q2 (Or.inl ⟨?hws2q2, ?hys2q2⟩) ?hSs2q2 ?rests2q2
                  case his2q2 => (simp; rfl)
                  case hss2q2 => kernel_rfl
                  case hfs2q2 => kernel_rfl
                  case hrs2q2 => kernel_rfl
                  case hQs2q2 => exact fun _ _ _ h => h
                  case hws2q2 => rfl
                  case hys2q2 => (intro wq hSq; (try dsimp only at hSq); go_simp; (try with_reducible rfl))
                  case hSs2q2 => assumption
                  simp only [Act.put, List.setIfInBounds_toArray, List.set_cons_zero, List.set_cons_succ]
                  refine wpAnyH_take (i := 3) (oi := ?os3q3) (v := ?vs3q3) ?his3q3 ?hss3q3 ?hfs3q3 ?hrs3q3 ?hQs3q3 (Or.inl ⟨?hws3q3, ?hys3q3⟩) ?hSs3q3 ?rests3q3
                  case his3q3 => (simp; rfl)
                  case hss3q3 => kernel_rfl
                  case hfs3q3 => kernel_rfl
                  case hrs3q3 => kernel_rfl
                  case hQs3q3 => exact fun _ _ _ h => h
                  case hws3q3 => rfl
                  case hys3q3 => (intro wq hSq; (try dsimp only at hSq); go_simp; (try with_reducible rfl))
                  case hSs3q3 => assumption
                  simp only [Act.put, List.setIfInBounds_toArray, List.set_cons_zero, List.set_cons_succ]
                  refine wpAnyH_take (i := 5) (oi := ?os4q5) (v := ?vs4q5) ?his4q5 ?hss4q5 ?hfs4q5 ?hrs4q5 ?hQs4q5 (Or.inl ⟨?hws4q5, ?hys4q5⟩) ?hSs4q5 ?rests4q5
                  case his4q5 => (simp; rfl)
                  case hss4q5 => kernel_rfl
                  case hfs4q5 => kernel_rfl
                  case hrs4q5 => kernel_rfl
                  case hQs4q5 => exact fun _ _ _ h => h
                  case hws4q5 => rfl
                  case hys4q5 => (intro wq hSq; (try dsimp only at hSq); go_simp; (try with_reducible rfl))
                  case hSs4q5 => assumption
                  simp only [Act.put, List.setIfInBounds_toArray, List.set_cons_zero, List.set_cons_succ]
                  refine wpAnyH_take (i := 6) (oi := ?os5q6) (v := ?vs5q6) ?his5q6 ?hss5q6 ?hfs5q6 ?hrs5q6 ?hQs5q6 (Or.inl ⟨?hws5q6, ?hys5q6⟩) ?hSs5q6 ?rests5q6
                  case his5q6 => (simp; rfl)
                  case hss5q6 => kernel_rfl
                  case hfs5q6 => kernel_rfl
                  case hrs5q6 => kernel_rfl
                  case hQs5q6 => exact fun _ _ _ h => h
                  case hws5q6 => rfl
                  case hys5q6 => (intro wq hSq; (try dsimp only at hSq); go_simp; (try with_reducible rfl))
                  case hSs5q6 => assumption
                  simp only [Act.put, List.setIfInBounds_toArray, List.set_cons_zero, List.set_cons_succ]
                  refine wpAnyH_take (i := 7) (oi := ?os6q7) (v := ?vs6q7) ?his6q7 ?hss6q7 ?hfs6q7 ?hrs6q7 ?hQs6q7 (Or.inl ⟨?hws6q7, ?hys6q7⟩) ?hSs6q7 ?rests6q7
                  case his6q7 => (simp; rfl)
                  case hss6q7 => kernel_rfl
                  case hfs6q7 => kernel_rfl
                  case hrs6q7 => kernel_rfl
                  case hQs6q7 => exact fun _ _ _ h => h
                  case hws6q7 => rfl
                  case hys6q7 => (intro wq hSq; (try dsimp only at hSq); go_simp; (try with_reducible rfl))
                  case hSs6q7 => assumption
                  simp only [Act.put, List.setIfInBounds_toArray, List.set_cons_zero, List.set_cons_succ]
                  refine wpAnyH_take (i := 8) (oi := ?os7q8) (v := ?vs7q8) ?his7q8 ?hss7q8 ?hfs7q8 ?hrs7q8 ?hQs7q8 (Or.inl ⟨?hws7q8, ?hys7q8⟩) ?hSs7q8 ?rests7q8
                  case his7q8 => (simp; rfl)
                  case hss7q8 => kernel_rfl
                  case hfs7q8 => kernel_rfl
                  case hrs7q8 => kernel_rfl
                  case hQs7q8 => exact fun _ _ _ h => h
                  case hws7q8 => rfl
                  case hys7q8 => (intro wq hSq; (try dsimp only at hSq); go_simp; (try with_reducible rfl))
                  case hSs7q8 => assumption
                  simp only [Act.put, List.setIfInBounds_toArray, List.set_cons_zero, List.set_cons_succ]
                  refine wpAnyH_take (i := 9) (oi := ?os8q9) (v := ?vs8q9) ?his8q9 ?hss8q9 ?hfs8q9 ?hrs8q9 ?hQs8q9 (Or.inl ⟨?hws8q9, ?hys8q9⟩) ?hSs8q9 ?rests8q9
                  case his8q9 => (simp; rfl)
                  case hss8q9 => kernel_rfl
                  case hfs8q9 => kernel_rfl
                  case hrs8q9 => kernel_rfl
                  case hQs8q9 => exact fun _ _ _ h => h
                  case hws8q9 => rfl
                  case hys8q9 => (intro wq hSq; (try dsimp only at hSq); go_simp; (try with_reducible rfl))
                  case hSs8q9 => assumption
                  simp only [Act.put, List.setIfInBounds_toArray, List.set_cons_zero, List.set_cons_succ]
                  refine wpAnyH_take (i := 12) (oi := ?os9q12) (v := ?vs9q12) ?his9q12 ?hss9q12 ?hfs9q12 ?hrs9q12 ?hQs9q12 (Or.inl ⟨?hws9q12, ?hys9q12⟩) ?hSs9q12 ?rests9q12
                  case his9q12 => (simp; rfl)
                  case hss9q12 => kernel_rfl
                  case hfs9q12 => kernel_rfl
                  case hrs9q12 => kernel_rfl
                  case hQs9q12 => exact fun _ _ _ h => h
                  case hws9q12 => rfl
                  case hys9q12 => (intro wq hSq; (try dsimp only at hSq); go_simp; (try with_reducible rfl))
                  case hSs9q12 => assumption
                  simp only [Act.put, List.setIfInBounds_toArray, List.set_cons_zero, List.set_cons_succ]
                  refine wpAnyH_take (i := 13) (oi := ?os10q13) (v := ?vs10q13) ?his10q13 ?hss10q13 ?hfs10q13 ?hrs10q13 ?hQs10q13 (Or.inl ⟨?hws10q13, ?hys10q13⟩) ?hSs10q13 ?rests10q13
                  case his10q13 => (simp; rfl)
                  case hss10q13 => kernel_rfl
                  case hfs10q13 => kernel_rfl
                  case hrs10q13 => kernel_rfl
                  case hQs10q13 => exact fun _ _ _ h => h
                  case hws10q13 => rfl
                  case hys10q13 => (intro wq hSq; (try dsimp only at hSq); go_simp; (try with_reducible rfl))
                  case hSs10q13 => assumption
                  simp only [Act.put, List.setIfInBounds_toArray, List.set_cons_zero, List.set_cons_succ]
                  refine wpAnyH_take (i := 14) (oi := ?os11q14) (v := ?vs11q14) ?his11q14 ?hss11q14 ?hfs11q14 ?hrs11q14 ?hQs11q14 (Or.inl ⟨?hws11q14, ?hys11q14⟩) ?hSs11q14 ?rests11q14
                  case his11q14 => (simp; rfl)
                  case hss11q14 => kernel_rfl
                  case hfs11q14 => kernel_rfl
                  case hrs11q14 => kernel_rfl
                  case hQs11q14 => exact fun _ _ _ h => h
                  case hws11q14 => rfl
                  case hys11q14 => (intro wq hSq; (try dsimp only at hSq); go_simp; (try with_reducible rfl))
                  case hSs11q14 => assumption
                  simp only [Act.put, List.setIfInBounds_toArray, List.set_cons_zero, List.set_cons_succ]
                  refine wpAnyH_ready (rs := [0, 10]) (by kernel_rfl) (by simp) ?_
                  refine AllReadyH.cons (o := ?os12q) ?hs12q (fun K hK => ?rs12q) (AllReadyH.cons (o := ?os13q) ?hs13q (fun K hK => ?rs13q) AllReadyH.nil)
                  case hs12q => (simp; rfl)
                  case hs13q => (simp; rfl)
                  case rs12q =>
                    go_simp
                    refine hK.out _ _ (HSW.out _ ((Lk.Blk.new2 (Below.refl _ w) _ (g := w.heap.size) rfl).drew.bel)) (fun hHs14q => ?_)
                    clear hK K
                    refine wpAnyH_ready (rs := [4, 10]) (by kernel_rfl) (by simp) ?_
                    refine AllReadyH.cons (o := ?os15q) ?hs15q (fun K hK => ?rs15q) (AllReadyH.cons (o := ?os16q) ?hs16q (fun K hK => ?rs16q) AllReadyH.nil)
                    case hs15q => (simp; rfl)
                    case hs16q => (simp; rfl)
                    case rs15q =>
                      refine Lk.step_append rfl _ _ 46 rfl w.heap.size 9 iS (.string ⟨#[]⟩) 1 16 Tryd.underlying46 HIS.out.1 HIS.out.2.1 HIS.out.2.2.1 HIS.out.2.2.2 rfl (by decide) (.slice (some ⟨w.heap.size, 0, none⟩) 0 0) 0 ([]) rfl (((Lk.Blk.new2 (Below.refl _ w) _ (g := w.heap.size) rfl).drew).own) _ k c (Lk.strsV (L.take k)) rfl ((fun _ => HNIL.out.1)) (HLEN.out.1) (HLIE.out.1.below ((Lk.Blk.new2 (Below.refl _ w) _ (g := w.heap.size) rfl).drew).bel) (Lk.strs_one _) (by unfold maxLen; omega) (by omega) ((((Lk.Blk.new2 (Below.refl _ w) _ (g := w.heap.size) rfl).drew).bel).size) ?_
                      intro v1 W1 hown1 hgrow1
                      rw [List.nil_append, Nat.zero_add] at hown1
                      have HB1 := Lk.hid (Lk.belOwn (size := 1) (((Lk.Blk.new2 (Below.refl _ w) _ (g := w.heap.size) rfl).drew).bel) (((Lk.Blk.new2 (Below.refl _ w) _ (g := w.heap.size) rfl).drew).own) (Nat.le_refl _) hgrow1)
                      have HOWN1 := Lk.hid hown1
                      clear hown1 hgrow1
                      refine hK.out _ _ (HSW.out _ (HB1.out)) (fun hHs17q => ?_)
                      clear hK K
                      refine wpAnyH_ready (rs := [10]) (by kernel_rfl) (by simp) ?_
                      refine AllReadyH.cons (o := ?os18q) ?hs18q (fun K hK => ?rs18q) AllReadyH.nil
                      case hs18q => (simp; rfl)
                      case rs18q =>
                        go_simp
                        refine hK.out _ _ (HSW.out _ (Lk.belAl HB1.out _)) (fun hHs19q => ?_)
                        clear hK K
                        refine wpAnyH_ready (rs := [11]) (by kernel_rfl) (by simp) ?_
                        refine AllReadyH.cons (o := ?os20q) ?hs20q (fun K hK => ?rs20q) AllReadyH.nil
                        case hs20q => (simp; rfl)
                        case rs20q =>
                          refine Lk.step_append rfl _ _ 46 rfl w.heap.size 9 iS (.string ⟨#[]⟩) 1 16 Tryd.underlying46 HIS.out.1 HIS.out.2.1 HIS.out.2.2.1 HIS.out.2.2.2 rfl (by decide) v1 k (Lk.strsV (L.take k)) rfl (HOWN1.out.alloc _) (some ⟨W1.heap.size, 0, none⟩) 1 1 ([Lk.str y.nm]) rfl (fun h => nomatch h) (rfl) ((Lk.Blk.new HB1.out _).lies (cs := [Lk.str y.nm])) (Lk.strs_one [y.nm]) (by unfold maxLen; omega) (by omega) ((Lk.belAl HB1.out _).size) ?_
                          intro v2 W2 hown2 hgrow2
                          have HB2 := Lk.hid (Lk.belOwn (size := 1) (Lk.belAl HB1.out _) (HOWN1.out.alloc _) (Nat.le_refl _) hgrow2)
                          have HOWN2 := Lk.hid hown2
                          clear hown2 hgrow2
                          refine hK.out _ _ (HSW.out _ (HB2.out)) (fun hHs21q => ?_)
                          clear hK K
                          refine wpAnyH_ready (rs := [15]) (by kernel_rfl) (by simp) ?_
                          refine AllReadyH.cons (o := ?os22q) ?hs22q (fun K hK => ?rs22q) AllReadyH.nil
                          case hs22q => (simp; rfl)
                          case rs22q =>
                            refine Lk.step_append rfl _ _ 46 rfl w.heap.size 9 iS (.string ⟨#[]⟩) 1 16 Tryd.underlying46 HIS.out.1 HIS.out.2.1 HIS.out.2.2.1 HIS.out.2.2.2 rfl (by decide) v2 (k + 1) (Lk.strsV (L.take k) ++ [Lk.str y.nm]) rfl (HOWN2.out) _ _ _ (Lk.strsV (L.drop k)) rfl (fun _ => by have := HNIL.out.2; omega) (by have := HLEN.out.2; simpa using this) (HLIE.out.2.below HB2.out) (Lk.strs_one _) (by unfold maxLen; omega) (by omega) ((HB2.out).size) ?_
                            intro v3 W3 hown3 hgrow3
                            have HB3 := Lk.hid (Lk.belOwn (size := 1) (HB2.out) (HOWN2.out) (Nat.le_refl _) hgrow3)
                            have HOWN3 := Lk.hid hown3
                            clear hown3 hgrow3
                            refine hK.out _ _ (HSW.out _ (HB3.out)) (fun hHs23q => ?_)
                            clear hK K
                            refine wpAnyH_take (i := 16) (oi := ?os24q16) (v := ?vs24q16) ?his24q16 ?hss24q16 ?hfs24q16 ?hrs24q16 ?hQs24q16 (Or.inl ⟨?hws24q16, ?hys24q16⟩) ?hSs24q16 ?rests24q16
                            case his24q16 => (simp; rfl)
                            case hss24q16 => kernel_rfl
                            case hfs24q16 => kernel_rfl
                            case hrs24q16 => kernel_rfl
                            case hQs24q16 => exact fun _ _ _ h => h
                            case hws24q16 => rfl
                            case hys24q16 => (intro wq hSq; (try dsimp only at hSq); go_simp; (try with_reducible rfl))
                            case hSs24q16 => assumption
                            simp only [Act.put, List.setIfInBounds_toArray, List.set_cons_zero, List.set_cons_succ]
                            refine wpAnyH_done (by kernel_rfl) ?_ _
                            obtain ⟨p3, c3, rfl, hS3⟩ := Lk.Sl.own HOWN3.out
                            obtain ⟨hN1, hN2⟩ := HLW.out.put HB3.out HY.out (by rw [← HM.out]; exact hk) HK.out HH2.out (by rw [← HM.out]; simpa using hS3)
                            have HNF := Lk.hid (And.intro hN1 hN2)
                            clear hN1 hN2 hS3 HOWN3 HOWN2 HOWN1
                            go_wp2_with fail
                            all_goals
                              exact ⟨⟨i + 1, p3, c3, L.take k ++ [y.nm] ++ L.drop k, by omega, by go_num, by rw [HNF.out.2, ← HM.out]; first | done | simp, HNF.out.1⟩, by simp [RowKit.intOf]; omega⟩
                    case rs16q =>
                      go_simp
                      refine hK.out _ _ (HSW.out _ ((Lk.Blk.new2 (Lk.belAl (Below.refl _ w) _) _ (g := w.heap.size + 1) (by simp)).drew.bel)) (fun hHs25q => ?_)
                      clear hK K
                      refine wpAnyH_ready (rs := [4]) (by kernel_rfl) (by simp) ?_
                      refine AllReadyH.cons (o := ?os26q) ?hs26q (fun K hK => ?rs26q) AllReadyH.nil
                      case hs26q => (simp; rfl)
                      case rs26q =>
                        refine Lk.step_append rfl _ _ 46 rfl w.heap.size 9 iS (.string ⟨#[]⟩) 1 16 Tryd.underlying46 HIS.out.1 HIS.out.2.1 HIS.out.2.2.1 HIS.out.2.2.2 rfl (by decide) (.slice (some ⟨w.heap.size, 0, none⟩) 0 0) 0 ([]) rfl ((((Lk.Blk.new2 (Below.refl _ w) _ (g := w.heap.size) rfl).alloc _).drew).own) _ k c (Lk.strsV (L.take k)) rfl ((fun _ => HNIL.out.1)) (HLEN.out.1) (HLIE.out.1.below (((Lk.Blk.new2 (Below.refl _ w) _ (g := w.heap.size) rfl).alloc _).drew).bel) (Lk.strs_one _) (by unfold maxLen; omega) (by omega) (((((Lk.Blk.new2 (Below.refl _ w) _ (g := w.heap.size) rfl).alloc _).drew).bel).size) ?_
                        intro v1 W1 hown1 hgrow1
                        rw [List.nil_append, Nat.zero_add] at hown1
                        have HB1 := Lk.hid (Lk.belOwn (size := 1) ((((Lk.Blk.new2 (Below.refl _ w) _ (g := w.heap.size) rfl).alloc _).drew).bel) ((((Lk.Blk.new2 (Below.refl _ w) _ (g := w.heap.size) rfl).alloc _).drew).own) (Nat.le_refl _) hgrow1)
                        have HOWN1 := Lk.hid hown1
                        have HX1 := Lk.hid (((Lk.Blk.new2 (Lk.belAl (Below.refl _ w) _) _ (g := w.heap.size + 1) (by simp)).drew).grown hgrow1 (by simp [Value.ownBlock]) (fun k hk => by cases hk; exact Nat.le_refl _))
                        clear hown1 hgrow1
                        refine hK.out _ _ (HSW.out _ (HB1.out)) (fun hHs27q => ?_)
                        clear hK K
                        refine wpAnyH_ready (rs := [11]) (by kernel_rfl) (by simp) ?_
                        refine AllReadyH.cons (o := ?os28q) ?hs28q (fun K hK => ?rs28q) AllReadyH.nil
                        case hs28q => (simp; rfl)
                        case rs28q =>
                          refine Lk.step_append rfl _ _ 46 rfl w.heap.size 9 iS (.string ⟨#[]⟩) 1 16 Tryd.underlying46 HIS.out.1 HIS.out.2.1 HIS.out.2.2.1 HIS.out.2.2.2 rfl (by decide) v1 k (Lk.strsV (L.take k)) rfl (HOWN1.out) (some ⟨w.heap.size + 1, 0, none⟩) 1 1 ([Lk.str y.nm]) rfl (fun h => nomatch h) (rfl) (HX1.out.lies (cs := [Lk.str y.nm])) (Lk.strs_one [y.nm]) (by unfold maxLen; omega) (by omega) ((HB1.out).size) ?_
                          intro v2 W2 hown2 hgrow2
                          have HB2 := Lk.hid (Lk.belOwn (size := 1) (HB1.out) (HOWN1.out) (Nat.le_refl _) hgrow2)
                          have HOWN2 := Lk.hid hown2
                          clear hown2 hgrow2
                          refine hK.out _ _ (HSW.out _ (HB2.out)) (fun hHs29q => ?_)
                          clear hK K
                          refine wpAnyH_ready (rs := [15]) (by kernel_rfl) (by simp) ?_
                          refine AllReadyH.cons (o := ?os30q) ?hs30q (fun K hK => ?rs30q) AllReadyH.nil
                          case hs30q => (simp; rfl)
                          case rs30q =>
                            refine Lk.step_append rfl _ _ 46 rfl w.heap.size 9 iS (.string ⟨#[]⟩) 1 16 Tryd.underlying46 HIS.out.1 HIS.out.2.1 HIS.out.2.2.1 HIS.out.2.2.2 rfl (by decide) v2 (k + 1) (Lk.strsV (L.take k) ++ [Lk.str y.nm]) rfl (HOWN2.out) _ _ _ (Lk.strsV (L.drop k)) rfl (fun _ => by have := HNIL.out.2; omega) (by have := HLEN.out.2; simpa using this) (HLIE.out.2.below HB2.out) (Lk.strs_one _) (by unfold maxLen; omega) (by omega) ((HB2.out).size) ?_
                            intro v3 W3 hown3 hgrow3
                            have HB3 := Lk.hid (Lk.belOwn (size := 1) (HB2.out) (HOWN2.out) (Nat.le_refl _) hgrow3)
                            have HOWN3 := Lk.hid hown3
                            clear hown3 hgrow3
                            refine hK.out _ _ (HSW.out _ (HB3.out)) (fun hHs31q => ?_)
                            clear hK K
                            refine wpAnyH_take (i := 16) (oi := ?os32q16) (v := ?vs32q16) ?his32q16 ?hss32q16 ?hfs32q16 ?hrs32q16 ?hQs32q16 (Or.inl ⟨?hws32q16, ?hys32q16⟩) ?hSs32q16 ?rests32q16
                            case his32q16 => (simp; rfl)
                            case hss32q16 => kernel_rfl
                            case hfs32q16 => kernel_rfl
                            case hrs32q16 => kernel_rfl
                            case hQs32q16 => exact fun _ _ _ h => h
                            case hws32q16 => rfl
                            case hys32q16 => (intro wq hSq; (try dsimp only at hSq); go_simp; (try with_reducible rfl))
                            case hSs32q16 => assumption
                            simp only [Act.put, List.setIfInBounds_toArray, List.set_cons_zero, List.set_cons_succ]
                            refine wpAnyH_done (by kernel_rfl) ?_ _
                            obtain ⟨p3, c3, rfl, hS3⟩ := Lk.Sl.own HOWN3.out
                            obtain ⟨hN1, hN2⟩ := HLW.out.put HB3.out HY.out (by rw [← HM.out]; exact hk) HK.out HH2.out (by rw [← HM.out]; simpa using hS3)
                            have HNF := Lk.hid (And.intro hN1 hN2)
                            clear hN1 hN2 hS3 HOWN3 HOWN2 HOWN1
                            go_wp2_with fail
                            all_goals
                              exact ⟨⟨i + 1, p3, c3, L.take k ++ [y.nm] ++ L.drop k, by omega, by go_num, by rw [HNF.out.2, ← HM.out]; first | done | simp, HNF.out.1⟩, by simp [RowKit.intOf]; omega⟩
                  case rs13q =>
                    go_simp
                    refine hK.out _ _ (HSW.out _ ((Lk.Blk.new2 (Below.refl _ w) _ (g := w.heap.size) rfl).drew.bel)) (fun hHs33q => ?_)
                    clear hK K
                    refine wpAnyH_ready (rs := [0]) (by kernel_rfl) (by simp) ?_
                    refine AllReadyH.cons (o := ?os34q) ?hs34q (fun K hK => ?rs34q) AllReadyH.nil
                    case hs34q => (simp; rfl)
                    case rs34q =>
                      go_simp
                      refine hK.out _ _ (HSW.out _ ((Lk.Blk.new2 (Lk.belAl (Below.refl _ w) _) _ (g := w.heap.size + 1) (by simp)).drew.bel)) (fun hHs35q => ?_)
                      clear hK K
                      refine wpAnyH_ready (rs := [4]) (by kernel_rfl) (by simp) ?_
                      refine AllReadyH.cons (o := ?os36q) ?hs36q (fun K hK => ?rs36q) AllReadyH.nil
                      case hs36q => (simp; rfl)
                      case rs36q =>
                        refine Lk.step_append rfl _ _ 46 rfl w.heap.size 9 iS (.string ⟨#[]⟩) 1 16 Tryd.underlying46 HIS.out.1 HIS.out.2.1 HIS.out.2.2.1 HIS.out.2.2.2 rfl (by decide) (.slice (some ⟨w.heap.size + 1, 0, none⟩) 0 0) 0 ([]) rfl (((Lk.Blk.new2 (Lk.belAl (Below.refl _ w) _) _ (g := w.heap.size + 1) (by simp)).drew).own) _ k c (Lk.strsV (L.take k)) rfl ((fun _ => HNIL.out.1)) (HLEN.out.1) (HLIE.out.1.below ((Lk.Blk.new2 (Lk.belAl (Below.refl _ w) _) _ (g := w.heap.size + 1) (by simp)).drew).bel) (Lk.strs_one _) (by unfold maxLen; omega) (by omega) ((((Lk.Blk.new2 (Lk.belAl (Below.refl _ w) _) _ (g := w.heap.size + 1) (by simp)).drew).bel).size) ?_
                        intro v1 W1 hown1 hgrow1
                        rw [List.nil_append, Nat.zero_add] at hown1
                        have HB1 := Lk.hid (Lk.belOwn (size := 1) (((Lk.Blk.new2 (Lk.belAl (Below.refl _ w) _) _ (g := w.heap.size + 1) (by simp)).drew).bel) (((Lk.Blk.new2 (Lk.belAl (Below.refl _ w) _) _ (g := w.heap.size + 1) (by simp)).drew).own) (Nat.le_refl _) hgrow1)
                        have HOWN1 := Lk.hid hown1
                        have HX1 := Lk.hid ((((Lk.Blk.new2 (Below.refl _ w) _ (g := w.heap.size) rfl).alloc _).drew).grown hgrow1 (by simp [Value.ownBlock]) (fun k hk => by cases hk; simp))
                        clear hown1 hgrow1
                        refine hK.out _ _ (HSW.out _ (HB1.out)) (fun hHs37q => ?_)
                        clear hK K
                        refine wpAnyH_ready (rs := [11]) (by kernel_rfl) (by simp) ?_
                        refine AllReadyH.cons (o := ?os38q) ?hs38q (fun K hK => ?rs38q) AllReadyH.nil
                        case hs38q => (simp; rfl)
                        case rs38q =>
                          refine Lk.step_append rfl _ _ 46 rfl w.heap.size 9 iS (.string ⟨#[]⟩) 1 16 Tryd.underlying46 HIS.out.1 HIS.out.2.1 HIS.out.2.2.1 HIS.out.2.2.2 rfl (by decide) v1 k (Lk.strsV (L.take k)) rfl (HOWN1.out) (some ⟨w.heap.size, 0, none⟩) 1 1 ([Lk.str y.nm]) rfl (fun h => nomatch h) (rfl) (HX1.out.lies (cs := [Lk.str y.nm])) (Lk.strs_one [y.nm]) (by unfold maxLen; omega) (by omega) ((HB1.out).size) ?_
                          intro v2 W2 hown2 hgrow2
                          have HB2 := Lk.hid (Lk.belOwn (size := 1) (HB1.out) (HOWN1.out) (Nat.le_refl _) hgrow2)
                          have HOWN2 := Lk.hid hown2
                          clear hown2 hgrow2
                          refine hK.out _ _ (HSW.out _ (HB2.out)) (fun hHs39q => ?_)
                          clear hK K
                          refine wpAnyH_ready (rs := [15]) (by kernel_rfl) (by simp) ?_
                          refine AllReadyH.cons (o := ?os40q) ?hs40q (fun K hK => ?rs40q) AllReadyH.nil
                          case hs40q => (simp; rfl)
                          case rs40q =>
                            refine Lk.step_append rfl _ _ 46 rfl w.heap.size 9 iS (.string ⟨#[]⟩) 1 16 Tryd.underlying46 HIS.out.1 HIS.out.2.1 HIS.out.2.2.1 HIS.out.2.2.2 rfl (by decide) v2 (k + 1) (Lk.strsV (L.take k) ++ [Lk.str y.nm]) rfl (HOWN2.out) _ _ _ (Lk.strsV (L.drop k)) rfl (fun _ => by have := HNIL.out.2; omega) (by have := HLEN.out.2; simpa using this) (HLIE.out.2.below HB2.out) (Lk.strs_one _) (by unfold maxLen; omega) (by omega) ((HB2.out).size) ?_
                            intro v3 W3 hown3 hgrow3
                            have HB3 := Lk.hid (Lk.belOwn (size := 1) (HB2.out) (HOWN2.out) (Nat.le_refl _) hgrow3)
                            have HOWN3 := Lk.hid hown3
                            clear hown3 hgrow3
                            refine hK.out _ _ (HSW.out _ (HB3.out)) (fun hHs41q => ?_)
                            clear hK K
                            refine wpAnyH_take (i := 16) (oi := ?os42q16) (v := ?vs42q16) ?his42q16 ?hss42q16 ?hfs42q16 ?hrs42q16 ?hQs42q16 (Or.inl ⟨?hws42q16, ?hys42q16⟩) ?hSs42q16 ?rests42q16
                            case his42q16 => (simp; rfl)
                            case hss42q16 => kernel_rfl
                            case hfs42q16 => kernel_rfl
                            case hrs42q16 => kernel_rfl
                            case hQs42q16 => exact fun _ _ _ h => h
                            case hws42q16 => rfl
                            case hys42q16 => (intro wq hSq; (try dsimp only at hSq); go_simp; (try with_reducible rfl))
                            case hSs42q16 => assumption
                            simp only [Act.put, List.setIfInBounds_toArray, List.set_cons_zero, List.set_cons_succ]
                            refine wpAnyH_done (by kernel_rfl) ?_ _
                            obtain ⟨p3, c3, rfl, hS3⟩ := Lk.Sl.own HOWN3.out
                            obtain ⟨hN1, hN2⟩ := HLW.out.put HB3.out HY.out (by rw [← HM.out]; exact hk) HK.out HH2.out (by rw [← HM.out]; simpa using hS3)
                            have HNF := Lk.hid (And.intro hN1 hN2)
                            clear hN1 hN2 hS3 HOWN3 HOWN2 HOWN1
                            go_wp2_with fail
                            all_goals
                              exact ⟨⟨i + 1, p3, c3, L.take k ++ [y.nm] ++ L.drop k, by omega, by go_num, by rw [HNF.out.2, ← HM.out]; first | done | simp, HNF.out.1⟩, by simp [RowKit.intOf]; omega⟩
                · obtain ⟨b2, rfl⟩ := HLI.out.sl.zero ad rfl
                  have HEW : Hid (Below wr.heap.size wr wr.drew.drew) := Lk.hid (Below.refl _ _).drew.drew
                  have HLW := Lk.hid (HLI.out.below HEW.out)
                  have HH2 : Hid (∀ a, L[k]? = some a → y.nm ≤ a ∧ y.nm ≠ a) := Lk.hid (by intro a2 h2; have := (List.getElem?_eq_some_iff.1 h2).1; rw [← HM.out] at this; omega)
                  generalize wr.drew.drew = w at HEW HLW ⊢
                  obtain ⟨HNIL, HLEN, HLIE⟩ : Hid _ ∧ Hid _ ∧ Hid _ := Lk.put_factsS (by rw [HM.out]; exact HLW.out.sl) HM.out hk
                  have hcap := HLW.out.sl.cap
                  rw [← HM.out] at hcap
                  have gc0 : (0 : Int) ≤ (k : Int) := by omega
                  have gc1 : (k : Int) ≤ (c : Int) := by omega
                  have gc2 : (k : Int) ≤ (k : Int) := by omega
                  have gc3 : (k : Int) ≤ (c : Int) := by omega
                  have HSW : Hid (∀ w', Below w.heap.size w w' → Below w.heap.size w w' ∧ w'.cell? ⟨b, i * 3, none⟩ = some (Lk.str y.nm)) := Lk.hid (fun w' hb => ⟨hb, by
                    obtain ⟨bq, oq, e1, hq2, hq3, -, -⟩ := Lk.HdIn.at HLW.out.al.lies HY.out
                    injection e1 with e1
                    injection e1 with e1 e2
                    subst e1 e2
                    rw [Nat.zero_add] at hq3
                    exact (Lk.belAt hb _ hq2).trans hq3⟩)
                  refine wp_region_held_drew (S := (fun w' => Below w.heap.size w w' ∧ w'.cell? ⟨b, i * 3, none⟩ = some (Lk.str y.nm))) (by kernel_rfl) (HSW.out _ ((Below.refl _ _).drew)) (fun hH => ?_)
                  refine wpAnyH_take (i := 1) (oi := ?or1q1) (v := ?vr1q1) ?hir1q1 ?hsr1q1 ?hfr1q1 ?hrr1q1 ?hQr1q1 (Or.inl ⟨?hwr1q1, ?hyr1q1⟩) ?hSr1q1 ?restr1q1
                  case hir1q1 => (simp; rfl)
                  case hsr1q1 => kernel_rfl
                  case hfr1q1 => kernel_rfl
                  case hrr1q1 => kernel_rfl
                  case hQr1q1 => exact fun _ _ _ h => h
                  case hwr1q1 => rfl
                  case hyr1q1 => (intro wq hSq; (try dsimp only at hSq); go_simp; (try with_reducible rfl))
                  case hSr1q1 => assumption
                  simp only [Act.put, List.setIfInBounds_toArray, List.set_cons_zero, List.set_cons_succ]
                  refine wpAnyH_take (i := 2) (oi := ?or2q2) (v := ?vr2q2) ?hir2q2 ?hsr2q2 ?hfr2q2 ?hrr2q2 ?hQr2q2 (Or.inl ⟨?hwr2q2, ?hyr2q2⟩) ?hSr2q2 ?restr2q2
                  case hir2q2 => (simp; rfl)
                  case hsr2q2 => kernel_rfl
                  case hfr2q2 => kernel_rfl
                  case hrr2q2 => kernel_rfl
                  case hQr2q2 => exact fun _ _ _ h => h
                  case hwr2q2 => rfl
                  case hyr2q2 => (intro wq hSq; (try dsimp only at hSq); go_simp; (try with_reducible rfl))
                  case hSr2q2 => assumption
                  simp only [Act.put, List.setIfInBounds_toArray, List.set_cons_zero, List.set_cons_succ]
                  refine wpAnyH_take (i := 3) (oi := ?or3q3) (v := ?vr3q3) ?hir3q3 ?hsr3q3 ?hfr3q3 ?hrr3q3 ?hQr3q3 (Or.inl ⟨?hwr3q3, ?hyr3q3⟩) ?hSr3q3 ?restr3q3
                  case hir3q3 => (simp; rfl)
                  case hsr3q3 => kernel_rfl
                  case hfr3q3 => kernel_rfl
                  case hrr3q3 => kernel_rfl
                  case hQr3q3 => exact fun _ _ _ h => h
                  case hwr3q3 => rfl
                  case hyr3q3 => (intro wq hSq; (try dsimp only at hSq); go_simp; (try with_reducible rfl))
                  case hSr3q3 => assumption
                  simp only [Act.put, List.setIfInBounds_toArray, List.set_cons_zero, List.set_cons_succ]
                  refine wpAnyH_take (i := 5) (oi := ?or4q5) (v := ?vr4q5) ?hir4q5 ?hsr4q5 ?hfr4q5 ?hrr4q5 ?hQr4q5 (Or.inl ⟨?hwr4q5, ?hyr4q5⟩) ?hSr4q5 ?restr4q5
                  case hir4q5 => (simp; rfl)
                  case hsr4q5 => kernel_rfl
                  case hfr4q5 => kernel_rfl
                  case hrr4q5 => kernel_rfl
                  case hQr4q5 => exact fun _ _ _ h => h
                  case hwr4q5 => rfl
                  case hyr4q5 => (intro wq hSq; (try dsimp only at hSq); go_simp; (try with_reducible rfl))
                  case hSr4q5 => assumption
                  simp only [Act.put, List.setIfInBounds_toArray, List.set_cons_zero, List.set_cons_succ]
                  refine wpAnyH_take (i := 6) (oi := ?or5q6) (v := ?vr5q6) ?hir5q6 ?hsr5q6 ?hfr5q6 ?hrr5q6 ?hQr5q6 (Or.inl ⟨?hwr5q6, ?hyr5q6⟩) ?hSr5q6 ?restr5q6
                  case hir5q6 => (simp; rfl)
                  case hsr5q6 => kernel_rfl
                  case hfr5q6 => kernel_rfl
                  case hrr5q6 => kernel_rfl
                  case hQr5q6 => exact fun _ _ _ h => h
                  case hwr5q6 => rfl
                  case hyr5q6 => (intro wq hSq; (try dsimp only at hSq); go_simp; (try with_reducible rfl))
                  case hSr5q6 => assumption
                  simp only [Act.put, List.setIfInBounds_toArray, List.set_cons_zero, List.set_cons_succ]
                  refine wpAnyH_take (i := 7) (oi := ?or6q7) (v := ?vr6q7) ?hir6q7 ?hsr6q7 ?hfr6q7 ?hrr6q7 ?hQr6q7 (Or.inl ⟨?hwr6q7, ?hyr6q7⟩) ?hSr6q7 ?restr6q7
                  case hir6q7 => (simp; rfl)
                  case hsr6q7 => kernel_rfl
                  case hfr6q7 => kernel_rfl
                  case hrr6q7 => kernel_rfl
                  case hQr6q7 => exact fun _ _ _ h => h
                  case hwr6q7 => rfl
                  case hyr6q7 => (intro wq hSq; (try dsimp only at hSq); go_simp; (try with_reducible rfl))
                  case hSr6q7 => assumption
                  simp only [Act.put, List.setIfInBounds_toArray, List.set_cons_zero, List.set_cons_succ]
                  refine wpAnyH_take (i := 8) (oi := ?or7q8) (v := ?vr7q8) ?hir7q8 ?hsr7q8 ?hfr7q8 ?hrr7q8 ?hQr7q8 (Or.inl ⟨?hwr7q8, ?hyr7q8⟩) ?hSr7q8 ?restr7q8
                  case hir7q8 => (simp; rfl)
                  case hsr7q8 => kernel_rfl
                  case hfr7q8 => kernel_rfl
                  case hrr7q8 => kernel_rfl
                  case hQr7q8 => exact fun _ _ _ h => h
                  case hwr7q8 => rfl
                  case hyr7q8 => (intro wq hSq; (try dsimp only at hSq); go_simp; (try with_reducible rfl))
                  case hSr7q8 => assumption
                  simp only [Act.put, List.setIfInBounds_toArray, List.set_cons_zero, List.set_cons_succ]
                  refine wpAnyH_take (i := 9) (oi := ?or8q9) (v := ?vr8q9) ?hir8q9 ?hsr8q9 ?hfr8q9 ?hrr8q9 ?hQr8q9 (Or.inl ⟨?hwr8q9, ?hyr8q9⟩) ?hSr8q9 ?restr8q9
                  case hir8q9 => (simp; rfl)
                  case hsr8q9 => kernel_rfl
                  case hfr8q9 => kernel_rfl
                  case hrr8q9 => kernel_rfl
                  case hQr8q9 => exact fun _ _ _ h => h
                  case hwr8q9 => rfl
                  case hyr8q9 => (intro wq hSq; (try dsimp only at hSq); go_simp; (try with_reducible rfl))
                  case hSr8q9 => assumption
                  simp only [Act.put, List.setIfInBounds_toArray, List.set_cons_zero, List.set_cons_succ]
                  refine wpAnyH_take (i := 12) (oi := ?or9q12) (v := ?vr9q12) ?hir9q12 ?hsr9q12 ?hfr9q12 ?hrr9q12 ?hQr9q12 (Or.inl ⟨?hwr9q12, ?hyr9q12⟩) ?hSr9q12 ?restr9q12
                  case hir9q12 => (simp; rfl)
                  case hsr9q12 => kernel_rfl
                  case hfr9q12 => kernel_rfl
                  case hrr9q12 => kernel_rfl
                  case hQr9q12 => exact fun _ _ _ h => h
                  case hwr9q12 => rfl
                  case hyr9q12 => (intro wq hSq; (try dsimp only at hSq); go_simp; (try with_reducible rfl))
                  case hSr9q12 => assumption
                  simp only [Act.put, List.setIfInBounds_toArray, List.set_cons_zero, List.set_cons_succ]
                  refine wpAnyH_take (i := 13) (oi := ?or10q13) (v := ?vr10q13) ?hir10q13 ?hsr10q13 ?hfr10q13 ?hrr10q13 ?hQr10q13 (Or.inl ⟨?hwr10q13, ?hyr10q13⟩) ?hSr10q13 ?restr10q13
                  case hir10q13 => (simp; rfl)
                  case hsr10q13 => kernel_rfl
                  case hfr10q13 => kernel_rfl
                  case hrr10q13 => kernel_rfl
                  case hQr10q13 => exact fun _ _ _ h => h
                  case hwr10q13 => rfl
                  case hyr10q13 => (intro wq hSq; (try dsimp only at hSq); go_simp; (try with_reducible rfl))
                  case hSr10q13 => assumption
                  simp only [Act.put, List.setIfInBounds_toArray, List.set_cons_zero, List.set_cons_succ]
                  refine wpAnyH_take (i := 14) (oi := ?or11q14) (v := ?vr11q14) ?hir11q14 ?hsr11q14 ?hfr11q14 ?hrr11q14 ?hQr11q14 (Or.inl ⟨?hwr11q14, ?hyr11q14⟩) ?hSr11q14 ?restr11q14
                  case hir11q14 => (simp; rfl)
                  case hsr11q14 => kernel_rfl
                  case hfr11q14 => kernel_rfl
                  case hrr11q14 => kernel_rfl
                  case hQr11q14 => exact fun _ _ _ h => h
                  case hwr11q14 => rfl
                  case hyr11q14 => (intro wq hSq; (try dsimp only at hSq); go_simp; (try with_reducible rfl))
                  case hSr11q14 => assumption
                  simp only [Act.put, List.setIfInBounds_toArray, List.set_cons_zero, List.set_cons_succ]
                  refine wpAnyH_ready (rs := [0, 10]) (by kernel_rfl) (by simp) ?_
                  refine AllReadyH.cons (o := ?or12q) ?hr12q (fun K hK => ?rr12q) (AllReadyH.cons (o := ?or13q) ?hr13q (fun K hK => ?rr13q) AllReadyH.nil)
                  case hr12q => (simp; rfl)
                  case hr13q => (simp; rfl)
                  case rr12q =>
                    go_simp
                    refine hK.out _ _ (HSW.out _ ((Lk.Blk.new2 (Below.refl _ w) _ (g := w.heap.size) rfl).drew.bel)) (fun hHr14q => ?_)
                    clear hK K
                    refine wpAnyH_ready (rs := [4, 10]) (by kernel_rfl) (by simp) ?_
                    refine AllReadyH.cons (o := ?or15q) ?hr15q (fun K hK => ?rr15q) (AllReadyH.cons (o := ?or16q) ?hr16q (fun K hK => ?rr16q) AllReadyH.nil)
                    case hr15q => (simp; rfl)
                    case hr16q => (simp; rfl)
                    case rr15q =>
                      refine Lk.step_append rfl _ _ 46 rfl w.heap.size 9 iS (.string ⟨#[]⟩) 1 16 Tryd.underlying46 HIS.out.1 HIS.out.2.1 HIS.out.2.2.1 HIS.out.2.2.2 rfl (by decide) (.slice (some ⟨w.heap.size, 0, none⟩) 0 0) 0 ([]) rfl (((Lk.Blk.new2 (Below.refl _ w) _ (g := w.heap.size) rfl).drew).own) _ k c (Lk.strsV (L.take k)) rfl (HNIL.out.1) (HLEN.out.1) (HLIE.out.1.below ((Lk.Blk.new2 (Below.refl _ w) _ (g := w.heap.size) rfl).drew).bel) (Lk.strs_one _) (by unfold maxLen; omega) (by omega) ((((Lk.Blk.new2 (Below.refl _ w) _ (g := w.heap.size) rfl).drew).bel).size) ?_
                      intro v1 W1 hown1 hgrow1
                      rw [List.nil_append, Nat.zero_add] at hown1
                      have HB1 := Lk.hid (Lk.belOwn (size := 1) (((Lk.Blk.new2 (Below.refl _ w) _ (g := w.heap.size) rfl).drew).bel) (((Lk.Blk.new2 (Below.refl _ w) _ (g := w.heap.size) rfl).drew).own) (Nat.le_refl _) hgrow1)
                      have HOWN1 := Lk.hid hown1
                      clear hown1 hgrow1
                      refine hK.out _ _ (HSW.out _ (HB1.out)) (fun hHr17q => ?_)
                      clear hK K
                      refine wpAnyH_ready (rs := [10]) (by kernel_rfl) (by simp) ?_
                      refine AllReadyH.cons (o := ?or18q) ?hr18q (fun K hK => ?rr18q) AllReadyH.nil
                      case hr18q => (simp; rfl)
                      case rr18q =>
                        go_simp
                        refine hK.out _ _ (HSW.out _ (Lk.belAl HB1.out _)) (fun hHr19q => ?_)
                        clear hK K
                        refine wpAnyH_ready (rs := [11]) (by kernel_rfl) (by simp) ?_
                        refine AllReadyH.cons (o := ?or20q) ?hr20q (fun K hK => ?rr20q) AllReadyH.nil
                        case hr20q => (simp; rfl)
                        case rr20q =>
                          refine Lk.step_append rfl _ _ 46 rfl w.heap.size 9 iS (.string ⟨#[]⟩) 1 16 Tryd.underlying46 HIS.out.1 HIS.out.2.1 HIS.out.2.2.1 HIS.out.2.2.2 rfl (by decide) v1 k (Lk.strsV (L.take k)) rfl (HOWN1.out.alloc _) (some ⟨W1.heap.size, 0, none⟩) 1 1 ([Lk.str y.nm]) rfl (fun h => nomatch h) (rfl) ((Lk.Blk.new HB1.out _).lies (cs := [Lk.str y.nm])) (Lk.strs_one [y.nm]) (by unfold maxLen; omega) (by omega) ((Lk.belAl HB1.out _).size) ?_
                          intro v2 W2 hown2 hgrow2
                          have HB2 := Lk.hid (Lk.belOwn (size := 1) (Lk.belAl HB1.out _) (HOWN1.out.alloc _) (Nat.le_refl _) hgrow2)
                          have HOWN2 := Lk.hid hown2
                          clear hown2 hgrow2
                          refine hK.out _ _ (HSW.out _ (HB2.out)) (fun hHr21q => ?_)
                          clear hK K
                          refine wpAnyH_ready (rs := [15]) (by kernel_rfl) (by simp) ?_
                          refine AllReadyH.cons (o := ?or22q) ?hr22q (fun K hK => ?rr22q) AllReadyH.nil
                          case hr22q => (simp; rfl)
                          case rr22q =>
                            refine Lk.step_append rfl _ _ 46 rfl w.heap.size 9 iS (.string ⟨#[]⟩) 1 16 Tryd.underlying46 HIS.out.1 HIS.out.2.1 HIS.out.2.2.1 HIS.out.2.2.2 rfl (by decide) v2 (k + 1) (Lk.strsV (L.take k) ++ [Lk.str y.nm]) rfl (HOWN2.out) _ _ _ (Lk.strsV (L.drop k)) rfl (fun h => by split at h <;> cases h) (by have := HLEN.out.2; simpa using this) (HLIE.out.2.below HB2.out) (Lk.strs_one _) (by unfold maxLen; omega) (by omega) ((HB2.out).size) ?_
                            intro v3 W3 hown3 hgrow3
                            have HB3 := Lk.hid (Lk.belOwn (size := 1) (HB2.out) (HOWN2.out) (Nat.le_refl _) hgrow3)
                            have HOWN3 := Lk.hid hown3
                            clear hown3 hgrow3
                            refine hK.out _ _ (HSW.out _ (HB3.out)) (fun hHr23q => ?_)
                            clear hK K
                            refine wpAnyH_take (i := 16) (oi := ?or24q16) (v := ?vr24q16) ?hir24q16 ?hsr24q16 ?hfr24q16 ?hrr24q16 ?hQr24q16 (Or.inl ⟨?hwr24q16, ?hyr24q16⟩) ?hSr24q16 ?restr24q16
                            case hir24q16 => (simp; rfl)
                            case hsr24q16 => kernel_rfl
                            case hfr24q16 => kernel_rfl
                            case hrr24q16 => kernel_rfl
                            case hQr24q16 => exact fun _ _ _ h => h
                            case hwr24q16 => rfl
                            case hyr24q16 => (intro wq hSq; (try dsimp only at hSq); go_simp; (try with_reducible rfl))
                            case hSr24q16 => assumption
                            simp only [Act.put, List.setIfInBounds_toArray, List.set_cons_zero, List.set_cons_succ]
                            refine wpAnyH_done (by kernel_rfl) ?_ _
                            obtain ⟨p3, c3, rfl, hS3⟩ := Lk.Sl.own HOWN3.out
                            obtain ⟨hN1, hN2⟩ := HLW.out.put HB3.out HY.out (by rw [← HM.out]; exact hk) HK.out HH2.out (by rw [← HM.out]; simpa using hS3)
                            have HNF := Lk.hid (And.intro hN1 hN2)
                            clear hN1 hN2 hS3 HOWN3 HOWN2 HOWN1
                            go_wp2_with fail
                            all_goals
                              exact ⟨⟨i + 1, p3, c3, L.take k ++ [y.nm] ++ L.drop k, by omega, by go_num, by rw [HNF.out.2, ← HM.out]; first | done | simp, HNF.out.1⟩, by simp [RowKit.intOf]; omega⟩
                    case rr16q =>
                      go_simp
                      refine hK.out _ _ (HSW.out _ ((Lk.Blk.new2 (Lk.belAl (Below.refl _ w) _) _ (g := w.heap.size + 1) (by simp)).drew.bel)) (fun hHr25q => ?_)
                      clear hK K
                      refine wpAnyH_ready (rs := [4]) (by kernel_rfl) (by simp) ?_
                      refine AllReadyH.cons (o := ?or26q) ?hr26q (fun K hK => ?rr26q) AllReadyH.nil
                      case hr26q => (simp; rfl)
                      case rr26q =>
                        refine Lk.step_append rfl _ _ 46 rfl w.heap.size 9 iS (.string ⟨#[]⟩) 1 16 Tryd.underlying46 HIS.out.1 HIS.out.2.1 HIS.out.2.2.1 HIS.out.2.2.2 rfl (by decide) (.slice (some ⟨w.heap.size, 0, none⟩) 0 0) 0 ([]) rfl ((((Lk.Blk.new2 (Below.refl _ w) _ (g := w.heap.size) rfl).alloc _).drew).own) _ k c (Lk.strsV (L.take k)) rfl (HNIL.out.1) (HLEN.out.1) (HLIE.out.1.below (((Lk.Blk.new2 (Below.refl _ w) _ (g := w.heap.size) rfl).alloc _).drew).bel) (Lk.strs_one _) (by unfold maxLen; omega) (by omega) (((((Lk.Blk.new2 (Below.refl _ w) _ (g := w.heap.size) rfl).alloc _).drew).bel).size) ?_
                        intro v1 W1 hown1 hgrow1
                        rw [List.nil_append, Nat.zero_add] at hown1
                        have HB1 := Lk.hid (Lk.belOwn (size := 1) ((((Lk.Blk.new2 (Below.refl _ w) _ (g := w.heap.size) rfl).alloc _).drew).bel) ((((Lk.Blk.new2 (Below.refl _ w) _ (g := w.heap.size) rfl).alloc _).drew).own) (Nat.le_refl _) hgrow1)
                        have HOWN1 := Lk.hid hown1
                        have HX1 := Lk.hid (((Lk.Blk.new2 (Lk.belAl (Below.refl _ w) _) _ (g := w.heap.size + 1) (by simp)).drew).grown hgrow1 (by simp [Value.ownBlock]) (fun k hk => by cases hk; exact Nat.le_refl _))
                        clear hown1 hgrow1
                        refine hK.out _ _ (HSW.out _ (HB1.out)) (fun hHr27q => ?_)
                        clear hK K
                        refine wpAnyH_ready (rs := [11]) (by kernel_rfl) (by simp) ?_
                        refine AllReadyH.cons (o := ?or28q) ?hr28q (fun K hK => ?rr28q) AllReadyH.nil
                        case hr28q => (simp; rfl)
                        case rr28q =>
                          refine Lk.step_append rfl _ _ 46 rfl w.heap.size 9 iS (.string ⟨#[]⟩) 1 16 Tryd.underlying46 HIS.out.1 HIS.out.2.1 HIS.out.2.2.1 HIS.out.2.2.2 rfl (by decide) v1 k (Lk.strsV (L.take k)) rfl (HOWN1.out) (some ⟨w.heap.size + 1, 0, none⟩) 1 1 ([Lk.str y.nm]) rfl (fun h => nomatch h) (rfl) (HX1.out.lies (cs := [Lk.str y.nm])) (Lk.strs_one [y.nm]) (by unfold maxLen; omega) (by omega) ((HB1.out).size) ?_
                          intro v2 W2 hown2 hgrow2
                          have HB2 := Lk.hid (Lk.belOwn (size := 1) (HB1.out) (HOWN1.out) (Nat.le_refl _) hgrow2)
                          have HOWN2 := Lk.hid hown2
                          clear hown2 hgrow2
                          refine hK.out _ _ (HSW.out _ (HB2.out)) (fun hHr29q => ?_)
                          clear hK K
                          refine wpAnyH_ready (rs := [15]) (by kernel_rfl) (by simp) ?_
                          refine AllReadyH.cons (o := ?or30q) ?hr30q (fun K hK => ?rr30q) AllReadyH.nil
                          case hr30q => (simp; rfl)
                          case rr30q =>
                            refine Lk.step_append rfl _ _ 46 rfl w.heap.size 9 iS (.string ⟨#[]⟩) 1 16 Tryd.underlying46 HIS.out.1 HIS.out.2.1 HIS.out.2.2.1 HIS.out.2.2.2 rfl (by decide) v2 (k + 1) (Lk.strsV (L.take k) ++ [Lk.str y.nm]) rfl (HOWN2.out) _ _ _ (Lk.strsV (L.drop k)) rfl (fun h => by split at h <;> cases h) (by have := HLEN.out.2; simpa using this) (HLIE.out.2.below HB2.out) (Lk.strs_one _) (by unfold maxLen; omega) (by omega) ((HB2.out).size) ?_
                            intro v3 W3 hown3 hgrow3
                            have HB3 := Lk.hid (Lk.belOwn (size := 1) (HB2.out) (HOWN2.out) (Nat.le_refl _) hgrow3)
                            have HOWN3 := Lk.hid hown3
                            clear hown3 hgrow3
                            refine hK.out _ _ (HSW.out _ (HB3.out)) (fun hHr31q => ?_)
                            clear hK K
                            refine wpAnyH_take (i := 16) (oi := ?or32q16) (v := ?vr32q16) ?hir32q16 ?hsr32q16 ?hfr32q16 ?hrr32q16 ?hQr32q16 (Or.inl ⟨?hwr32q16, ?hyr32q16⟩) ?hSr32q16 ?restr32q16
                            case hir32q16 => (simp; rfl)
                            case hsr32q16 => kernel_rfl
                            case hfr32q16 => kernel_rfl
                            case hrr32q16 => kernel_rfl
                            case hQr32q16 => exact fun _ _ _ h => h
                            case hwr32q16 => rfl
                            case hyr32q16 => (intro wq hSq; (try dsimp only at hSq); go_simp; (try with_reducible rfl))
                            case hSr32q16 => assumption
                            simp only [Act.put, List.setIfInBounds_toArray, List.set_cons_zero, List.set_cons_succ]
                            refine wpAnyH_done (by kernel_rfl) ?_ _
                            obtain ⟨p3, c3, rfl, hS3⟩ := Lk.Sl.own HOWN3.out
                            obtain ⟨hN1, hN2⟩ := HLW.out.put HB3.out HY.out (by rw [← HM.out]; exact hk) HK.out HH2.out (by rw [← HM.out]; simpa using hS3)
                            have HNF := Lk.hid (And.intro hN1 hN2)
                            clear hN1 hN2 hS3 HOWN3 HOWN2 HOWN1
                            go_wp2_with fail
                            all_goals
                              exact ⟨⟨i + 1, p3, c3, L.take k ++ [y.nm] ++ L.drop k, by omega, by go_num, by rw [HNF.out.2, ← HM.out]; first | done | simp, HNF.out.1⟩, by simp [RowKit.intOf]; omega⟩
                  case rr13q =>
                    go_simp
                    refine hK.out _ _ (HSW.out _ ((Lk.Blk.new2 (Below.refl _ w) _ (g := w.heap.size) rfl).drew.bel)) (fun hHr33q => ?_)
                    clear hK K
                    refine wpAnyH_ready (rs := [0]) (by kernel_rfl) (by simp) ?_
                    refine AllReadyH.cons (o := ?or34q) ?hr34q (fun K hK => ?rr34q) AllReadyH.nil
                    case hr34q => (simp; rfl)
                    case rr34q =>
                      go_simp
                      refine hK.out _ _ (HSW.out _ ((Lk.Blk.new2 (Lk.belAl (Below.refl _ w) _) _ (g := w.heap.size + 1) (by simp)).drew.bel)) (fun hHr35q => ?_)
                      clear hK K
                      refine wpAnyH_ready (rs := [4]) (by kernel_rfl) (by simp) ?_
                      refine AllReadyH.cons (o := ?or36q) ?hr36q (fun K hK => ?rr36q) AllReadyH.nil
                      case hr36q => (simp; rfl)
                      case rr36q =>
                        refine Lk.step_append rfl _ _ 46 rfl w.heap.size 9 iS (.string ⟨#[]⟩) 1 16 Tryd.underlying46 HIS.out.1 HIS.out.2.1 HIS.out.2.2.1 HIS.out.2.2.2 rfl (by decide) (.slice (some ⟨w.heap.size + 1, 0, none⟩) 0 0) 0 ([]) rfl (((Lk.Blk.new2 (Lk.belAl (Below.refl _ w) _) _ (g := w.heap.size + 1) (by simp)).drew).own) _ k c (Lk.strsV (L.take k)) rfl (HNIL.out.1) (HLEN.out.1) (HLIE.out.1.below ((Lk.Blk.new2 (Lk.belAl (Below.refl _ w) _) _ (g := w.heap.size + 1) (by simp)).drew).bel) (Lk.strs_one _) (by unfold maxLen; omega) (by omega) ((((Lk.Blk.new2 (Lk.belAl (Below.refl _ w) _) _ (g := w.heap.size + 1) (by simp)).drew).bel).size) ?_
                        intro v1 W1 hown1 hgrow1
                        rw [List.nil_append, Nat.zero_add] at hown1
                        have HB1 := Lk.hid (Lk.belOwn (size := 1) (((Lk.Blk.new2 (Lk.belAl (Below.refl _ w) _) _ (g := w.heap.size + 1) (by simp)).drew).bel) (((Lk.Blk.new2 (Lk.belAl (Below.refl _ w) _) _ (g := w.heap.size + 1) (by simp)).drew).own) (Nat.le_refl _) hgrow1)
                        have HOWN1 := Lk.hid hown1
                        have HX1 := Lk.hid ((((Lk.Blk.new2 (Below.refl _ w) _ (g := w.heap.size) rfl).alloc _).drew).grown hgrow1 (by simp [Value.ownBlock]) (fun k hk => by cases hk; simp))
                        clear hown1 hgrow1
                        refine hK.out _ _ (HSW.out _ (HB1.out)) (fun hHr37q => ?_)
                        clear hK K
                        refine wpAnyH_ready (rs := [11]) (by kernel_rfl) (by simp) ?_
                        refine AllReadyH.cons (o := ?or38q) ?hr38q (fun K hK => ?rr38q) AllReadyH.nil
                        case hr38q => (simp; rfl)
                        case rr38q =>
                          refine Lk.step_append rfl _ _ 46 rfl w.heap.size 9 iS (.string ⟨#[]⟩) 1 16 Tryd.underlying46 HIS.out.1 HIS.out.2.1 HIS.out.2.2.1 HIS.out.2.2.2 rfl (by decide) v1 k (Lk.strsV (L.take k)) rfl (HOWN1.out) (some ⟨w.heap.size, 0, none⟩) 1 1 ([Lk.str y.nm]) rfl (fun h => nomatch h) (rfl) (HX1.out.lies (cs := [Lk.str y.nm])) (Lk.strs_one [y.nm]) (by unfold maxLen; omega) (by omega) ((HB1.out).size) ?_
                          intro v2 W2 hown2 hgrow2
                          have HB2 := Lk.hid (Lk.belOwn (size := 1) (HB1.out) (HOWN1.out) (Nat.le_refl _) hgrow2)
                          have HOWN2 := Lk.hid hown2
                          clear hown2 hgrow2
                          refine hK.out _ _ (HSW.out _ (HB2.out)) (fun hHr39q => ?_)
                          clear hK K
                          refine wpAnyH_ready (rs := [15]) (by kernel_rfl) (by simp) ?_
                          refine AllReadyH.cons (o := ?or40q) ?hr40q (fun K hK => ?rr40q) AllReadyH.nil
                          case hr40q => (simp; rfl)
                          case rr40q =>
                            refine Lk.step_append rfl _ _ 46 rfl w.heap.size 9 iS (.string ⟨#[]⟩) 1 16 Tryd.underlying46 HIS.out.1 HIS.out.2.1 HIS.out.2.2.1 HIS.out.2.2.2 rfl (by decide) v2 (k + 1) (Lk.strsV (L.take k) ++ [Lk.str y.nm]) rfl (HOWN2.out) _ _ _ (Lk.strsV (L.drop k)) rfl (fun h => by split at h <;> cases h) (by have := HLEN.out.2; simpa using this) (HLIE.out.2.below HB2.out) (Lk.strs_one _) (by unfold maxLen; omega) (by omega) ((HB2.out).size) ?_
                            intro v3 W3 hown3 hgrow3
                            have HB3 := Lk.hid (Lk.belOwn (size := 1) (HB2.out) (HOWN2.out) (Nat.le_refl _) hgrow3)
                            have HOWN3 := Lk.hid hown3
                            clear hown3 hgrow3
                            refine hK.out _ _ (HSW.out _ (HB3.out)) (fun hHr41q => ?_)
                            clear hK K
                            refine wpAnyH_take (i := 16) (oi := ?or42q16) (v := ?vr42q16) ?hir42q16 ?hsr42q16 ?hfr42q16 ?hrr42q16 ?hQr42q16 (Or.inl ⟨?hwr42q16, ?hyr42q16⟩) ?hSr42q16 ?restr42q16
                            case hir42q16 => (simp; rfl)
                            case hsr42q16 => kernel_rfl
                            case hfr42q16 => kernel_rfl
                            case hrr42q16 => kernel_rfl
                            case hQr42q16 => exact fun _ _ _ h => h
                            case hwr42q16 => rfl
                            case hyr42q16 => (intro wq hSq; (try dsimp only at hSq); go_simp; (try with_reducible rfl))
                            case hSr42q16 => assumption
                            simp only [Act.put, List.setIfInBounds_toArray, List.set_cons_zero, List.set_cons_succ]
                            refine wpAnyH_done (by kernel_rfl) ?_ _
                            obtain ⟨p3, c3, rfl, hS3⟩ := Lk.Sl.own HOWN3.out
                            obtain ⟨hN1, hN2⟩ := HLW.out.put HB3.out HY.out (by rw [← HM.out]; exact hk) HK.out HH2.out (by rw [← HM.out]; simpa using hS3)
                            have HNF := Lk.hid (And.intro hN1 hN2)
                            clear hN1 hN2 hS3 HOWN3 HOWN2 HOWN1
                            go_wp2_with fail
                            all_goals
                              exact ⟨⟨i + 1, p3, c3, L.take k ++ [y.nm] ++ L.drop k, by omega, by go_num, by rw [HNF.out.2, ← HM.out]; first | done | simp, HNF.out.1⟩, by simp [RowKit.intOf]; omega⟩
          · go_wp2_with fail
            go_ret
            exact ⟨p, c, L, rfl, HL.out.sl, HL.out.up, fun o => by rw [HL.out.mem o, List.take_of_length_le (by rw [← HAL.out.2]; omega), HAL.out.1], by have := HL.out.len; omega, HL.out.bel⟩

end Go.Proofs.YthaenobciefjiaaDoor
