/- The reference's Of, Has, All, Len. -/
import Derived.Test.YtjnaafgiokdcbaaLd0
namespace Go.Proofs.Ytjnaafgiokdcbaa
open Go.RowKit

set_option maxRecDepth 100000 in
set_option maxHeartbeats 4000000 in
theorem refOf_any {w : World} {p r c : Nat} {kf : Nat → Value} {s : Lf.S} (H : Hid (Lf.Rd w p r c kf s)) {k : ByteArray} {L R : List Lf.Pg} {P : Lf.Pg} (hs : Hid (Lf.Spl s k L P R)) (hn : s.pgs.length ≤ 100000) :
    Calls Try.prog 19 #[.pointer (some ⟨p, 0, none⟩), .string k] w fun e w' => e = .returned (.int .i64 (P.n : Int)) ∧ Below w.heap.size w w' := by
  have HAT := Mm.hid (refAt_any (Mm.hid H.out.drew) hs hn)
  have hi : s.pgs[L.length]? = some P := by rw [hs.out.e]; simp
  obtain ⟨d0, _, _, d3⟩ := H.out.at_ _ P hi
  have c0 := H.out.c0
  obtain ⟨l, hl⟩ : ∃ l, l = L.length := ⟨_, rfl⟩
  rw [← hl] at d0 d3 HAT hi
  obtain ⟨n, hnn⟩ : ∃ n, n = s.pgs.length := ⟨_, rfl⟩
  have hln : l < n := by rw [hnn]; exact (List.getElem?_eq_some_iff.1 hi).1
  rw [← hnn] at c0 hn
  have g1 : (0 : Int) ≤ (l : Int) := by omega
  have g2 : (l : Int) < (n : Int) := by omega
  have HS0 : Hid (w.drew.cell? ⟨p, 0, none⟩ = some (.slice (some ⟨r, 0, none⟩) n c) ∧ w.drew.cell? ⟨r, l * 4, none⟩ = some (.int .i64 (P.n : Int))) := Mm.hid ⟨c0, d0⟩
  clear hi d0 d3 hl hnn c0 hln
  go_enter Try.func19, Try.ntmps19
  go_wp2_with fail
  go_region_held3 (fun w' => w'.cell? ⟨p, 0, none⟩ = some (.slice (some ⟨r, 0, none⟩) n c) ∧ w'.cell? ⟨r, l * 4, none⟩ = some (.int .i64 (P.n : Int))) (first | (with_reducible exact HS0.out) | fail)
    ((go_at_call 29
      with_reducible refine HAT.out.mono ?_
      rintro e w1 ⟨rfl, hw⟩
      obtain rfl := hw.symm))
  all_goals
    go_wp2_with fail
    go_ret
    exact ⟨rfl, (Below.refl _ w).drew⟩

set_option maxRecDepth 100000 in
set_option maxHeartbeats 4000000 in
theorem refHas_any {w : World} {p r c : Nat} {kf : Nat → Value} {s : Lf.S} (H : Hid (Lf.Rd w p r c kf s)) {k : ByteArray} {L R : List Lf.Pg} {P : Lf.Pg} (hs : Hid (Lf.Spl s k L P R)) (hn : s.pgs.length ≤ 100000) (hk : P.ks.length ≤ 100000) :
    Calls Try.prog 17 #[.pointer (some ⟨p, 0, none⟩), .string k] w fun e w' => e = .returned (.bool (Lf.inKs P.ks k)) ∧ Below w.heap.size w w' := by
  obtain ⟨q, cq, ekf, hsi⟩ := H.out.ks P hs.out.mem
  obtain ⟨m, hm⟩ : ∃ m, m = P.ks.length := ⟨_, rfl⟩
  rw [← hm] at ekf hk
  have HM := Mm.hid hm
  have HI := Mm.hid (hsi.below (Below.refl _ w).drew)
  have HAT := Mm.hid (refAt_any (Mm.hid H.out.drew) hs hn)
  have hi : s.pgs[L.length]? = some P := by rw [hs.out.e]; simp
  obtain ⟨d0, _, _, d3⟩ := H.out.at_ _ P hi
  have c0 := H.out.c0
  obtain ⟨l, hl⟩ : ∃ l, l = L.length := ⟨_, rfl⟩
  rw [← hl] at d0 d3 HAT hi
  obtain ⟨n, hnn⟩ : ∃ n, n = s.pgs.length := ⟨_, rfl⟩
  have hln : l < n := by rw [hnn]; exact (List.getElem?_eq_some_iff.1 hi).1
  rw [← hnn] at c0 hn
  have g1 : (0 : Int) ≤ (l : Int) := by omega
  have g2 : (l : Int) < (n : Int) := by omega
  rw [ekf] at d3
  have HS0 : Hid (w.drew.cell? ⟨p, 0, none⟩ = some (.slice (some ⟨r, 0, none⟩) n c) ∧ w.drew.cell? ⟨r, l * 4 + 3, none⟩ = some (.slice q m cq)) := Mm.hid ⟨c0, d3⟩
  clear hi d0 d3 hl hnn c0 hln ekf hsi hm
  go_enter Try.func17, Try.ntmps17
  go_wp2_with fail
  go_region_held3 (fun w' => w'.cell? ⟨p, 0, none⟩ = some (.slice (some ⟨r, 0, none⟩) n c) ∧ w'.cell? ⟨r, l * 4 + 3, none⟩ = some (.slice q m cq)) (first | (with_reducible exact HS0.out) | fail)
    ((go_at_call 29
      with_reducible refine HAT.out.mono ?_
      rintro e w1 ⟨rfl, hw⟩
      obtain rfl := hw.symm))
  all_goals
    go_wp2_with fail
    go_loopw [6] (fun vi wr => ∃ i : Nat, i ≤ m ∧ vi = .int .i64 (i : Int) ∧ Hid (wr = w.drew) ∧ Hid (∀ (j : Nat) y, j < i → P.ks[j]? = some y → y ≠ k)) (fun vi _ => m - (RowKit.intOf vi).toNat)
    case atStart => exact ⟨0, Nat.zero_le _, rfl, Mm.hid rfl, Mm.hid (fun j y h => by omega)⟩
    case round =>
      obtain ⟨i, hi, rfl, HW, HNO⟩ := hrel
      rename World => wr
      obtain hw := HW.out
      subst hw
      by_cases hlt : i < m
      · obtain ⟨y, hy⟩ : ∃ y, P.ks[i]? = some y := ⟨P.ks[i]'(by rw [← HM.out]; exact hlt), List.getElem?_eq_getElem _⟩
        obtain ⟨bq, oq, rfl, hbq, hcq⟩ := HI.out i y hy
        have g3 : (0 : Int) ≤ (i : Int) := by omega
        have g4 : (i : Int) < (m : Int) := by omega
        have HY := Mm.hid hy
        clear hy hbq
        by_cases hyk : y = k
        · have ee : (y.toList == k.toList) = true := by rw [hyk]; simp
          have hin : Lf.inKs P.ks k = true := Lf.inKs_iff.2 (by rw [← hyk]; exact List.mem_of_getElem? HY.out)
          have HIN := Mm.hid hin
          subst hyk
          clear hin
          go_wp2_with fail
          go_ret
          exact ⟨by rw [HIN.out]; rfl, (Below.refl _ w).drew⟩
        · have ee : (y.toList == k.toList) = false := by rw [Lf.eqB]; exact decide_eq_false hyk
          have HN' : Hid (∀ (j : Nat) z, j < i + 1 → P.ks[j]? = some z → z ≠ k) := Mm.hid (fun j z hj hz => by
            rcases Nat.lt_or_ge j i with h | h
            · exact HNO.out j z h hz
            · have : j = i := by omega
              rw [this, HY.out] at hz
              injection hz with hz
              rw [← hz]; exact hyk)
          clear hyk HNO
          go_wp2_with fail
          exact ⟨⟨i + 1, by omega, by go_num, Mm.hid trivial, HN'⟩, by simp [RowKit.intOf]; omega⟩
      · have hin : Lf.inKs P.ks k = false := by
          cases h9 : Lf.inKs P.ks k with
          | false => rfl
          | true =>
            obtain ⟨j, hj⟩ := List.getElem?_of_mem (Lf.inKs_iff.1 h9)
            exact absurd rfl (HNO.out j k (by have := (List.getElem?_eq_some_iff.1 hj).1; have := HM.out; omega) hj)
        have HIN := Mm.hid hin
        clear hin
        go_wp2_with fail
        go_ret
        exact ⟨by rw [HIN.out]; rfl, (Below.refl _ w).drew⟩

set_option maxRecDepth 100000 in
set_option maxHeartbeats 4000000 in
theorem refAll_any {w : World} {p r c : Nat} {kf : Nat → Value} {s : Lf.S} (H : Hid (Lf.Rd w p r c kf s)) (hn : s.pgs.length ≤ 100000) :
    Calls Try.prog 21 #[.pointer (some ⟨p, 0, none⟩)] w fun e w' => ∃ v, e = .returned v ∧ Mm.Own w' w.heap.size 3 v (Mm.nts (Lf.nums s.pgs)) ∧ Below w.heap.size w w' := by
  obtain ⟨n, hnn⟩ : ∃ n, n = s.pgs.length := ⟨_, rfl⟩
  rw [← hnn] at hn
  have HN := Mm.hid hnn
  clear hnn
  go_enter Try.func21, Try.ntmps21
  go_wp2_with fail
  go_loopw [3, 4] (fun vo vi wr => ∃ i : Nat, i ≤ n ∧ vi = .int .i64 (i : Int) ∧ Hid (Mm.Own wr w.heap.size 3 vo (Mm.nts ((Lf.nums s.pgs).take i))) ∧ Hid (Below w.heap.size w wr)) (fun _ vi _ => n - (RowKit.intOf vi).toNat)
  case atStart => exact ⟨0, Nat.zero_le _, rfl, Mm.hid (Mm.Own.nil _ _ _), Mm.hid (Below.refl _ _)⟩
  case round =>
    obtain ⟨i, hi1, rfl, HO, HB⟩ := hrel
    rename World => wr
    have HMr := Mm.hid (H.out.below HB.out)
    have c0 := HMr.out.c0
    rw [← HN.out] at c0
    by_cases hlt : i < n
    · obtain ⟨P, hP⟩ : ∃ P, s.pgs[i]? = some P := ⟨s.pgs[i]'(by rw [← HN.out]; exact hlt), List.getElem?_eq_getElem _⟩
      have d0 := (HMr.out.at_ i P hP).1
      have HP := Mm.hid hP
      have g1 : (0 : Int) ≤ (i : Int) := by omega
      have g2 : (i : Int) < (n : Int) := by omega
      have HLN : Hid ((Mm.nts ((Lf.nums s.pgs).take i)).length < 1000000) := Mm.hid (by simp; omega)
      have HHB : Hid (w.heap.size ≤ wr.heap.size) := Mm.hid HB.out.size
      obtain ⟨q, cq, evo, _⟩ := HO.out.shape
      obtain ⟨Lq, hLq⟩ : ∃ Lq, Lq = (Mm.nts ((Lf.nums s.pgs).take i)).length := ⟨_, rfl⟩
      rw [← hLq] at evo
      subst evo
      clear hP hLq
      go_wp2_with (at_builtin; refine Mm.appI wr rfl _ _ rfl w.heap.size (.slice q Lq cq) (P.n : Int) _ rfl HO.out _ rfl (by simp) HLN.out HHB.out ?_; intro v1 w1 h1 h2 h3)
      have e : Mm.nts ((Lf.nums s.pgs).take (i + 1)) = Mm.nts ((Lf.nums s.pgs).take i) ++ [.int .i64 (P.n : Int)] := by
        rw [List.take_add_one]
        have : (Lf.nums s.pgs)[i]? = some P.n := by unfold Lf.nums; rw [List.getElem?_map, HP.out]; rfl
        rw [this, Mm.nts_app]; rfl
      exact ⟨⟨i + 1, by omega, by go_num, Mm.hid (by rw [e]; exact h1), Mm.hid (HB.out.grown h2 HHB.out (fun g hg => (HO.out.lt hg).2))⟩, by simp [RowKit.intOf]; omega⟩
    · have he : i = n := by omega
      subst he
      go_wp2_with fail
      go_ret
      refine ⟨_, rfl, ?_, HB.out⟩
      have h1 := HO.out
      rw [List.take_of_length_le (by rw [HN.out]; simp [Lf.nums])] at h1
      exact h1

set_option maxRecDepth 100000 in
set_option maxHeartbeats 4000000 in
theorem refLen_any {w : World} {p r c : Nat} {kf : Nat → Value} {s : Lf.S} (H : Hid (Lf.Rd w p r c kf s)) (hn : s.pgs.length ≤ 100000) (hf : (Lf.flat s.pgs).length ≤ 100000) :
    Calls Try.prog 23 #[.pointer (some ⟨p, 0, none⟩)] w fun e w' => e = .returned (.int .i64 ((Lf.flat s.pgs).length : Int)) ∧ w' = w := by
  obtain ⟨n, hnn⟩ : ∃ n, n = s.pgs.length := ⟨_, rfl⟩
  have c0 := H.out.c0
  rw [← hnn] at hn c0
  have HN := Mm.hid hnn
  have HF := Mm.hid hf
  clear hnn hf
  go_enter Try.func23, Try.ntmps23
  go_wp2_with fail
  go_loopw [3, 4] (fun va vi wr => ∃ i a : Nat, i ≤ n ∧ vi = .int .i64 (i : Int) ∧ va = .int .i64 (a : Int) ∧ Hid (a = (Lf.flat (s.pgs.take i)).length) ∧ Hid (wr = w)) (fun _ vi _ => n - (RowKit.intOf vi).toNat)
  case atStart => exact ⟨0, 0, Nat.zero_le _, rfl, rfl, Mm.hid (by simp [Lf.flat]), Mm.hid rfl⟩
  case round =>
    obtain ⟨i, a, hi1, rfl, rfl, HA, HW⟩ := hrel
    rename World => wr
    obtain rfl := HW.out
    by_cases hlt : i < n
    · obtain ⟨P, hP⟩ : ∃ P, s.pgs[i]? = some P := ⟨s.pgs[i]'(by rw [← HN.out]; exact hlt), List.getElem?_eq_getElem _⟩
      have d3 := (H.out.at_ i P hP).2.2.2
      obtain ⟨q, cq, ekf, _⟩ := H.out.ks P (List.mem_of_getElem? hP)
      obtain ⟨m, hm⟩ : ∃ m, m = P.ks.length := ⟨_, rfl⟩
      rw [ekf, ← hm] at d3
      have hst := Lf.flat_step hP
      rw [← HA.out, ← hm] at hst
      have HST := Mm.hid hst
      have g1 : (0 : Int) ≤ (i : Int) := by omega
      have g2 : (i : Int) < (n : Int) := by omega
      have hle : (Lf.flat (s.pgs.take (i + 1))).length ≤ (Lf.flat s.pgs).length := by
        conv => rhs; rw [← List.take_append_drop (i + 1) s.pgs, Lf.flat_app, List.length_append]
        omega
      have ham : a + m ≤ 100000 := by have := HF.out; omega
      clear hP hm hst hle ekf
      go_wp2_with fail
      exact ⟨⟨i + 1, a + m, by omega, by go_num, by go_num, Mm.hid HST.out.symm, Mm.hid trivial⟩, by simp [RowKit.intOf]; omega⟩
    · have he : i = n := by omega
      subst he
      have ha := HA.out
      rw [List.take_of_length_le (by rw [HN.out]; exact Nat.le_refl _)] at ha
      have HAE := Mm.hid ha
      clear ha
      go_wp2_with fail
      go_ret
      exact ⟨by rw [← HAE.out]; rfl, rfl⟩
end Go.Proofs.Ytjnaafgiokdcbaa
