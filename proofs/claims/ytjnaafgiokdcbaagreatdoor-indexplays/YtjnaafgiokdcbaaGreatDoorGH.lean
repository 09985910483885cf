/- The reference's leaves in memory; the place of a key's leaf. -/
import Derived.Test.YtjnaafgiokdcbaaGreatDoorGF
namespace Go.Proofs.YtjnaafgiokdcbaaGreatDoor
open Go.RowKit

namespace Lf
/-- What the reference reads: a head of three cells, a row of leaves of four cells each, each leaf's keys anywhere. -/
structure Rd (w : World) (p r c : Nat) (kf : Nat → Value) (s : S) : Prop where
  c0 : w.cell? ⟨p, 0, none⟩ = some (.slice (some ⟨r, 0, none⟩) s.pgs.length c)
  c1 : w.cell? ⟨p, 1, none⟩ = some (.int .i64 (s.fan : Int))
  c2 : w.cell? ⟨p, 2, none⟩ = some (.int .i64 ((s.last : Int) + 1))
  pl : p < w.heap.size
  rl : r < w.heap.size
  at_ : ∀ (i : Nat) P, s.pgs[i]? = some P → w.cell? ⟨r, i * 4, none⟩ = some (.int .i64 (P.n : Int)) ∧ w.cell? ⟨r, i * 4 + 1, none⟩ = some (.bool (decide (P.b = ⟨#[]⟩))) ∧ w.cell? ⟨r, i * 4 + 2, none⟩ = some (.string P.b) ∧ w.cell? ⟨r, i * 4 + 3, none⟩ = some (kf P.n)
  ks : ∀ P ∈ s.pgs, ∃ q cq, kf P.n = .slice q P.ks.length cq ∧ SIn w q P.ks
theorem Rd.below {w w' : World} {p r c : Nat} {kf : Nat → Value} {s : S} (H : Rd w p r c kf s) (hb : Below w.heap.size w w') : Rd w' p r c kf s :=
  ⟨(Mm.belAt hb _ H.pl).trans H.c0, (Mm.belAt hb _ H.pl).trans H.c1, (Mm.belAt hb _ H.pl).trans H.c2, Nat.lt_of_lt_of_le H.pl hb.size, Nat.lt_of_lt_of_le H.rl hb.size,
   fun i P hP => ⟨(Mm.belAt hb _ H.rl).trans (H.at_ i P hP).1, (Mm.belAt hb _ H.rl).trans (H.at_ i P hP).2.1, (Mm.belAt hb _ H.rl).trans (H.at_ i P hP).2.2.1, (Mm.belAt hb _ H.rl).trans (H.at_ i P hP).2.2.2⟩,
   fun P hP => by obtain ⟨q, cq, e, h⟩ := H.ks P hP; exact ⟨q, cq, e, h.below hb⟩⟩
theorem Rd.drew {w : World} {p r c : Nat} {kf : Nat → Value} {s : S} (H : Rd w p r c kf s) : Rd w.drew p r c kf s := H.below (Below.refl _ w).drew
end Lf

set_option maxRecDepth 100000 in
set_option maxHeartbeats 4000000 in
theorem refAt_any {w : World} {p r c : Nat} {kf : Nat → Value} {s : Lf.S} (H : Hid (Lf.Rd w p r c kf s)) {k : ByteArray} {L R : List Lf.Pg} {P : Lf.Pg} (hs : Hid (Lf.Spl s k L P R)) (hn : s.pgs.length ≤ 100000) :
    Calls Tryz.prog 58 #[.pointer (some ⟨p, 0, none⟩), .string k] w fun e w' => e = .returned (.int .i64 (L.length : Int)) ∧ w' = w := by
  have c0 := H.out.c0
  obtain ⟨n, hnn⟩ : ∃ n, n = s.pgs.length := ⟨_, rfl⟩
  rw [← hnn] at c0 hn
  have HN := Mm.hid hnn
  clear hnn
  have HLn : Hid (L.length < n) := Mm.hid (by rw [HN.out, hs.out.e]; simp)
  go_enter Tryz.func58, Tryz.ntmps58
  go_wp2_with fail
  go_loopw [5, 6] (fun va vi wr => ∃ i a : Nat, i ≤ n ∧ vi = .int .i64 (i : Int) ∧ va = .int .i64 (a : Int) ∧ Hid (wr = w) ∧ Hid (a = min (i - 1) L.length)) (fun _ vi _ => n - (RowKit.intOf vi).toNat)
  case atStart => exact ⟨0, 0, Nat.zero_le _, rfl, rfl, Mm.hid rfl, Mm.hid (by omega)⟩
  case round =>
    obtain ⟨i, a, hi, rfl, rfl, HW, HA⟩ := hrel
    rename World => wr
    obtain rfl := HW.out
    by_cases hlt : i < n
    · obtain ⟨Q, hQ⟩ : ∃ Q, s.pgs[i]? = some Q := ⟨s.pgs[i]'(by rw [← HN.out]; exact hlt), List.getElem?_eq_getElem _⟩
      obtain ⟨_, d1, d2, _⟩ := H.out.at_ i Q hQ
      have g1 : (0 : Int) ≤ (i : Int) := by omega
      have g2 : (i : Int) < (n : Int) := by omega
      rcases Nat.lt_or_ge L.length i with hc | hc
      · have hq : Lf.lt k Q.b = true := by
          have hQR : Q ∈ R := by
            rw [hs.out.e, List.getElem?_append_right (by omega)] at hQ
            obtain ⟨j, hj⟩ : ∃ j, i - L.length = j + 1 := ⟨i - L.length - 1, by omega⟩
            rw [hj] at hQ
            exact List.mem_of_getElem? hQ
          exact hs.out.hi Q hQR
        have hne : Q.b ≠ ⟨#[]⟩ := fun e => by rw [e, Lf.lt_emp] at hq; cases hq
        rw [decide_eq_false hne] at d1
        have ee : (Op.bytesLess Q.b.toList k.toList || Q.b.toList == k.toList) = false := by
          rw [show Op.bytesLess Q.b.toList k.toList = false from Lf.lt_as hq, Lf.eqB, decide_eq_false (fun e => Lf.lt_ne hq e.symm)]; rfl
        have HA' : Hid (a = min (i + 1 - 1) L.length) := Mm.hid (by have := HA.out; omega)
        clear hQ hq hne hc HA
        go_wp2_with fail
        exact ⟨⟨i + 1, a, by omega, by go_num, rfl, Mm.hid trivial, HA'⟩, by simp [RowKit.intOf]; omega⟩
      · have hq : Lf.lt k Q.b = false := by
          rcases Nat.lt_or_ge i L.length with hd | hd
          · rw [hs.out.e, List.getElem?_append_left hd] at hQ
            exact hs.out.lo Q (List.mem_of_getElem? hQ)
          · have : i = L.length := by omega
            rw [hs.out.e, this] at hQ
            simp at hQ
            rw [← hQ]; exact hs.out.at_
        have ee : (Op.bytesLess Q.b.toList k.toList || Q.b.toList == k.toList) = true := by
          cases h9 : Op.bytesLess Q.b.toList k.toList with
          | true => rfl
          | false => rw [Lf.lt_tri h9 hq]; simp
        have HA' : Hid (i = min (i + 1 - 1) L.length) := Mm.hid (by omega)
        clear hQ hq HA hc
        by_cases ho : Q.b = ⟨#[]⟩
        · rw [decide_eq_true ho] at d1
          clear ho
          go_wp2_with fail
          exact ⟨⟨i + 1, i, by omega, by go_num, rfl, Mm.hid trivial, HA'⟩, by simp [RowKit.intOf]; omega⟩
        · rw [decide_eq_false ho] at d1
          clear ho
          go_wp2_with fail
          exact ⟨⟨i + 1, i, by omega, by go_num, rfl, Mm.hid trivial, HA'⟩, by simp [RowKit.intOf]; omega⟩
    · have hA : a = L.length := by have := HA.out; have := HLn.out; omega
      subst hA
      go_wp2_with fail
      go_ret
      exact ⟨rfl, rfl⟩

end Go.Proofs.YtjnaafgiokdcbaaGreatDoor

/- The reference's Of, Has, All, Len. -/
namespace Go.Proofs.YtjnaafgiokdcbaaGreatDoor
open Go.RowKit

set_option maxRecDepth 100000 in
set_option maxHeartbeats 4000000 in
theorem refHas_any {w : World} {p r c : Nat} {kf : Nat → Value} {s : Lf.S} (H : Hid (Lf.Rd w p r c kf s)) {k : ByteArray} {L R : List Lf.Pg} {P : Lf.Pg} (hs : Hid (Lf.Spl s k L P R)) (hn : s.pgs.length ≤ 100000) (hk : P.ks.length ≤ 100000) :
    Calls Tryz.prog 45 #[.pointer (some ⟨p, 0, none⟩), .string k] w fun e w' => e = .returned (.bool (Lf.inKs P.ks k)) ∧ Below w.heap.size w w' := by
  obtain ⟨q, cq, ekf, hsi⟩ := H.out.ks P hs.out.mem
  obtain ⟨m, hm⟩ : ∃ m, m = P.ks.length := ⟨_, rfl⟩
  rw [← hm] at ekf hk
  have HM := Mm.hid hm
  have HI := Mm.hid (hsi.below (Below.refl _ w).drew)
  have HAT := Mm.hid (refAt_any (Mm.hid H.out.drew) hs hn)
  have hi : s.pgs[L.length]? = some P := by rw [hs.out.e]; simp
  obtain ⟨d0, _, _, d3⟩ := H.out.at_ _ P hi
  have c0 := H.out.c0
  obtain ⟨l, hl⟩ : ∃ l, l = L.length := ⟨_, rfl⟩
  rw [← hl] at d0 d3 HAT hi
  obtain ⟨n, hnn⟩ : ∃ n, n = s.pgs.length := ⟨_, rfl⟩
  have hln : l < n := by rw [hnn]; exact (List.getElem?_eq_some_iff.1 hi).1
  rw [← hnn] at c0 hn
  have g1 : (0 : Int) ≤ (l : Int) := by omega
  have g2 : (l : Int) < (n : Int) := by omega
  rw [ekf] at d3
  have HS0 : Hid (w.drew.cell? ⟨p, 0, none⟩ = some (.slice (some ⟨r, 0, none⟩) n c) ∧ w.drew.cell? ⟨r, l * 4 + 3, none⟩ = some (.slice q m cq)) := Mm.hid ⟨c0, d3⟩
  clear hi d0 d3 hl hnn c0 hln ekf hsi hm
  go_enter Tryz.func45, Tryz.ntmps45
  go_wp2_with fail
  go_region_held3 (fun w' => w'.cell? ⟨p, 0, none⟩ = some (.slice (some ⟨r, 0, none⟩) n c) ∧ w'.cell? ⟨r, l * 4 + 3, none⟩ = some (.slice q m cq)) (first | (with_reducible exact HS0.out) | fail)
    ((go_at_call 58
      with_reducible refine HAT.out.mono ?_
      rintro e w1 ⟨rfl, hw⟩
      obtain rfl := hw.symm))
  all_goals
    go_wp2_with fail
    go_loopw [6] (fun vi wr => ∃ i : Nat, i ≤ m ∧ vi = .int .i64 (i : Int) ∧ Hid (wr = w.drew) ∧ Hid (∀ (j : Nat) y, j < i → P.ks[j]? = some y → y ≠ k)) (fun vi _ => m - (RowKit.intOf vi).toNat)
    case atStart => exact ⟨0, Nat.zero_le _, rfl, Mm.hid rfl, Mm.hid (fun j y h => by omega)⟩
    case round =>
      obtain ⟨i, hi, rfl, HW, HNO⟩ := hrel
      rename World => wr
      obtain hw := HW.out
      subst hw
      by_cases hlt : i < m
      · obtain ⟨y, hy⟩ : ∃ y, P.ks[i]? = some y := ⟨P.ks[i]'(by rw [← HM.out]; exact hlt), List.getElem?_eq_getElem _⟩
        obtain ⟨bq, oq, rfl, hbq, hcq⟩ := HI.out i y hy
        have g3 : (0 : Int) ≤ (i : Int) := by omega
        have g4 : (i : Int) < (m : Int) := by omega
        have HY := Mm.hid hy
        clear hy hbq
        by_cases hyk : y = k
        · have ee : (y.toList == k.toList) = true := by rw [hyk]; simp
          have hin : Lf.inKs P.ks k = true := Lf.inKs_iff.2 (by rw [← hyk]; exact List.mem_of_getElem? HY.out)
          have HIN := Mm.hid hin
          subst hyk
          clear hin
          go_wp2_with fail
          go_ret
          exact ⟨by rw [HIN.out]; rfl, (Below.refl _ w).drew⟩
        · have ee : (y.toList == k.toList) = false := by rw [Lf.eqB]; exact decide_eq_false hyk
          have HN' : Hid (∀ (j : Nat) z, j < i + 1 → P.ks[j]? = some z → z ≠ k) := Mm.hid (fun j z hj hz => by
            rcases Nat.lt_or_ge j i with h | h
            · exact HNO.out j z h hz
            · have : j = i := by omega
              rw [this, HY.out] at hz
              injection hz with hz
              rw [← hz]; exact hyk)
          clear hyk HNO
          go_wp2_with fail
          exact ⟨⟨i + 1, by omega, by go_num, Mm.hid trivial, HN'⟩, by simp [RowKit.intOf]; omega⟩
      · have hin : Lf.inKs P.ks k = false := by
          cases h9 : Lf.inKs P.ks k with
          | false => rfl
          | true =>
            obtain ⟨j, hj⟩ := List.getElem?_of_mem (Lf.inKs_iff.1 h9)
            exact absurd rfl (HNO.out j k (by have := (List.getElem?_eq_some_iff.1 hj).1; have := HM.out; omega) hj)
        have HIN := Mm.hid hin
        clear hin
        go_wp2_with fail
        go_ret
        exact ⟨by rw [HIN.out]; rfl, (Below.refl _ w).drew⟩

set_option maxRecDepth 100000 in
set_option maxHeartbeats 4000000 in
theorem refAll_any {w : World} {p r c : Nat} {kf : Nat → Value} {s : Lf.S} (H : Hid (Lf.Rd w p r c kf s)) (hn : s.pgs.length ≤ 100000) :
    Calls Tryz.prog 25 #[.pointer (some ⟨p, 0, none⟩)] w fun e w' => ∃ v, e = .returned v ∧ Mm.Own w' w.heap.size 3 v (Mm.nts (Lf.nums s.pgs)) ∧ Below w.heap.size w w' := by
  obtain ⟨n, hnn⟩ : ∃ n, n = s.pgs.length := ⟨_, rfl⟩
  rw [← hnn] at hn
  have HN := Mm.hid hnn
  clear hnn
  go_enter Tryz.func25, Tryz.ntmps25
  go_wp2_with fail
  go_loopw [3, 4] (fun vo vi wr => ∃ i : Nat, i ≤ n ∧ vi = .int .i64 (i : Int) ∧ Hid (Mm.Own wr w.heap.size 3 vo (Mm.nts ((Lf.nums s.pgs).take i))) ∧ Hid (Below w.heap.size w wr)) (fun _ vi _ => n - (RowKit.intOf vi).toNat)
  case atStart => exact ⟨0, Nat.zero_le _, rfl, Mm.hid (Mm.Own.nil _ _ _), Mm.hid (Below.refl _ _)⟩
  case round =>
    obtain ⟨i, hi1, rfl, HO, HB⟩ := hrel
    rename World => wr
    have HMr := Mm.hid (H.out.below HB.out)
    have c0 := HMr.out.c0
    rw [← HN.out] at c0
    by_cases hlt : i < n
    · obtain ⟨P, hP⟩ : ∃ P, s.pgs[i]? = some P := ⟨s.pgs[i]'(by rw [← HN.out]; exact hlt), List.getElem?_eq_getElem _⟩
      have d0 := (HMr.out.at_ i P hP).1
      have HP := Mm.hid hP
      have g1 : (0 : Int) ≤ (i : Int) := by omega
      have g2 : (i : Int) < (n : Int) := by omega
      have HLN : Hid ((Mm.nts ((Lf.nums s.pgs).take i)).length < 1000000) := Mm.hid (by simp; omega)
      have HHB : Hid (w.heap.size ≤ wr.heap.size) := Mm.hid HB.out.size
      obtain ⟨q, cq, evo, _⟩ := HO.out.shape
      obtain ⟨Lq, hLq⟩ : ∃ Lq, Lq = (Mm.nts ((Lf.nums s.pgs).take i)).length := ⟨_, rfl⟩
      rw [← hLq] at evo
      subst evo
      clear hP hLq
      go_wp2_with (at_builtin; refine Mm.appI wr rfl _ _ rfl w.heap.size (.slice q Lq cq) (P.n : Int) _ rfl HO.out _ rfl (by simp) HLN.out HHB.out ?_; intro v1 w1 h1 h2 h3)
      have e : Mm.nts ((Lf.nums s.pgs).take (i + 1)) = Mm.nts ((Lf.nums s.pgs).take i) ++ [.int .i64 (P.n : Int)] := by
        rw [List.take_add_one]
        have : (Lf.nums s.pgs)[i]? = some P.n := by unfold Lf.nums; rw [List.getElem?_map, HP.out]; rfl
        rw [this, Mm.nts_app]; rfl
      exact ⟨⟨i + 1, by omega, by go_num, Mm.hid (by rw [e]; exact h1), Mm.hid (HB.out.grown h2 HHB.out (fun g hg => (HO.out.lt hg).2))⟩, by simp [RowKit.intOf]; omega⟩
    · have he : i = n := by omega
      subst he
      go_wp2_with fail
      go_ret
      refine ⟨_, rfl, ?_, HB.out⟩
      have h1 := HO.out
      rw [List.take_of_length_le (by rw [HN.out]; simp [Lf.nums])] at h1
      exact h1

set_option maxRecDepth 100000 in
set_option maxHeartbeats 4000000 in
theorem refLen_any {w : World} {p r c : Nat} {kf : Nat → Value} {s : Lf.S} (H : Hid (Lf.Rd w p r c kf s)) (hn : s.pgs.length ≤ 100000) (hf : (Lf.flat s.pgs).length ≤ 100000) :
    Calls Tryz.prog 23 #[.pointer (some ⟨p, 0, none⟩)] w fun e w' => e = .returned (.int .i64 ((Lf.flat s.pgs).length : Int)) ∧ w' = w := by
  obtain ⟨n, hnn⟩ : ∃ n, n = s.pgs.length := ⟨_, rfl⟩
  have c0 := H.out.c0
  rw [← hnn] at hn c0
  have HN := Mm.hid hnn
  have HF := Mm.hid hf
  clear hnn hf
  go_enter Tryz.func23, Tryz.ntmps23
  go_wp2_with fail
  go_loopw [3, 4] (fun va vi wr => ∃ i a : Nat, i ≤ n ∧ vi = .int .i64 (i : Int) ∧ va = .int .i64 (a : Int) ∧ Hid (a = (Lf.flat (s.pgs.take i)).length) ∧ Hid (wr = w)) (fun _ vi _ => n - (RowKit.intOf vi).toNat)
  case atStart => exact ⟨0, 0, Nat.zero_le _, rfl, rfl, Mm.hid (by simp [Lf.flat]), Mm.hid rfl⟩
  case round =>
    obtain ⟨i, a, hi1, rfl, rfl, HA, HW⟩ := hrel
    rename World => wr
    obtain rfl := HW.out
    by_cases hlt : i < n
    · obtain ⟨P, hP⟩ : ∃ P, s.pgs[i]? = some P := ⟨s.pgs[i]'(by rw [← HN.out]; exact hlt), List.getElem?_eq_getElem _⟩
      have d3 := (H.out.at_ i P hP).2.2.2
      obtain ⟨q, cq, ekf, _⟩ := H.out.ks P (List.mem_of_getElem? hP)
      obtain ⟨m, hm⟩ : ∃ m, m = P.ks.length := ⟨_, rfl⟩
      rw [ekf, ← hm] at d3
      have hst := Lf.flat_step hP
      rw [← HA.out, ← hm] at hst
      have HST := Mm.hid hst
      have g1 : (0 : Int) ≤ (i : Int) := by omega
      have g2 : (i : Int) < (n : Int) := by omega
      have hle : (Lf.flat (s.pgs.take (i + 1))).length ≤ (Lf.flat s.pgs).length := by
        conv => rhs; rw [← List.take_append_drop (i + 1) s.pgs, Lf.flat_app, List.length_append]
        omega
      have ham : a + m ≤ 100000 := by have := HF.out; omega
      clear hP hm hst hle ekf
      go_wp2_with fail
      exact ⟨⟨i + 1, a + m, by omega, by go_num, by go_num, Mm.hid HST.out.symm, Mm.hid trivial⟩, by simp [RowKit.intOf]; omega⟩
    · have he : i = n := by omega
      subst he
      have ha := HA.out
      rw [List.take_of_length_le (by rw [HN.out]; exact Nat.le_refl _)] at ha
      have HAE := Mm.hid ha
      clear ha
      go_wp2_with fail
      go_ret
      exact ⟨by rw [← HAE.out]; rfl, rfl⟩

end Go.Proofs.YtjnaafgiokdcbaaGreatDoor

/- Where a range ends, plain. -/
namespace Go.Proofs.YtjnaafgiokdcbaaGreatDoor
namespace Lf
theorem tw_all {to : ByteArray} : ∀ {T : List Pg}, (∀ Q ∈ T, upTo to Q = true) → T.takeWhile (upTo to) = T
  | [], _ => rfl
  | Q :: r, h => by rw [List.takeWhile_cons_of_pos (h Q (by simp)), tw_all (fun X hX => h X (by simp [hX]))]
theorem rng_end {s : S} (hI : Inv s) {frm to : ByteArray} {L R : List Pg} {P : Pg} (hs : Spl s frm L P R) (ht : to = ⟨#[]⟩ ∨ lt frm to = true) :
    ∃ e, L.length ≤ e ∧ e < s.pgs.length ∧ (to = ⟨#[]⟩ → e + 1 = s.pgs.length) ∧ (to ≠ ⟨#[]⟩ → ∃ L' P' R', Spl s to L' P' R' ∧ e = L'.length) ∧ (s.pgs.drop L.length).takeWhile (upTo to) = (s.pgs.drop L.length).take (e + 1 - L.length) := by
  have hl : L.length < s.pgs.length := by rw [hs.e]; simp
  by_cases h0 : to = ⟨#[]⟩
  · refine ⟨s.pgs.length - 1, by omega, by omega, fun _ => by omega, fun h => absurd h0 h, ?_⟩
    rw [tw_all (fun Q _ => by unfold upTo; rw [decide_eq_true h0]; rfl), List.take_of_length_le (by rw [List.length_drop]; omega)]
  · have hft : lt frm to = true := ht.resolve_left h0
    obtain ⟨L', P', R', hs'⟩ := spl_ex hI to
    have hle : L.length ≤ L'.length := by
      rcases Nat.lt_or_ge L'.length L.length with hc | hc
      · have hP : s.pgs[L.length]? = some P := by rw [hs.e]; simp
        rw [hs'.e, List.getElem?_append_right (by omega)] at hP
        obtain ⟨j, hj⟩ : ∃ j, L.length - L'.length = j + 1 := ⟨L.length - L'.length - 1, by omega⟩
        rw [hj] at hP
        have h1 := hs'.hi P (List.mem_of_getElem? hP)
        have h2 := hs.at_
        rw [lt_tr hft h1] at h2; cases h2
      · exact hc
    have hup : ∀ (j : Nat) Q, j ≤ L'.length → s.pgs[j]? = some Q → upTo to Q = true := fun j Q hj hQ => by
      have : lt to Q.b = false := by
        rw [hs'.e] at hQ
        rcases Nat.lt_or_ge j L'.length with h | h
        · rw [List.getElem?_append_left h] at hQ
          exact hs'.lo Q (List.mem_of_getElem? hQ)
        · have e : j = L'.length := by omega
          rw [e] at hQ; simp at hQ; rw [← hQ]; exact hs'.at_
      unfold upTo; rw [this]; simp
    have hl' : L'.length < s.pgs.length := by rw [hs'.e]; simp
    refine ⟨L'.length, hle, hl', fun h => absurd h h0, fun _ => ⟨L', P', R', hs', rfl⟩, ?_⟩
    rcases Nat.lt_or_ge (L'.length + 1) s.pgs.length with hc | hc
    · obtain ⟨Q, hQ⟩ : ∃ Q, s.pgs[L'.length + 1]? = some Q := ⟨_, List.getElem?_eq_getElem hc⟩
      refine takeW_at (i := L'.length + 1 - L.length) (P := Q) (fun j X hj hX => ?_) ?_ ?_
      · rw [List.getElem?_drop] at hX
        exact hup _ X (by omega) hX
      · rw [List.getElem?_drop, show L.length + (L'.length + 1 - L.length) = L'.length + 1 by omega]; exact hQ
      · rw [hs'.e, List.getElem?_append_right (by omega), show L'.length + 1 - L'.length = 1 by omega] at hQ
        have h1 := hs'.hi Q (List.mem_of_getElem? (i := 0) (by simpa using hQ))
        unfold upTo; rw [h1, decide_eq_false h0]; rfl
    · rw [tw_all (fun Q hQ => by
        obtain ⟨j, hj⟩ := List.getElem?_of_mem hQ
        rw [List.getElem?_drop] at hj
        exact hup _ Q (by have := (List.getElem?_eq_some_iff.1 hj).1; omega) hj), List.take_of_length_le (by rw [List.length_drop]; omega)]
end Lf

end Go.Proofs.YtjnaafgiokdcbaaGreatDoor
