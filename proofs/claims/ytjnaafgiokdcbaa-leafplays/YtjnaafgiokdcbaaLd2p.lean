/- Where a range ends, plain. -/
import Derived.Test.YtjnaafgiokdcbaaLd1
namespace Go.Proofs.Ytjnaafgiokdcbaa
namespace Lf
theorem tw_all {to : ByteArray} : ∀ {T : List Pg}, (∀ Q ∈ T, upTo to Q = true) → T.takeWhile (upTo to) = T
  | [], _ => rfl
  | Q :: r, h => by rw [List.takeWhile_cons_of_pos (h Q (by simp)), tw_all (fun X hX => h X (by simp [hX]))]
theorem rng_end {s : S} (hI : Inv s) {frm to : ByteArray} {L R : List Pg} {P : Pg} (hs : Spl s frm L P R) (ht : to = ⟨#[]⟩ ∨ lt frm to = true) :
    ∃ e, L.length ≤ e ∧ e < s.pgs.length ∧ (to = ⟨#[]⟩ → e + 1 = s.pgs.length) ∧ (to ≠ ⟨#[]⟩ → ∃ L' P' R', Spl s to L' P' R' ∧ e = L'.length) ∧ (s.pgs.drop L.length).takeWhile (upTo to) = (s.pgs.drop L.length).take (e + 1 - L.length) := by
  have hl : L.length < s.pgs.length := by rw [hs.e]; simp
  by_cases h0 : to = ⟨#[]⟩
  · refine ⟨s.pgs.length - 1, by omega, by omega, fun _ => by omega, fun h => absurd h0 h, ?_⟩
    rw [tw_all (fun Q _ => by unfold upTo; rw [decide_eq_true h0]; rfl), List.take_of_length_le (by rw [List.length_drop]; omega)]
  · have hft : lt frm to = true := ht.resolve_left h0
    obtain ⟨L', P', R', hs'⟩ := spl_ex hI to
    have hle : L.length ≤ L'.length := by
      rcases Nat.lt_or_ge L'.length L.length with hc | hc
      · have hP : s.pgs[L.length]? = some P := by rw [hs.e]; simp
        rw [hs'.e, List.getElem?_append_right (by omega)] at hP
        obtain ⟨j, hj⟩ : ∃ j, L.length - L'.length = j + 1 := ⟨L.length - L'.length - 1, by omega⟩
        rw [hj] at hP
        have h1 := hs'.hi P (List.mem_of_getElem? hP)
        have h2 := hs.at_
        rw [lt_tr hft h1] at h2; cases h2
      · exact hc
    have hup : ∀ (j : Nat) Q, j ≤ L'.length → s.pgs[j]? = some Q → upTo to Q = true := fun j Q hj hQ => by
      have : lt to Q.b = false := by
        rw [hs'.e] at hQ
        rcases Nat.lt_or_ge j L'.length with h | h
        · rw [List.getElem?_append_left h] at hQ
          exact hs'.lo Q (List.mem_of_getElem? hQ)
        · have e : j = L'.length := by omega
          rw [e] at hQ; simp at hQ; rw [← hQ]; exact hs'.at_
      unfold upTo; rw [this]; simp
    have hl' : L'.length < s.pgs.length := by rw [hs'.e]; simp
    refine ⟨L'.length, hle, hl', fun h => absurd h h0, fun _ => ⟨L', P', R', hs', rfl⟩, ?_⟩
    rcases Nat.lt_or_ge (L'.length + 1) s.pgs.length with hc | hc
    · obtain ⟨Q, hQ⟩ : ∃ Q, s.pgs[L'.length + 1]? = some Q := ⟨_, List.getElem?_eq_getElem hc⟩
      refine takeW_at (i := L'.length + 1 - L.length) (P := Q) (fun j X hj hX => ?_) ?_ ?_
      · rw [List.getElem?_drop] at hX
        exact hup _ X (by omega) hX
      · rw [List.getElem?_drop, show L.length + (L'.length + 1 - L.length) = L'.length + 1 by omega]; exact hQ
      · rw [hs'.e, List.getElem?_append_right (by omega), show L'.length + 1 - L'.length = 1 by omega] at hQ
        have h1 := hs'.hi Q (List.mem_of_getElem? (i := 0) (by simpa using hQ))
        unfold upTo; rw [h1, decide_eq_false h0]; rfl
    · rw [tw_all (fun Q hQ => by
        obtain ⟨j, hj⟩ := List.getElem?_of_mem hQ
        rw [List.getElem?_drop] at hj
        exact hup _ Q (by have := (List.getElem?_eq_some_iff.1 hj).1; omega) hj), List.take_of_length_le (by rw [List.length_drop]; omega)]
end Lf
end Go.Proofs.Ytjnaafgiokdcbaa
