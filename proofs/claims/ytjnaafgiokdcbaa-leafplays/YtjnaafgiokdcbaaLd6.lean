/- A leaf's keys anew, in the reference's row. -/
import Derived.Test.YtjnaafgiokdcbaaLd5
namespace Go.Proofs.Ytjnaafgiokdcbaa
open Go.RowKit
namespace Lf
theorem cellsL_congr {kf kf' : Nat → Value} : ∀ {l : List Pg}, (∀ Q ∈ l, kf Q.n = kf' Q.n) → cellsL kf l = cellsL kf' l
  | [], _ => rfl
  | Q :: r, h => by
    rw [cellsL, cellsL, cellsL_congr (fun X hX => h X (by simp [hX]))]
    unfold leafC
    rw [h Q (by simp)]
theorem cellsL_setK {kf : Nat → Value} {L R : List Pg} {P : Pg} (hn : ∀ Q, Q ∈ L ∨ Q ∈ R → Q.n ≠ P.n) (v : Value) (ks : List ByteArray) : (cellsL kf (L ++ P :: R)).set (L.length * 4 + 3) v = cellsL (upd kf P.n v) (L ++ withKs P ks :: R) := by
  rw [cellsL_app, cellsL_app, List.set_append_right _ _ (by rw [cellsL_length]; omega), cellsL_length, show L.length * 4 + 3 - L.length * 4 = 3 by omega]
  congr 1
  · exact cellsL_congr (fun Q hQ => (upd_other _ _ (hn Q (Or.inl hQ))).symm)
  · rw [cellsL, cellsL, cellsL_congr (l := R) (kf := kf) (kf' := upd kf P.n v) (fun Q hQ => (upd_other _ _ (hn Q (Or.inr hQ))).symm)]
    have e : leafC (upd kf P.n v) (withKs P ks) = [.int .i64 (P.n : Int), .bool (decide (P.b = ⟨#[]⟩)), .string P.b, v] := by
      show [_, _, _, upd kf P.n v P.n] = _
      rw [upd_same]
      rfl
    rw [e]
    rfl
theorem SIn.keep {w w' : World} {q : Option Addr} {l : List ByteArray} (h : SIn w q l) (hz : w.heap.size ≤ w'.heap.size) (hk : ∀ ad, q = some ad → w'.heap[ad.block]? = w.heap[ad.block]?) : SIn w' q l := fun j x hx => by
  obtain ⟨b, o, h1, h2, h3⟩ := h j x hx
  exact ⟨b, o, h1, Nat.lt_of_lt_of_le h2 hz, (World.cell?_of_block (a := ⟨b, o + j, none⟩) (show w'.heap[b]? = w.heap[b]? from hk _ h1)).trans h3⟩
theorem Rm.setK {w : World} {base p r c : Nat} {kf : Nat → Value} {s s' : S} (H : Rm w base p r c kf s) {L R : List Pg} {P : Pg} (he : s.pgs = L ++ P :: R) (hn : ∀ Q, Q ∈ L ∨ Q ∈ R → Q.n ≠ P.n) {ks : List ByteArray} (e1 : s'.fan = s.fan) (e2 : s'.last = s.last) (e3 : s'.pgs = L ++ withKs P ks :: R) {v : Value} (hv : Mm.Own w base 9 v (strs ks)) (hv2 : ∀ g, v.ownBlock = some g → g ≠ p ∧ g ≠ r) :
    Rm (w.setCell ⟨r, L.length * 4 + 3, none⟩ v) base p r c (upd kf P.n v) s' := by
  have hlen : s'.pgs.length = s.pgs.length := by rw [e3, he]; simp
  have oth : ∀ g, g ≠ r → (w.setCell ⟨r, L.length * 4 + 3, none⟩ v).heap[g]? = w.heap[g]? := fun g hg => heap_setCell_other _ _ _ _ (by simpa using hg)
  refine ⟨?_, ?_, H.pr, H.lo, fun Q hQ => ?_⟩
  · rw [oth p H.pr, hlen, e1, e2]; exact H.head
  · obtain ⟨h0, ⟨k1, _⟩ | ⟨g, cap, cur, k1, k2, k3, k4, k5, k6, k7⟩⟩ := H.own
    · cases k1
    · injection k1 with k1 _ k9
      injection k1 with k1
      injection k1 with k1
      subst k1 k9
      refine ⟨by rw [cellsL_length], Or.inr ⟨r, c, cur.setIfInBounds (L.length * 4 + 3) v, by rw [hlen], k2, heap_setCell_same w r _ cur _ v k3, by rw [hlen]; exact k4, k5, by simpa using k6, ?_⟩⟩
      rw [hlen, e3, ← cellsL_setK hn v ks, ← he, ← k7, Array.toList_setIfInBounds, List.take_set]
  · rw [e3] at hQ
    have keep : ∀ Q' : Pg, (Mm.Own w base 9 (kf Q'.n) (strs Q'.ks) ∧ ∀ g, (kf Q'.n).ownBlock = some g → g ≠ p ∧ g ≠ r) → Q'.n ≠ P.n → Mm.Own (w.setCell ⟨r, L.length * 4 + 3, none⟩ v) base 9 (upd kf P.n v Q'.n) (strs Q'.ks) ∧ ∀ g, (upd kf P.n v Q'.n).ownBlock = some g → g ≠ p ∧ g ≠ r := fun Q' h hne => by
      rw [upd_other _ _ hne]
      exact ⟨h.1.keep (fun g hg => oth _ (h.2 g hg).2), h.2⟩
    rcases List.mem_append.1 hQ with h | h
    · exact keep Q (H.ks Q (by rw [he]; simp [h])) (hn Q (Or.inl h))
    · rcases List.mem_cons.1 h with h | h
      · subst h
        show Mm.Own _ _ _ (upd kf P.n v P.n) _ ∧ ∀ g, (upd kf P.n v P.n).ownBlock = some g → _
        rw [upd_same]
        exact ⟨hv.keep (fun g hg => oth _ (hv2 g hg).2), hv2⟩
      · exact keep Q (H.ks Q (by rw [he]; simp [h])) (hn Q (Or.inr h))
/-- Blocks, behind a leaf's keys anew. -/
theorem Rb.setK {p r : Nat} {kf : Nat → Value} {s s' : S} {L R : List Pg} {P : Pg} (he : s.pgs = L ++ P :: R) {ks : List ByteArray} (e3 : s'.pgs = L ++ withKs P ks :: R) (hn : ∀ Q, Q ∈ L ∨ Q ∈ R → Q.n ≠ P.n) {v : Value} {b : Nat} (h : Rb p r (upd kf P.n v) s' b) : Rb p r kf s b ∨ v.ownBlock = some b := by
  rcases h with h | h | ⟨Q, hQ, h⟩
  · exact Or.inl (Or.inl h)
  · exact Or.inl (Or.inr (Or.inl h))
  · rw [e3] at hQ
    rcases List.mem_append.1 hQ with hm | hm
    · rw [upd_other _ _ (hn Q (Or.inl hm))] at h
      exact Or.inl (Or.inr (Or.inr ⟨Q, by rw [he]; simp [hm], h⟩))
    · rcases List.mem_cons.1 hm with hm | hm
      · subst hm
        rw [show (withKs P ks).n = P.n from rfl, upd_same] at h
        exact Or.inr h
      · rw [upd_other _ _ (hn Q (Or.inr hm))] at h
        exact Or.inl (Or.inr (Or.inr ⟨Q, by rw [he]; simp [hm], h⟩))
/-- The row put anew: the head alone turns. -/
theorem Rm.putRow {w : World} {base p r c r' c' n : Nat} {kf kf' : Nat → Value} {s s' : S} (H : Rm w base p r c kf s) (e1 : s'.fan = s.fan) {d : Int} (e2 : (s'.last : Int) + 1 = d) {w1 : World} {h0 : Value} (hh : w1.heap[p]? = some (.cells #[h0, .int .i64 (s.fan : Int), .int .i64 d] 56 (0, 0))) (hn : n = s'.pgs.length)
    (ho : w1.ownsRow base 59 4 (.slice (some ⟨r', 0, none⟩) n c') n (cellsL kf' s'.pgs)) (hpr : p ≠ r') (hks : ∀ P ∈ s'.pgs, Mm.Own w1 base 9 (kf' P.n) (strs P.ks) ∧ ∀ g, (kf' P.n).ownBlock = some g → g ≠ p ∧ g ≠ r') :
    Rm (w1.setCell ⟨p, 0, none⟩ (.slice (some ⟨r', 0, none⟩) n c')) base p r' c' kf' s' := by
  subst hn
  have oth : ∀ g, g ≠ p → (w1.setCell ⟨p, 0, none⟩ (.slice (some ⟨r', 0, none⟩) s'.pgs.length c')).heap[g]? = w1.heap[g]? := fun g hg => heap_setCell_other _ _ _ _ (by simpa using hg)
  refine ⟨?_, ?_, hpr, H.lo, fun Q hQ => ⟨(hks Q hQ).1.keep (fun g hg => oth g ((hks Q hQ).2 g hg).1), (hks Q hQ).2⟩⟩
  · have h9 := heap_setCell_same w1 p 0 _ _ (.slice (some ⟨r', 0, none⟩) s'.pgs.length c') hh
    rw [h9, e1, e2]
    rfl
  · obtain ⟨h0, ⟨k1, _⟩ | ⟨g, cap, cur, k1, k2, k3, k4⟩⟩ := ho
    · cases k1
    · refine ⟨h0, Or.inr ⟨g, cap, cur, k1, k2, (oth g ?_).trans k3, k4⟩⟩
      injection k1 with k1
      injection k1 with k1
      injection k1 with k1
      exact fun e => hpr (by rw [← e, ← k1])
end Lf
end Go.Proofs.Ytjnaafgiokdcbaa
