/- Which leaf a new key stands on, plain. -/
import Derived.Test.YtjnaafgiokdcbaaLd6
namespace Go.Proofs.Ytjnaafgiokdcbaa
namespace Lf
theorem ins_stay {s : S} {k : ByteArray} {L R : List Pg} {P : Pg} {A B : List ByteArray} (hs : Spl s k L P R) (hf : (A ++ k :: B).length ≤ s.fan) :
    insS s L P R (A ++ k :: B) = insP s L P R (A ++ k :: B) ∧ partM s (withKs P (A ++ k :: B)) = (0, 0) ∧ Spl (insS s L P R (A ++ k :: B)) k L (withKs P (A ++ k :: B)) R := by
  have e : insS s L P R (A ++ k :: B) = insP s L P R (A ++ k :: B) := by
    unfold insS partS
    rw [if_pos (show (withKs P (A ++ k :: B)).ks.length ≤ (insP s L P R (A ++ k :: B)).fan from hf)]
  refine ⟨e, ?_, ?_⟩
  · unfold partM
    rw [if_pos (show (withKs P (A ++ k :: B)).ks.length ≤ s.fan from hf)]
  · rw [e]
    exact ⟨rfl, hs.lo, hs.at_, hs.hi⟩
theorem ins_part {s : S} {k : ByteArray} {L R : List Pg} {P : Pg} {A B : List ByteArray} (hI : Inv s) (hs : Spl s k L P R) (hk : Kp P.ks k A B) (hn : B.head? ≠ some k) (hf : ¬ (A ++ k :: B).length ≤ s.fan) {m : ByteArray} (hm : (A ++ k :: B)[half (A ++ k :: B)]? = some m) :
    insS s L P R (A ++ k :: B) = { insP s L P R (A ++ k :: B) with last := s.last + 1, pgs := L ++ withKs P ((A ++ k :: B).take (half (A ++ k :: B))) :: ⟨s.last + 1, m, (A ++ k :: B).drop (half (A ++ k :: B))⟩ :: R } ∧ partM s (withKs P (A ++ k :: B)) = (P.n, s.last + 1) ∧
    (half (A ++ k :: B) ≤ A.length → Spl (insS s L P R (A ++ k :: B)) k (L ++ [withKs P ((A ++ k :: B).take (half (A ++ k :: B)))]) ⟨s.last + 1, m, (A ++ k :: B).drop (half (A ++ k :: B))⟩ R) ∧
    (A.length < half (A ++ k :: B) → Spl (insS s L P R (A ++ k :: B)) k L (withKs P ((A ++ k :: B).take (half (A ++ k :: B)))) (⟨s.last + 1, m, (A ++ k :: B).drop (half (A ++ k :: B))⟩ :: R)) := by
  obtain ⟨w1, w2, w3, w4⟩ := insP_weak hI hs hk hn
  have eu : upper (insP s L P R (A ++ k :: B)) (withKs P (A ++ k :: B)) = ⟨s.last + 1, m, (A ++ k :: B).drop (half (A ++ k :: B))⟩ := by
    unfold upper
    show (⟨s.last + 1, (A ++ k :: B).getD (half (A ++ k :: B)) ⟨#[]⟩, (A ++ k :: B).drop (half (A ++ k :: B))⟩ : Pg) = _
    rw [List.getD_eq_getElem?_getD, hm]; rfl
  have e : insS s L P R (A ++ k :: B) = { insP s L P R (A ++ k :: B) with last := s.last + 1, pgs := L ++ withKs P ((A ++ k :: B).take (half (A ++ k :: B))) :: ⟨s.last + 1, m, (A ++ k :: B).drop (half (A ++ k :: B))⟩ :: R } := by
    unfold insS partS
    rw [if_neg (show ¬ (withKs P (A ++ k :: B)).ks.length ≤ (insP s L P R (A ++ k :: B)).fan from hf), eu]
    rfl
  refine ⟨e, ?_, fun hh => ?_, fun hh => ?_⟩
  · unfold partM
    rw [if_neg (show ¬ (withKs P (A ++ k :: B)).ks.length ≤ s.fan from hf)]
    rfl
  · have hkm : lt k m = false := by
      have hkk : (A ++ k :: B)[A.length]? = some k := by simp
      rcases Nat.lt_or_ge (half (A ++ k :: B)) A.length with h | h
      · exact lt_as (up_at w3 h hm hkk)
      · have : half (A ++ k :: B) = A.length := by omega
        rw [this, hkk] at hm
        injection hm with hm
        rw [← hm]; exact lt_irr _
    rw [e]
    refine ⟨by simp, fun Q hQ => ?_, hkm, hs.hi⟩
    rcases List.mem_append.1 hQ with h | h
    · exact hs.lo Q h
    · rw [List.mem_singleton.1 h]; exact hs.at_
  · have hkm : lt k m = true := up_at w3 hh (by simp) hm
    rw [e]
    refine ⟨rfl, hs.lo, hs.at_, fun Q hQ => ?_⟩
    rcases List.mem_cons.1 hQ with h | h
    · rw [h]; exact hkm
    · exact hs.hi Q h
end Lf
end Go.Proofs.Ytjnaafgiokdcbaa
