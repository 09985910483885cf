/- What was encoded is decoded as it was; what was decoded is encoded as it stood: plain. -/
import Derived.Test.YtanljohnmaokeaaM2
namespace Go.Proofs.Ytanljohnmaokeaa
open Go.RowKit
namespace Vl

theorem unb_bits {x : Nat} (hx : x < 18446744073709551616) : Fl.unbN (Fl.bitsN x) = Fl.canonN x := by
  have := Fl.canonN_lt hx
  unfold Fl.bitsN Fl.unbN
  split <;> split <;> omega
theorem canon_of {x : Nat} (h : Fl.isB x = true) : Fl.canonN x = x := by
  unfold Fl.isB at h
  simp at h
  exact h.symm
theorem ext_list {a b : ByteArray} (h : a.data.toList = b.data.toList) : a = b := by
  cases a; cases b; simp at h; rw [h]
theorem size_list (a : ByteArray) : a.size = a.data.toList.length := by simp
theorem extract_list (t : ByteArray) (i j : Nat) : (t.extract i j).data.toList = (t.data.toList.take j).drop i := by
  rw [ByteArray.data_extract, Array.toList_extract]
  simp [List.extract_eq_take_drop, List.drop_take]
theorem append_list (a b : ByteArray) : (a ++ b).data.toList = a.data.toList ++ b.data.toList := by simp
theorem empty_of {s : ByteArray} (h : s.toList.isEmpty = true) : s = ⟨#[]⟩ := by
  apply ext_list
  rw [ByteArray.toList_eq] at h
  simpa using h

/-- Where it stands: the kind's byte, and what is behind it. -/
theorem at_enc (ahead : ByteArray) (kb : UInt8) (body : ByteArray) :
    cAt (ahead ++ (⟨#[kb]⟩ ++ body) ++ ⟨#[120]⟩) ahead.size = kb.toNat ∧
    (ahead ++ (⟨#[kb]⟩ ++ body) ++ ⟨#[120]⟩).extract (ahead.size + 1) (ahead ++ (⟨#[kb]⟩ ++ body) ++ ⟨#[120]⟩).size = body ++ ⟨#[120]⟩ := by
  have e : (ahead ++ (⟨#[kb]⟩ ++ body) ++ (⟨#[120]⟩ : ByteArray)).data.toList = ahead.data.toList ++ (kb :: (body.data.toList ++ [120])) := by
    rw [append_list, append_list, append_list]; simp
  constructor
  · unfold cAt
    rw [e, List.getD_eq_getElem?_getD, size_list, List.getElem?_append_right (Nat.le_refl _)]
    simp
  · apply ext_list
    rw [extract_list, size_list (ahead ++ (⟨#[kb]⟩ ++ body) ++ (⟨#[120]⟩ : ByteArray)), List.take_length, e, size_list ahead, List.drop_append, append_list]
    simp
theorem size_enc (ahead : ByteArray) (kb : UInt8) (body : ByteArray) : (ahead ++ (⟨#[kb]⟩ ++ body) ++ (⟨#[120]⟩ : ByteArray)).size = ahead.size + (1 + body.size) + 1 := by
  rw [ByteArray.size_append, ByteArray.size_append, ByteArray.size_append]; rfl
theorem nv_front (body : ByteArray) (m u : Nat) (h : body = ⟨(beL u m).toArray⟩) : nv (body ++ ⟨#[120]⟩) m = u % 256 ^ m := by
  have hs : body.size = m := by rw [h]; exact beA_size u m
  rw [nv_take _ m (by rw [ByteArray.size_append]; omega), append_list, List.take_append_of_le_length (by rw [← size_list]; omega), List.take_of_length_le (by rw [← size_list]; omega), h]
  exact nvL_beL m u

/-- What was encoded is decoded as it was. -/
theorem dec_enc (k n : Int) (f : Nat) (s ahead : ByteArray) (hn1 : -9223372036854775808 ≤ n) (hn2 : n ≤ 9223372036854775807) (hf : f < 18446744073709551616) (hg : goodB k n f s = true) :
    dec (ahead ++ encS k n f s ++ ⟨#[120]⟩) (ahead.size : Int) = some ⟨⟨k, n, f, s⟩, (body k n f s).size⟩ := by
  obtain ⟨a1, a2⟩ := at_enc ahead k.toNat.toUInt8 (body k n f s)
  have a3 := size_enc ahead k.toNat.toUInt8 (body k n f s)
  unfold dec
  rw [if_neg (by unfold encS; rw [a3]; omega), Int.toNat_natCast]
  unfold encS
  rw [a1, a2]
  by_cases hk : k < 0 ∨ 4 < k
  · rw [goodB_not n f s hk] at hg; cases hg
  have hx1 : (body k n f s ++ (⟨#[120]⟩ : ByteArray)).size = (body k n f s).size + 1 := by rw [ByteArray.size_append]; rfl
  rcases (by omega : k = 0 ∨ k = 1 ∨ k = 2 ∨ k = 3 ∨ k = 4) with rfl | rfl | rfl | rfl | rfl
  · have h := hg
    rw [goodB_0] at h
    unfold good0 at h
    simp only [Bool.and_eq_true, beq_iff_eq] at h
    obtain ⟨⟨h1, h2⟩, h3⟩ := h
    obtain rfl := empty_of h3
    subst h1
    obtain rfl : f = 0 := by omega
    show decX 0 _ = _
    rw [decX_0]
    exact chk_yes hg
  · have h := hg
    rw [goodB_1] at h
    unfold good1 at h
    simp only [Bool.and_eq_true, Bool.or_eq_true, beq_iff_eq] at h
    obtain ⟨⟨h1, h2⟩, h3⟩ := h
    obtain rfl := empty_of h3
    obtain rfl : f = 0 := by omega
    have hb : body 1 n 0 ⟨#[]⟩ = ⟨(beL (u64N n) 1).toArray⟩ := rfl
    have hz : (body 1 n 0 ⟨#[]⟩).size = 1 := by rw [hb]; exact beA_size _ _
    show decX 1 _ = _
    rw [decX_1, if_neg (by omega), nv_front _ 1 (u64N n) hb, hz]
    have e : i64N (u64N n % 256 ^ 1) = n := by
      rw [Nat.mod_eq_of_lt (by unfold u64N; omega)]; exact i64_u64 hn1 hn2
    rw [e]
    exact chk_yes hg
  · have h := hg
    rw [goodB_2] at h
    unfold good2 at h
    simp only [Bool.and_eq_true, beq_iff_eq] at h
    obtain ⟨h2, h3⟩ := h
    obtain rfl := empty_of h3
    obtain rfl : f = 0 := by omega
    have hb : body 2 n 0 ⟨#[]⟩ = ⟨(beL (u64N n) 8).toArray⟩ := rfl
    have hz : (body 2 n 0 ⟨#[]⟩).size = 8 := by rw [hb]; exact beA_size _ _
    show decX 2 _ = _
    rw [decX_2, if_neg (by omega), nv_front _ 8 (u64N n) hb, hz]
    have e : i64N (u64N n % 256 ^ 8) = n := by
      rw [Nat.mod_eq_of_lt (by unfold u64N; omega)]; exact i64_u64 hn1 hn2
    rw [e]
    exact chk_yes hg
  · have h := hg
    rw [goodB_3] at h
    unfold good3 at h
    simp only [Bool.and_eq_true, beq_iff_eq] at h
    obtain ⟨⟨h1, h2⟩, h3⟩ := h
    obtain rfl := empty_of h3
    subst h1
    have hb : body 3 0 f ⟨#[]⟩ = ⟨(beL (Fl.bitsN f) 8).toArray⟩ := rfl
    have hz : (body 3 0 f ⟨#[]⟩).size = 8 := by rw [hb]; exact beA_size _ _
    have hbl : Fl.bitsN f < 18446744073709551616 := by
      have := Fl.canonN_lt hf
      unfold Fl.bitsN
      split <;> omega
    show decX 3 _ = _
    rw [decX_3, if_neg (by omega), nv_front _ 8 (Fl.bitsN f) hb, hz, Nat.mod_eq_of_lt (by omega), unb_bits hf, canon_of h2, if_pos h2]
    have e : Fl.gotN f = f := by unfold Fl.gotN; rw [if_pos h2]
    rw [e]
    exact chk_yes hg
  · have h := hg
    rw [goodB_4] at h
    unfold good4 at h
    simp only [Bool.and_eq_true, beq_iff_eq, decide_eq_true_iff] at h
    obtain ⟨⟨h1, h2⟩, h3⟩ := h
    subst h1
    obtain rfl : f = 0 := by omega
    have hb : body 4 0 0 s = ⟨(beL s.size 2).toArray⟩ ++ s := rfl
    have hz : (body 4 0 0 s).size = 2 + s.size := by rw [hb, ByteArray.size_append, beA_size]
    have hnv : nv (body 4 0 0 s ++ (⟨#[120]⟩ : ByteArray)) 2 = s.size := by
      rw [nv_take _ 2 (by rw [ByteArray.size_append]; omega), append_list, hb, append_list, List.append_assoc, List.take_append_of_le_length (by simp [beL_length]), List.take_of_length_le (by simp [beL_length])]
      show nvL (beL s.size 2) = _
      rw [nvL_beL, Nat.mod_eq_of_lt (by omega)]
    show decX 4 _ = _
    rw [decX_4, if_neg (by omega), hnv, if_neg (by omega), hz]
    have e : (body 4 0 0 s ++ (⟨#[120]⟩ : ByteArray)).extract 2 (2 + s.size) = s := by
      apply ext_list
      rw [extract_list, append_list, hb, append_list, List.append_assoc, List.take_append, List.drop_append]
      simp [beL_length]
    rw [e]
    exact chk_yes hg

end Vl
end Go.Proofs.Ytanljohnmaokeaa
