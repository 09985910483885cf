/- What was decoded is encoded as it stood: plain. -/
import Derived.Test.YtanljohnmaokeaaM3
namespace Go.Proofs.Ytanljohnmaokeaa
open Go.RowKit
namespace Vl

theorem chk_some {k n : Int} {f : Nat} {t : ByteArray} {sz : Nat} {g : Got} (h : chk k n f t sz = some g) : g = ⟨⟨k, n, f, t⟩, sz⟩ ∧ goodB k n f t = true := by
  cases hg : goodB k n f t
  · rw [chk_no hg] at h; cases h
  · rw [chk_yes hg] at h; exact ⟨(Option.some.inj h).symm, rfl⟩

/-- All that Decode's answer tells. -/
structure Back (s : ByteArray) (a : Nat) (g : Got) : Prop where
  good : goodB g.v.k g.v.n g.v.f g.v.s = true
  lt : g.v.f < 18446744073709551616
  le : a + (1 + g.sz) ≤ s.size
  body : (body g.v.k g.v.n g.v.f g.v.s).size = g.sz
  enc : encS g.v.k g.v.n g.v.f g.v.s = s.extract a (a + (1 + g.sz))
  txt : g.v.s.size ≤ 256

theorem back_of {s : ByteArray} {a : Nat} {k n : Int} {f : Nat} {t : ByteArray} {sz : Nat} (ha : a < s.size) (hc : (cAt s a : Int) = k) (hg : goodB k n f t = true) (hf : f < 18446744073709551616) (hz : sz ≤ (s.extract (a + 1) s.size).size) (ht : t.size ≤ 256)
    (hb : (Vl.body k n f t).data.toList = ((s.extract (a + 1) s.size).data.toList).take sz) : Back s a ⟨⟨k, n, f, t⟩, sz⟩ := by
  have hx : (s.extract (a + 1) s.size).size = s.size - (a + 1) := by rw [ByteArray.size_extract]; omega
  have hl : (s.extract (a + 1) s.size).data.toList = s.data.toList.drop (a + 1) := by
    rw [extract_list, size_list s, List.take_length]
  have hsz : (Vl.body k n f t).size = sz := by
    rw [size_list, hb, List.length_take, ← size_list]; omega
  refine ⟨hg, hf, by show a + (1 + sz) ≤ s.size; omega, hsz, ?_, ht⟩
  show encS k n f t = s.extract a (a + (1 + sz))
  apply ext_list
  unfold encS
  rw [append_list, hb, hl, extract_list, List.drop_take]
  have hal : a < s.data.toList.length := by rw [← size_list]; exact ha
  rw [List.drop_eq_getElem_cons hal, show a + (1 + sz) - a = sz + 1 from by omega, List.take_succ_cons]
  have e : k.toNat.toUInt8 = s.data.toList[a] := by
    have h1 : cAt s a = s.data.toList[a].toNat := by unfold cAt; rw [List.getD_eq_getElem?_getD, List.getElem?_eq_getElem hal]; rfl
    rw [← hc, h1, Int.toNat_natCast]; simp
  rw [e]
  rfl

theorem dec_back {s : ByteArray} {a : Nat} {g : Got} (h : dec s (a : Int) = some g) : Back s a g := by
  unfold dec at h
  by_cases ho : (a : Int) < 0 ∨ (s.size : Int) ≤ (a : Int)
  · rw [if_pos ho] at h; cases h
  rw [if_neg ho, Int.toNat_natCast] at h
  have ha : a < s.size := by omega
  have hxl := fun m (hm : m ≤ (s.extract (a + 1) s.size).size) => nv_take (s.extract (a + 1) s.size) m hm
  have hlt := fun m => nv_lt (s.extract (a + 1) s.size) m
  generalize hx : s.extract (a + 1) s.size = x at *
  by_cases h0 : cAt s a = 0
  · rw [h0, decX_0] at h
    obtain ⟨rfl, hg⟩ := chk_some h
    exact back_of ha (by rw [h0]; rfl) hg (by omega) (by omega) (by decide) (by simp [Vl.body])
  by_cases h1 : cAt s a = 1
  · rw [h1, decX_1] at h
    by_cases hm : x.size < 1
    · rw [if_pos hm] at h; cases h
    rw [if_neg hm] at h
    obtain ⟨rfl, hg⟩ := chk_some h
    refine back_of ha (by rw [h1]; rfl) hg (by omega) (by rw [hx]; omega) (by decide) ?_
    show (beL (u64N (i64N (nv x 1))) 1) = _
    have := hlt 1
    rw [u64_i64 (by omega), hxl 1 (by omega), hx]
    have hl : (x.data.toList.take 1).length = 1 := by rw [List.length_take, ← size_list]; omega
    have hb := beL_nvL (x.data.toList.take 1)
    rw [hl] at hb
    exact hb
  by_cases h2 : cAt s a = 2
  · rw [h2, decX_2] at h
    by_cases hm : x.size < 8
    · rw [if_pos hm] at h; cases h
    rw [if_neg hm] at h
    obtain ⟨rfl, hg⟩ := chk_some h
    refine back_of ha (by rw [h2]; rfl) hg (by omega) (by rw [hx]; omega) (by decide) ?_
    show (beL (u64N (i64N (nv x 8))) 8) = _
    have := hlt 8
    rw [u64_i64 (by omega), hxl 8 (by omega), hx]
    have hl : (x.data.toList.take 8).length = 8 := by rw [List.length_take, ← size_list]; omega
    have hb := beL_nvL (x.data.toList.take 8)
    rw [hl] at hb
    exact hb
  by_cases h3 : cAt s a = 3
  · rw [h3, decX_3] at h
    by_cases hm : x.size < 8
    · rw [if_pos hm] at h; cases h
    rw [if_neg hm] at h
    cases hi : Fl.isB (Fl.unbN (nv x 8))
    · rw [hi] at h; cases h
    rw [hi, if_pos rfl] at h
    have hu : nv x 8 < 18446744073709551616 := by have := hlt 8; omega
    have hul := Fl.unbN_lt hu
    obtain ⟨rfl, hg⟩ := chk_some h
    have eg : Fl.gotN (Fl.unbN (nv x 8)) = Fl.unbN (nv x 8) := by unfold Fl.gotN; rw [if_pos hi]
    rw [eg] at hg ⊢
    refine back_of ha (by rw [h3]; rfl) hg hul (by rw [hx]; omega) (by decide) ?_
    show (beL (Fl.bitsN (Fl.unbN (nv x 8))) 8) = _
    rw [Fl.bits_unb hu hi, hxl 8 (by omega), hx]
    have hl : (x.data.toList.take 8).length = 8 := by rw [List.length_take, ← size_list]; omega
    have hb := beL_nvL (x.data.toList.take 8)
    rw [hl] at hb
    exact hb
  by_cases h4 : cAt s a = 4
  · rw [h4, decX_4] at h
    by_cases hm : x.size < 2
    · rw [if_pos hm] at h; cases h
    rw [if_neg hm] at h
    by_cases hm2 : x.size < 2 + nv x 2
    · rw [if_pos hm2] at h; cases h
    rw [if_neg hm2] at h
    obtain ⟨rfl, hg⟩ := chk_some h
    have hts : (x.extract 2 (2 + nv x 2)).size = nv x 2 := by rw [ByteArray.size_extract]; omega
    have ht : (x.extract 2 (2 + nv x 2)).size ≤ 256 := by
      have hg' := hg
      rw [goodB_4] at hg'
      unfold good4 at hg'
      simp only [Bool.and_eq_true, decide_eq_true_iff] at hg'
      omega
    refine back_of ha (by rw [h4]; rfl) hg (by omega) (by rw [hx]; omega) ht ?_
    show ((⟨(beL (x.extract 2 (2 + nv x 2)).size 2).toArray⟩ : ByteArray) ++ x.extract 2 (2 + nv x 2)).data.toList = _
    rw [append_list, hts, extract_list, hx]
    have e1 : beL (nv x 2) 2 = x.data.toList.take 2 := by
      rw [hxl 2 (by omega)]
      have hl : (x.data.toList.take 2).length = 2 := by rw [List.length_take, ← size_list]; omega
      have hb := beL_nvL (x.data.toList.take 2)
      rw [hl] at hb
      exact hb
    show beL (nv x 2) 2 ++ _ = _
    rw [e1, List.drop_take]
    rw [show 2 + nv x 2 - 2 = nv x 2 from by omega, ← List.take_add]
  · have e : decX (cAt s a) x = none := by unfold decX; rw [if_neg h0, if_neg h1, if_neg h2, if_neg h3, if_neg h4]
    rw [e] at h; cases h

end Vl
end Go.Proofs.Ytanljohnmaokeaa
