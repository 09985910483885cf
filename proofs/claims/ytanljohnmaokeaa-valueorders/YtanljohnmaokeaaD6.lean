/- The reference's Decode: what it tells. -/
import Derived.Test.YtanljohnmaokeaaD5a
import Derived.Test.YtanljohnmaokeaaD5b
import Derived.Test.YtanljohnmaokeaaD5c
import Derived.Test.YtanljohnmaokeaaD5e
import Derived.Test.YtanljohnmaokeaaD5d
import Derived.Test.YtanljohnmaokeaaD5x
import Derived.Test.YtanljohnmaokeaaD4
import Derived.Test.YtanljohnmaokeaaM3
namespace Go.Proofs.Ytanljohnmaokeaa
open Go.RowKit
namespace Vl
theorem nv_sub (s : ByteArray) (a m b : Nat) (hb : b = a + 1 + m) (h : b ≤ s.size) : nv (s.extract (a + 1) b) (s.extract (a + 1) b).size = nv (s.extract (a + 1) s.size) m := by
  subst hb
  have h1 : (s.extract (a + 1) (a + 1 + m)).size = m := by rw [ByteArray.size_extract]; omega
  rw [h1, nv_take _ m (by omega), nv_take _ m (by rw [ByteArray.size_extract]; omega), extract_list, extract_list, size_list s, List.take_length, List.drop_take]
  rw [show a + 1 + m - (a + 1) = m from by omega, List.take_take, Nat.min_self]
theorem nv_one (s : ByteArray) (a : Nat) (h : a + 1 < s.size) : i64N (nv (s.extract (a + 1) s.size) 1) = ((cAt s (a + 1) : Nat) : Int) := by
  have e : nv (s.extract (a + 1) s.size) 1 = cAt s (a + 1) := by
    rw [nv_take _ 1 (by rw [ByteArray.size_extract]; omega), extract_list, size_list s, List.take_length]
    unfold cAt
    rw [List.drop_eq_getElem_cons (by rw [← size_list s]; exact h)]
    simp [nvL, h]
  rw [e]
  have := cAt_lt s (a + 1)
  unfold i64N wrap64
  omega
theorem text_sub (s : ByteArray) (a m : Nat) : s.extract (a + 3) (a + 3 + m) = (s.extract (a + 1) s.size).extract 2 (2 + m) := by
  apply ext_list
  rw [extract_list, extract_list, extract_list, size_list s, List.take_length, List.drop_take, List.drop_take, List.drop_drop]
  rw [show a + 3 + m - (a + 3) = 2 + m - 2 from by omega, show a + 1 + 2 = a + 3 from by omega]
/-- What the reference's Decode tells. -/
def decA (r : Option Got) : Value := .agg #[.int .i64 (gotV r).k, .int .i64 (gotV r).n, .float .f64 (gotV r).f, .string (gotV r).s, .int .i64 (gotZ r)]
theorem decA_none : decA none = .agg #[.int .i64 0, .int .i64 0, .float .f64 0, .string ⟨#[]⟩, .int .i64 0] := rfl
theorem decA_some (v : V) (sz : Nat) : decA (some ⟨v, sz⟩) = .agg #[.int .i64 v.k, .int .i64 v.n, .float .f64 v.f, .string v.s, .int .i64 (1 + (sz : Int))] := rfl
theorem decA_chk {k n : Int} {f : Nat} {t : ByteArray} {sz : Nat} {z : Int} (hz : 1 + (sz : Int) = z) : decA (chk k n f t sz) = bif goodB k n f t then .agg #[.int .i64 k, .int .i64 n, .float .f64 f, .string t, .int .i64 z] else .agg #[.int .i64 0, .int .i64 0, .float .f64 0, .string ⟨#[]⟩, .int .i64 0] := by
  subst hz
  unfold chk
  cases goodB k n f t
  · rfl
  · rfl
theorem decX_not {c : Nat} (x : ByteArray) (h : 5 ≤ c) : decX c x = none := by unfold decX; rw [if_neg (by omega), if_neg (by omega), if_neg (by omega), if_neg (by omega), if_neg (by omega)]
end Vl

theorem refDecode_any (s : ByteArray) (a : Int) (w : World) (hs : s.size ≤ 100000) :
    Calls Try.prog 21 #[.string s, .int .i64 a] w fun e w' => e = .returned (Vl.decA (Vl.dec s a)) ∧ Below w.heap.size w w' := by
  by_cases h : a < 0 ∨ (s.size : Int) ≤ a
  · have e : Vl.dec s a = none := by unfold Vl.dec; rw [if_pos h]
    rw [e, Vl.decA_none]
    exact refDecode_out s a w h
  · obtain ⟨n, rfl⟩ : ∃ n : Nat, a = (n : Int) := ⟨a.toNat, by omega⟩
    have ha : n < s.size := by omega
    have e : Vl.dec s (n : Int) = Vl.decX (Vl.cAt s n) (s.extract (n + 1) s.size) := by unfold Vl.dec; rw [if_neg h, Int.toNat_natCast]
    have hx : (s.extract (n + 1) s.size).size = s.size - (n + 1) := by rw [ByteArray.size_extract]; omega
    rw [e]
    clear e h
    by_cases c0 : Vl.cAt s n = 0
    · rw [c0, Vl.decX_0, Vl.decA_chk (z := 1) rfl]
      exact refDecode_0 s n w ha hs c0 _ rfl
    by_cases c1 : Vl.cAt s n = 1
    · rw [c1, Vl.decX_1]
      by_cases hm : s.size < n + 1 + 1
      · rw [if_pos (by rw [hx]; omega), Vl.decA_none]
        exact refDecode_1s s n w ha hs c1 hm
      · rw [if_neg (by rw [hx]; omega), Vl.decA_chk (z := 2) rfl, Vl.nv_one s n (by omega)]
        exact refDecode_1 s n w ha hs c1 (by omega) _ rfl (Vl.cAt_lt s (n + 1)) _ rfl
    by_cases c2 : Vl.cAt s n = 2
    · rw [c2, Vl.decX_2]
      by_cases hm : s.size < n + 1 + 8
      · rw [if_pos (by rw [hx]; omega), Vl.decA_none]
        exact refDecode_2s s n w ha hs c2 hm
      · rw [if_neg (by rw [hx]; omega), Vl.decA_chk (z := 9) rfl]
        exact refDecode_2 s n w ha hs c2 (by omega) _ (Vl.hid (Vl.nv_sub s n 8 (n + 9) (by omega) (by omega))) _ rfl
    by_cases c3 : Vl.cAt s n = 3
    · rw [c3, Vl.decX_3]
      by_cases hm : s.size < n + 1 + 8
      · rw [if_pos (by rw [hx]; omega), Vl.decA_none]
        exact refDecode_3s s n w ha hs c3 hm
      · rw [if_neg (by rw [hx]; omega)]
        have hu := Vl.nv_lt64 (s.extract (n + 1) s.size) (k := 8) (by omega)
        cases hb : Fl.isB (Fl.unbN (Vl.nv (s.extract (n + 1) s.size) 8))
        · rw [if_neg (by decide), Vl.decA_none]
          exact refDecode_3n s n w ha hs c3 (by omega) _ (Vl.hid (Vl.nv_sub s n 8 (n + 9) (by omega) (by omega))) (Vl.hid hu) _ (Vl.hid rfl) (Vl.hid hb)
        · rw [if_pos rfl, Vl.decA_chk (z := 9) rfl]
          exact refDecode_3 s n w ha hs c3 (by omega) _ (Vl.hid (Vl.nv_sub s n 8 (n + 9) (by omega) (by omega))) (Vl.hid hu) _ (Vl.hid rfl) (Vl.hid hb) _ rfl
    by_cases c4 : Vl.cAt s n = 4
    · rw [c4, Vl.decX_4]
      by_cases hm : s.size < n + 1 + 2
      · rw [if_pos (by rw [hx]; omega), Vl.decA_none]
        exact refDecode_4s s n w ha hs c4 hm
      · rw [if_neg (by rw [hx]; omega)]
        have hu : Vl.nv (s.extract (n + 1) s.size) 2 < 65536 := Vl.nv_lt (s.extract (n + 1) s.size) 2
        by_cases hn : s.size < n + 3 + Vl.nv (s.extract (n + 1) s.size) 2
        · rw [if_pos (by rw [hx]; omega), Vl.decA_none]
          exact refDecode_4l s n w ha hs c4 (by omega) _ (Vl.hid (Vl.nv_sub s n 2 (n + 3) (by omega) (by omega))) hu hn
        · rw [if_neg (by rw [hx]; omega), ← Vl.text_sub, Vl.decA_chk (z := 1 + (2 + (Vl.nv (s.extract (n + 1) s.size) 2 : Int))) (by omega)]
          exact refDecode_4 s n w ha hs c4 (by omega) _ (Vl.hid (Vl.nv_sub s n 2 (n + 3) (by omega) (by omega))) hu (by omega) _ rfl
    · have h5 : 5 ≤ Vl.cAt s n := by omega
      rw [Vl.decX_not _ h5, Vl.decA_none]
      exact refDecode_o s n w _ ha hs rfl h5 (Vl.cAt_lt s n) false (Vl.goodB_not _ _ _ (by omega))
end Go.Proofs.Ytanljohnmaokeaa
