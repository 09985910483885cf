/- What was encoded is decoded as it was; what was decoded is encoded as it stood: plain. -/
import Derived.Test.YtanljohnmaokeaaD4
import Derived.Test.YtanljohnmaokeaaE3
namespace Go.Proofs.Ytanljohnmaokeaa
open Go.RowKit
namespace Vl

theorem beL_snoc (u m : Nat) : beL u (m + 1) = beL (u / 256) m ++ [(u % 256).toUInt8] := by
  apply List.ext_getElem (by simp [beL])
  intro j h1 h2
  have hj : j < m + 1 := by simpa [beL] using h1
  by_cases e : j < m
  · rw [List.getElem_append_left (by simpa [beL] using e)]
    simp only [beL, List.getElem_map, List.getElem_range]
    rw [show m + 1 - 1 - j = (m - 1 - j) + 1 from by omega, Nat.pow_succ, Nat.mul_comm, ← Nat.div_div_eq_div_mul]
  · obtain rfl : j = m := by omega
    rw [List.getElem_append_right (by simp [beL])]
    simp [beL]
/-- The number of a list of bytes. -/
def nvL (l : List UInt8) : Nat := l.foldl (fun u c => u * 256 + c.toNat) 0
theorem nvL_snoc (l : List UInt8) (c : UInt8) : nvL (l ++ [c]) = nvL l * 256 + c.toNat := by simp [nvL]
theorem nv_take (s : ByteArray) : ∀ k, k ≤ s.size → nv s k = nvL (s.data.toList.take k)
  | 0, _ => by simp [nv, nvL]
  | k + 1, h => by
    have hk : k < s.data.toList.length := by simp; omega
    rw [List.take_succ_eq_append_getElem hk, nvL_snoc, nv, nv_take s k (by omega)]
    congr 1
    unfold cAt
    rw [List.getD_eq_getElem?_getD, List.getElem?_eq_getElem hk]; rfl
theorem nvL_beL : ∀ (m u : Nat), nvL (beL u m) = u % 256 ^ m
  | 0, u => by simp [beL, nvL, Nat.mod_one]
  | m + 1, u => by
    rw [beL_snoc, nvL_snoc, nvL_beL m (u / 256)]
    have e : ((u % 256).toUInt8).toNat = u % 256 := by rw [Nat.toUInt8, UInt8.toNat_ofNat']; omega
    rw [e, Nat.pow_succ, Nat.mul_comm (256 ^ m) 256, Nat.mod_mul]
    omega
theorem beL_nvL : ∀ (l : List UInt8), beL (nvL l) l.length = l := by
  intro l
  induction hn : l.length generalizing l with
  | zero => obtain rfl := List.length_eq_zero_iff.1 hn; rfl
  | succ m ih =>
    have hne : l ≠ [] := by intro e; rw [e] at hn; cases hn
    obtain ⟨a, c, rfl⟩ : ∃ a c, l = a ++ [c] := ⟨l.dropLast, l.getLast hne, (List.dropLast_concat_getLast hne).symm⟩
    have ha : a.length = m := by simpa using hn
    rw [beL_snoc, nvL_snoc]
    have hc := UInt8.toNat_lt c
    have e1 : (nvL a * 256 + c.toNat) / 256 = nvL a := by omega
    have e2 : (nvL a * 256 + c.toNat) % 256 = c.toNat := by omega
    rw [e1, e2, ih a ha]
    congr 2
    simp
theorem nvL_lt (l : List UInt8) : nvL l < 256 ^ l.length := by
  have h := nvL_beL l.length (nvL l)
  rw [beL_nvL] at h
  rw [h]
  exact Nat.mod_lt _ (Nat.pow_pos (by omega))

theorem i64_u64 {n : Int} (h1 : -9223372036854775808 ≤ n) (h2 : n ≤ 9223372036854775807) : i64N (u64N n) = n := by
  unfold i64N u64N wrap64
  omega
theorem u64_i64 {u : Nat} (h : u < 18446744073709551616) : u64N (i64N u) = u := by
  unfold i64N u64N wrap64
  omega

end Vl
end Go.Proofs.Ytanljohnmaokeaa
