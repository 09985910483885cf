/- The reference's Victim walked. -/
import Derived.Test.YthikdfcndppoaaaWf4
import Derived.Test.YthikdfcndppoaaaWa13
namespace Go.Proofs.Ythikdfcndppoaaa
open Go.RowKit

namespace Mm
/-- The greatest so far. -/
def Vi (K : List (List Int)) (k : Nat) (v : Int) (sm : Bool) : Prop := if k = 0 then v = 0 ∧ sm = false else sm = true ∧ (∃ kk ∈ K, v ∈ kk) ∧ ∀ (i : Nat) (kk : List Int), i < k → K[i]? = some kk → ∀ x ∈ kk, x ≤ v
theorem Vi.first {K : List (List Int)} {kk : List Int} {y : Int} (hk : K[0]? = some kk) (hy : y ∈ kk) (hm : ∀ x ∈ kk, x ≤ y) : Vi K (0 + 1) y true := by
  unfold Vi
  rw [if_neg (by omega)]
  refine ⟨rfl, ⟨kk, List.mem_of_getElem? hk, hy⟩, fun i k2 hi hk2 x hx => ?_⟩
  obtain rfl : i = 0 := by omega
  rw [hk] at hk2
  injection hk2 with hk2
  subst hk2
  exact hm x hx
theorem Vi.next {K : List (List Int)} {k : Nat} {v : Int} {sm : Bool} (h : Vi K k v sm) (h0 : k ≠ 0) {kk : List Int} {y u : Int} (hk : K[k]? = some kk) (hy : y ∈ kk) (hm : ∀ x ∈ kk, x ≤ y) (hu : (v < y ∧ u = y) ∨ (¬ v < y ∧ u = v)) : sm = true ∧ Vi K (k + 1) u true := by
  unfold Vi at h ⊢
  rw [if_neg h0] at h
  rw [if_neg (by omega)]
  refine ⟨h.1, rfl, ?_, fun i k2 hi hk2 x hx => ?_⟩
  · rcases hu with ⟨_, rfl⟩ | ⟨_, rfl⟩
    · exact ⟨kk, List.mem_of_getElem? hk, hy⟩
    · exact h.2.1
  · by_cases e : i = k
    · subst e
      rw [hk] at hk2
      injection hk2 with hk2
      subst hk2
      have := hm x hx
      rcases hu with ⟨_, rfl⟩ | ⟨_, rfl⟩ <;> omega
    · have := h.2.2 i k2 (by omega) hk2 x hx
      rcases hu with ⟨_, rfl⟩ | ⟨_, rfl⟩ <;> omega
theorem Vi.done {K : List (List Int)} {k : Nat} {v : Int} {sm : Bool} (h : Vi K k v sm) (hk : k = K.length) : Kn.IsVictim K v sm := by
  unfold Vi at h
  unfold Kn.IsVictim
  by_cases e : K = []
  · rw [if_pos e]; rw [if_pos (by rw [hk, e]; rfl)] at h; exact h
  · rw [if_neg e]
    rw [if_neg (by rw [hk]; exact fun h => e (List.length_eq_zero_iff.1 h))] at h
    refine ⟨h.1, h.2.1, fun kk hkk x hx => ?_⟩
    obtain ⟨i, hi⟩ := List.getElem?_of_mem hkk
    exact h.2.2 i kk (by rw [hk]; exact (List.getElem?_eq_some_iff.1 hi).1) hi x hx
end Mm

set_option maxRecDepth 100000 in
set_option maxHeartbeats 4000000 in
theorem refVictim_any (w : World) (q : Option Addr) (c n : Nat) (l : Kn.El) (hl : Hid (Mm.EIn w q l)) (hn : Hid (n = l.length)) (hn1 : n < 100) :
    Calls Try.prog 12 #[.slice q n c] w fun e w' => ∃ (v : Int) (ok : Bool) (K : List (List Int)), e = .returned (.tuple #[.int .i64 v, .bool ok]) ∧ Kn.Knots l K ∧ Kn.IsVictim K v ok ∧ Below w.heap.size w w' := by
  have HC := Mm.hid (refCircles_any w q c n l hl hn hn1)
  go_enter Try.func12, Try.ntmps12
  go_wp2_with fail
  refine HC.out.mono ?_
  rintro e w1 ⟨q1, c1, K, rfl, hK, hK1, hkn, hb⟩
  have HK := Mm.hid (And.intro hK (And.intro hkn hb))
  clear hK hkn hb HC
  obtain ⟨N, hN⟩ : ∃ N, N = K.length := ⟨_, rfl⟩
  rw [← hN] at hK1 ⊢
  have HN := Mm.hid hN
  clear hN
  go_wp2_with fail
  go_loopw [5, 6, 7] (fun v5 v6 v7 wr => ∃ (k : Nat) (v : Int) (sm : Bool), k ≤ N ∧ v7 = .int .i64 (k : Int) ∧ v5 = .int .i64 v ∧ v6 = .bool sm ∧ Hid (Mm.Vi K k v sm) ∧ Hid (Below w1.heap.size w1 wr)) (fun _ _ v7 _ => N - (RowKit.intOf v7).toNat)
  case atStart => exact ⟨0, 0, false, by omega, rfl, rfl, rfl, Mm.hid (by unfold Mm.Vi; rw [if_pos rfl]; exact ⟨rfl, rfl⟩), Below.refl _ _⟩
  case round =>
    obtain ⟨k, v, sm, hk, rfl, rfl, rfl, HV, HB⟩ := hrel
    rename World => wr
    by_cases hlt : k < N
    · obtain ⟨kk, hkk⟩ : ∃ kk, K[k]? = some kk := ⟨_, List.getElem?_eq_getElem (by rw [← HN.out]; omega)⟩
      have hkm := List.mem_of_getElem? hkk
      have hne1 := HK.out.2.1.ne kk hkm
      have HKI := Mm.hid HK.out.1
      obtain ⟨b', o', g1, cc1, e1, hc1, hl1, hr1⟩ := (HK.out.1.below HB.out).at hkk
      subst e1
      obtain ⟨m, hm⟩ : ∃ m, kk.length = m + 1 := ⟨kk.length - 1, by cases hz : kk with | nil => exact absurd hz hne1 | cons => simp⟩
      obtain ⟨y, hy1, hy2, hy3⟩ := Mm.last_max (HK.out.2.1.up kk hkm) hm
      have hd1 := hr1 m y hy1
      rw [hm] at hc1 hl1
      have HY := Mm.hid (And.intro hkk (And.intro hkm (And.intro hy2 hy3)))
      have hmm : m < 1000 := by have := Mm.knot_len HK.out.2.1 hkm; have := hn.out; omega
      have gk0 : (0 : Int) ≤ (k : Int) := by omega
      have gk1 : (k : Int) < (N : Int) := by omega
      have gm0 : (0 : Int) ≤ (m : Int) := by omega
      have gm1 : (m : Int) < (m : Int) + 1 := by omega
      clear hkk hkm hne1 hr1 hm hy1 hy2 hy3
      by_cases h0 : k = 0
      · have hv := HV.out
        unfold Mm.Vi at hv
        rw [if_pos h0] at hv
        obtain ⟨rfl, rfl⟩ := hv
        have HV2 : Hid (Mm.Vi K (k + 1) y true) := Mm.hid (by
          have h := Mm.Vi.first (K := K) (by rw [← h0]; exact HY.out.1) HY.out.2.2.1 HY.out.2.2.2
          rw [h0]; exact h)
        clear h0 HV
        go_wp2_with fail
        go_quiet (fail)
        go_wp2_with fail
        exact ⟨⟨k + 1, y, true, by omega, by go_num, rfl, rfl, HV2, Mm.belDN HB.out _⟩, by simp [RowKit.intOf]; omega⟩
      · by_cases ht : v < y
        · obtain ⟨rfl, hv2⟩ := HV.out.next h0 HY.out.1 HY.out.2.2.1 HY.out.2.2.2 (.inl ⟨ht, rfl⟩)
          have HV2 := Mm.hid hv2
          have hd : decide (v < y) = true := decide_eq_true ht
          clear hv2
          go_wp2_with fail
          go_quiet (fail)
          go_wp2_with fail
          exact ⟨⟨k + 1, y, true, by omega, by go_num, rfl, rfl, HV2, Mm.belDN HB.out _⟩, by simp [RowKit.intOf]; omega⟩
        · obtain ⟨rfl, hv2⟩ := HV.out.next h0 HY.out.1 HY.out.2.2.1 HY.out.2.2.2 (.inr ⟨ht, rfl⟩)
          have HV2 := Mm.hid hv2
          have hd : decide (v < y) = false := decide_eq_false ht
          clear hv2
          go_wp2_with fail
          go_quiet (fail)
          go_wp2_with fail
          exact ⟨⟨k + 1, v, true, by omega, by go_num, rfl, rfl, HV2, Mm.belDN HB.out _⟩, by simp [RowKit.intOf]; omega⟩
    · obtain rfl : k = N := by omega
      go_wp2_with fail
      go_ret2
      exact ⟨v, sm, K, rfl, HK.out.2.1, HV.out.done HN.out, Mm.belTr HK.out.2.2 (Nat.le_refl _) HB.out⟩
end Go.Proofs.Ythikdfcndppoaaa
