/- The reference's list, its members, its sets. -/
import Derived.Test.YthaenobciefjiaaDoorJ2
namespace Go.Proofs.YthaenobciefjiaaDoor
open Go.RowKit

namespace Md
theorem hid {p : Prop} (h : p) : Hid p := h
/-- A list of numbers, where a slice says. -/
def Row (w : World) (p : Option Addr) (l : List Int) : Prop := ∀ (j : Nat) (v : Int), l[j]? = some v → ∃ b, p = some ⟨b, 0, none⟩ ∧ w.cell? ⟨b, j, none⟩ = some (.int .i64 v)

theorem row_new (w : World) (l : List Int) (t : TypeId) : Row (w.alloc (.cells (l.map (fun n => Value.int .i64 n)).toArray t)) (some ⟨w.heap.size, 0, none⟩) l := fun j v h =>
  ⟨_, rfl, by rw [World.cell?_alloc_new]; simp [h]⟩

theorem has_hit {l : List Int} {b : Int} {k : Nat} (h : l[k]? = some b) : l.contains b = true := by
  simp only [List.contains_iff_mem]; exact List.mem_of_getElem? h
theorem has_miss {l : List Int} {b : Int} (h : ∀ (j : Nat) (v : Int), l[j]? = some v → v ≠ b) : l.contains b = false := by
  rw [Bool.eq_false_iff]
  intro hc
  simp only [List.contains_iff_mem] at hc
  obtain ⟨j, hj⟩ := List.getElem?_of_mem hc
  exact h j b hj rfl

theorem len8 (a : Int) : (barL a).length ≤ 8 := by
  unfold barL
  by_cases h1 : a = 1
  · rw [if_pos h1]; decide
  rw [if_neg h1]
  by_cases h2 : a = 2
  · rw [if_pos h2]; decide
  rw [if_neg h2]
  by_cases h3 : a = 3
  · rw [if_pos h3]; decide
  rw [if_neg h3]
  by_cases h4 : a = 4
  · rw [if_pos h4]; decide
  rw [if_neg h4]
  by_cases h5 : a = 5
  · rw [if_pos h5]; decide
  rw [if_neg h5]
  by_cases h6 : a = 6
  · rw [if_pos h6]; decide
  rw [if_neg h6]
  by_cases h7 : a = 7
  · rw [if_pos h7]; decide
  rw [if_neg h7]
  by_cases h8 : a = 8
  · rw [if_pos h8]; decide
  rw [if_neg h8]; decide

theorem bal {w : World} {w' : World} {o : Obj} (h : Below w.heap.size w w') : Below w.heap.size w (w'.alloc o) := h.alloc (h.size) o
end Md

set_option maxHeartbeats 1000000 in
theorem refList_any (m : Int) (w : World) :
    Calls Tryd.prog 58 #[.int .i64 m] w fun e w' => ∃ p, e = .returned (.slice p (Md.barL m).length (Md.barL m).length) ∧ Md.Row w' p (Md.barL m) ∧ Below w.heap.size w w' := by
  rcases Md.cases m with rfl | rfl | rfl | rfl | rfl | rfl | rfl | rfl | ⟨hi, h1, h2, h3, h4, h5, h6, h7, h8, -, hl⟩
  case inr.inr.inr.inr.inr.inr.inr.inr =>
    rw [hl]
    go_enter Tryd.func58, Tryd.ntmps58
    go_wp2
    go_ret
    exact ⟨_, rfl, fun j v h => (by simp at h), Below.refl _ _⟩
  all_goals
    go_enter Tryd.func58, Tryd.ntmps58
    go_wp2
    go_ret
    exact ⟨_, rfl, Md.row_new w _ _, Md.bal (Below.refl _ _)⟩

set_option maxRecDepth 100000 in
set_option maxHeartbeats 2000000 in
theorem refBars_any (a b : Int) (w : World) :
    Calls Tryd.prog 47 #[.int .i64 a, .int .i64 b] w fun e w' => e = .returned (.bool (Md.barsB a b)) ∧ Below w.heap.size w w' := by
  obtain ⟨l, hl⟩ : ∃ l, l = Md.barL a := ⟨_, rfl⟩
  obtain ⟨n, hn⟩ : ∃ n, n = l.length := ⟨_, rfl⟩
  have hn8 : n ≤ 8 := by rw [hn, hl]; exact Md.len8 a
  have HL := Md.hid hl
  have HN := Md.hid hn
  clear hl hn
  go_enter Tryd.func47, Tryd.ntmps47
  go_wp2_with fail
  refine (refList_any _ _).mono ?_
  rintro e w1 ⟨p, rfl, hr, hb⟩
  rw [← HL.out, ← HN.out]
  rw [← HL.out] at hr
  have HR := Md.hid hr
  have HB := Md.hid hb
  clear hr hb
  go_wp2_with fail
  go_loopw [6] (fun vi wr => ∃ k : Nat, k ≤ n ∧ vi = .int .i64 (k : Int) ∧ Hid (∀ (j : Nat) (v : Int), j < k → l[j]? = some v → v ≠ b) ∧ wr = w1) (fun vi _ => n - (RowKit.intOf vi).toNat)
  case atStart => exact ⟨0, by omega, rfl, fun j _ h => absurd h (Nat.not_lt_zero j), rfl⟩
  case round =>
    obtain ⟨k, hk1, rfl, HI, hq⟩ := hrel
    obtain rfl := hq.symm
    by_cases hlt : k < n
    · obtain ⟨v, hv⟩ : ∃ v, l[k]? = some v := ⟨l[k]'(by rw [← HN.out]; exact hlt), List.getElem?_eq_getElem _⟩
      obtain ⟨bb, hp, hc⟩ := HR.out k v hv
      have HV := Md.hid hv
      clear hv
      subst hp
      cases ht : (v == b)
      · have HT : Hid (v ≠ b) := Md.hid (by simpa using ht)
        go_wp2_with fail
        refine ⟨⟨k + 1, by omega, by go_num, fun j u hj hu => ?_, trivial⟩, by simp [RowKit.intOf]; omega⟩
        by_cases e : j = k
        · subst e
          rw [HV.out] at hu
          cases hu
          exact HT.out
        · exact HI.out j u (by omega) hu
      · have HT : Hid (v = b) := Md.hid (by simpa using ht)
        have HE : Hid (Md.barsB a b = true) := Md.hid (by unfold Md.barsB; rw [← HL.out]; exact Md.has_hit (by rw [HV.out, HT.out]))
        go_wp2_with fail
        go_ret
        exact ⟨by rw [HE.out]; rfl, HB.out⟩
    · obtain rfl : k = n := by omega
      have HE : Hid (Md.barsB a b = false) := Md.hid (by unfold Md.barsB; rw [← HL.out]; exact Md.has_miss fun j v hv => HI.out j v (by obtain ⟨g, _⟩ := List.getElem?_eq_some_iff.1 hv; rw [HN.out]; exact g) hv)
      go_wp2_with fail
      go_ret
      exact ⟨by rw [HE.out]; rfl, HB.out⟩

end Go.Proofs.YthaenobciefjiaaDoor
