/- The reference's has, Reach walked. -/
import Derived.Test.YthikdfcndppoaaaWa9
namespace Go.Proofs.Ythikdfcndppoaaa
open Go.RowKit

namespace Mm
theorem nodup_sub : ∀ (l m : List Int), l.Nodup → (∀ x ∈ l, x ∈ m) → l.length ≤ m.length
  | [], _, _, _ => Nat.zero_le _
  | a :: l, m, h, hm => by
    obtain ⟨h1, h2⟩ := List.nodup_cons.1 h
    have h3 := nodup_sub l (m.erase a) h2 (fun x hx => (List.mem_erase_of_ne (fun e => h1 (by rw [← e]; exact hx))).2 (hm x (List.mem_cons_of_mem _ hx)))
    have h4 := List.length_erase_of_mem (hm a (List.mem_cons_self ..))
    have h5 := List.length_pos_of_mem (hm a (List.mem_cons_self ..))
    simp only [List.length_cons]
    omega
theorem rising_nodup {l : List Int} (h : Kn.Rising l) : l.Nodup := h.imp (fun hab e => by subst e; omega)
theorem knot_len {l : Kn.El} {K : List (List Int)} (h : Kn.Knots l K) {k : List Int} (hk : k ∈ K) : k.length ≤ l.length := by
  have := nodup_sub k (l.map (·.1)) (rising_nodup (h.up k hk)) (fun x hx => by
    obtain ⟨e, he, h2⟩ := h.leads hk hx
    exact List.mem_map.2 ⟨e, he, h2⟩)
  simpa using this
/-- Whole numbers that lie where a slice says. -/
def IIn (w : World) (q : Option Addr) (l : List Int) : Prop := ∀ (j : Nat) (x : Int), l[j]? = some x → ∃ b o, q = some ⟨b, o, none⟩ ∧ b < w.heap.size ∧ w.cell? ⟨b, o + j, none⟩ = some (.int .i64 x)
theorem IIn.below {w w' : World} {q : Option Addr} {l : List Int} (h : IIn w q l) (hb : Below w.heap.size w w') : IIn w' q l := fun j x hx => by
  obtain ⟨b, o, h1, h2, h3⟩ := h j x hx
  exact ⟨b, o, h1, Nat.lt_of_lt_of_le h2 hb.size, (belAt hb _ h2).trans h3⟩
theorem Own.iin {w : World} {base : Nat} {v : Value} {l : List Int} (h : Own w base 3 v (its l)) : ∃ q c, v = .slice q l.length c ∧ IIn w q l ∧ l.length ≤ c ∧ (q = none → l = [] ∧ c = 0) := by
  obtain ⟨q, c, h1, h2, _, h4, _⟩ := h.shape
  rw [its_len] at h1 h2
  refine ⟨q, c, h1, fun j x hx => ?_, h2, fun hq => ?_⟩
  · obtain ⟨g, c', e1, _, e3, _, _⟩ := h.at (its_at hx)
    rw [h1] at e1
    injection e1 with e1
    have hl := (h.lt (g := g) (by rw [h1, e1]; rfl)).1
    exact ⟨g, 0, e1, hl, by rw [Nat.zero_add]; exact e3⟩
  · obtain ⟨e1, e2⟩ := h4 hq
    exact ⟨by have := congrArg List.length e1; simpa using this, e2⟩
end Mm

set_option maxRecDepth 100000 in
set_option maxHeartbeats 1000000 in
theorem has_any (w : World) (q : Option Addr) (c n : Nat) (l : List Int) (x : Int) (hl : Hid (Mm.IIn w q l)) (hn : Hid (n = l.length)) (hn1 : n < 100000) :
    Calls Try.prog 24 #[.slice q n c, .int .i64 x] w fun e w' => e = .returned (.bool (l.contains x)) ∧ w' = w := by
  go_enter Try.func24, Try.ntmps24
  go_wp2_with fail
  go_loopw [5] (fun v wr => ∃ k : Nat, k ≤ n ∧ v = .int .i64 (k : Int) ∧ Hid (x ∉ l.take k) ∧ Hid (wr = w)) (fun v _ => n - (RowKit.intOf v).toNat)
  case atStart => exact ⟨0, by omega, rfl, Mm.hid (by simp), Mm.hid rfl⟩
  case round =>
    obtain ⟨k, hk, rfl, HX, HW⟩ := hrel
    have hw := HW.out
    clear HW
    subst hw
    by_cases hlt : k < n
    · obtain ⟨y, hy⟩ : ∃ y, l[k]? = some y := ⟨_, List.getElem?_eq_getElem (by rw [← hn.out]; exact hlt)⟩
      obtain ⟨b, o, rfl, hb, c1⟩ := hl.out k y hy
      have HY := Mm.hid hy
      clear hy
      by_cases e : y = x
      · have he : (y == x) = true := by simpa using e
        have HE := Mm.hid e
        clear e
        go_wp2_with fail
        go_ret
        exact ⟨by rw [List.contains_iff_mem.2 (by rw [← HE.out]; exact List.mem_of_getElem? HY.out)]; rfl, rfl⟩
      · have he : (y == x) = false := by simpa using e
        have HE := Mm.hid e
        clear e
        go_wp2_with fail
        refine ⟨⟨k + 1, by omega, by go_num, Mm.hid ?_, Mm.hid trivial⟩, by simp [RowKit.intOf]; omega⟩
        rw [Mm.take_snoc' HY.out]
        intro h
        rcases List.mem_append.1 h with h | h
        · exact HX.out h
        · exact HE.out (List.mem_singleton.1 h).symm
    · have hx : x ∉ l := by
        have := HX.out
        rwa [List.take_of_length_le (by rw [← hn.out]; omega)] at this
      have HNX : Hid (l.contains x = false) := Mm.hid (by rw [Bool.eq_false_iff]; exact fun h => hx (List.contains_iff_mem.1 h))
      clear hx
      go_wp2_with fail
      go_ret
      exact ⟨by rw [HNX.out]; rfl, rfl⟩
end Go.Proofs.Ythikdfcndppoaaa
