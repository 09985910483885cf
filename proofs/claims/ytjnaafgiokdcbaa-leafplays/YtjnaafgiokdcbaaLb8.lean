/- Lists of numbers and of texts compared; is a number in a list? -/
import Derived.Test.YtjnaafgiokdcbaaLb7
namespace Go.Proofs.Ytjnaafgiokdcbaa
open Go.RowKit

namespace Mm
def IIn (w : World) (q : Option Addr) (l : List Int) : Prop := ∀ (j : Nat) (x : Int), l[j]? = some x → ∃ b o, q = some ⟨b, o, none⟩ ∧ b < w.heap.size ∧ w.cell? ⟨b, o + j, none⟩ = some (.int .i64 x)
theorem IIn.below {w w' : World} {q : Option Addr} {l : List Int} (h : IIn w q l) (hb : Below w.heap.size w w') : IIn w' q l := fun j x hx => by
  obtain ⟨b, o, h1, h2, h3⟩ := h j x hx
  exact ⟨b, o, h1, Nat.lt_of_lt_of_le h2 hb.size, (belAt hb _ h2).trans h3⟩
theorem Own.nin {w : World} {base : Nat} {v : Value} {l : List Nat} (h : Own w base 3 v (nts l)) : ∃ q c, v = .slice q (l.map (fun n : Nat => (n : Int))).length c ∧ IIn w q (l.map (fun n : Nat => (n : Int))) := by
  obtain ⟨q, c, h1, h2, -, -, -⟩ := h.shape
  refine ⟨q, c, by rw [h1, nts_len, List.length_map], fun j x hx => ?_⟩
  rw [List.getElem?_map] at hx
  cases hy : l[j]? with
  | none => rw [hy] at hx; cases hx
  | some y =>
    rw [hy] at hx
    cases hx
    obtain ⟨g, c', e1, -, e3, -, -⟩ := h.at (nts_at hy)
    rw [h1] at e1
    injection e1 with e1
    exact ⟨g, 0, e1, World.block_lt_of_cell? _ _ e3, by rw [Nat.zero_add]; exact e3⟩
theorem nts_its (l : List Nat) : nts l = its (l.map (fun n : Nat => (n : Int))) := by simp [nts, its]
theorem Own.iin {w : World} {base : Nat} {v : Value} {l : List Int} (h : Own w base 3 v (its l)) : ∃ q c, v = .slice q l.length c ∧ l.length ≤ c ∧ IIn w q l := by
  obtain ⟨q, c, h1, h2, -, -, -⟩ := h.shape
  refine ⟨q, c, by rw [h1, its_len], by rw [its_len] at h2; exact h2, fun j x hx => ?_⟩
  obtain ⟨g, c', e1, -, e3, -, -⟩ := h.at (its_at hx)
  rw [h1] at e1
  injection e1 with e1
  exact ⟨g, 0, e1, World.block_lt_of_cell? _ _ e3, by rw [Nat.zero_add]; exact e3⟩
/-- One number, laid just now. -/
theorem iin_one {w : World} {g : Nat} {x : Int} (h : w.heap[g]? = some (.cells #[.int .i64 x] 3 (0, 0))) : IIn w (some ⟨g, 0, none⟩) [x] := fun j y hy => by
  match j, hy with
  | 0, hy => simp at hy; subst hy; exact ⟨g, 0, rfl, heapLt h, cellOf h rfl⟩
end Mm

set_option maxRecDepth 100000 in
set_option maxHeartbeats 2000000 in
theorem ints_any (la lb : List Int) (pa pb : Option Addr) (ca cb : Nat) (w : World) (ha : Hid (Mm.IIn w pa la)) (hb : Hid (Mm.IIn w pb lb)) (hn : la.length ≤ 1000000) :
    Calls Try.prog 15 #[.slice pa la.length ca, .slice pb lb.length cb] w fun e w' => e = .returned (.bool (decide (la = lb))) ∧ Below w.heap.size w w' := by
  by_cases hl : la.length = lb.length
  · obtain ⟨n, hnn⟩ : ∃ n, n = la.length := ⟨_, rfl⟩
    rw [← hl, ← hnn]
    rw [← hnn] at hn
    have HN := Mm.hid hnn
    have HL := Mm.hid hl
    clear hl hnn
    go_enter Try.func15, Try.ntmps15
    go_wp2_with fail
    go_loopw [5] (fun vi wr => ∃ k : Nat, k ≤ n ∧ vi = .int .i64 (k : Int) ∧ Hid (∀ j : Nat, j < k → la[j]? = lb[j]?) ∧ Hid (Below w.heap.size w wr)) (fun vi _ => n - (RowKit.intOf vi).toNat)
    case atStart => exact ⟨0, by omega, rfl, fun j h => absurd h (Nat.not_lt_zero j), Below.refl _ _⟩
    case round =>
      obtain ⟨k, hk, rfl, HI, HB⟩ := hrel
      by_cases hlt : k < n
      · obtain ⟨a, ha1⟩ : ∃ a, la[k]? = some a := ⟨_, List.getElem?_eq_getElem (by rw [← HN.out]; exact hlt)⟩
        obtain ⟨b, hb1⟩ : ∃ b, lb[k]? = some b := ⟨_, List.getElem?_eq_getElem (by rw [← HL.out, ← HN.out]; exact hlt)⟩
        obtain ⟨g1, o1, rfl, _, hc1⟩ := (ha.out.below HB.out) k a ha1
        obtain ⟨g2, o2, rfl, _, hc2⟩ := (hb.out.below HB.out) k b hb1
        have HA := Mm.hid (And.intro ha1 hb1)
        have g01 : (0 : Int) ≤ (k : Int) := by omega
        have g02 : (k : Int) < (n : Int) := by omega
        have HCC : Hid (wr.drew.cell? ⟨g1, o1 + k, none⟩ = some (.int .i64 a) ∧ wr.drew.cell? ⟨g2, o2 + k, none⟩ = some (.int .i64 b)) := Mm.hid ⟨hc1, hc2⟩
        clear ha1 hb1 hc1 hc2
        by_cases e : a = b
        · have he : (a == b) = true := by simpa using e
          have HE := Mm.hid e
          clear e
          go_wp2_with fail
          go_region_held3 (fun w' => w'.cell? ⟨g1, o1 + k, none⟩ = some (.int .i64 a) ∧ w'.cell? ⟨g2, o2 + k, none⟩ = some (.int .i64 b)) (with_reducible exact HCC.out) (fail)
          go_wp2_with fail
          refine ⟨⟨k + 1, by omega, by go_num, fun j hj => ?_, HB.out.drew⟩, by simp [RowKit.intOf]; omega⟩
          by_cases ej : j = k
          · subst ej; rw [HA.out.1, HA.out.2, HE.out]
          · exact HI.out j (by omega)
        · have he : (a == b) = false := by simpa using e
          have HE : Hid (la ≠ lb) := Mm.hid (fun h => e (by have h1 := HA.out.1; rw [h, HA.out.2] at h1; injection h1 with h1; exact h1.symm))
          clear e
          go_wp2_with fail
          go_region_held3 (fun w' => w'.cell? ⟨g1, o1 + k, none⟩ = some (.int .i64 a) ∧ w'.cell? ⟨g2, o2 + k, none⟩ = some (.int .i64 b)) (with_reducible exact HCC.out) (fail)
          go_wp2_with fail
          go_ret
          exact ⟨by rw [decide_eq_false HE.out]; rfl, HB.out.drew⟩
      · have HE : Hid (la = lb) := Mm.hid (List.ext_getElem? (fun j => by
          by_cases hj : j < k
          · exact HI.out j hj
          · rw [List.getElem?_eq_none (by have := HN.out; omega), List.getElem?_eq_none (by have := HN.out; have := HL.out; omega)]))
        go_wp2_with fail
        go_ret
        exact ⟨by rw [decide_eq_true HE.out]; rfl, HB.out⟩
  · have hne : ((la.length : Int) == (lb.length : Int)) = false := by simp; omega
    have HE : Hid (la ≠ lb) := Mm.hid (fun h => hl (by rw [h]))
    clear hl
    go_enter Try.func15, Try.ntmps15
    go_wp2_with fail
    go_ret
    exact ⟨by rw [decide_eq_false HE.out]; rfl, Below.refl _ _⟩


theorem ints_gen (la lb : List Int) (pa pb : Option Addr) (na nb ca cb : Nat) (w : World) (ha : Hid (Mm.IIn w pa la)) (hb : Hid (Mm.IIn w pb lb)) (h1 : Hid (na = la.length)) (h2 : Hid (nb = lb.length)) (hn : la.length ≤ 1000000) :
    Calls Try.prog 15 #[.slice pa na ca, .slice pb nb cb] w fun e w' => e = .returned (.bool (decide (la = lb))) ∧ Below w.heap.size w w' := by
  rw [h1.out, h2.out]
  exact ints_any la lb pa pb ca cb w ha hb hn


namespace Lf
def SIn (w : World) (q : Option Addr) (l : List ByteArray) : Prop := ∀ (j : Nat) (x : ByteArray), l[j]? = some x → ∃ b o, q = some ⟨b, o, none⟩ ∧ b < w.heap.size ∧ w.cell? ⟨b, o + j, none⟩ = some (.string x)
theorem SIn.below {w w' : World} {q : Option Addr} {l : List ByteArray} (h : SIn w q l) (hb : Below w.heap.size w w') : SIn w' q l := fun j x hx => by
  obtain ⟨b, o, h1, h2, h3⟩ := h j x hx
  exact ⟨b, o, h1, Nat.lt_of_lt_of_le h2 hb.size, (Mm.belAt hb _ h2).trans h3⟩
theorem own_sin {w : World} {base : Nat} {v : Value} {l : List ByteArray} (h : Mm.Own w base 9 v (strs l)) : ∃ q c, v = .slice q l.length c ∧ l.length ≤ c ∧ SIn w q l := by
  obtain ⟨q, c, h1, h2, -, -, -⟩ := h.shape
  refine ⟨q, c, by rw [h1, strs_len], by rw [strs_len] at h2; exact h2, fun j x hx => ?_⟩
  obtain ⟨g, c', e1, -, e3, -, -⟩ := h.at (strs_at hx)
  rw [h1] at e1
  injection e1 with e1
  exact ⟨g, 0, e1, World.block_lt_of_cell? _ _ e3, by rw [Nat.zero_add]; exact e3⟩
end Lf

set_option maxRecDepth 100000 in
set_option maxHeartbeats 2000000 in
theorem texts_any (la lb : List ByteArray) (pa pb : Option Addr) (ca cb : Nat) (w : World) (ha : Hid (Lf.SIn w pa la)) (hb : Hid (Lf.SIn w pb lb)) (hn : la.length ≤ 1000000) :
    Calls Try.prog 14 #[.slice pa la.length ca, .slice pb lb.length cb] w fun e w' => e = .returned (.bool (decide (la = lb))) ∧ Below w.heap.size w w' := by
  by_cases hl : la.length = lb.length
  · obtain ⟨n, hnn⟩ : ∃ n, n = la.length := ⟨_, rfl⟩
    rw [← hl, ← hnn]
    rw [← hnn] at hn
    have HN := Mm.hid hnn
    have HL := Mm.hid hl
    clear hl hnn
    go_enter Try.func14, Try.ntmps14
    go_wp2_with fail
    go_loopw [5] (fun vi wr => ∃ k : Nat, k ≤ n ∧ vi = .int .i64 (k : Int) ∧ Hid (∀ j : Nat, j < k → la[j]? = lb[j]?) ∧ Hid (Below w.heap.size w wr)) (fun vi _ => n - (RowKit.intOf vi).toNat)
    case atStart => exact ⟨0, by omega, rfl, fun j h => absurd h (Nat.not_lt_zero j), Below.refl _ _⟩
    case round =>
      obtain ⟨k, hk, rfl, HI, HB⟩ := hrel
      by_cases hlt : k < n
      · obtain ⟨a, ha1⟩ : ∃ a, la[k]? = some a := ⟨_, List.getElem?_eq_getElem (by rw [← HN.out]; exact hlt)⟩
        obtain ⟨b, hb1⟩ : ∃ b, lb[k]? = some b := ⟨_, List.getElem?_eq_getElem (by rw [← HL.out, ← HN.out]; exact hlt)⟩
        obtain ⟨g1, o1, rfl, _, hc1⟩ := (ha.out.below HB.out) k a ha1
        obtain ⟨g2, o2, rfl, _, hc2⟩ := (hb.out.below HB.out) k b hb1
        have HA := Mm.hid (And.intro ha1 hb1)
        have g01 : (0 : Int) ≤ (k : Int) := by omega
        have g02 : (k : Int) < (n : Int) := by omega
        have HCC : Hid (wr.drew.cell? ⟨g1, o1 + k, none⟩ = some (.string a) ∧ wr.drew.cell? ⟨g2, o2 + k, none⟩ = some (.string b)) := Mm.hid ⟨hc1, hc2⟩
        clear ha1 hb1 hc1 hc2
        by_cases e : a = b
        · have he : (a.toList == b.toList) = true := by rw [Lf.eqB]; exact decide_eq_true e
          have HE := Mm.hid e
          clear e
          go_wp2_with fail
          go_region_held3 (fun w' => w'.cell? ⟨g1, o1 + k, none⟩ = some (.string a) ∧ w'.cell? ⟨g2, o2 + k, none⟩ = some (.string b)) (with_reducible exact HCC.out) (fail)
          go_wp2_with fail
          refine ⟨⟨k + 1, by omega, by go_num, fun j hj => ?_, HB.out.drew⟩, by simp [RowKit.intOf]; omega⟩
          by_cases ej : j = k
          · subst ej; rw [HA.out.1, HA.out.2, HE.out]
          · exact HI.out j (by omega)
        · have he : (a.toList == b.toList) = false := by rw [Lf.eqB]; exact decide_eq_false e
          have HE : Hid (la ≠ lb) := Mm.hid (fun h => e (by have h1 := HA.out.1; rw [h, HA.out.2] at h1; injection h1 with h1; exact h1.symm))
          clear e
          go_wp2_with fail
          go_region_held3 (fun w' => w'.cell? ⟨g1, o1 + k, none⟩ = some (.string a) ∧ w'.cell? ⟨g2, o2 + k, none⟩ = some (.string b)) (with_reducible exact HCC.out) (fail)
          go_wp2_with fail
          go_ret
          exact ⟨by rw [decide_eq_false HE.out]; rfl, HB.out.drew⟩
      · have HE : Hid (la = lb) := Mm.hid (List.ext_getElem? (fun j => by
          by_cases hj : j < k
          · exact HI.out j hj
          · rw [List.getElem?_eq_none (by have := HN.out; omega), List.getElem?_eq_none (by have := HN.out; have := HL.out; omega)]))
        go_wp2_with fail
        go_ret
        exact ⟨by rw [decide_eq_true HE.out]; rfl, HB.out⟩
  · have hne : ((la.length : Int) == (lb.length : Int)) = false := by simp; omega
    have HE : Hid (la ≠ lb) := Mm.hid (fun h => hl (by rw [h]))
    clear hl
    go_enter Try.func14, Try.ntmps14
    go_wp2_with fail
    go_ret
    exact ⟨by rw [decide_eq_false HE.out]; rfl, Below.refl _ _⟩


theorem texts_gen (la lb : List ByteArray) (pa pb : Option Addr) (na nb ca cb : Nat) (w : World) (ha : Hid (Lf.SIn w pa la)) (hb : Hid (Lf.SIn w pb lb)) (h1 : Hid (na = la.length)) (h2 : Hid (nb = lb.length)) (hn : la.length ≤ 1000000) :
    Calls Try.prog 14 #[.slice pa na ca, .slice pb nb cb] w fun e w' => e = .returned (.bool (decide (la = lb))) ∧ Below w.heap.size w w' := by
  rw [h1.out, h2.out]
  exact texts_any la lb pa pb ca cb w ha hb hn