/- Lists held against each other; the statements' own check of the program walked. -/
import Derived.Test.YthaenobciefjiaaDoorZ1
namespace Go.Proofs.YthaenobciefjiaaDoor
open Go.RowKit Go.Maps Go.ChangeMaps Go.MapKept Go.Sort Go.Shelf

namespace Lk
/-- A row of one's own, by its cells. -/
theorem row_of {W : World} {base : Nat} {v : Value} {l : List Int} (h : W.ownsRow base 3 1 v l.length (l.map (Value.int .i64))) : ∃ p c, v = .slice p l.length c ∧ Md.Row W p l ∧ ∀ b, p = some ⟨b, 0, none⟩ → base ≤ b ∧ b < W.heap.size := by
  rcases h.2 with ⟨e, h0⟩ | ⟨g, cap, cur, e, hb, hg, _⟩
  · have hl : l = [] := List.length_eq_zero_iff.1 h0
    subst hl
    exact ⟨none, 0, e, fun j v hv => by simp at hv, fun b e => nomatch e⟩
  · subst e
    exact ⟨_, _, rfl, fun j v hv => ⟨g, rfl, row_cells h j v hv⟩, fun b e => by injection e with e; injection e with e; rw [← e]; exact ⟨hb, (Array.getElem?_eq_some_iff.1 hg).1⟩⟩
theorem _root_.Go.Proofs.YthaenobciefjiaaDoor.Md.Row.keep {W W' : World} {p : Option Addr} {l : List Int} (h : Md.Row W p l) (hk : ∀ b, p = some ⟨b, 0, none⟩ → W'.heap[b]? = W.heap[b]?) : Md.Row W' p l := fun j v hv => by
  obtain ⟨b, e, hc⟩ := h j v hv
  exact ⟨b, e, (World.cell?_of_block (a := ⟨b, j, none⟩) (hk b e)).trans hc⟩
theorem _root_.Go.Proofs.YthaenobciefjiaaDoor.Md.Row.below {W W' : World} {p : Option Addr} {l : List Int} (h : Md.Row W p l) (hb : Below W.heap.size W W') : Md.Row W' p l := fun j v hv => by
  obtain ⟨b, e, hc⟩ := h j v hv
  have hlt : b < W.heap.size := by
    rcases Nat.lt_or_ge b W.heap.size with c | c
    · exact c
    · simp [World.cell?, Array.getElem?_eq_none c] at hc
  exact ⟨b, e, (hb.cell (p := ⟨b, j, none⟩) hlt).trans hc⟩
end Lk

set_option maxRecDepth 100000 in
set_option maxHeartbeats 2000000 in
theorem keepInts_any (la lb : List Int) (pa pb : Option Addr) (ca cb : Nat) (w : World) (ha : Hid (Md.Row w pa la)) (hb : Hid (Md.Row w pb lb)) (hn : la.length ≤ 1000000) :
    Calls Tryd.prog 14 #[.slice pa la.length ca, .slice pb lb.length cb] w fun e w' => e = .returned (.bool (decide (la = lb))) ∧ Below w.heap.size w w' := by
  by_cases hl : la.length = lb.length
  · obtain ⟨n, hnn⟩ : ∃ n, n = la.length := ⟨_, rfl⟩
    rw [← hl, ← hnn]
    rw [← hnn] at hn
    have HN := Mp.hid hnn
    have HL := Mp.hid hl
    clear hl hnn
    go_enter Tryd.func14, Tryd.ntmps14
    go_wp2_with fail
    go_loopw [5] (fun vi wr => ∃ k : Nat, k ≤ n ∧ vi = .int .i64 (k : Int) ∧ Hid (∀ j : Nat, j < k → la[j]? = lb[j]?) ∧ Hid (Below w.heap.size w wr)) (fun vi _ => n - (RowKit.intOf vi).toNat)
    case atStart => exact ⟨0, by omega, rfl, fun j h => absurd h (Nat.not_lt_zero j), Below.refl _ _⟩
    case round =>
      obtain ⟨k, hk, rfl, HI, HB⟩ := hrel
      by_cases hlt : k < n
      · obtain ⟨a, ha1⟩ : ∃ a, la[k]? = some a := ⟨_, List.getElem?_eq_getElem (by rw [← HN.out]; exact hlt)⟩
        obtain ⟨b, hb1⟩ : ∃ b, lb[k]? = some b := ⟨_, List.getElem?_eq_getElem (by rw [← HL.out, ← HN.out]; exact hlt)⟩
        obtain ⟨g1, rfl, hc1⟩ := (ha.out.below HB.out) k a ha1
        obtain ⟨g2, rfl, hc2⟩ := (hb.out.below HB.out) k b hb1
        have HA := Mp.hid (And.intro ha1 hb1)
        have g01 : (0 : Int) ≤ (k : Int) := by omega
        have g02 : (k : Int) < (n : Int) := by omega
        have HCC : Hid (wr.drew.cell? ⟨g1, k, none⟩ = some (.int .i64 a) ∧ wr.drew.cell? ⟨g2, k, none⟩ = some (.int .i64 b)) := Mp.hid ⟨hc1, hc2⟩
        clear ha1 hb1 hc1 hc2
        by_cases e : a = b
        · have he : (a == b) = true := by simpa using e
          have HE := Mp.hid e
          clear e
          go_wp2_with fail
          go_region_held3 (fun w' => w'.cell? ⟨g1, k, none⟩ = some (.int .i64 a) ∧ w'.cell? ⟨g2, k, none⟩ = some (.int .i64 b)) (with_reducible exact HCC.out) (fail)
          go_wp2_with fail
          refine ⟨⟨k + 1, by omega, by go_num, fun j hj => ?_, HB.out.drew⟩, by simp [RowKit.intOf]; omega⟩
          by_cases ej : j = k
          · subst ej; rw [HA.out.1, HA.out.2, HE.out]
          · exact HI.out j (by omega)
        · have he : (a == b) = false := by simpa using e
          have HE : Hid (la ≠ lb) := Mp.hid (fun h => e (by have h1 := HA.out.1; rw [h, HA.out.2] at h1; injection h1 with h1; exact h1.symm))
          clear e
          go_wp2_with fail
          go_region_held3 (fun w' => w'.cell? ⟨g1, k, none⟩ = some (.int .i64 a) ∧ w'.cell? ⟨g2, k, none⟩ = some (.int .i64 b)) (with_reducible exact HCC.out) (fail)
          go_wp2_with fail
          go_ret
          exact ⟨by rw [decide_eq_false HE.out]; rfl, HB.out.drew⟩
      · have HE : Hid (la = lb) := Mp.hid (List.ext_getElem? (fun j => by
          by_cases hj : j < k
          · exact HI.out j hj
          · rw [List.getElem?_eq_none (by have := HN.out; omega), List.getElem?_eq_none (by have := HN.out; have := HL.out; omega)]))
        go_wp2_with fail
        go_ret
        exact ⟨by rw [decide_eq_true HE.out]; rfl, HB.out⟩
  · have hne : ((la.length : Int) == (lb.length : Int)) = false := by simp; omega
    have HE : Hid (la ≠ lb) := Mp.hid (fun h => hl (by rw [h]))
    clear hl
    go_enter Tryd.func14, Tryd.ntmps14
    go_wp2_with fail
    go_ret
    exact ⟨by rw [decide_eq_false HE.out]; rfl, Below.refl _ _⟩

end Go.Proofs.YthaenobciefjiaaDoor
