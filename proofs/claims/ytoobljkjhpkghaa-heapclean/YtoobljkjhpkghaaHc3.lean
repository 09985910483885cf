/- Rows; rows of rows. -/
import Derived.Test.YtoobljkjhpkghaaHc2
namespace Go.Proofs.Ytoobljkjhpkghaa
open Go.RowKit
namespace Hp
/-- Two cells lie there. -/
def Two (g1 g2 k : Nat) (v1 v2 : Value) (W w' : World) : Prop := w'.cell? ⟨g1, k, none⟩ = some v1 ∧ w'.cell? ⟨g2, k, none⟩ = some v2 ∧ Below W.heap.size W w'
theorem Two.bel {g1 g2 k : Nat} {v1 v2 : Value} {W w' : World} (h : Two g1 g2 k v1 v2 W w') : Below W.heap.size W w' := h.2.2
theorem Two.keep {g1 g2 k : Nat} {v1 v2 : Value} {W w0 w1 : World} (hb : Below w0.heap.size w0 w1) (h : Two g1 g2 k v1 v2 W w0) : Two g1 g2 k v1 v2 W w1 :=
  ⟨(hb.cell (p := ⟨g1, k, none⟩) (World.block_lt_of_cell? _ _ h.1)).trans h.1, (hb.cell (p := ⟨g2, k, none⟩) (World.block_lt_of_cell? _ _ h.2.1)).trans h.2.1, h.2.2.trans (hb.mono h.2.2.size)⟩
theorem Two.drew {g1 g2 k : Nat} {v1 v2 : Value} {W w' : World} (h : Two g1 g2 k v1 v2 W w') : Two g1 g2 k v1 v2 W w'.drew := ⟨h.1, h.2.1, h.2.2.drew⟩
end Hp

set_option maxRecDepth 100000 in
set_option maxHeartbeats 4000000 in
theorem keepRows_same (w : World) (b1 b2 : Nat) (p1 p2 : Option Addr) (n c1 c2 : Nat) (z1 z2 : List Hp.Rz) (H1 : Hid (Hp.RwsIn w b1 (.slice p1 n c1) z1)) (H2 : Hid (Hp.RwsIn w b2 (.slice p2 n c2) z2)) (h1 : Hid (n = z1.length)) (he : Hid (z1.map Hp.Rz.xs = z2.map Hp.Rz.xs)) (hs : Hid (∀ z ∈ z1, z.xs.length ≤ 100000)) (hn : n ≤ 100000) :
    Calls Try.prog 32 #[.slice p1 n c1, .slice p2 n c2] w fun e w' => e = .returned (.bool true) ∧ Below w.heap.size w w' := by
  have h2 : Hid (n = z2.length) := Vl.hid (by have := congrArg List.length he.out; rw [List.length_map, List.length_map] at this; rw [h1.out]; exact this)
  go_enter Try.func32, Try.ntmps32
  go_wp2_with fail
  go_loopw [5] (fun vi wr => ∃ k : Nat, k ≤ n ∧ vi = .int .i64 (k : Int) ∧ Hid (Below w.heap.size w wr)) (fun vi _ => n - (RowKit.intOf vi).toNat)
  case atStart => exact ⟨0, by omega, rfl, Below.refl _ _⟩
  case round =>
    obtain ⟨k, hk1, rfl, HB⟩ := hrel
    rename World => wr
    by_cases hlt : k < n
    · obtain ⟨y1, hy1⟩ : ∃ y, z1[k]? = some y := ⟨_, List.getElem?_eq_getElem (by rw [← h1.out]; exact hlt)⟩
      obtain ⟨y2, hy2⟩ : ∃ y, z2[k]? = some y := ⟨_, List.getElem?_eq_getElem (by rw [← h2.out]; exact hlt)⟩
      have hxs : y1.xs = y2.xs := by
        have := congrArg (fun l => l[k]?) he.out
        simp only [List.getElem?_map, hy1, hy2, Option.map_some, Option.some.injEq] at this
        exact this
      have HY1 := H1.out.below HB.out
      have HY2 := H2.out.below HB.out
      obtain ⟨g1, cg1, e1, -, d1, -, -⟩ := HY1.own.at (i := k) (u := y1.v) (by rw [List.getElem?_map, hy1]; rfl)
      obtain ⟨g2, cg2, e2, -, d2, -, -⟩ := HY2.own.at (i := k) (u := y2.v) (by rw [List.getElem?_map, hy2]; rfl)
      replace e1 : p1 = some ⟨g1, 0, none⟩ := by injection e1
      replace e2 : p2 = some ⟨g2, 0, none⟩ := by injection e2
      subst e1 e2
      obtain ⟨q1, xs1, k1⟩ := y1
      obtain ⟨q2, xs2, k2⟩ := y2
      have hxs' : k1 = k2 := hxs
      subst hxs'
      have hr1 := HY1.rows _ (List.mem_of_getElem? hy1)
      have hr2 := HY2.rows _ (List.mem_of_getElem? hy2)
      have hsm := hs.out _ (List.mem_of_getElem? hy1)
      obtain ⟨_, _, f1, f2, f3⟩ := Vl.lies_own hr1
      obtain ⟨_, _, f4, f5, f6⟩ := Vl.lies_own hr2
      unfold Hp.Rz.v at f1 f4
      injection f1 with f1 f1a f1b
      injection f4 with f4 f4a f4b
      subst f1 f1b f4 f4b
      have HR1 := Vl.hid (show Vl.RowIn wr q1 k1 from f3)
      have HR2 := Vl.hid (show Vl.RowIn wr q2 k1 from f6)
      have HLE := Vl.hid (And.intro f2 (And.intro f5 hsm))
      have HCC : Hid (Hp.Two g1 g2 k (.slice q1 k1.length xs1) (.slice q2 k1.length xs2) wr wr) := Vl.hid ⟨d1, d2, Below.refl _ _⟩
      have HCV : Hid (∀ W, Below wr.heap.size wr W → Calls Try.prog 52 #[.slice q1 k1.length xs1, .slice q2 k1.length xs2] W fun e w' => e = .returned (.bool true) ∧ Below W.heap.size W w') := Vl.hid (fun W hW => keepValues_same q1 q2 k1.length xs1 xs2 k1 W rfl HLE.out.2.2 HLE.out.1 HLE.out.2.1 (Vl.hid (HR1.out.below hW)) (Vl.hid (HR2.out.below hW)))
      have j1 : (k : Int) < (n : Int) := by omega
      have j2 : (0 : Int) ≤ (k : Int) := by omega
      clear hy1 hy2 hxs HY1 HY2 d1 d2 hr1 hr2 hsm f1a f4a f2 f3 f5 f6
      go_wp2_with fail
      go_region_held3 (fun w' => w'.cell? ⟨g1, k, none⟩ = some (.slice q1 k1.length xs1) ∧ w'.cell? ⟨g2, k, none⟩ = some (.slice q2 k1.length xs2) ∧ Below wr.heap.size wr w')
        (first | exact Hp.Two.drew HCC.out | exact Hp.Two.keep hb (by assumption))
        (first | (go_at_call 52; refine (HCV.out _ (Hp.Two.bel (g1 := g1) (g2 := g2) (k := k) (v1 := .slice q1 k1.length xs1) (v2 := .slice q2 k1.length xs2) (by assumption))).mono ?_; rintro e w' ⟨rfl, hb⟩))
      rename World => wz
      have hz : Hp.Two g1 g2 k (.slice q1 k1.length xs1) (.slice q2 k1.length xs2) wr wz := by assumption
      have HB2 := Vl.hid (HB.out.trans (hz.bel.mono HB.out.size))
      clear hz
      go_wp2_with fail
      exact ⟨⟨k + 1, by omega, by go_num, HB2⟩, by simp [RowKit.intOf]; omega⟩
    · obtain rfl : k = n := by omega
      go_wp2_with fail
      go_ret
      exact ⟨rfl, HB.out⟩
end Go.Proofs.Ytoobljkjhpkghaa
