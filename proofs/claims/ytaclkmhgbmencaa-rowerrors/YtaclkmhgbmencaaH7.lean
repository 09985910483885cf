/- Rows and columns that are one, held against each other. -/
import Derived.Test.YtaclkmhgbmencaaG1
import Derived.Test.YtaclkmhgbmencaaX2
import Derived.Deep.RegionHeld3
namespace Go.Proofs.Ytaclkmhgbmencaa
open Go.RowKit
attribute [local go_sem] Fl.run_store_float Try.float64bits Try.float64frombits

namespace Vl
/-- Two values, or two columns, that are one lie there. -/
def TwoS (b1 o1 b2 o2 : Nat) (v : V) (W w' : World) : Prop := w'.cell? ⟨b1, o1, none⟩ = some (.int .i64 v.k) ∧ w'.cell? ⟨b1, o1 + 1, none⟩ = some (.int .i64 v.n) ∧ w'.cell? ⟨b1, o1 + 2, none⟩ = some (.float .f64 v.f) ∧ w'.cell? ⟨b1, o1 + 3, none⟩ = some (.string v.s) ∧ w'.cell? ⟨b2, o2, none⟩ = some (.int .i64 v.k) ∧ w'.cell? ⟨b2, o2 + 1, none⟩ = some (.int .i64 v.n) ∧ w'.cell? ⟨b2, o2 + 2, none⟩ = some (.float .f64 v.f) ∧ w'.cell? ⟨b2, o2 + 3, none⟩ = some (.string v.s) ∧ b1 < w'.heap.size ∧ b2 < w'.heap.size ∧ Below W.heap.size W w'
theorem TwoS.of {b1 o1 b2 o2 : Nat} {v : V} {W w' : World} (h : V4 w' b1 o1 v) (h2 : V4 w' b2 o2 v) (hb : Below W.heap.size W w') : TwoS b1 o1 b2 o2 v W w' := ⟨h.c0, h.c1, h.c2, h.c3, h2.c0, h2.c1, h2.c2, h2.c3, h.lt, h2.lt, hb⟩
theorem TwoS.parts {b1 o1 b2 o2 : Nat} {v : V} {W w' : World} (h : TwoS b1 o1 b2 o2 v W w') : V4 w' b1 o1 v ∧ V4 w' b2 o2 v ∧ Below W.heap.size W w' := by
  obtain ⟨h0, h1, h2, h3, h4, h5, h6, h7, h8, h9, h10⟩ := h
  exact ⟨⟨h8, h0, h1, h2, h3⟩, ⟨h9, h4, h5, h6, h7⟩, h10⟩
theorem TwoS.drew {b1 o1 b2 o2 : Nat} {v : V} {W w' : World} (h : TwoS b1 o1 b2 o2 v W w') : TwoS b1 o1 b2 o2 v W w'.drew := TwoS.of h.parts.1.drew h.parts.2.1.drew (bdrewN h.parts.2.2 1)
theorem TwoS.keep {b1 o1 b2 o2 : Nat} {v : V} {W w0 w1 : World} (hb : Below w0.heap.size w0 w1) (h : TwoS b1 o1 b2 o2 v W w0) : TwoS b1 o1 b2 o2 v W w1 := TwoS.of (h.parts.1.below hb) (h.parts.2.1.below hb) (btr h.parts.2.2 hb)
def TwoK (b1 o1 b2 o2 : Nat) (v : Col) (W w' : World) : Prop := w'.cell? ⟨b1, o1, none⟩ = some (.string v.nm) ∧ w'.cell? ⟨b1, o1 + 1, none⟩ = some (.int .i64 v.k) ∧ w'.cell? ⟨b1, o1 + 2, none⟩ = some (.bool v.nn) ∧ w'.cell? ⟨b1, o1 + 3, none⟩ = some (.int .i64 v.d.k) ∧ w'.cell? ⟨b1, o1 + 4, none⟩ = some (.int .i64 v.d.n) ∧ w'.cell? ⟨b1, o1 + 5, none⟩ = some (.float .f64 v.d.f) ∧ w'.cell? ⟨b1, o1 + 6, none⟩ = some (.string v.d.s) ∧ w'.cell? ⟨b2, o2, none⟩ = some (.string v.nm) ∧ w'.cell? ⟨b2, o2 + 1, none⟩ = some (.int .i64 v.k) ∧ w'.cell? ⟨b2, o2 + 2, none⟩ = some (.bool v.nn) ∧ w'.cell? ⟨b2, o2 + 3, none⟩ = some (.int .i64 v.d.k) ∧ w'.cell? ⟨b2, o2 + 4, none⟩ = some (.int .i64 v.d.n) ∧ w'.cell? ⟨b2, o2 + 5, none⟩ = some (.float .f64 v.d.f) ∧ w'.cell? ⟨b2, o2 + 6, none⟩ = some (.string v.d.s) ∧ b1 < w'.heap.size ∧ b2 < w'.heap.size ∧ Below W.heap.size W w'
theorem TwoK.of {b1 o1 b2 o2 : Nat} {v : Col} {W w' : World} (h : C7 w' b1 o1 v) (h2 : C7 w' b2 o2 v) (hb : Below W.heap.size W w') : TwoK b1 o1 b2 o2 v W w' := ⟨h.c0, h.c1, h.c2, h.c3, h.c4, h.c5, h.c6, h2.c0, h2.c1, h2.c2, h2.c3, h2.c4, h2.c5, h2.c6, h.lt, h2.lt, hb⟩
theorem TwoK.parts {b1 o1 b2 o2 : Nat} {v : Col} {W w' : World} (h : TwoK b1 o1 b2 o2 v W w') : C7 w' b1 o1 v ∧ C7 w' b2 o2 v ∧ Below W.heap.size W w' := by
  obtain ⟨h0, h1, h2, h3, h4, h5, h6, h7, h8, h9, h10, h11, h12, h13, h14, h15, h16⟩ := h
  exact ⟨⟨h14, h0, h1, h2, h3, h4, h5, h6⟩, ⟨h15, h7, h8, h9, h10, h11, h12, h13⟩, h16⟩
theorem TwoK.drew {b1 o1 b2 o2 : Nat} {v : Col} {W w' : World} (h : TwoK b1 o1 b2 o2 v W w') : TwoK b1 o1 b2 o2 v W w'.drew := TwoK.of h.parts.1.drew h.parts.2.1.drew (bdrewN h.parts.2.2 1)
theorem TwoK.keep {b1 o1 b2 o2 : Nat} {v : Col} {W w0 w1 : World} (hb : Below w0.heap.size w0 w1) (h : TwoK b1 o1 b2 o2 v W w0) : TwoK b1 o1 b2 o2 v W w1 := TwoK.of (h.parts.1.below hb) (h.parts.2.1.below hb) (btr h.parts.2.2 hb)
end Vl

set_option maxRecDepth 100000 in
set_option maxHeartbeats 4000000 in
theorem keepValues_same (p1 p2 : Option Addr) (n c1 c2 : Nat) (xs : List Vl.V) (w : World) (hx : xs.length = n) (hn : n ≤ 100000) (hn1 : n ≤ c1) (hn2 : n ≤ c2) (H1 : Hid (Vl.RowIn w p1 xs)) (H2 : Hid (Vl.RowIn w p2 xs)) :
    Calls Try.prog 20 #[.slice p1 n c1, .slice p2 n c2] w fun e w' => e = .returned (.bool true) ∧ Below w.heap.size w w' := by
  have HX := Vl.hid hx
  clear hx
  go_enter Try.func20, Try.ntmps20
  go_wp2_with fail
  go_loopw [5] (fun vi wr => ∃ k : Nat, k ≤ n ∧ vi = .int .i64 (k : Int) ∧ Hid (Below w.heap.size w wr)) (fun vi _ => n - (RowKit.intOf vi).toNat)
  case atStart => exact ⟨0, by omega, rfl, Below.refl _ _⟩
  case round =>
    obtain ⟨k, hk1, rfl, HB⟩ := hrel
    rename World => wr
    by_cases hlt : k < n
    · obtain ⟨v, hv⟩ : ∃ v, xs[k]? = some v := ⟨xs[k]'(by rw [HX.out]; exact hlt), List.getElem?_eq_getElem _⟩
      obtain ⟨b1, o1, hp1, hr1⟩ := (H1.out.below HB.out).at hv
      obtain ⟨b2, o2, hp2, hr2⟩ := (H2.out.below HB.out).at hv
      have HS := Vl.hid (Vl.TwoS.of hr1 hr2 (Below.refl wr.heap.size wr))
      clear hr1 hr2 hv
      subst hp1 hp2
      go_wp2_with fail
      go_region_held3 (fun w' => w'.cell? ⟨b1, o1 + k * 4, none⟩ = some (.int .i64 v.k) ∧ w'.cell? ⟨b1, o1 + k * 4 + 1, none⟩ = some (.int .i64 v.n) ∧ w'.cell? ⟨b1, o1 + k * 4 + 2, none⟩ = some (.float .f64 v.f) ∧ w'.cell? ⟨b1, o1 + k * 4 + 3, none⟩ = some (.string v.s) ∧ w'.cell? ⟨b2, o2 + k * 4, none⟩ = some (.int .i64 v.k) ∧ w'.cell? ⟨b2, o2 + k * 4 + 1, none⟩ = some (.int .i64 v.n) ∧ w'.cell? ⟨b2, o2 + k * 4 + 2, none⟩ = some (.float .f64 v.f) ∧ w'.cell? ⟨b2, o2 + k * 4 + 3, none⟩ = some (.string v.s) ∧ b1 < w'.heap.size ∧ b2 < w'.heap.size ∧ Below wr.heap.size wr w')
        (first | exact Vl.TwoS.drew HS.out | exact Vl.TwoS.keep hb (by assumption))
        (first | (go_at_call 25; refine (keepValue_same v _).mono ?_; rintro e w' ⟨rfl, hb⟩))
      rename World => wz
      have hz : Vl.TwoS b1 (o1 + k * 4) b2 (o2 + k * 4) v wr wz := by assumption
      have HB2 := Vl.hid (Vl.btr HB.out hz.parts.2.2)
      clear hz
      go_wp2_with fail
      exact ⟨⟨k + 1, by omega, by go_num, HB2.out⟩, by simp [RowKit.intOf]; omega⟩
    · obtain rfl : k = n := by omega
      go_wp2_with fail
      go_ret
      exact ⟨rfl, HB.out⟩

set_option maxRecDepth 100000 in
set_option maxHeartbeats 4000000 in
theorem keepColumns_same (p1 p2 : Option Addr) (n c1 c2 : Nat) (xs : List Vl.Col) (w : World) (hx : xs.length = n) (hn : n ≤ 100000) (hn1 : n ≤ c1) (hn2 : n ≤ c2) (H1 : Hid (Vl.ColIn w p1 xs)) (H2 : Hid (Vl.ColIn w p2 xs)) :
    Calls Try.prog 16 #[.slice p1 n c1, .slice p2 n c2] w fun e w' => e = .returned (.bool true) ∧ Below w.heap.size w w' := by
  have HX := Vl.hid hx
  clear hx
  go_enter Try.func16, Try.ntmps16
  go_wp2_with fail
  go_loopw [5] (fun vi wr => ∃ k : Nat, k ≤ n ∧ vi = .int .i64 (k : Int) ∧ Hid (Below w.heap.size w wr)) (fun vi _ => n - (RowKit.intOf vi).toNat)
  case atStart => exact ⟨0, by omega, rfl, Below.refl _ _⟩
  case round =>
    obtain ⟨k, hk1, rfl, HB⟩ := hrel
    rename World => wr
    by_cases hlt : k < n
    · obtain ⟨v, hv⟩ : ∃ v, xs[k]? = some v := ⟨xs[k]'(by rw [HX.out]; exact hlt), List.getElem?_eq_getElem _⟩
      obtain ⟨b1, o1, hp1, hr1⟩ := (H1.out.below HB.out).at hv
      obtain ⟨b2, o2, hp2, hr2⟩ := (H2.out.below HB.out).at hv
      have HS := Vl.hid (Vl.TwoK.of hr1 hr2 (Below.refl wr.heap.size wr))
      clear hr1 hr2 hv
      subst hp1 hp2
      have e1 : (v.nm.toList != v.nm.toList) = false := by simp
      have e2 : (v.k != v.k) = false := by simp
      have e3 : (v.nn != v.nn) = false := by simp
      go_wp2_with fail
      go_region_held3 (fun w' => w'.cell? ⟨b1, o1 + k * 7, none⟩ = some (.string v.nm) ∧ w'.cell? ⟨b1, o1 + k * 7 + 1, none⟩ = some (.int .i64 v.k) ∧ w'.cell? ⟨b1, o1 + k * 7 + 2, none⟩ = some (.bool v.nn) ∧ w'.cell? ⟨b1, o1 + k * 7 + 3, none⟩ = some (.int .i64 v.d.k) ∧ w'.cell? ⟨b1, o1 + k * 7 + 4, none⟩ = some (.int .i64 v.d.n) ∧ w'.cell? ⟨b1, o1 + k * 7 + 5, none⟩ = some (.float .f64 v.d.f) ∧ w'.cell? ⟨b1, o1 + k * 7 + 6, none⟩ = some (.string v.d.s) ∧ w'.cell? ⟨b2, o2 + k * 7, none⟩ = some (.string v.nm) ∧ w'.cell? ⟨b2, o2 + k * 7 + 1, none⟩ = some (.int .i64 v.k) ∧ w'.cell? ⟨b2, o2 + k * 7 + 2, none⟩ = some (.bool v.nn) ∧ w'.cell? ⟨b2, o2 + k * 7 + 3, none⟩ = some (.int .i64 v.d.k) ∧ w'.cell? ⟨b2, o2 + k * 7 + 4, none⟩ = some (.int .i64 v.d.n) ∧ w'.cell? ⟨b2, o2 + k * 7 + 5, none⟩ = some (.float .f64 v.d.f) ∧ w'.cell? ⟨b2, o2 + k * 7 + 6, none⟩ = some (.string v.d.s) ∧ b1 < w'.heap.size ∧ b2 < w'.heap.size ∧ Below wr.heap.size wr w')
        (first | exact Vl.TwoK.drew HS.out | exact Vl.TwoK.keep hb (by assumption))
        (first | (go_at_call 25; refine (keepValue_same v.d _).mono ?_; rintro e w' ⟨rfl, hb⟩))
      rename World => wz
      have hz : Vl.TwoK b1 (o1 + k * 7) b2 (o2 + k * 7) v wr wz := by assumption
      have HB2 := Vl.hid (Vl.btr HB.out hz.parts.2.2)
      clear hz
      go_wp2_with fail
      exact ⟨⟨k + 1, by omega, by go_num, HB2.out⟩, by simp [RowKit.intOf]; omega⟩
    · obtain rfl : k = n := by omega
      go_wp2_with fail
      go_ret
      exact ⟨rfl, HB.out⟩

end Go.Proofs.Ytaclkmhgbmencaa
