/- Values and rows that are one, held against each other; which are large. -/
import Derived.Test.YtoobljkjhpkghaaHb1
import Derived.Deep.QuietTactic
import Derived.BigQuiet
namespace Go.Proofs.Ytoobljkjhpkghaa
open Go.RowKit

/-- A float stored: the kit's laws of this kind name ints, bools, pointers, slices, strings. -/
theorem Fl.run_store_float {P : Program} (w : World) (a : Addr) (m : Mode) (k : FloatKind) (b : Nat) : (store a (.float k b) m).run P w = stored P w a (.float k b) m := run_store P w a _ m rfl

theorem Try.float64bits (x : Nat) (w : World) : (callFunc 81 #[.float .f64 x]).run Try.prog w = .ok (.value (.int .u64 x)) w := by
  rw [run_callFunc_extern Try.func81 (by kernel_rfl) (by kernel_rfl) (by kernel_rfl) (e := Extern.MathFloatBits.float64bits) (by kernel_rfl)]; rfl

attribute [local go_sem] Fl.run_store_float Try.float64bits

set_option maxHeartbeats 400000 in
theorem largeValue_any (v : Vl.V) (w : World) :
    Calls Try.prog 64 #[.agg #[.int .i64 v.k, .int .i64 v.n, .float .f64 v.f, .string v.s]] w fun e w' => e = .returned (.bool (decide ((2000 : Int) < (v.s.size : Int)))) ∧ w' = w.alloc (.cells v.cs 50) := by
  go_enter Try.func64, Try.ntmps64
  go_wp2
  go_ret
  exact ⟨rfl, rfl⟩

set_option maxRecDepth 100000 in
set_option maxHeartbeats 2000000 in
theorem keepValue_same (v : Vl.V) (w : World) :
    Calls Try.prog 73 #[.agg #[.int .i64 v.k, .int .i64 v.n, .float .f64 v.f, .string v.s], .agg #[.int .i64 v.k, .int .i64 v.n, .float .f64 v.f, .string v.s]] w fun e w' => e = .returned (.bool true) ∧ Below w.heap.size w w' := by
  have hk : (v.k == v.k) = true := by simp
  have hn : (v.n == v.n) = true := by simp
  have hf : ((v.f : Int) == (v.f : Int)) = true := by simp
  have hs : (v.s.toList == v.s.toList) = true := by simp
  go_enter Try.func73, Try.ntmps73
  go_wp2_with fail
  go_quiet (fail)
  all_goals
    go_wp2
    go_ret
    exact ⟨rfl, by repeat (first | exact Below.refl _ _ | refine Vl.bal ?_ _ | refine Vl.bdrewN ?_ _)⟩

set_option maxRecDepth 100000 in
set_option maxHeartbeats 2000000 in
theorem largeRow_any (p : Option Addr) (n c : Nat) (xs : List Vl.V) (w : World) (hx : xs.length = n) (hn : n ≤ c) (H : Hid (Vl.RowIn w p xs)) :
    Calls Try.prog 40 #[.slice p n c] w fun e w' => ∃ b, e = .returned (.bool b) ∧ (b = false → n ≤ 50 ∧ ∀ (j : Nat) (v : Vl.V), xs[j]? = some v → v.s.size ≤ 2000) ∧ Below w.heap.size w w' := by
  have HX := Vl.hid hx
  clear hx
  cases h50 : decide ((50 : Int) < (n : Int))
  · have HN : Hid (n ≤ 50) := Vl.hid (by simp at h50; omega)
    go_enter Try.func40, Try.ntmps40
    go_wp2_with fail
    go_loopw [3] (fun vi wr => ∃ k : Nat, k ≤ n ∧ vi = .int .i64 (k : Int) ∧ Hid (∀ (j : Nat) (v : Vl.V), j < k → xs[j]? = some v → v.s.size ≤ 2000) ∧ Hid (Below w.heap.size w wr)) (fun vi _ => n - (RowKit.intOf vi).toNat)
    case atStart => exact ⟨0, by omega, rfl, fun j _ h => absurd h (Nat.not_lt_zero j), Below.refl _ _⟩
    case round =>
      obtain ⟨k, hk1, rfl, HI, HB⟩ := hrel
      rename World => wr
      have hn50 := HN.out
      by_cases hlt : k < n
      · obtain ⟨v, hv⟩ : ∃ v, xs[k]? = some v := ⟨xs[k]'(by rw [HX.out]; exact hlt), List.getElem?_eq_getElem _⟩
        obtain ⟨b, o, hp, hr⟩ := (H.out.below HB.out).at hv
        obtain ⟨_, p0, p1, p2, p3⟩ := hr
        have HV := Vl.hid hv
        clear hv
        subst hp
        cases ht : decide ((2000 : Int) < (v.s.size : Int))
        · go_wp2_with fail
          refine (largeValue_any v _).mono ?_
          rintro e w2 ⟨rfl, hq⟩
          have HB2 : Hid (Below w.heap.size w w2) := Vl.hid (by rw [hq]; exact Vl.bal HB.out _)
          clear hq
          go_wp2_with fail
          refine ⟨⟨k + 1, by omega, by go_num, fun j u hj hu => ?_, HB2.out⟩, by simp [RowKit.intOf]; omega⟩
          by_cases e : j = k
          · subst e
            rw [HV.out] at hu
            cases hu
            simp at ht; omega
          · exact HI.out j u (by omega) hu
        · go_wp2_with fail
          refine (largeValue_any v _).mono ?_
          rintro e w2 ⟨rfl, hq⟩
          have HB2 : Hid (Below w.heap.size w w2) := Vl.hid (by rw [hq]; exact Vl.bal HB.out _)
          clear hq
          go_wp2_with fail
          go_ret
          exact ⟨true, rfl, (fun h => nomatch h), HB2.out⟩
      · obtain rfl : k = n := by omega
        go_wp2_with fail
        go_ret
        exact ⟨false, rfl, fun _ => ⟨HN.out, fun j v hv => HI.out j v (by obtain ⟨g, _⟩ := List.getElem?_eq_some_iff.1 hv; rw [← HX.out]; exact g) hv⟩, HB.out⟩
  · go_enter Try.func40, Try.ntmps40
    go_wp2_with fail
    go_ret
    exact ⟨true, rfl, (fun h => nomatch h), Below.refl _ _⟩

namespace Vl
/-- Two values, or two columns, that are one lie there. -/
def TwoS (b1 o1 b2 o2 : Nat) (v : V) (W w' : World) : Prop := w'.cell? ⟨b1, o1, none⟩ = some (.int .i64 v.k) ∧ w'.cell? ⟨b1, o1 + 1, none⟩ = some (.int .i64 v.n) ∧ w'.cell? ⟨b1, o1 + 2, none⟩ = some (.float .f64 v.f) ∧ w'.cell? ⟨b1, o1 + 3, none⟩ = some (.string v.s) ∧ w'.cell? ⟨b2, o2, none⟩ = some (.int .i64 v.k) ∧ w'.cell? ⟨b2, o2 + 1, none⟩ = some (.int .i64 v.n) ∧ w'.cell? ⟨b2, o2 + 2, none⟩ = some (.float .f64 v.f) ∧ w'.cell? ⟨b2, o2 + 3, none⟩ = some (.string v.s) ∧ b1 < w'.heap.size ∧ b2 < w'.heap.size ∧ Below W.heap.size W w'
theorem TwoS.of {b1 o1 b2 o2 : Nat} {v : V} {W w' : World} (h : V4 w' b1 o1 v) (h2 : V4 w' b2 o2 v) (hb : Below W.heap.size W w') : TwoS b1 o1 b2 o2 v W w' := ⟨h.c0, h.c1, h.c2, h.c3, h2.c0, h2.c1, h2.c2, h2.c3, h.lt, h2.lt, hb⟩
theorem TwoS.parts {b1 o1 b2 o2 : Nat} {v : V} {W w' : World} (h : TwoS b1 o1 b2 o2 v W w') : V4 w' b1 o1 v ∧ V4 w' b2 o2 v ∧ Below W.heap.size W w' := by
  obtain ⟨h0, h1, h2, h3, h4, h5, h6, h7, h8, h9, h10⟩ := h
  exact ⟨⟨h8, h0, h1, h2, h3⟩, ⟨h9, h4, h5, h6, h7⟩, h10⟩
theorem TwoS.drew {b1 o1 b2 o2 : Nat} {v : V} {W w' : World} (h : TwoS b1 o1 b2 o2 v W w') : TwoS b1 o1 b2 o2 v W w'.drew := TwoS.of h.parts.1.drew h.parts.2.1.drew (bdrewN h.parts.2.2 1)
theorem TwoS.keep {b1 o1 b2 o2 : Nat} {v : V} {W w0 w1 : World} (hb : Below w0.heap.size w0 w1) (h : TwoS b1 o1 b2 o2 v W w0) : TwoS b1 o1 b2 o2 v W w1 := TwoS.of (h.parts.1.below hb) (h.parts.2.1.below hb) (btr h.parts.2.2 hb)
end Vl

set_option maxRecDepth 100000 in
set_option maxHeartbeats 4000000 in
theorem keepValues_same (p1 p2 : Option Addr) (n c1 c2 : Nat) (xs : List Vl.V) (w : World) (hx : xs.length = n) (hn : n ≤ 100000) (hn1 : n ≤ c1) (hn2 : n ≤ c2) (H1 : Hid (Vl.RowIn w p1 xs)) (H2 : Hid (Vl.RowIn w p2 xs)) :
    Calls Try.prog 52 #[.slice p1 n c1, .slice p2 n c2] w fun e w' => e = .returned (.bool true) ∧ Below w.heap.size w w' := by
  have HX := Vl.hid hx
  clear hx
  go_enter Try.func52, Try.ntmps52
  go_wp2_with fail
  go_loopw [5] (fun vi wr => ∃ k : Nat, k ≤ n ∧ vi = .int .i64 (k : Int) ∧ Hid (Below w.heap.size w wr)) (fun vi _ => n - (RowKit.intOf vi).toNat)
  case atStart => exact ⟨0, by omega, rfl, Below.refl _ _⟩
  case round =>
    obtain ⟨k, hk1, rfl, HB⟩ := hrel
    rename World => wr
    by_cases hlt : k < n
    · obtain ⟨v, hv⟩ : ∃ v, xs[k]? = some v := ⟨xs[k]'(by rw [HX.out]; exact hlt), List.getElem?_eq_getElem _⟩
      obtain ⟨b1, o1, hp1, hr1⟩ := (H1.out.below HB.out).at hv
      obtain ⟨b2, o2, hp2, hr2⟩ := (H2.out.below HB.out).at hv
      have HS := Vl.hid (Vl.TwoS.of hr1 hr2 (Below.refl wr.heap.size wr))
      clear hr1 hr2 hv
      subst hp1 hp2
      go_wp2_with fail
      go_region_held3 (fun w' => w'.cell? ⟨b1, o1 + k * 4, none⟩ = some (.int .i64 v.k) ∧ w'.cell? ⟨b1, o1 + k * 4 + 1, none⟩ = some (.int .i64 v.n) ∧ w'.cell? ⟨b1, o1 + k * 4 + 2, none⟩ = some (.float .f64 v.f) ∧ w'.cell? ⟨b1, o1 + k * 4 + 3, none⟩ = some (.string v.s) ∧ w'.cell? ⟨b2, o2 + k * 4, none⟩ = some (.int .i64 v.k) ∧ w'.cell? ⟨b2, o2 + k * 4 + 1, none⟩ = some (.int .i64 v.n) ∧ w'.cell? ⟨b2, o2 + k * 4 + 2, none⟩ = some (.float .f64 v.f) ∧ w'.cell? ⟨b2, o2 + k * 4 + 3, none⟩ = some (.string v.s) ∧ b1 < w'.heap.size ∧ b2 < w'.heap.size ∧ Below wr.heap.size wr w')
        (first | exact Vl.TwoS.drew HS.out | exact Vl.TwoS.keep hb (by assumption))
        (first | (go_at_call 73; refine (keepValue_same v _).mono ?_; rintro e w' ⟨rfl, hb⟩))
      rename World => wz
      have hz : Vl.TwoS b1 (o1 + k * 4) b2 (o2 + k * 4) v wr wz := by assumption
      have HB2 := Vl.hid (Vl.btr HB.out hz.parts.2.2)
      clear hz
      go_wp2_with fail
      exact ⟨⟨k + 1, by omega, by go_num, HB2.out⟩, by simp [RowKit.intOf]; omega⟩
    · obtain rfl : k = n := by omega
      go_wp2_with fail
      go_ret
      exact ⟨rfl, HB.out⟩

end Go.Proofs.Ytoobljkjhpkghaa
