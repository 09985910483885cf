/- Takes, alone, fits, and the reference's Takes. -/
import Derived.Test.YtaclkmhgbmencaaG1
import Derived.Test.YtaclkmhgbmencaaK3
import Derived.Test.YtaclkmhgbmencaaX2
namespace Go.Proofs.Ytaclkmhgbmencaa
open Go.RowKit
attribute [local go_sem] Fl.run_store_float

namespace Vl
/-- A column and a value that were handed in. -/
structure CV (w0 : World) (c : Col) (v : V) (w : World) : Prop where
  c : C7 w w0.heap.size 0 c
  v : V4 w (w0.heap.size + 1) 0 v
  b : Below w0.heap.size w0 w
theorem CV.start (w0 : World) (c : Col) (v : V) (t u : TypeId) : CV w0 c v ((w0.alloc (.cells #[.string c.nm, .int .i64 c.k, .bool c.nn, .int .i64 c.d.k, .int .i64 c.d.n, .float .f64 c.d.f, .string c.d.s] t)).alloc (.cells #[.int .i64 v.k, .int .i64 v.n, .float .f64 v.f, .string v.s] u)) :=
  ⟨(C7.made c t rfl).al _, V4.made v u (by simp), bal (bal (Below.refl _ _) _) _⟩
theorem CV.step {w0 w w1 : World} {c : Col} {v : V} (h : CV w0 c v w) (hb : Below w.heap.size w w1) : CV w0 c v w1 := ⟨h.c.below hb, h.v.below hb, btr h.b hb⟩
theorem takes_11 {c : Col} {v : V} (h : goodB v.k v.n v.f v.s = false) : takesE c v = 11 := by unfold takesE; rw [h]; rfl
theorem takes_21 {c : Col} {v : V} (h : goodB v.k v.n v.f v.s = true) (hk : (v.k == 0) = true) (hn : c.nn = true) : takesE c v = 21 := by unfold takesE; rw [if_pos h, if_pos (by simpa using hk), if_pos hn]
theorem takes_00 {c : Col} {v : V} (h : goodB v.k v.n v.f v.s = true) (hk : (v.k == 0) = true) (hn : c.nn = false) : takesE c v = 0 := by unfold takesE; rw [if_pos h, if_pos (by simpa using hk), hn]; rfl
theorem takes_01 {c : Col} {v : V} (h : goodB v.k v.n v.f v.s = true) (hk : (v.k == 0) = false) (hn : (v.k == c.k) = true) : takesE c v = 0 := by unfold takesE; rw [if_pos h, if_neg (by simpa using hk), if_pos (by simpa using hn)]
theorem takes_20 {c : Col} {v : V} (h : goodB v.k v.n v.f v.s = true) (hk : (v.k == 0) = false) (hn : (v.k == c.k) = false) : takesE c v = 20 := by unfold takesE; rw [if_pos h, if_neg (by simpa using hk), if_neg (by simpa using hn)]
end Vl

set_option maxRecDepth 100000 in
set_option maxHeartbeats 2000000 in
theorem takes_any (c : Vl.Col) (v : Vl.V) (w : World) :
    Calls Try.prog 23 #[.agg #[.string c.nm, .int .i64 c.k, .bool c.nn, .int .i64 c.d.k, .int .i64 c.d.n, .float .f64 c.d.f, .string c.d.s], .agg #[.int .i64 v.k, .int .i64 v.n, .float .f64 v.f, .string v.s]] w fun e w' => e = .returned (.int .i64 (Vl.takesE c v)) ∧ Below w.heap.size w w' := by
  have HS0 := Vl.hid (Vl.CV.start w c v 27 25)
  go_enter Try.func23, Try.ntmps23
  go_wp2_with fail
  refine (good_any v.k v.n v.f v.s _).mono ?_
  rintro e w1 ⟨rfl, hb⟩
  have HS1 := Vl.hid (HS0.out.step hb)
  clear hb HS0
  obtain ⟨_, p1, p2, _, _, _, _⟩ := HS1.out.c.box
  obtain ⟨q0, _, _, _⟩ := HS1.out.v.box
  cases hg : Vl.goodB v.k v.n v.f v.s
  · have HE := Vl.hid (Vl.takes_11 (c := c) hg)
    clear hg
    go_wp2_with fail
    go_ret
    exact ⟨by rw [HE.out]; rfl, HS1.out.b⟩
  · cases hk : (v.k == 0)
    · have hk' : (v.k != 0) = true := by simpa using hk
      cases hn : (v.k == c.k)
      · have hn' : (v.k != c.k) = true := by simpa using hn
        have HE := Vl.hid (Vl.takes_20 (c := c) hg hk hn)
        clear hg
        go_wp2_with fail
        go_ret
        exact ⟨by rw [HE.out]; rfl, HS1.out.b⟩
      · have hn' : (v.k != c.k) = false := by simpa using hn
        have HE := Vl.hid (Vl.takes_01 (c := c) hg hk hn)
        clear hg
        go_wp2_with fail
        go_ret
        exact ⟨by rw [HE.out]; rfl, HS1.out.b⟩
    · have hk' : (v.k != 0) = false := by simpa using hk
      cases hn : c.nn
      · have HE := Vl.hid (Vl.takes_00 (c := c) hg hk hn)
        rw [hn] at p2
        clear hg hn
        go_wp2_with fail
        go_ret
        exact ⟨by rw [HE.out]; rfl, HS1.out.b⟩
      · have HE := Vl.hid (Vl.takes_21 (c := c) hg hk hn)
        rw [hn] at p2
        clear hg hn
        go_wp2_with fail
        go_ret
        exact ⟨by rw [HE.out]; rfl, HS1.out.b⟩

set_option maxRecDepth 100000 in
set_option maxHeartbeats 2000000 in
theorem refTakes_any (c : Vl.Col) (v : Vl.V) (w : World) :
    Calls Try.prog 24 #[.agg #[.string c.nm, .int .i64 c.k, .bool c.nn, .int .i64 c.d.k, .int .i64 c.d.n, .float .f64 c.d.f, .string c.d.s], .agg #[.int .i64 v.k, .int .i64 v.n, .float .f64 v.f, .string v.s]] w fun e w' => e = .returned (.int .i64 (Vl.takesE c v)) ∧ Below w.heap.size w w' := by
  have HS0 := Vl.hid (Vl.CV.start w c v 27 25)
  go_enter Try.func24, Try.ntmps24
  go_wp2_with fail
  refine (refGood_any v.k v.n v.f v.s _).mono ?_
  rintro e w1 ⟨rfl, hb⟩
  have HS1 := Vl.hid (HS0.out.step hb)
  clear hb HS0
  obtain ⟨_, p1, p2, _, _, _, _⟩ := HS1.out.c.box
  obtain ⟨q0, _, _, _⟩ := HS1.out.v.box
  cases hg : Vl.goodB v.k v.n v.f v.s
  · have HE := Vl.hid (Vl.takes_11 (c := c) hg)
    clear hg
    go_wp2_with fail
    go_ret
    exact ⟨by rw [HE.out]; rfl, HS1.out.b⟩
  · cases hk : (v.k == 0)
    · have hk' : (v.k != 0) = true := by simpa using hk
      cases hn : (v.k == c.k)
      · have hn' : (v.k != c.k) = true := by simpa using hn
        have HE := Vl.hid (Vl.takes_20 (c := c) hg hk hn)
        clear hg
        go_wp2_with fail
        go_ret
        exact ⟨by rw [HE.out]; rfl, HS1.out.b⟩
      · have hn' : (v.k != c.k) = false := by simpa using hn
        have HE := Vl.hid (Vl.takes_01 (c := c) hg hk hn)
        clear hg
        go_wp2_with fail
        go_ret
        exact ⟨by rw [HE.out]; rfl, HS1.out.b⟩
    · have hk' : (v.k != 0) = false := by simpa using hk
      cases hn : c.nn
      · have HE := Vl.hid (Vl.takes_00 (c := c) hg hk hn)
        rw [hn] at p2
        clear hg hn
        go_wp2_with fail
        go_ret
        exact ⟨by rw [HE.out]; rfl, HS1.out.b⟩
      · have HE := Vl.hid (Vl.takes_21 (c := c) hg hk hn)
        rw [hn] at p2
        clear hg hn
        go_wp2_with fail
        go_ret
        exact ⟨by rw [HE.out]; rfl, HS1.out.b⟩

end Go.Proofs.Ytaclkmhgbmencaa
