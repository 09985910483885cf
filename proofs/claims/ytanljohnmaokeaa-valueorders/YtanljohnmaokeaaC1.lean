/- Walks of the comparison of rows: in worlds that only draw and grow. -/
import Derived.Test.YtanljohnmaokeaaV2
import Derived.Test.YtanljohnmaokeaaM1
import Derived.Deep.QuietTactic
import Derived.BigQuiet
import Derived.Sort.Grow
import Derived.Shelf.Abstract
namespace Go.Proofs.Ytanljohnmaokeaa
open Go.RowKit
attribute [local go_sem] Fl.run_store_float Try.float64bits Try.float64frombits
namespace Vl

/-- A world that has drawn and grown, no more. -/
def Gr (w w' : World) : Prop := ∃ q os, w' = Go.Sort.grow (w.drewN q) os
theorem Gr.refl (w : World) : Gr w w := ⟨0, #[], by simp [Go.Sort.grow, World.drewN]⟩
theorem Gr.alloc {w w' : World} (h : Gr w w') (o : Obj) : Gr w (w'.alloc o) := by
  obtain ⟨q, os, rfl⟩ := h
  refine ⟨q, os.push o, ?_⟩
  show (⟨(w.heap ++ os).push o, _, _, _, _⟩ : World) = ⟨w.heap ++ os.push o, _, _, _, _⟩
  rw [← Array.push_append]
  rfl
theorem Gr.drewN {w w' : World} (h : Gr w w') (n : Nat) : Gr w (w'.drewN n) := by
  obtain ⟨q, os, rfl⟩ := h
  exact ⟨q + n, os, by simp [Go.Sort.grow, World.drewN, Nat.add_assoc]⟩
theorem Gr.drew {w w' : World} (h : Gr w w') : Gr w w'.drew := h.drewN 1
theorem Gr.trans {a b c : World} (h : Gr a b) (h2 : Gr b c) : Gr a c := by
  obtain ⟨q, os, rfl⟩ := h
  obtain ⟨q', os', rfl⟩ := h2
  refine ⟨q + q', os ++ os', ?_⟩
  show (⟨(a.heap ++ os) ++ os', _, _, _, _⟩ : World) = ⟨a.heap ++ (os ++ os'), _, _, _, _⟩
  rw [Array.append_assoc]
  simp [Go.Sort.grow, World.drewN, Nat.add_assoc]
theorem Gr.below {w w' : World} (h : Gr w w') : Below w.heap.size w w' := by
  obtain ⟨q, os, rfl⟩ := h
  exact ⟨rfl, rfl, rfl, by simp [Go.Sort.grow], fun k hk => by
    show (w.heap ++ os)[k]? = _
    rw [Array.getElem?_append_left hk]⟩

theorem cmpL_stop {cf : V → V → Int} {xs ys : List V} {k : Nat} {v u : V} (hi : ∀ j (h1 : j < xs.length) (h2 : j < ys.length), j < k → cf xs[j] ys[j] = 0) (hv : xs[k]? = some v) (hu : ys[k]? = some u) (h : (cf v u != 0) = true) : cf v u = cmpL cf xs ys := by
  obtain ⟨g1, e1⟩ := List.getElem?_eq_some_iff.1 hv
  obtain ⟨g2, e2⟩ := List.getElem?_eq_some_iff.1 hu
  rw [cmpL_drop k xs ys (by omega) (by omega) hi, List.drop_eq_getElem_cons g1, List.drop_eq_getElem_cons g2, e1, e2, cmpL_ne (by simpa using h)]
theorem cmpL_more {cf : V → V → Int} {xs ys : List V} {k : Nat} (hi : ∀ j (h1 : j < xs.length) (h2 : j < ys.length), j < k → cf xs[j] ys[j] = 0) (h1 : k < xs.length) (h2 : ys.length = k) : cmpL cf xs ys = 1 := by
  rw [cmpL_drop k xs ys (by omega) (by omega) hi, List.drop_eq_getElem_cons h1, List.drop_of_length_le (by omega : ys.length ≤ k)]; rfl
theorem cmpL_less {cf : V → V → Int} {xs ys : List V} {k : Nat} (hi : ∀ j (h1 : j < xs.length) (h2 : j < ys.length), j < k → cf xs[j] ys[j] = 0) (h1 : xs.length = k) (h2 : k < ys.length) : cmpL cf xs ys = -1 := by
  rw [cmpL_drop k xs ys (by omega) (by omega) hi, List.drop_eq_getElem_cons h2, List.drop_of_length_le (by omega : xs.length ≤ k)]; rfl
theorem cmpL_same {cf : V → V → Int} {xs ys : List V} {k : Nat} (hi : ∀ j (h1 : j < xs.length) (h2 : j < ys.length), j < k → cf xs[j] ys[j] = 0) (h1 : xs.length = k) (h2 : ys.length = k) : cmpL cf xs ys = 0 := by
  rw [cmpL_drop k xs ys (by omega) (by omega) hi, List.drop_of_length_le (by omega : xs.length ≤ k), List.drop_of_length_le (by omega : ys.length ≤ k)]; rfl
theorem cmpL_go {cf : V → V → Int} {xs ys : List V} {k : Nat} {v u : V} (hi : ∀ j (h1 : j < xs.length) (h2 : j < ys.length), j < k → cf xs[j] ys[j] = 0) (hv : xs[k]? = some v) (hu : ys[k]? = some u) (h : (cf v u != 0) = false) :
    ∀ j (h1 : j < xs.length) (h2 : j < ys.length), j < k + 1 → cf xs[j] ys[j] = 0 := fun j h1 h2 hj => by
  by_cases e : j = k
  · subst e
    obtain ⟨_, e1⟩ := List.getElem?_eq_some_iff.1 hv
    obtain ⟨_, e2⟩ := List.getElem?_eq_some_iff.1 hu
    rw [e1, e2]; simpa using h
  · exact hi j h1 h2 (by omega)

/-- The values xs lie in block b from o on. -/
def RowAt (w : World) (b o : Nat) (xs : List V) : Prop := ∀ j v, xs[j]? = some v →
  w.cell? ⟨b, o + j * 4, none⟩ = some (.int .i64 v.k) ∧ w.cell? ⟨b, o + j * 4 + 1, none⟩ = some (.int .i64 v.n) ∧ w.cell? ⟨b, o + j * 4 + 2, none⟩ = some (.float .f64 v.f) ∧ w.cell? ⟨b, o + j * 4 + 3, none⟩ = some (.string v.s)
theorem RowAt.below {w w' : World} {b o : Nat} {xs : List V} (h : RowAt w b o xs) (hb : b < w.heap.size) (hB : Below w.heap.size w w') : RowAt w' b o xs := fun j v hv => by
  obtain ⟨h1, h2, h3, h4⟩ := h j v hv
  have hm := (bcell hB).1
  exact ⟨(hm _ _ hb).trans h1, (hm _ _ hb).trans h2, (hm _ _ hb).trans h3, (hm _ _ hb).trans h4⟩
end Vl

set_option maxHeartbeats 1000000 in
theorem compareBits_any (a b : Vl.V) (w : World) :
    Calls Try.prog 84 #[.agg #[.int .i64 a.k, .int .i64 a.n, .float .f64 a.f, .string a.s], .agg #[.int .i64 b.k, .int .i64 b.n, .float .f64 b.f, .string b.s]] w fun e w' =>
      e = .returned (.int .i64 (Vl.cmpB a b)) ∧ Vl.Gr w w' := by
  obtain ⟨k, n, f, s⟩ := a
  obtain ⟨k', n', f', s'⟩ := b
  go_enter Try.func84, Try.ntmps84
  go_wp2_with fail
  go_quiet ((go_at_call 104; exact Calls.quiet_of_same (cmpU64_any _ _ _)))
  all_goals
    go_wp2
    go_ret
    exact ⟨rfl, Vl.Gr.drewN (Vl.Gr.alloc (Vl.Gr.alloc (Vl.Gr.refl _) _) _) _⟩

/-- A comparison of two values, as a function of the program. -/
def Vl.CmpFn (P : Program) (g : Nat) (cf : Vl.V → Vl.V → Int) : Prop := ∀ (a b : Vl.V) (W : World), Calls P g #[.agg #[.int .i64 a.k, .int .i64 a.n, .float .f64 a.f, .string a.s], .agg #[.int .i64 b.k, .int .i64 b.n, .float .f64 b.f, .string b.s]] W fun e w' => e = .returned (.int .i64 (cf a b)) ∧ Vl.Gr W w'

set_option maxRecDepth 100000 in
set_option maxHeartbeats 2000000 in
theorem compareFunc_any (g : Nat) (cf : Vl.V → Vl.V → Int) (eg : ∀ args w, (callFunc g args).run Try.prog w = .ok (.enter g args) w) (HC : Vl.CmpFn Try.prog g cf)
    (b1 o1 n1 c1 b2 o2 n2 c2 : Nat) (xs ys : List Vl.V) (w : World) (hx : xs.length = n1) (hy : ys.length = n2) (hl1 : n1 ≤ 100000) (hl2 : n2 ≤ 100000) (hn1 : n1 ≤ c1) (hn2 : n2 ≤ c2) (hb1 : b1 < w.heap.size) (hb2 : b2 < w.heap.size) (H1 : Hid (Vl.RowAt w b1 o1 xs)) (H2 : Hid (Vl.RowAt w b2 o2 ys)) :
    Calls Try.prog 83 #[.slice (some ⟨b1, o1, none⟩) n1 c1, .slice (some ⟨b2, o2, none⟩) n2 c2, .func (.func g) #[] #[]] w fun e w' => e = .returned (.int .i64 (Vl.cmpL cf xs ys)) ∧ Vl.Gr w w' := by
  have HX := Vl.hid hx
  have HY := Vl.hid hy
  clear hx hy
  go_enter Try.func83, Try.ntmps83
  go_wp2_with fail
  go_loopw [13] (fun vi wr => ∃ k : Nat, k ≤ n1 ∧ k ≤ n2 ∧ vi = .int .i64 (k : Int) ∧ Hid (∀ j (h1 : j < xs.length) (h2 : j < ys.length), j < k → cf xs[j] ys[j] = 0) ∧ Hid (Vl.Gr w wr)) (fun vi _ => n1 - (RowKit.intOf vi).toNat)
  case atStart => exact ⟨0, by omega, by omega, rfl, fun j _ _ h => absurd h (Nat.not_lt_zero j), Vl.Gr.refl w⟩
  case round =>
    obtain ⟨k, hk1, hk2, rfl, HI, HG⟩ := hrel
    rename World => wr
    by_cases hlt : k < n1
    · obtain ⟨v, hv⟩ : ∃ v, xs[k]? = some v := ⟨xs[k]'(by rw [HX.out]; exact hlt), List.getElem?_eq_getElem _⟩
      have hbl := HG.out.below
      obtain ⟨p0, p1, p2, p3⟩ := H1.out.below hb1 hbl k v hv
      have hb1r := Nat.lt_of_lt_of_le hb1 hbl.size
      have hb2r := Nat.lt_of_lt_of_le hb2 hbl.size
      by_cases hm : k < n2
      · obtain ⟨u, hu⟩ : ∃ u, ys[k]? = some u := ⟨ys[k]'(by rw [HY.out]; exact hm), List.getElem?_eq_getElem _⟩
        obtain ⟨q0, q1, q2, q3⟩ := H2.out.below hb2 hbl k u hu
        have HV := Vl.hid hv
        have HU := Vl.hid hu
        have HBL := Vl.hid hbl
        clear hv hu hbl
        cases ht : (cf v u != 0)
        · go_wp2_with fail
          refine (HC v u _).mono ?_
          rintro e w2 ⟨rfl, hg⟩
          have HG2 := Vl.hid (((HG.out.alloc _).alloc _).trans hg)
          clear hg
          go_wp2_with fail
          exact ⟨⟨k + 1, by omega, by omega, by go_num, Vl.cmpL_go HI.out HV.out HU.out ht, HG2.out⟩, by simp [RowKit.intOf]; omega⟩
        · go_wp2_with fail
          refine (HC v u _).mono ?_
          rintro e w2 ⟨rfl, hg⟩
          have HG2 := Vl.hid (((HG.out.alloc _).alloc _).trans hg)
          clear hg
          go_wp2_with fail
          go_ret
          exact ⟨congrArg (fun n => Ending.returned (Value.int .i64 n)) (Vl.cmpL_stop HI.out HV.out HU.out ht), HG2.out⟩
      · obtain rfl : k = n2 := by omega
        have HV := Vl.hid hv
        clear hv hbl
        go_wp2_with fail
        go_ret
        exact ⟨by rw [Vl.cmpL_more HI.out (by rw [HX.out]; exact hlt) HY.out]; rfl, HG.out.alloc _⟩
    · obtain rfl : k = n1 := by omega
      by_cases hm : k < n2
      · have hmi : (k : Int) < (n2 : Int) := by omega
        go_wp2_with fail
        go_ret
        exact ⟨by rw [Vl.cmpL_less HI.out HX.out (by rw [HY.out]; exact hm)]; rfl, HG.out⟩
      · obtain rfl : k = n2 := by omega
        go_wp2_with fail
        go_ret
        exact ⟨by rw [Vl.cmpL_same HI.out HX.out HY.out]; rfl, HG.out⟩

set_option maxHeartbeats 1000000 in
theorem compareRows_any (b1 o1 n1 c1 b2 o2 n2 c2 : Nat) (xs ys : List Vl.V) (w : World) (hx : xs.length = n1) (hy : ys.length = n2) (hl1 : n1 ≤ 100000) (hl2 : n2 ≤ 100000) (hn1 : n1 ≤ c1) (hn2 : n2 ≤ c2) (hb1 : b1 < w.heap.size) (hb2 : b2 < w.heap.size) (H1 : Hid (Vl.RowAt w b1 o1 xs)) (H2 : Hid (Vl.RowAt w b2 o2 ys)) :
    Calls Try.prog 57 #[.slice (some ⟨b1, o1, none⟩) n1 c1, .slice (some ⟨b2, o2, none⟩) n2 c2] w fun e w' => e = .returned (.int .i64 (Vl.cmpR xs ys)) ∧ Vl.Gr w w' := by
  have hcV : Vl.CmpFn Try.prog 11 Vl.cmpV := fun a b W => (valCompare_any a b W).mono fun e w' ⟨he, hw⟩ => ⟨he, by rw [hw]; exact ((Vl.Gr.refl _).alloc _).alloc _⟩
  have hcB : Vl.CmpFn Try.prog 84 Vl.cmpB := fun a b W => compareBits_any a b W
  have HX := Vl.hid hx
  have HY := Vl.hid hy
  clear hx hy
  cases ht : (Vl.cmpL Vl.cmpV xs ys != 0)
  · go_enter Try.func57, Try.ntmps57
    go_wp2_with fail
    refine (compareFunc_any 11 Vl.cmpV (enters_of Try.func11 (by kernel_rfl) rfl) hcV b1 o1 n1 c1 b2 o2 n2 c2 xs ys w HX.out HY.out hl1 hl2 hn1 hn2 hb1 hb2 H1 H2).mono ?_
    rintro e w1 ⟨rfl, hg⟩
    go_wp2_with fail
    refine (compareFunc_any 84 Vl.cmpB (enters_of Try.func84 (by kernel_rfl) rfl) hcB b1 o1 n1 c1 b2 o2 n2 c2 xs ys w1 HX.out HY.out hl1 hl2 hn1 hn2 (Nat.lt_of_lt_of_le hb1 hg.below.size) (Nat.lt_of_lt_of_le hb2 hg.below.size) (H1.out.below hb1 hg.below) (H2.out.below hb2 hg.below)).mono ?_
    rintro e w2 ⟨rfl, hg2⟩
    go_wp2_with fail
    go_ret
    exact ⟨congrArg (fun n => Ending.returned (Value.int .i64 n)) (Vl.lex_eq (by simpa using ht)).symm, hg.trans hg2⟩
  · go_enter Try.func57, Try.ntmps57
    go_wp2_with fail
    refine (compareFunc_any 11 Vl.cmpV (enters_of Try.func11 (by kernel_rfl) rfl) hcV b1 o1 n1 c1 b2 o2 n2 c2 xs ys w HX.out HY.out hl1 hl2 hn1 hn2 hb1 hb2 H1 H2).mono ?_
    rintro e w1 ⟨rfl, hg⟩
    go_wp2_with fail
    go_ret
    exact ⟨congrArg (fun n => Ending.returned (Value.int .i64 n)) (Vl.lex_ne (by simpa using ht)).symm, hg⟩

end Go.Proofs.Ytanljohnmaokeaa
