/- The knots sorted. -/
import Derived.Test.YthikdfcndppoaaaWa9
import Derived.Test.YthikdfcndppoaaaShelf2
import Derived.Shelf.SlSortCmp.NoneTotal
namespace Go.Proofs.Ythikdfcndppoaaa
open Go.RowKit Go.Sort

set_option maxHeartbeats 400000 in
theorem isNaN_any (x : Int) (w : World) : Calls Try.prog 32 #[.int .i64 x] w fun e w' => e = .returned (.bool false) ∧ w' = w := by
  go_enter Try.func32, Try.ntmps32
  go_wp2
  go_ret
  exact ⟨by simp, rfl⟩

namespace Mm
def cmpI (x y : Int) : Int := if x < y then -1 else if y < x then 1 else 0
end Mm

set_option maxHeartbeats 1000000 in
theorem compare_any (x y : Int) (w : World) : Calls Try.prog 21 #[.int .i64 x, .int .i64 y] w fun e w' => e = .returned (.int .i64 (Mm.cmpI x y)) ∧ w' = w := by
  by_cases h1 : x < y
  · go_enter Try.func21, Try.ntmps21
    go_wp2_with (go_at_call 32; refine (isNaN_any _ _).mono ?_; rintro e w' ⟨rfl, rfl⟩)
    go_ret
    exact ⟨by rw [show Mm.cmpI x y = -1 from if_pos h1]; rfl, rfl⟩
  · by_cases h2 : y < x
    · go_enter Try.func21, Try.ntmps21
      go_wp2_with (go_at_call 32; refine (isNaN_any _ _).mono ?_; rintro e w' ⟨rfl, rfl⟩)
      go_ret
      exact ⟨by rw [show Mm.cmpI x y = 1 from by unfold Mm.cmpI; rw [if_neg (by omega), if_pos (by omega)]]; rfl, rfl⟩
    · go_enter Try.func21, Try.ntmps21
      go_wp2_with (go_at_call 32; refine (isNaN_any _ _).mono ?_; rintro e w' ⟨rfl, rfl⟩)
      go_ret
      exact ⟨by rw [show Mm.cmpI x y = 0 from by unfold Mm.cmpI; rw [if_neg (by omega), if_neg (by omega)]]; rfl, rfl⟩

set_option maxHeartbeats 1000000 in
theorem byHead_any (w : World) (b1 n1 c1 b2 n2 c2 : Nat) (x y : Int) (h1 : 0 < n1) (h2 : 0 < n2) (hx : w.cell? ⟨b1, 0, none⟩ = some (.int .i64 x)) (hy : w.cell? ⟨b2, 0, none⟩ = some (.int .i64 y)) :
    Calls Try.prog 20 #[.slice (some ⟨b1, 0, none⟩) n1 c1, .slice (some ⟨b2, 0, none⟩) n2 c2] w fun e w' => e = .returned (.int .i64 (Mm.cmpI x y)) ∧ ∃ q, w' = w.drewN q := by
  go_enter Try.func20, Try.ntmps20
  go_wp2_with fail
  go_quiet ((go_at_call 21; exact Calls.quiet_of_same (compare_any _ _ _)))
  all_goals
    go_wp2
    go_ret
    exact ⟨rfl, nq, rfl⟩

namespace Mm
/-- Lists of whole numbers, none empty, that lie where a slice says. -/
def KIn (w : World) (q : Option Addr) (K : List (List Int)) : Prop := ∀ (i : Nat) (k : List Int), K[i]? = some k → ∃ b o g c, q = some ⟨b, o, none⟩ ∧ b < w.heap.size ∧ w.cell? ⟨b, o + i, none⟩ = some (.slice (some ⟨g, 0, none⟩) k.length c) ∧ k.length ≤ c ∧ g < w.heap.size ∧ ∀ (j : Nat) (x : Int), k[j]? = some x → w.cell? ⟨g, j, none⟩ = some (.int .i64 x)
theorem KIn.below {w w' : World} {q : Option Addr} {K : List (List Int)} (h : KIn w q K) (hb : Below w.heap.size w w') : KIn w' q K := fun i k hk => by
  obtain ⟨b, o, g, c, h1, h2, h3, h4, h5, h6⟩ := h i k hk
  exact ⟨b, o, g, c, h1, Nat.lt_of_lt_of_le h2 hb.size, (belAt hb _ h2).trans h3, h4, Nat.lt_of_lt_of_le h5 hb.size, fun j x hx => (belAt hb _ h5).trans (h6 j x hx)⟩
structure Rk (w : World) (blk : Nat) where
  b : Nat
  c : Nat
  vs : List Int
  hn : vs.length ≤ c
  h0 : 0 < vs.length
  hb : b < w.heap.size
  hne : b ≠ blk
  row : ∀ (j : Nat) (x : Int), vs[j]? = some x → w.cell? ⟨b, j, none⟩ = some (.int .i64 x)
def encK {w : World} {blk : Nat} (r : Rk w blk) : Value := .slice (some ⟨r.b, 0, none⟩) r.vs.length r.c
def cfK {w : World} {blk : Nat} (a b : Rk w blk) : Int := cmpI (a.vs.headD 0) (b.vs.headD 0)
theorem cellSort {α : Type} [Inhabited α] {enc : α → Value} {w : World} {blk off m b : Nat} {dk : Array α} {os : Array Obj} (hb : b < w.heap.size) (hne : b ≠ blk) (j : Nat) : (sortWorld enc w blk off m dk os).cell? ⟨b, j, none⟩ = w.cell? ⟨b, j, none⟩ := by
  unfold sortWorld
  rw [cell?_grow _ _ _ (by simp [putRow, mapBlock]; exact hb), cell?_putRow_other _ _ _ _ _ _ (Or.inl hne)]
  rfl
theorem sizeSort {α : Type} [Inhabited α] (enc : α → Value) (w : World) (blk off m : Nat) (dk : Array α) (os : Array Obj) : (sortWorld enc w blk off m dk os).heap.size = w.heap.size + os.size := by
  unfold sortWorld; simp [grow, putRow, mapBlock]
theorem belowSort {α : Type} [Inhabited α] (enc : α → Value) {B : Nat} (w : World) {blk : Nat} (hB : B ≤ blk) (off m : Nat) (dk : Array α) (os : Array Obj) (hs : B ≤ w.heap.size) : RowKit.Below B w (sortWorld enc w blk off m dk os) := by
  refine ⟨rfl, rfl, rfl, by rw [sizeSort]; omega, fun k hk => ?_⟩
  unfold sortWorld
  rw [heap_grow_old _ _ (by simp [putRow, mapBlock]; omega)]
  simp only [putRow, mapBlock, Array.getElem?_modify]
  rw [if_neg (by omega)]
  rfl
theorem cmpI_lt (a b : Int) : cmpI a b < 0 ↔ a < b := by
  unfold cmpI
  by_cases h1 : a < b
  · simp [h1]
  · rw [if_neg h1]
    by_cases h2 : b < a
    · rw [if_pos h2]; omega
    · rw [if_neg h2]; omega
theorem ltK {w : World} {blk : Nat} (x y : Rk w blk) : ltOf cfK x y = decide (x.vs.headD 0 < y.vs.headD 0) := by
  unfold ltOf cfK
  rw [Bool.eq_iff_iff, decide_eq_true_iff, decide_eq_true_iff, cmpI_lt]
theorem swoK (w : World) (blk : Nat) : SWO (ltOf (cfK (w := w) (blk := blk))) where
  irrefl x := by rw [ltK]; simp
  trans x y z h1 h2 := by
    rw [ltK, decide_eq_true_iff] at *
    omega
  ntrans x y z h1 h2 := by
    rw [ltK, decide_eq_false_iff_not] at *
    omega
end Mm

set_option maxHeartbeats 1000000 in
theorem sortKnots_any (w : World) (blk cap : Nat) (K : List (List Int)) (hO : Mm.KIn w (some ⟨blk, 0, none⟩) K) (hfr : ∀ i, i < K.length → w.frozen? ⟨blk, i, none⟩ = false) (hg : ∀ (i : Nat) (g n c : Nat), w.cell? ⟨blk, i, none⟩ = some (.slice (some ⟨g, 0, none⟩) n c) → i < K.length → g ≠ blk) (hne : ∀ k ∈ K, k ≠ []) (hn : K.length ≤ 100000) (h0 : 0 < K.length) :
    Calls Try.prog 19 #[.slice (some ⟨blk, 0, none⟩) K.length cap, .func (.func 20) #[] #[]] w fun e w' =>
      e = .returned (.tuple #[]) ∧ ∃ K', K'.Perm K ∧ K'.Pairwise (fun a b => a.headD 0 ≤ b.headD 0) ∧ Mm.KIn w' (some ⟨blk, 0, none⟩) K' ∧ (∀ B, B ≤ blk → RowKit.Below B w w') ∧ ∀ b, b < w.heap.size → b ≠ blk → w'.heap[b]? = w.heap[b]? := by
  have hblk : blk < w.heap.size := by
    obtain ⟨b, o, g, c, e1, e2, _⟩ := hO 0 K[0] (List.getElem?_eq_getElem h0)
    cases e1; exact e2
  have hex : ∀ i : Fin K.length, ∃ r : Mm.Rk w blk, r.vs = K[i] ∧ w.cell? ⟨blk, i.val, none⟩ = some (Mm.encK r) ∧ w.frozen? ⟨blk, i.val, none⟩ = false := fun i => by
    obtain ⟨b, o, g, c, h1, h2, h3, h4, h5, h6⟩ := hO i.val K[i] (List.getElem?_eq_getElem _)
    cases h1
    rw [Nat.zero_add] at h3
    have hk := hne K[i] (List.getElem_mem _)
    exact ⟨⟨g, c, K[i], h4, by cases hkk : K[i] with | nil => exact absurd hkk hk | cons => simp, h5, hg i.val g _ c h3 i.isLt, h6⟩, rfl, h3, hfr i.val i.isLt⟩
  obtain ⟨mk, hmk⟩ : ∃ mk : Fin K.length → Mm.Rk w blk, ∀ i, (mk i).vs = K[i] ∧ w.cell? ⟨blk, i.val, none⟩ = some (Mm.encK (mk i)) ∧ w.frozen? ⟨blk, i.val, none⟩ = false := ⟨fun i => Classical.choose (hex i), fun i => Classical.choose_spec (hex i)⟩
  have inst : Inhabited (Mm.Rk w blk) := ⟨mk ⟨0, h0⟩⟩
  obtain ⟨d, hd⟩ : ∃ d : Array (Mm.Rk w blk), d = Array.ofFn mk := ⟨_, rfl⟩
  have hds : d.size = K.length := by rw [hd]; simp
  have hdg : ∀ j (h : j < K.length), d[j]! = mk ⟨j, h⟩ := fun j h => by
    rw [hd, getElem!_pos _ j (by simpa using h)]; simp
  have hH : Holds Mm.encK w blk 0 d := fun j hj => by
    have hj' : j < K.length := by omega
    rw [hdg j hj', Nat.zero_add]
    exact ⟨(hmk ⟨j, hj'⟩).2.1, (hmk ⟨j, hj'⟩).2.2⟩
  have hvs : d.toList.map Mm.Rk.vs = K := by
    apply List.ext_getElem (by simp [hds])
    intro j h1 h2
    have e := hdg j h2
    rw [getElem!_pos d j (by omega)] at e
    simp only [List.getElem_map, Array.getElem_toList]
    rw [e]
    exact (hmk ⟨j, h2⟩).1
  have hcmp : CmpLays1 Try.prog 20 #[] Mm.encK Mm.cfK blk 0 d.size w := fun m os dk _ x y => by
    have hh : ∀ (r : Mm.Rk w blk), (sortWorld Mm.encK w blk 0 m dk os).cell? ⟨r.b, 0, none⟩ = some (.int .i64 (r.vs.headD 0)) := fun r => by
      refine (Mm.cellSort (α := Mm.Rk w blk) (enc := Mm.encK) r.hb r.hne 0).trans (r.row 0 _ ?_)
      have := r.h0
      cases hv : r.vs with
      | nil => rw [hv] at this; simp at this
      | cons a t => simp
    refine (byHead_any (sortWorld Mm.encK w blk 0 m dk os) x.b x.vs.length x.c y.b y.vs.length y.c (x.vs.headD 0) (y.vs.headD 0) x.h0 y.h0 (hh x) (hh y)).mono ?_
    rintro e w' ⟨he, q, hw⟩
    exact ⟨he, q, #[], by rw [hw, grow_empty]⟩
  have hcon := Any.slices_SortFunc Try.sortF Mm.encK (fun _ => rfl) Mm.cfK (Mm.swoK w blk) 20 #[] blk 0 cap d w (enters_of Try.func20 (by kernel_rfl) rfl) hcmp hH hblk (by omega)
  rw [hds] at hcon
  refine Calls.mono hcon ?_
  rintro e w' ⟨he, d', n, os, hp, hso, hw⟩
  refine ⟨he, d'.toList.map Mm.Rk.vs, ?_, ?_, ?_, ?_, ?_⟩
  · have h3 := hp.2.2
    have hs' := hp.1
    have e1 : d'.extract 0 K.length = d' := by rw [← hds, ← hs']; simp
    have e2 : d.extract 0 K.length = d := by rw [← hds]; simp
    rw [e1, e2] at h3
    have h4 := h3.map Mm.Rk.vs
    rw [hvs] at h4
    exact h4
  · rw [List.pairwise_iff_getElem]
    intro i j hi hj hij
    simp only [List.length_map, Array.length_toList] at hi hj
    have hs' := hp.1
    have h := hso i j (Nat.zero_le _) hij (by omega)
    rw [getElem!_pos d' i (by omega), getElem!_pos d' j (by omega)] at h
    simp only [List.getElem_map, Array.getElem_toList]
    rw [Mm.ltK, decide_eq_false_iff_not] at h
    omega
  · intro i xs hi
    have hs' := hp.1
    obtain ⟨hlt, hx⟩ := List.getElem?_eq_some_iff.1 hi
    simp only [List.length_map, Array.length_toList] at hlt
    simp only [List.getElem_map, Array.getElem_toList] at hx
    have hSW : SW Mm.encK w blk 0 d' w' := ⟨n, os, hw⟩
    have hh := hSW.holds hblk hH hs' i hlt
    rw [getElem!_pos d' i hlt] at hh
    subst hx
    have hsz := Mm.sizeSort (Mm.encK (w := w) (blk := blk)) w blk 0 n d' os
    rw [← hw] at hsz
    refine ⟨blk, 0, d'[i].b, d'[i].c, rfl, by omega, hh.1, d'[i].hn, by have := d'[i].hb; omega, fun j x hx => ?_⟩
    rw [hw]
    exact (Mm.cellSort (α := Mm.Rk w blk) (enc := Mm.encK) d'[i].hb d'[i].hne j).trans (d'[i].row j x hx)
  · intro B hB
    rw [hw]; exact Mm.belowSort _ w hB 0 n d' os (by omega)
  · intro b hb hbn
    rw [hw]
    unfold sortWorld
    rw [heap_grow_old _ _ (by simp [putRow, mapBlock]; omega)]
    simp only [putRow, mapBlock, Array.getElem?_modify]
    rw [if_neg (fun e => hbn e.symm)]
    rfl
end Go.Proofs.Ythikdfcndppoaaa
