/- The rows sorted: the library's contract at the comparison of rows. -/
import Derived.Test.YtanljohnmaokeaaC1
import Derived.Test.YtanljohnmaokeaaB0
import Derived.Test.YtanljohnmaokeaaShelf
namespace Go.Proofs.Ytanljohnmaokeaa
open Go.RowKit Go.Sort
namespace Vl

/-- A row that lies in w, outside block blk. -/
structure Rw (w : World) (blk : Nat) where
  b : Nat
  o : Nat
  c : Nat
  vs : List V
  hn : vs.length ≤ c
  hc : vs.length ≤ 100000
  hb : b < w.heap.size
  hne : b ≠ blk
  row : RowAt w b o vs
def encW {w : World} {blk : Nat} (r : Rw w blk) : Value := .slice (some ⟨r.b, r.o, none⟩) r.vs.length r.c
def cfW {w : World} {blk : Nat} (a b : Rw w blk) : Int := cmpR a.vs b.vs

/-- The rows rs, each by a slice, lie in block blk from its beginning on. -/
def OutAt (w : World) (blk : Nat) (rs : List (List V)) : Prop := ∀ i xs, rs[i]? = some xs →
  ∃ b o c, w.cell? ⟨blk, i, none⟩ = some (.slice (some ⟨b, o, none⟩) xs.length c) ∧ w.frozen? ⟨blk, i, none⟩ = false ∧ xs.length ≤ c ∧ xs.length ≤ 100000 ∧ b < w.heap.size ∧ b ≠ blk ∧ RowAt w b o xs
def SortedR (rs : List (List V)) : Prop := rs.Pairwise fun a b => cmpR a b ≤ 0

theorem RowAt.sortW {α : Type} [Inhabited α] {enc : α → Value} {w : World} {blk off m b o : Nat} {dk : Array α} {os : Array Obj} {xs : List V} (h : RowAt w b o xs) (hb : b < w.heap.size) (hne : b ≠ blk) : RowAt (sortWorld enc w blk off m dk os) b o xs := by
  have e : ∀ j, (sortWorld enc w blk off m dk os).cell? ⟨b, j, none⟩ = w.cell? ⟨b, j, none⟩ := fun j => by
    unfold sortWorld
    rw [cell?_grow _ _ _ (by simp [putRow, mapBlock]; exact hb), cell?_putRow_other _ _ _ _ _ _ (Or.inl hne)]
    rfl
  intro j v hv
  obtain ⟨h1, h2, h3, h4⟩ := h j v hv
  exact ⟨(e _).trans h1, (e _).trans h2, (e _).trans h3, (e _).trans h4⟩
theorem size_sortW {α : Type} [Inhabited α] (enc : α → Value) (w : World) (blk off m : Nat) (dk : Array α) (os : Array Obj) : (sortWorld enc w blk off m dk os).heap.size = w.heap.size + os.size := by
  unfold sortWorld; simp [grow, putRow, mapBlock]
theorem below_sortW {α : Type} [Inhabited α] (enc : α → Value) {B : Nat} (w : World) {blk : Nat} (hB : B ≤ blk) (off m : Nat) (dk : Array α) (os : Array Obj) (hs : B ≤ w.heap.size) : RowKit.Below B w (sortWorld enc w blk off m dk os) := by
  refine ⟨rfl, rfl, rfl, by rw [size_sortW]; omega, fun k hk => ?_⟩
  unfold sortWorld
  rw [heap_grow_old _ _ (by simp [putRow, mapBlock]; omega)]
  simp only [putRow, mapBlock, Array.getElem?_modify]
  rw [if_neg (by omega)]
  rfl

theorem swoW (w : World) (blk : Nat) : SWO (ltOf (cfW (w := w) (blk := blk))) where
  irrefl x := by unfold ltOf cfW; rw [cmpR_ok.self]; rfl
  trans x y z h1 h2 := by
    unfold ltOf cfW at *
    simp only [decide_eq_true_iff] at *
    have t := cmpR_ok.tr x.vs y.vs z.vs (by omega) (by omega)
    by_cases e : cmpR x.vs z.vs = 0
    · have := cmpR_ok.zero (by omega : cmpR x.vs y.vs ≤ 0) (by omega : cmpR y.vs z.vs ≤ 0) e; omega
    · omega
  ntrans x y z h1 h2 := by
    unfold ltOf cfW at *
    simp only [decide_eq_false_iff_not] at *
    have f1 := cmpR_ok.flip x.vs y.vs
    have f2 := cmpR_ok.flip y.vs z.vs
    have f3 := cmpR_ok.flip x.vs z.vs
    have t := cmpR_ok.tr z.vs y.vs x.vs (by omega) (by omega)
    omega
end Vl

set_option maxHeartbeats 1000000 in
theorem sortRows_any (w : World) (blk cap : Nat) (rs : List (List Vl.V)) (hO : Vl.OutAt w blk rs) (hblk : blk < w.heap.size) (hn : rs.length ≤ 100000) (h0 : 0 < rs.length) :
    Calls Try.prog 56 #[.slice (some ⟨blk, 0, none⟩) rs.length cap, .func (.func 57) #[] #[]] w fun e w' =>
      e = .returned (.tuple #[]) ∧ ∃ rs', rs'.Perm rs ∧ Vl.SortedR rs' ∧ Vl.OutAt w' blk rs' ∧ w.heap.size ≤ w'.heap.size ∧ ∀ B, B ≤ blk → RowKit.Below B w w' := by
  have hex : ∀ i : Fin rs.length, ∃ r : Vl.Rw w blk, r.vs = rs[i] ∧ w.cell? ⟨blk, i.val, none⟩ = some (Vl.encW r) ∧ w.frozen? ⟨blk, i.val, none⟩ = false := fun i => by
    obtain ⟨b, o, c, h1, h2, h3, h4, h5, h6, h7⟩ := hO i.val rs[i] (List.getElem?_eq_getElem _)
    exact ⟨⟨b, o, c, rs[i], h3, h4, h5, h6, h7⟩, rfl, h1, h2⟩
  obtain ⟨mk, hmk⟩ : ∃ mk : Fin rs.length → Vl.Rw w blk, ∀ i, (mk i).vs = rs[i] ∧ w.cell? ⟨blk, i.val, none⟩ = some (Vl.encW (mk i)) ∧ w.frozen? ⟨blk, i.val, none⟩ = false := ⟨fun i => Classical.choose (hex i), fun i => Classical.choose_spec (hex i)⟩
  have inst : Inhabited (Vl.Rw w blk) := ⟨mk ⟨0, h0⟩⟩
  obtain ⟨d, hd⟩ : ∃ d : Array (Vl.Rw w blk), d = Array.ofFn mk := ⟨_, rfl⟩
  have hds : d.size = rs.length := by rw [hd]; simp
  have hdg : ∀ j (h : j < rs.length), d[j]! = mk ⟨j, h⟩ := fun j h => by
    rw [hd, getElem!_pos _ j (by simpa using h)]; simp
  have hH : Holds Vl.encW w blk 0 d := fun j hj => by
    have hj' : j < rs.length := by omega
    rw [hdg j hj', Nat.zero_add]
    exact ⟨(hmk ⟨j, hj'⟩).2.1, (hmk ⟨j, hj'⟩).2.2⟩
  have hvs : d.toList.map Vl.Rw.vs = rs := by
    apply List.ext_getElem (by simp [hds])
    intro j h1 h2
    have e := hdg j h2
    rw [getElem!_pos d j (by omega)] at e
    simp only [List.getElem_map, Array.getElem_toList]
    rw [e]
    exact (hmk ⟨j, h2⟩).1
  have hcmp : CmpLays1 Try.prog 57 #[] Vl.encW Vl.cfW blk 0 d.size w := fun m os dk _ x y => by
    have hsz := Vl.size_sortW (Vl.encW (w := w) (blk := blk)) w blk 0 m dk os
    refine (compareRows_any x.b x.o x.vs.length x.c y.b y.o y.vs.length y.c x.vs y.vs (sortWorld Vl.encW w blk 0 m dk os) rfl rfl x.hc y.hc x.hn y.hn (by have := x.hb; omega) (by have := y.hb; omega) (x.row.sortW x.hb x.hne) (y.row.sortW y.hb y.hne)).mono ?_
    rintro e w' ⟨he, q, os', hw⟩
    exact ⟨he, q, os', hw⟩
  have hcon := Any.slices_SortFunc Try.sortF Vl.encW (fun _ => rfl) Vl.cfW (Vl.swoW w blk) 57 #[] blk 0 cap d w (enters_of Try.func57 (by kernel_rfl) rfl) hcmp hH hblk (by omega)
  rw [hds] at hcon
  refine Calls.mono hcon ?_
  rintro e w' ⟨he, d', n, os, hp, hso, hw⟩
  refine ⟨he, d'.toList.map Vl.Rw.vs, ?_, ?_, ?_, ?_, ?_⟩
  · have h3 := hp.2.2
    have hs' := hp.1
    have e1 : d'.extract 0 rs.length = d' := by rw [← hds, ← hs']; simp
    have e2 : d.extract 0 rs.length = d := by rw [← hds]; simp
    rw [e1, e2] at h3
    rw [← hvs]
    exact h3.map _
  · unfold Vl.SortedR
    rw [List.pairwise_iff_getElem]
    intro i j hi hj hij
    simp only [List.length_map, Array.length_toList] at hi hj
    have hs' := hp.1
    have h := hso i j (Nat.zero_le _) hij (by omega)
    rw [getElem!_pos d' i (by omega), getElem!_pos d' j (by omega)] at h
    simp only [List.getElem_map, Array.getElem_toList]
    unfold ltOf Vl.cfW at h
    simp only [decide_eq_false_iff_not] at h
    have f := Vl.cmpR_ok.flip d'[i].vs d'[j].vs
    omega
  · intro i xs hi
    have hs' := hp.1
    obtain ⟨hlt, hx⟩ := List.getElem?_eq_some_iff.1 hi
    simp only [List.length_map, Array.length_toList] at hlt
    simp only [List.getElem_map, Array.getElem_toList] at hx
    have hSW : SW Vl.encW w blk 0 d' w' := ⟨n, os, hw⟩
    have hh := hSW.holds hblk hH hs' i hlt
    rw [getElem!_pos d' i hlt, Nat.zero_add] at hh
    subst hx
    have hsz := Vl.size_sortW (Vl.encW (w := w) (blk := blk)) w blk 0 n d' os
    rw [← hw] at hsz
    refine ⟨d'[i].b, d'[i].o, d'[i].c, hh.1, hh.2, d'[i].hn, d'[i].hc, ?_, d'[i].hne, ?_⟩
    · have := d'[i].hb; omega
    · rw [hw]; exact d'[i].row.sortW d'[i].hb d'[i].hne
  · rw [hw, Vl.size_sortW]; omega
  · intro B hB
    rw [hw]; exact Vl.below_sortW _ w hB 0 n d' os (by omega)

end Go.Proofs.Ytanljohnmaokeaa
