/- Walk of value.Rows. -/
import Derived.Test.YtanljohnmaokeaaR2
namespace Go.Proofs.Ytanljohnmaokeaa
open Go.RowKit Go.Sort
attribute [local go_sem] Fl.run_store_float

theorem Vl.row_of4 {w' : World} {base g m : Nat} {e : TypeId} {l : List Value} (h : w'.ownsRow base e 4 (.slice (some ⟨g, 0, none⟩) m m) m l) :
    ∃ cur : Array Value, w'.heap[g]? = some (.cells cur e (0, 0)) ∧ cur.size = m * 4 := by
  obtain ⟨_, ⟨h0, _⟩ | ⟨g', cap, cur, h0, hg, hh, h1, h2, h3, h4⟩⟩ := h
  · cases h0
  · cases h0
    exact ⟨cur, hh, h3⟩

set_option maxRecDepth 100000 in
set_option maxHeartbeats 2000000 in
theorem rows_any (B O cap : Nat) (rs : List (List Vl.V)) (w : World) (hB : B < w.heap.size) (HI : Hid (Vl.InAt w B O rs)) (n : Nat) (HN : Hid (rs.length = n)) (hn0 : 0 < n) (hn : n ≤ 100000) (hcap : n ≤ cap) :
    Calls Try.prog 31 #[.slice (some ⟨B, O, none⟩) n cap] w fun e w' =>
      ∃ rs' : List (List Vl.V), e = .returned (.slice (some ⟨w.heap.size, 0, none⟩) n n) ∧ rs'.Perm rs ∧ Vl.SortedR rs' ∧ Vl.OutAt w' w.heap.size rs' ∧ Below w.heap.size w w' ∧ w.heap.size < w'.heap.size := by
  obtain ⟨i42, ji, jz0, jz1, jz2⟩ : ∃ i, Try.prog.info? 42 = some i ∧ i.zero = some (.slice none 0 0) ∧ i.size = 1 ∧ i.bytes = 24 := ⟨_, Try.type42, rfl, rfl, rfl⟩
  obtain ⟨i24, hi, hz0, hz1, hz2⟩ : ∃ i, Try.prog.info? 24 = some i ∧ i.zero = some (.agg #[.int .i64 0, .int .i64 0, .float .f64 0, .string ⟨#[]⟩]) ∧ i.size = 4 ∧ i.bytes = 40 := ⟨_, Try.type24, rfl, rfl, rfl⟩
  go_enter Try.func31, Try.ntmps31
  go_wp2_with (first | (at_make; refine wpList_make_full _ rfl _ _ 52 rfl w.heap.size 42 i42 (.slice none 0 0) 1 Try.underlying52 ji jz0 jz1 .i64 .i64 (n : Int) (n : Int) n rfl rfl rfl rfl (by rw [jz2]; omega) (by unfold maxLen; omega) (Nat.le_refl _) ?_; intro W0 hown0 hgrow0))
  obtain ⟨cur0, hg0, hc0⟩ : ∃ cur : Array Value, W0.heap[w.heap.size]? = some (.cells cur 42 (0, 0)) ∧ cur.size = n := Vl.row_of hown0
  have HB0 : Hid (Below w.heap.size w W0) := (Below.refl _ _).grown hgrow0 (Nat.le_refl _) (fun k h => by cases h)
  have HS0 : Hid (w.heap.size < W0.heap.size) := by
    rcases Nat.lt_or_ge w.heap.size W0.heap.size with c | c
    · exact c
    · rw [Array.getElem?_eq_none c] at hg0; cases hg0
  have HC0 : Hid (∃ cur : Array Value, W0.heap[w.heap.size]? = some (.cells cur 42 (0, 0)) ∧ cur.size = n) := ⟨cur0, hg0, hc0⟩
  clear hown0 hgrow0 hg0 hc0 ji jz0 jz1 jz2
  go_loopw [11] (fun vi wr => ∃ k : Nat, k ≤ n ∧ vi = .int .i64 (k : Int) ∧ Hid (Below w.heap.size w wr) ∧ Hid (w.heap.size < wr.heap.size) ∧ Hid (∃ cur : Array Value, wr.heap[w.heap.size]? = some (.cells cur 42 (0, 0)) ∧ cur.size = n) ∧ Hid (Vl.OutAt wr w.heap.size (rs.take k))) (fun vi _ => n - (RowKit.intOf vi).toNat)
  case atStart => exact ⟨0, by omega, rfl, HB0, HS0, HC0, fun i xs h => by simp at h⟩
  case round =>
    obtain ⟨k, hk, rfl, HB, HS, HC, HO⟩ := hrel
    rename World => wr
    by_cases hlt : k < n
    · obtain ⟨xs, hxs⟩ : ∃ xs, rs[k]? = some xs := ⟨rs[k]'(by rw [HN.out]; exact hlt), List.getElem?_eq_getElem _⟩
      obtain ⟨p, c, hc0, hlen, hrow⟩ := HI.out k xs hxs
      have hc1 := ((Vl.bcell HB.out).1 B (O + k) hB).trans hc0
      clear hc0
      obtain ⟨cur, hcur, hcs⟩ := HC.out
      have hs0 := HS.out
      have hold : wr.cell? ⟨w.heap.size, k, none⟩ = some (cur[k]'(by omega)) := by simp [World.cell?, hcur, Array.getElem?_eq_getElem (by omega : k < cur.size)]
      have hfro : wr.frozen? ⟨w.heap.size, k, none⟩ = false := by simp [World.frozen?, hcur]
      generalize cur[k]'(by omega) = old at hold
      have HXS := Vl.hid hxs
      have HCUR := Vl.hid hcur
      have HROW := Vl.hid hrow
      obtain ⟨m, hm⟩ : ∃ m, m = xs.length := ⟨_, rfl⟩
      rw [← hm] at hc1 hlen
      have HM := Vl.hid hm
      clear hxs hcur hrow hm
      go_wp2_with (first | (at_make; refine wpList_make_full _ rfl _ _ 42 rfl wr.heap.size 24 i24 (.agg #[.int .i64 0, .int .i64 0, .float .f64 0, .string ⟨#[]⟩]) 4 Try.underlying42 hi hz0 hz1 .i64 .i64 (m : Int) (m : Int) m rfl rfl rfl rfl (by rw [hz2]; omega) (by unfold maxLen; omega) (Nat.le_refl _) ?_; intro W1 hown1 hgrow1; have hb1 : Below wr.heap.size wr W1 := (Below.refl _ _).grown hgrow1 (Nat.le_refl _) (fun k h => by cases h); have hold1 := ((Vl.bcell hb1).1 w.heap.size k hs0).trans hold; have hfro1 := ((Vl.bcell hb1).2 w.heap.size k hs0).trans hfro; have HOWN := Vl.hid hown1; have HB1 := Vl.hid hb1; clear hown1 hgrow1 hb1))
      obtain ⟨cur1, hg1, hz4⟩ : ∃ cur : Array Value, W1.heap[wr.heap.size]? = some (.cells cur 24 (0, 0)) ∧ cur.size = m * 4 := Vl.row_of4 HOWN.out
      have hBW : Below w.heap.size w (W1.setCell ⟨w.heap.size, k, none⟩ (.slice (some ⟨wr.heap.size, 0, none⟩) m m)) := (Vl.btr HB.out HB1.out).setCell (by exact Nat.le_refl _) _
      have hg2 : (W1.setCell ⟨w.heap.size, k, none⟩ (.slice (some ⟨wr.heap.size, 0, none⟩) m m)).heap[wr.heap.size]? = some (.cells cur1 24 (0, 0)) := by
        rw [Below.heap_setCell _ _ _ wr.heap.size (by show wr.heap.size ≠ w.heap.size; omega)]; exact hg1
      rw [Vl.copy_row _ 42 42 3 24 wr.heap.size m c p xs cur1 24 Try.underlying42 (by rw [hi]; simp [hz1]) hg2 HM.out.symm hz4 (HROW.out.below hBW)]
      simp only [Result.andThen]
      rw [Oper.upon_value]
      have hO := HO.out.step (n := n) HB1.out rfl hs0 HXS.out HCUR.out hcs hlt ⟨_, hg1⟩ (by rw [← HM.out]; exact hlen)
      rw [← HM.out] at hO
      have HO2 := Vl.hid hO
      have HBW2 : Hid (Below w.heap.size w ((W1.setCell ⟨w.heap.size, k, none⟩ (.slice (some ⟨wr.heap.size, 0, none⟩) m m)).setRow wr.heap.size (Vl.cellsV xs).toArray)) := Vl.below_setRow hBW (by omega) _
      have HSZ : Hid (w.heap.size < ((W1.setCell ⟨w.heap.size, k, none⟩ (.slice (some ⟨wr.heap.size, 0, none⟩) m m)).setRow wr.heap.size (Vl.cellsV xs).toArray).heap.size) := by
        show _ < _
        have := HB1.out.size
        simp [World.setRow]; omega
      have HC2 : Hid (∃ cur : Array Value, ((W1.setCell ⟨w.heap.size, k, none⟩ (.slice (some ⟨wr.heap.size, 0, none⟩) m m)).setRow wr.heap.size (Vl.cellsV xs).toArray).heap[w.heap.size]? = some (.cells cur 42 (0, 0)) ∧ cur.size = n) := by
        have h0 : W1.heap[w.heap.size]? = some (.cells cur 42 (0, 0)) := by rw [HB1.out.block _ hs0]; exact HCUR.out
        refine ⟨cur.setIfInBounds k (.slice (some ⟨wr.heap.size, 0, none⟩) m m), ?_, by simp [hcs]⟩
        rw [setRow_other _ _ _ _ (by omega), setCell_eq_setRow W1 w.heap.size k cur _ _ _ h0]
        exact setRow_heap _ _ cur _ _ _ h0
      generalize (W1.setCell ⟨w.heap.size, k, none⟩ (.slice (some ⟨wr.heap.size, 0, none⟩) m m)).setRow wr.heap.size (Vl.cellsV xs).toArray = W3 at HO2 HBW2 HSZ HC2
      clear hO hg1 hg2 hBW hold1 hfro1 HOWN HB1 hold hfro hc1
      go_wp2_with fail
      exact ⟨⟨k + 1, by omega, by go_num, HBW2, HSZ, HC2, HO2⟩, by simp [RowKit.intOf]; omega⟩
    · obtain rfl : k = n := by omega
      have hO : Vl.OutAt wr w.heap.size rs := by
        have h := HO.out
        rwa [List.take_of_length_le (by rw [HN.out]; exact Nat.le_refl _)] at h
      have hsort := sortRows_any wr w.heap.size k rs hO HS.out (by rw [HN.out]; exact hn) (by rw [HN.out]; exact hn0)
      rw [HN.out] at hsort
      have HSO := Vl.hid hsort
      clear hO hsort
      go_wp2_with fail
      refine HSO.out.mono ?_
      rintro e w' ⟨rfl, rs', hp, hs, ho, hsz, hbl⟩
      have HH : Hid (rs'.Perm rs ∧ Vl.SortedR rs' ∧ Vl.OutAt w' w.heap.size rs' ∧ Below w.heap.size w w' ∧ w.heap.size < w'.heap.size) := ⟨hp, hs, ho, HB.out.trans (hbl _ (Nat.le_refl _)), Nat.lt_of_lt_of_le HS.out hsz⟩
      clear hp hs ho hsz hbl
      go_wp2_with fail
      go_ret
      exact ⟨rs', rfl, HH.out⟩

end Go.Proofs.Ytanljohnmaokeaa
