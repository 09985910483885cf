/- slices.Insert, whole; slices.Delete. -/
import Derived.Test.YtjnaafgiokdcbaaLa2
namespace Go.Proofs.Ytjnaafgiokdcbaa
open Go.RowKit

theorem insS_any (p : Option Addr) (n c i : Nat) (xs : List Value) (y : Value) (B base : Nat) (w : World) (HO : Hid (Mm.Own w base 9 (.slice p n c) xs)) (hn : Hid (xs.length = n)) (hi : i ≤ n) (hy : y.oneCell' = true) (h1 : Hid (∀ x ∈ xs, x.oneCell' = true)) (HB : Hid (w.heap[B]? = some (.cells #[y] 9 (0, 0)))) (hne : Hid (∀ g, p = some ⟨g, 0, none⟩ → B ≠ g)) (hl : n < 100000) (hbase : base ≤ w.heap.size) :
    Calls Try.prog 26 #[.slice p n c, .int .i64 (i : Int), .slice (some ⟨B, 0, none⟩) 1 1] w fun e w' => ∃ v', e = .returned v' ∧ Mm.Own w' base 9 v' (xs.take i ++ y :: xs.drop i) ∧ w.grownBy w' (Value.slice p n c).ownBlock ∧ (v'.ownBlock = (Value.slice p n c).ownBlock ∨ ∀ g, v'.ownBlock = some g → w.heap.size ≤ g) := by
  rcases Nat.lt_or_ge i n with h | h
  · obtain ⟨g, hg⟩ : ∃ g, p = some ⟨g, 0, none⟩ := by
      rcases HO.out.2 with ⟨h0, h2⟩ | ⟨g, cap, cur, h0, _⟩
      · rw [hn.out] at h2; omega
      · injection h0 with h0; exact ⟨g, h0⟩
    subst hg
    rcases Nat.lt_or_ge c (n + 1) with hc | hc
    · refine (insS_grow g n c i xs y B base w HO h hc hl (Mm.hid hy) h1 HB hbase).mono ?_
      rintro e w' ⟨G, rfl, a1, a2⟩
      refine ⟨_, rfl, a1, ⟨a2.os, a2.tape, a2.output, a2.size, fun b hb _ => a2.block b hb (by simp)⟩, Or.inr (fun g' hg => ?_)⟩
      have hg' : some w.heap.size = some g' := hg
      exact Nat.le_of_eq (Option.some.inj hg')
    · refine (insS_room g n c i xs y B base w HO h hc (Mm.hid hy) h1 HB (Mm.hid (hne.out g rfl))).mono ?_
      rintro e w' ⟨rfl, a1, a2⟩
      exact ⟨_, rfl, a1, a2, Or.inl rfl⟩
  · have hin : i = n := by omega
    subst hin
    refine (insS_end p i c xs y B base w HO hn hy HB hl hbase).mono ?_
    rintro e w' ⟨v', rfl, a1, a2⟩
    refine ⟨v', rfl, ?_, a2⟩
    rw [List.take_of_length_le (by rw [hn.out]; exact Nat.le_refl _), List.drop_of_length_le (by rw [hn.out]; exact Nat.le_refl _)]
    exact a1

set_option maxRecDepth 100000 in
set_option maxHeartbeats 4000000 in
theorem delS_any (g n c i j : Nat) (xs : List Value) (base : Nat) (w : World) (HO : Hid (Mm.Own w base 9 (.slice (some ⟨g, 0, none⟩) n c) xs)) (hij : i < j) (hj : j ≤ n) (h1 : Hid (∀ x ∈ xs, x.oneCell' = true)) :
    Calls Try.prog 30 #[.slice (some ⟨g, 0, none⟩) n c, .int .i64 (i : Int), .int .i64 (j : Int)] w fun e w' => e = .returned (.slice (some ⟨g, 0, none⟩) (i + (n - j)) c) ∧ Mm.Own w' base 9 (.slice (some ⟨g, 0, none⟩) (i + (n - j)) c) (xs.take i ++ xs.drop j) ∧ w.grownBy w' (some g) := by
  obtain ⟨i0, hi0, hz0, hzs, hzb⟩ := infoS
  obtain ⟨cur, b1, b2, b3, b4, b5, b6, b7⟩ := HO.out.block
  have HC63 : (c : Int) ≤ 9223372036854775807 := by unfold maxLen at b5; omega
  have hxi : ∀ t v, xs[t]? = some v → w.cell? ⟨g, t, none⟩ = some v := fun t v ht => by
    have htn : t < n := by have := (List.getElem?_eq_some_iff.1 ht).1; omega
    rw [← b3, List.getElem?_take_of_lt htn] at ht
    exact Mm.cellOf b1 (by simpa using ht)
  have hsp : ∀ t, t < c → (w.cell? ⟨g, t, none⟩).isSome = true := fun t ht => by
    rw [Mm.cellOf b1 (Array.getElem?_eq_getElem (by omega))]; rfl
  have hfz : ∀ t, w.frozen? ⟨g, t, none⟩ = false := fun t => by simp [World.frozen?, b1]
  have hdl : (xs.drop j).length = n - j := by rw [List.length_drop, b7]
  obtain ⟨A, hA, hsrc⟩ : ∃ A : Addr, (if c = j then (⟨g, 0, none⟩ : Addr) else ⟨g, j, none⟩) = A ∧ Hid (∀ t u, (xs.drop j)[t]? = some u → w.drew.cell? (A.add t) = some u) := by
    by_cases h : c = j
    · refine ⟨⟨g, 0, none⟩, by simp [h], fun t u hu => ?_⟩
      have h0 : (xs.drop j).length = 0 := by rw [hdl]; omega
      rw [List.length_eq_zero_iff.1 h0] at hu
      simp at hu
    · refine ⟨⟨g, j, none⟩, by simp [h], fun t u hu => ?_⟩
      rw [Addr.add_lit]
      exact hxi (j + t) u (by rwa [List.getElem?_drop] at hu)
  have s1 : Hid ((xs.drop j).length = (n - j) * 1) := by rw [Nat.mul_one]; exact hdl
  have s2 : Hid (∀ u ∈ xs.drop j, u.oneCell' = true) := fun u hu => h1.out u (List.mem_of_mem_drop hu)
  have s3 : Hid (∀ t, t < (xs.drop j).length → (w.drew.cell? ⟨g, 0 + i * 1 + t, none⟩).isSome = true ∧ w.drew.frozen? ⟨g, 0 + i * 1 + t, none⟩ = false) := fun t ht => ⟨hsp _ (by rw [hdl] at ht; omega), hfz _⟩
  obtain ⟨W1, hW1⟩ : ∃ W1, W1 = w.drew.setCells g (0 + i * 1) (xs.drop j) := ⟨_, rfl⟩
  obtain ⟨cur1, d1, d2, d3⟩ := Mm.setCells_heap (xs.drop j) (0 + i * 1) w.drew cur b1 (by rw [hdl]; omega)
  rw [← hW1] at d1
  have hgr1 : w.grownBy W1 (some g) := by
    rw [hW1]
    have h := Mm.setCells_grown g (xs.drop j) (0 + i * 1) w.drew
    exact ⟨h.os, h.tape, h.output, h.size, h.block⟩
  have hcl : ∀ ty cc, (Builtin.clear_ #[41] ty #[.slice (some ⟨g, i + (n - j), none⟩) (n - (i + (n - j))) cc]).run Try.prog W1 = .ok (.tuple #[]) (W1.setCells g (i + (n - j)) (List.replicate (n - (i + (n - j))) (.string ⟨#[]⟩))) := fun ty cc =>
    Lib.run_clear_slice W1 _ 9 ty _ Try.underlying41 Try.zeroValue9 rfl rfl g (i + (n - j)) _ _ (by omega) (fun t ht => by rw [Mm.cellOf d1 (Array.getElem?_eq_getElem (by omega))]; rfl) (fun t ht => by simp [World.frozen?, d1])
  obtain ⟨cur2, f1, f2, f3⟩ := Mm.setCells_heap (List.replicate (n - (i + (n - j))) (.string ⟨#[]⟩)) (i + (n - j)) W1 cur1 d1 (by rw [List.length_replicate]; omega)
  have HF : Hid (Mm.Own (W1.setCells g (i + (n - j)) (List.replicate (n - (i + (n - j))) (.string ⟨#[]⟩))) base 9 (.slice (some ⟨g, 0, none⟩) (i + (n - j)) c) (xs.take i ++ xs.drop j) ∧ w.grownBy (W1.setCells g (i + (n - j)) (List.replicate (n - (i + (n - j))) (.string ⟨#[]⟩))) (some g)) := by
    have hl : (xs.take i ++ xs.drop j).length = i + (n - j) := by simp; omega
    refine ⟨Mm.Own.mk f1 b6 (by omega) b5 hl (by omega) ?_, Mm.grTr hgr1 (Mm.setCells_grown g _ _ W1)⟩
    have e1 : cur1.toList.take (i + (n - j)) = xs.take i ++ xs.drop j := by
      rw [d3, show 0 + i * 1 = i by omega]
      have e2 : cur.toList.take i = xs.take i := by rw [← b3, List.take_take, Nat.min_eq_left (by omega)]
      rw [e2]
      exact List.take_left' hl
    rw [f3, e1, List.append_assoc]
    exact List.take_left' hl
  have HW : Hid (W1 = w.drew.setCells g (0 + i * 1) (xs.drop j)) := hW1
  have hic : i ≤ c := by omega
  have hjc : j ≤ c := by omega
  have hne : ¬ ((i : Int) = (j : Int)) := by omega
  have hnc : n ≤ c := b4
  have hml : i + (n - j) ≤ n := by omega
  have hmc : ¬ (c = i + (n - j)) := by omega
  have mixed : Try.prog.follows .mixedOrders = true := by kernel_rfl
  clear b1 b2 b3 b4 b5 b6 b7 hxi hsp hfz hdl d1 d2 d3 hgr1 f1 f2 f3 hW1
  go_enter Try.func30, Try.ntmps30
  go_wp2_with fail
  go_region_law_o (refine step_append_room rfl (.tmp 22) (.tmp 25) 41 rfl 9 i0 1 Try.underlying41 hi0 hzs g 0 i c (by simp [Act.eval, Act.put]) A (n - j) (c - j) (xs.drop j) (by simp [Act.eval, Act.put, ← hA]; try (split <;> rfl)) s1.out hsrc.out s2.out (by omega) s3.out ?_; rw [← HW.out])
  go_wp2
  all_goals
    go_ret
    first
    | exact ⟨rfl, HF.out.1, HF.out.2⟩
    | (have e : c = j := by assumption
       have HF2 := HF.out
       rw [e] at HF2
       exact ⟨rfl, HF2.1, HF2.2⟩)

theorem insP_any (p : Option Addr) (n c i : Nat) (xs : List Value) (y : Value) (B base : Nat) (w : World) (HO : Hid (Mm.Own w base 61 (.slice p n c) xs)) (hn : Hid (xs.length = n)) (hi : i ≤ n) (hy : y.oneCell' = true) (h1 : Hid (∀ x ∈ xs, x.oneCell' = true)) (HB : Hid (w.heap[B]? = some (.cells #[y] 61 (0, 0)))) (hne : Hid (∀ g, p = some ⟨g, 0, none⟩ → B ≠ g)) (hl : n < 100000) (hbase : base ≤ w.heap.size) :
    Calls Try.prog 38 #[.slice p n c, .int .i64 (i : Int), .slice (some ⟨B, 0, none⟩) 1 1] w fun e w' => ∃ v', e = .returned v' ∧ Mm.Own w' base 61 v' (xs.take i ++ y :: xs.drop i) ∧ w.grownBy w' (Value.slice p n c).ownBlock ∧ (v'.ownBlock = (Value.slice p n c).ownBlock ∨ ∀ g, v'.ownBlock = some g → w.heap.size ≤ g) := by
  rcases Nat.lt_or_ge i n with h | h
  · obtain ⟨g, hg⟩ : ∃ g, p = some ⟨g, 0, none⟩ := by
      rcases HO.out.2 with ⟨h0, h2⟩ | ⟨g, cap, cur, h0, _⟩
      · rw [hn.out] at h2; omega
      · injection h0 with h0; exact ⟨g, h0⟩
    subst hg
    rcases Nat.lt_or_ge c (n + 1) with hc | hc
    · refine (insP_grow g n c i xs y B base w HO h hc hl (Mm.hid hy) h1 HB hbase).mono ?_
      rintro e w' ⟨G, rfl, a1, a2⟩
      refine ⟨_, rfl, a1, ⟨a2.os, a2.tape, a2.output, a2.size, fun b hb _ => a2.block b hb (by simp)⟩, Or.inr (fun g' hg => ?_)⟩
      have hg' : some w.heap.size = some g' := hg
      exact Nat.le_of_eq (Option.some.inj hg')
    · refine (insP_room g n c i xs y B base w HO h hc (Mm.hid hy) h1 HB (Mm.hid (hne.out g rfl))).mono ?_
      rintro e w' ⟨rfl, a1, a2⟩
      exact ⟨_, rfl, a1, a2, Or.inl rfl⟩
  · have hin : i = n := by omega
    subst hin
    refine (insP_end p i c xs y B base w HO hn hy HB hl hbase).mono ?_
    rintro e w' ⟨v', rfl, a1, a2⟩
    refine ⟨v', rfl, ?_, a2⟩
    rw [List.take_of_length_le (by rw [hn.out]; exact Nat.le_refl _), List.drop_of_length_le (by rw [hn.out]; exact Nat.le_refl _)]
    exact a1

set_option maxRecDepth 100000 in
set_option maxHeartbeats 4000000 in
theorem delP_any (g n c i j : Nat) (xs : List Value) (base : Nat) (w : World) (HO : Hid (Mm.Own w base 61 (.slice (some ⟨g, 0, none⟩) n c) xs)) (hij : i < j) (hj : j ≤ n) (h1 : Hid (∀ x ∈ xs, x.oneCell' = true)) :
    Calls Try.prog 39 #[.slice (some ⟨g, 0, none⟩) n c, .int .i64 (i : Int), .int .i64 (j : Int)] w fun e w' => e = .returned (.slice (some ⟨g, 0, none⟩) (i + (n - j)) c) ∧ Mm.Own w' base 61 (.slice (some ⟨g, 0, none⟩) (i + (n - j)) c) (xs.take i ++ xs.drop j) ∧ w.grownBy w' (some g) := by
  obtain ⟨i0, hi0, hz0, hzs, hzb⟩ := infoP
  obtain ⟨cur, b1, b2, b3, b4, b5, b6, b7⟩ := HO.out.block
  have HC63 : (c : Int) ≤ 9223372036854775807 := by unfold maxLen at b5; omega
  have hxi : ∀ t v, xs[t]? = some v → w.cell? ⟨g, t, none⟩ = some v := fun t v ht => by
    have htn : t < n := by have := (List.getElem?_eq_some_iff.1 ht).1; omega
    rw [← b3, List.getElem?_take_of_lt htn] at ht
    exact Mm.cellOf b1 (by simpa using ht)
  have hsp : ∀ t, t < c → (w.cell? ⟨g, t, none⟩).isSome = true := fun t ht => by
    rw [Mm.cellOf b1 (Array.getElem?_eq_getElem (by omega))]; rfl
  have hfz : ∀ t, w.frozen? ⟨g, t, none⟩ = false := fun t => by simp [World.frozen?, b1]
  have hdl : (xs.drop j).length = n - j := by rw [List.length_drop, b7]
  obtain ⟨A, hA, hsrc⟩ : ∃ A : Addr, (if c = j then (⟨g, 0, none⟩ : Addr) else ⟨g, j, none⟩) = A ∧ Hid (∀ t u, (xs.drop j)[t]? = some u → w.drew.cell? (A.add t) = some u) := by
    by_cases h : c = j
    · refine ⟨⟨g, 0, none⟩, by simp [h], fun t u hu => ?_⟩
      have h0 : (xs.drop j).length = 0 := by rw [hdl]; omega
      rw [List.length_eq_zero_iff.1 h0] at hu
      simp at hu
    · refine ⟨⟨g, j, none⟩, by simp [h], fun t u hu => ?_⟩
      rw [Addr.add_lit]
      exact hxi (j + t) u (by rwa [List.getElem?_drop] at hu)
  have s1 : Hid ((xs.drop j).length = (n - j) * 1) := by rw [Nat.mul_one]; exact hdl
  have s2 : Hid (∀ u ∈ xs.drop j, u.oneCell' = true) := fun u hu => h1.out u (List.mem_of_mem_drop hu)
  have s3 : Hid (∀ t, t < (xs.drop j).length → (w.drew.cell? ⟨g, 0 + i * 1 + t, none⟩).isSome = true ∧ w.drew.frozen? ⟨g, 0 + i * 1 + t, none⟩ = false) := fun t ht => ⟨hsp _ (by rw [hdl] at ht; omega), hfz _⟩
  obtain ⟨W1, hW1⟩ : ∃ W1, W1 = w.drew.setCells g (0 + i * 1) (xs.drop j) := ⟨_, rfl⟩
  obtain ⟨cur1, d1, d2, d3⟩ := Mm.setCells_heap (xs.drop j) (0 + i * 1) w.drew cur b1 (by rw [hdl]; omega)
  rw [← hW1] at d1
  have hgr1 : w.grownBy W1 (some g) := by
    rw [hW1]
    have h := Mm.setCells_grown g (xs.drop j) (0 + i * 1) w.drew
    exact ⟨h.os, h.tape, h.output, h.size, h.block⟩
  have hcl : ∀ ty cc, (Builtin.clear_ #[64] ty #[.slice (some ⟨g, i + (n - j), none⟩) (n - (i + (n - j))) cc]).run Try.prog W1 = .ok (.tuple #[]) (W1.setCells g (i + (n - j)) (List.replicate (n - (i + (n - j))) (.pointer none))) := fun ty cc =>
    Lib.run_clear_slice W1 _ 61 ty _ Try.underlying64 Try.zeroValue61 rfl rfl g (i + (n - j)) _ _ (by omega) (fun t ht => by rw [Mm.cellOf d1 (Array.getElem?_eq_getElem (by omega))]; rfl) (fun t ht => by simp [World.frozen?, d1])
  obtain ⟨cur2, f1, f2, f3⟩ := Mm.setCells_heap (List.replicate (n - (i + (n - j))) (.pointer none)) (i + (n - j)) W1 cur1 d1 (by rw [List.length_replicate]; omega)
  have HF : Hid (Mm.Own (W1.setCells g (i + (n - j)) (List.replicate (n - (i + (n - j))) (.pointer none))) base 61 (.slice (some ⟨g, 0, none⟩) (i + (n - j)) c) (xs.take i ++ xs.drop j) ∧ w.grownBy (W1.setCells g (i + (n - j)) (List.replicate (n - (i + (n - j))) (.pointer none))) (some g)) := by
    have hl : (xs.take i ++ xs.drop j).length = i + (n - j) := by simp; omega
    refine ⟨Mm.Own.mk f1 b6 (by omega) b5 hl (by omega) ?_, Mm.grTr hgr1 (Mm.setCells_grown g _ _ W1)⟩
    have e1 : cur1.toList.take (i + (n - j)) = xs.take i ++ xs.drop j := by
      rw [d3, show 0 + i * 1 = i by omega]
      have e2 : cur.toList.take i = xs.take i := by rw [← b3, List.take_take, Nat.min_eq_left (by omega)]
      rw [e2]
      exact List.take_left' hl
    rw [f3, e1, List.append_assoc]
    exact List.take_left' hl
  have HW : Hid (W1 = w.drew.setCells g (0 + i * 1) (xs.drop j)) := hW1
  have hic : i ≤ c := by omega
  have hjc : j ≤ c := by omega
  have hne : ¬ ((i : Int) = (j : Int)) := by omega
  have hnc : n ≤ c := b4
  have hml : i + (n - j) ≤ n := by omega
  have hmc : ¬ (c = i + (n - j)) := by omega
  have mixed : Try.prog.follows .mixedOrders = true := by kernel_rfl
  clear b1 b2 b3 b4 b5 b6 b7 hxi hsp hfz hdl d1 d2 d3 hgr1 f1 f2 f3 hW1
  go_enter Try.func39, Try.ntmps39
  go_wp2_with fail
  go_region_law_o (refine step_append_room rfl (.tmp 22) (.tmp 25) 64 rfl 61 i0 1 Try.underlying64 hi0 hzs g 0 i c (by simp [Act.eval, Act.put]) A (n - j) (c - j) (xs.drop j) (by simp [Act.eval, Act.put, ← hA]; try (split <;> rfl)) s1.out hsrc.out s2.out (by omega) s3.out ?_; rw [← HW.out])
  go_wp2
  all_goals
    go_ret
    first
    | exact ⟨rfl, HF.out.1, HF.out.2⟩
    | (have e : c = j := by assumption
       have HF2 := HF.out
       rw [e] at HF2
       exact ⟨rfl, HF2.1, HF2.2⟩)

end Go.Proofs.Ytjnaafgiokdcbaa
