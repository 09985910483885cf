/- The walk of the law FloatTurned. -/
import Derived.Test.YtamefmblpncmeabDoorW6
import Derived.Test.YtamefmblpncmeabDoorLaid
namespace Go.Proofs.YtamefmblpncmeabDoor
open Go.RowKit
attribute [local go_sem] Fl.run_store_float Fl.neg_run

set_option maxHeartbeats 1000000 in
theorem floatTurned_many (a b : Nat) (p : Option Addr) (l c : Nat) (w : World) (hl : 2000 < l) (hm : l ≤ maxLen) (hT : Tab w) :
    Calls Tryd.prog 4 #[.float .f64 a, .float .f64 b, .slice p l c] w fun e w' => e = .returned (.bool true) ∧ Below w.heap.size w w' := by
  unfold maxLen at hm
  have hd : decide ((2000 : Int) < (l : Int)) = true := by simp; omega
  go_enter Tryd.func4, Tryd.ntmps4
  go_wp2_with (first | (go_at_call 8; refine (wakes_any _ hT).mono ?_; rintro e w' ⟨rfl, hb⟩))
  go_ret
  exact ⟨rfl, hb⟩

theorem Tryd.append_none (a : Option Addr) (c : Nat) (w : World) (t : TypeId) :
    (Builtin.append_ #[28, 28] t #[.slice (some ⟨w.heap.size, 0, none⟩) 0 0, .slice a 0 c]).run Tryd.prog (w.alloc (.cells #[] 22)) = .ok (.slice (some ⟨w.heap.size, 0, none⟩) 0 0) (w.alloc (.cells #[] 22)) := by
  obtain ⟨i22, hi⟩ : ∃ i, Tryd.prog.info? 22 = some i := ⟨_, Tryd.type22⟩
  cases a with
  | none =>
    have h := run_append_room_src (P := Tryd.prog) (w.alloc (.cells #[] 22)) 28 28 t 22 i22 Tryd.underlying28 hi w.heap.size 0 0 0 (.slice none 0 c) 0 [] (Src.ofNil _ Tryd.underlying28 c) (by omega) (fun j h => by cases h) (fun j h => by cases h)
    exact h
  | some x =>
    have h := run_append_room_src (P := Tryd.prog) (w.alloc (.cells #[] 22)) 28 28 t 22 i22 Tryd.underlying28 hi w.heap.size 0 0 0 (.slice (some x) 0 c) 0 [] (Src.ofSlice _ Tryd.underlying28 x 0 c [] (by simp) (fun _ _ h => by cases h) (fun _ h => by cases h)) (by omega) (fun j h => by cases h) (fun j h => by cases h)
    exact h

/-- What the first two tests come to. -/
theorem Fl.front {a b : Nat} (ha : a < 18446744073709551616) (hb : b < 18446744073709551616) :
    (Fl.nanB a = true ∧ Fl.nanB b = true) ∨ (Fl.nanB a = true ∧ Fl.nanB b = false ∧ Fl.cmpI a b = 1 ∧ Fl.cmpI (Fl.negN a) (Fl.negN b) = 1) ∨ (Fl.nanB a = false ∧ Fl.nanB b = true) ∨ (Fl.nanB a = false ∧ Fl.nanB b = false ∧ (Fl.cmpI (Fl.negN a) (Fl.negN b) != Fl.cmpI b a) = false) := by
  cases na : Fl.nanB a <;> cases nb : Fl.nanB b
  · exact .inr (.inr (.inr ⟨rfl, rfl, Fl.cmp_neg ha hb na nb⟩))
  · exact .inr (.inr (.inl ⟨rfl, rfl⟩))
  · exact .inr (.inl ⟨rfl, rfl, Fl.cmp_nan na nb, Fl.cmp_nan (by rw [Fl.nan_neg ha]; exact na) (by rw [Fl.nan_neg hb]; exact nb)⟩)
  · exact .inl ⟨rfl, rfl⟩

set_option maxRecDepth 100000 in
set_option maxHeartbeats 4000000 in
theorem floatTurned_none (a b : Nat) (p : Option Addr) (c : Nat) (w : World) (ha : a < 18446744073709551616) (hb : b < 18446744073709551616) (hT : Tab w) :
    Calls Tryd.prog 4 #[.float .f64 a, .float .f64 b, .slice p 0 c] w fun e w' => e = .returned (.bool true) ∧ Below w.heap.size w w' := by
  have happ := Tryd.append_none p c w 28
  rcases Fl.front ha hb with ⟨h1, h2⟩ | ⟨h1, h2, h3, h4⟩ | ⟨h1, h2⟩ | ⟨h1, h2, h3⟩
  all_goals
    go_enter Tryd.func4, Tryd.ntmps4
    go_wp2_with (first | (go_at_call 9; refine (isNaN_any _ _).mono ?_; rintro e w' ⟨rfl, hq⟩; obtain rfl := hq.symm) | (go_at_call 5; refine (compare_any _ _ _).mono ?_; rintro e w' ⟨rfl, hq⟩; obtain rfl := hq.symm))
    go_loopw [7, 8] (fun v i wr => v = .slice none 0 0 ∧ i = .int .i64 0 ∧ Hid (wr = w)) (fun _ _ _ => 0)
    case atStart => exact ⟨rfl, rfl, rfl⟩
    case round =>
      obtain ⟨rfl, rfl, HW⟩ := hrel
      obtain rfl := HW.out
      go_wp2_with (first | (go_at_call 10; refine (max_none _ _ _).mono ?_; rintro e w' ⟨rfl, hq⟩; obtain rfl := hq.symm) | (at_builtin; refine Fl.wpList_append_run _ _ rfl _ _ 28 28 rfl _ _ _ rfl rfl happ ?_) | (go_at_call 11; refine (min_none _ _ _).mono ?_; rintro e w' ⟨rfl, hq⟩; obtain rfl := hq.symm) | (go_at_call 8; refine (wakes_any _ (hT.alloc _)).mono ?_; rintro e w' ⟨rfl, hb9⟩))
      go_ret
      exact ⟨rfl, bel_trans (bel_alloc (Below.refl _ _) _) hb9⟩

set_option maxRecDepth 100000 in
set_option maxHeartbeats 8000000 in
theorem floatTurned_some (x y b off n cap : Nat) (z : Nat → Nat) (w : World) (ha : x < 18446744073709551616) (hb' : y < 18446744073709551616) (h2000 : n + 1 ≤ 2000)
    (hc : ∀ j, j < n + 1 → w.cell? ⟨b, off + j, none⟩ = some (.float .f64 (z j))) (hz : ∀ j, j < n + 1 → z j < 18446744073709551616) (hT : Tab w) :
    Calls Tryd.prog 4 #[.float .f64 x, .float .f64 y, .slice (some ⟨b, off, none⟩) (n + 1) cap] w fun e w' => e = .returned (.bool true) ∧ Below w.heap.size w w' := by
  have hd : decide ((2000 : Int) < (n : Int) + 1) = false := by simp; omega
  have hb : b < w.heap.size := by
    rcases Nat.lt_or_ge b w.heap.size with h | h
    · exact h
    · have := hc 0 (by omega); simp [World.cell?, Array.getElem?_eq_none h] at this
  have hcA : ∀ w', Below w.heap.size w w' → ∀ j, j < n + 1 → w'.cell? ⟨b, off + j, none⟩ = some (.float .f64 (z j)) := fun w' h j hj => by
    rw [h.cell (p := ⟨b, off + j, none⟩) hb]; exact hc j hj
  have HC := Lib.hid hcA
  clear hcA hc
  obtain ⟨i22, hi, hz0, hz1, hz2⟩ : ∃ i, Tryd.prog.info? 22 = some i ∧ i.zero = some (.float .f64 0) ∧ i.size = 1 ∧ i.bytes = 8 := ⟨_, Tryd.type22, rfl, rfl, rfl⟩
  rcases Fl.front ha hb' with ⟨h1, h2⟩ | ⟨h1, h2, h3, h4⟩ | ⟨h1, h2⟩ | ⟨h1, h2, h3⟩
  all_goals
    go_enter Tryd.func4, Tryd.ntmps4
    go_wp2_with (first | (go_at_call 9; refine (isNaN_any _ _).mono ?_; rintro e w' ⟨rfl, hq⟩; obtain rfl := hq.symm) | (go_at_call 5; refine (compare_any _ _ _).mono ?_; rintro e w' ⟨rfl, hq⟩; obtain rfl := hq.symm))
    go_loopw [7, 8] (fun v i wr => ∃ k : Nat, k ≤ n + 1 ∧ i = .int .i64 k ∧ Hid (wr.ownsRow w.heap.size 22 1 v (Fl.turnL z k).length ((Fl.turnL z k).map (Value.float .f64))) ∧ Hid (Below w.heap.size w wr) ∧ Hid (Fl.turnL z k = [] → v = .slice none 0 0)) (fun _ i _ => n + 1 - (intOf i).toNat)
    case atStart => exact ⟨0, Nat.zero_le _, rfl, World.ownsRow_nil _ _ _ _, Below.refl _ _, fun _ => rfl⟩
    case round =>
      obtain ⟨k, hk, rfl, HO, HB, HN⟩ := hrel
      rename World => wr
      by_cases hlt : k < n + 1
      · have hl1 : wr.cell? ⟨b, off + k, none⟩ = some (.float .f64 (z k)) := HC.out _ HB.out k hlt
        have hle := Fl.turnL_le z k
        have hlt' : (k : Int) < (n : Int) + 1 := by omega
        cases hnk : Fl.nanB (z k)
        · go_wp2_with (first | (go_at_call 9; refine (isNaN_any _ _).mono ?_; rintro e w' ⟨rfl, hq⟩; obtain rfl := hq.symm) | (at_builtin; refine wpList_append_own _ rfl _ _ 28 rfl w.heap.size 22 i22 (.float .f64 0) 1 8 Tryd.underlying28 hi hz0 hz1 hz2 rfl (by decide) _ _ _ rfl (HO.out.alloc _) ⟨wr.heap.size, 0, none⟩ 1 1 [.float .f64 (Fl.negN (z k))] rfl rfl ?c1 ?c2 ?c3 ?c4 ?c5 ?_))
          case c1 =>
            intro j u hj
            match j, hj with
            | 0, hj => simp at hj; subst hj; simp [Addr.add]
          case c2 => intro u hu; simp at hu; subst hu; rfl
          case c3 => unfold maxLen; omega
          case c4 => omega
          case c5 => have := HB.out.size; simp; omega
          intro v' w1 hown' hgrow _
          have H1 := Lib.hid hown'
          have H2 := Lib.hid hgrow
          clear hown' hgrow
          go_wp2
          go_roundw
          case rel =>
            refine ⟨k + 1, by omega, by go_num, ?_, ?_, ?_⟩
            · rw [Fl.turnL_num hnk, List.length_append, List.map_append]; exact H1
            · exact (bel_alloc HB.out _).grown H2.out (by have := HB.out.size; simp; omega) (fun k h => Fl.own_base HO.out k h)
            · rw [Fl.turnL_num hnk]; exact fun h => by simp at h
          case measure => simp [intOf]; omega
        · go_wp2_with (first | (go_at_call 9; refine (isNaN_any _ _).mono ?_; rintro e w' ⟨rfl, hq⟩; obtain rfl := hq.symm))
          go_roundw
          case rel => exact ⟨k + 1, by omega, by go_num, by rw [Fl.turnL_nan hnk]; exact HO, HB, by rw [Fl.turnL_nan hnk]; exact HN⟩
          case measure => simp [intOf]; omega
      · obtain rfl : k = n + 1 := by omega
        have hnews : Hid (∀ j u, (Fl.floatsL z (n + 1))[j]? = some u → (wr.alloc (.cells #[] 22)).cell? ((⟨b, off, none⟩ : Addr).add j) = some u) := fun j u hj => by
          obtain ⟨h1, rfl⟩ := Fl.floatsL_at hj
          rw [Addr.add_lit]
          exact HC.out _ (bel_alloc HB.out _) j h1
        by_cases hy : Fl.turnL z (n + 1) = []
        · obtain rfl := HN.out hy
          have HY := Lib.hid hy
          clear hy HO HN
          go_wp2_with (first | (go_at_call 10; refine (max_none _ _ _).mono ?_; rintro e w' ⟨rfl, hq⟩; obtain rfl := hq.symm) | (at_builtin; refine wpList_append_grows _ rfl _ _ 28 rfl 22 i22 (.float .f64 0) 1 8 Tryd.underlying28 hi hz0 hz1 hz2 rfl (by decide) (some ⟨wr.heap.size, 0, none⟩) 0 0 [] rfl (fun h => by cases h) rfl (fun _ _ _ _ h => by cases h) ⟨b, off, none⟩ (n + 1) cap (Fl.floatsL z (n + 1)) rfl (by rw [Fl.floatsL_length, Nat.mul_one]) hnews.out Fl.floatsL_one (by omega) (by unfold maxLen; omega) (by omega) ?_; intro v1 w1 hown1 hgrown1))
          rw [Nat.zero_add, List.nil_append] at hown1
          obtain ⟨g1, cap1, rfl, hg1, hglt1, hn1, hm1, hc1⟩ := Fl.own_floats hown1
          have HB1 : Hid (Below w.heap.size w w1) := (bel_alloc HB.out _).grown hgrown1 (by have := HB.out.size; simp; omega) (fun k h => by cases h)
          clear hown1 hgrown1
          refine (min_any g1 0 n cap1 z _ hn1 hm1 hc1).mono ?_
          rintro e w2 ⟨m1, E1, rfl, hq⟩
          obtain rfl := hq.symm
          have hn9 := Fl.turn_none E1 HY.out
          have hp : decide ((0 : Int) < (n : Int) + 1) = true := decide_eq_true (by omega)
          go_wp2_with (first | (go_at_call 9; refine (isNaN_any _ _).mono ?_; rintro e w' ⟨rfl, hq⟩; obtain rfl := hq.symm) | (go_at_call 8; refine (wakes_any _ (hT.below HB1.out)).mono ?_; rintro e w' ⟨rfl, hb9⟩))
          go_ret
          exact ⟨rfl, bel_trans HB1.out hb9⟩
        · obtain ⟨p, hp⟩ : ∃ p, (Fl.turnL z (n + 1)).length = p + 1 := by
            cases hh : Fl.turnL z (n + 1) with
            | nil => exact absurd hh hy
            | cons a r => exact ⟨r.length, rfl⟩
          have ho := HO.out
          rw [Fl.floatsL_list, hp] at ho
          obtain ⟨g0, cap0, rfl, hg0, hglt0, hn0, hm0, hc0⟩ := Fl.own_floats ho
          have hple := Fl.turnL_le z (n + 1)
          have HP := Lib.hid hp
          have hq0 : ((p : Int) + 1 == 0) = false := by simp; omega
          have hpb : p ≤ 2000 := by omega
          clear ho hy HO HN hp hple
          go_wp2_with fail
          refine (max_any g0 0 p cap0 (fun j => (Fl.turnL z (n + 1)).getD j 0) _ hn0 hm0 hc0).mono ?_
          rintro e w2 ⟨m0, E0, rfl, hq⟩
          obtain rfl := hq.symm
          go_wp2_with (first | (at_builtin; refine wpList_append_grows _ rfl _ _ 28 rfl 22 i22 (.float .f64 0) 1 8 Tryd.underlying28 hi hz0 hz1 hz2 rfl (by decide) (some ⟨wr.heap.size, 0, none⟩) 0 0 [] rfl (fun h => by cases h) rfl (fun _ _ _ _ h => by cases h) ⟨b, off, none⟩ (n + 1) cap (Fl.floatsL z (n + 1)) rfl (by rw [Fl.floatsL_length, Nat.mul_one]) hnews.out Fl.floatsL_one (by omega) (by unfold maxLen; omega) (by omega) ?_; intro v1 w1 hown1 hgrown1))
          rw [Nat.zero_add, List.nil_append] at hown1
          obtain ⟨g1, cap1, rfl, hg1, hglt1, hn1, hm1, hc1⟩ := Fl.own_floats hown1
          have HB1 : Hid (Below w.heap.size w w1) := (bel_alloc HB.out _).grown hgrown1 (by have := HB.out.size; simp; omega) (fun k h => by cases h)
          clear hown1 hgrown1
          refine (min_any g1 0 n cap1 z _ hn1 hm1 hc1).mono ?_
          rintro e w2 ⟨m1, E1, rfl, hq⟩
          obtain rfl := hq.symm
          have hc9 := Fl.turn_some hz E1 HP.out E0
          go_wp2_with (first | (go_at_call 5; refine (compare_any _ _ _).mono ?_; rintro e w' ⟨rfl, hq⟩; obtain rfl := hq.symm) | (go_at_call 8; refine (wakes_any _ (hT.below HB1.out)).mono ?_; rintro e w' ⟨rfl, hb9⟩))
          go_ret
          exact ⟨rfl, bel_trans HB1.out hb9⟩

theorem floatTurned_walk (x y : Nat) (a : Option Addr) (l c : Nat) (z : Nat → Nat) (w : World) (hx' : x < 18446744073709551616) (hy' : y < 18446744073709551616) (h : Fl.IsFloats w a l c z) (hT : Tab w) :
    Calls Tryd.prog 4 #[.float .f64 x, .float .f64 y, .slice a l c] w fun e w' => e = .returned (.bool true) ∧ Below w.heap.size w w' := by
  rcases h with ⟨rfl, rfl, rfl⟩ | ⟨u, rfl, hl, hm, hx⟩
  · exact floatTurned_none x y none 0 w hx' hy' hT
  · by_cases h0 : l = 0
    · subst h0; exact floatTurned_none x y (some u) c w hx' hy' hT
    · by_cases h2 : 2000 < l
      · exact floatTurned_many x y (some u) l c w h2 (Nat.le_trans hl hm) hT
      · obtain ⟨n, rfl⟩ : ∃ n, l = n + 1 := ⟨l - 1, by omega⟩
        obtain ⟨b, off, hu, hc⟩ := Fl.floats_at (fun i hi => (hx i hi).1) (by omega)
        subst hu
        exact floatTurned_some x y b off n c z w hx' hy' (by omega) hc (fun j hj => (hx j hj).2) hT

end Go.Proofs.YtamefmblpncmeabDoor
