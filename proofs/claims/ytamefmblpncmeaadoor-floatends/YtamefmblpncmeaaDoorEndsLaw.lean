/- The walk of the law FloatEnds. -/
import Derived.Test.YtamefmblpncmeaaDoorW6
import Derived.Test.YtamefmblpncmeaaDoorLaid
import Derived.Deep.QuietTactic
import Derived.BigQuiet
namespace Go.Proofs.YtamefmblpncmeaaDoor
open Go.RowKit
attribute [local go_sem] Fl.run_store_float

set_option maxRecDepth 100000 in
set_option maxHeartbeats 4000000 in
theorem floatEnds_some (b off n cap : Nat) (z : Nat → Nat) (w : World) (hn : n + 1 ≤ cap) (hm : cap ≤ maxLen) (h2000 : n + 1 ≤ 2000)
    (hc : ∀ j, j < n + 1 → w.cell? ⟨b, off + j, none⟩ = some (.float .f64 (z j))) (hz : ∀ j, j < n + 1 → z j < 18446744073709551616) (hT : Tab w) :
    Calls Tryd.prog 7 #[.slice (some ⟨b, off, none⟩) (n + 1) cap] w fun e w' => e = .returned (.bool true) ∧ Below w.heap.size w w' := by
  have hd : decide ((2000 : Int) < (n : Int) + 1) = false := by simp; omega
  have hb : b < w.heap.size := by
    rcases Nat.lt_or_ge b w.heap.size with h | h
    · exact h
    · have := hc 0 (by omega); simp [World.cell?, Array.getElem?_eq_none h] at this
  have hcA : ∀ w', Below w.heap.size w w' → ∀ j, j < n + 1 → w'.cell? ⟨b, off + j, none⟩ = some (.float .f64 (z j)) := fun w' h j hj => by
    rw [h.cell (p := ⟨b, off + j, none⟩) hb]; exact hc j hj
  have HC := Lib.hid hcA
  clear hcA
  obtain ⟨i22, hi, hz0, hz1, hz2⟩ : ∃ i, Tryd.prog.info? 22 = some i ∧ i.zero = some (.float .f64 0) ∧ i.size = 1 ∧ i.bytes = 8 := ⟨_, Tryd.type22, rfl, rfl, rfl⟩
  go_enter Tryd.func7, Tryd.ntmps7
  go_wp2_with (at_builtin; refine wpList_append_grows _ rfl _ _ 38 rfl 22 i22 (.float .f64 0) 1 8 Tryd.underlying38 hi hz0 hz1 hz2 rfl (by decide) (some ⟨w.heap.size, 0, none⟩) 0 0 [] rfl (fun h => by cases h) rfl (fun _ _ _ _ h => by cases h) ⟨b, off, none⟩ (n + 1) cap (Fl.floatsL z (n + 1)) rfl (by rw [Fl.floatsL_length, Nat.mul_one]) (fun j u hj => by
    obtain ⟨h1, rfl⟩ := Fl.floatsL_at hj
    rw [Addr.add_lit]
    exact HC.out _ ((Below.refl _ _).alloc (Nat.le_refl _) _) j h1) Fl.floatsL_one (by omega) (by unfold maxLen; omega) (by omega) ?_; intro v1 w1 hown hgrown)
  rw [Nat.zero_add, List.nil_append] at hown
  obtain ⟨g, cap1, rfl, hg, hglt, hn1, hm1, hc1⟩ := Fl.own_floats hown
  have hB1 : Below w.heap.size w w1 := ((Below.refl _ _).alloc (Nat.le_refl _) _).grown hgrown (by simp) (fun k h => by cases h)
  have HB1 := Lib.hid hB1
  clear hown hgrown hB1 hi hz0 hz1 hz2
  refine (min_any g 0 n cap1 z _ hn1 hm1 hc1).mono ?_
  rintro e wa ⟨m1, E1, rfl, rfl⟩
  go_wp2_with fail
  refine (max_any g 0 n cap1 z _ hn1 hm1 hc1).mono ?_
  rintro e wb ⟨m2, E2, rfl, rfl⟩
  go_wp2_with fail
  refine (refMin_any b off n cap z _ hn hm (Nat.lt_of_lt_of_le hb HB1.out.size) (HC.out _ HB1.out)).mono ?_
  rintro e w2 ⟨m3, E3, rfl, hb2⟩
  have HB2 := Lib.hid (bel_trans HB1.out hb2)
  go_wp2_with fail
  refine (refMax_any b off n cap z _ hn hm (Nat.lt_of_lt_of_le hb HB2.out.size) (HC.out _ HB2.out)).mono ?_
  rintro e w3 ⟨m4, E4, rfl, hb3⟩
  have HB3 := Lib.hid (bel_trans HB2.out hb3)
  rw [← Fl.IsEnd.canon hz E1 E3, ← Fl.IsEnd.canon hz E2 E4]
  have e1 : (Fl.canonN m1 == Fl.canonN m1) = true := by simp
  have e2 : (Fl.canonN m2 == Fl.canonN m2) = true := by simp
  have he : ∀ k, k < n + 1 → decide (Fl.cmpI (z k) (Fl.canonN m1) < 0) = false ∧ decide (0 < Fl.cmpI (z k) (Fl.canonN m2)) = false := fun k hk => Fl.ends_cmp hz E1 E2 hk
  go_wp2_with (first | (go_at_call 9; refine (same_any _ _ _).mono ?_; rintro e w' ⟨rfl, rfl⟩))
  go_name_world W4 hW4
  have hB4 : Below w.heap.size w W4 := by rw [← hW4]; exact bel_alloc (bel_alloc HB3.out _) _
  have hB5 : Below wb.heap.size wb W4 := by rw [← hW4]; exact bel_alloc (bel_alloc (bel_trans hb2 hb3) _) _
  have hcl : ∀ j, j < n + 1 → W4.cell? ⟨b, off + j, none⟩ = some (.float .f64 (z j)) := HC.out _ hB4
  have hcg : ∀ j, j < n + 1 → W4.cell? ⟨g, j, none⟩ = some (.float .f64 (z j)) := fun j hj => by
    rw [hB5.cell (p := ⟨g, j, none⟩) hglt]; have := hc1 j hj; rwa [Nat.zero_add] at this
  have HB4 := Lib.hid hB4
  clear hW4 hB4 hB5 hb2 hb3 hc1 e1 e2
  go_loopw [10] (fun i wr => ∃ k : Nat, k ≤ n + 1 ∧ i = .int .i64 k ∧ Hid (∃ q, wr = W4.drewN q)) (fun i _ => n + 1 - (intOf i).toNat)
  case atStart => exact ⟨0, Nat.zero_le _, rfl, 0, rfl⟩
  case round =>
    obtain ⟨k, hk, rfl, HW⟩ := hrel
    rename World => W5
    by_cases hlt : k < n + 1
    · have hl1 : W5.cell? ⟨b, off + k, none⟩ = some (.float .f64 (z k)) := by obtain ⟨q, rfl⟩ := HW.out; rw [World.cell?_drewN]; exact hcl k hlt
      have hg1 : W5.cell? ⟨g, k, none⟩ = some (.float .f64 (z k)) := by obtain ⟨q, rfl⟩ := HW.out; rw [World.cell?_drewN]; exact hcg k hlt
      obtain ⟨f1, f2⟩ := he k hlt
      have e3 : (z k == z k) = true := by simp
      have hlt' : (k : Int) < (n : Int) + 1 := by omega
      clear hcl hcg he
      go_wp2_with fail
      go_quiet ((first | (go_at_call 9; exact Calls.quiet_of_same (same_any _ _ _)) | (go_at_call 15; exact Calls.quiet_of_same (compare_any _ _ _))))
      go_wp2
      go_roundw
      case rel => exact ⟨k + 1, by omega, by go_num, by obtain ⟨q, hq⟩ := HW.out; exact ⟨q + nq, by rw [hq, World.drewN_drewN]⟩⟩
      case measure => simp [intOf]; omega
    · obtain rfl : k = n + 1 := by omega
      clear hcl hcg he
      obtain ⟨q, rfl⟩ := HW.out
      go_wp2_with (go_at_call 14; refine (wakes_any _ (Tab.drewN (hT.below HB4.out) _)).mono ?_; rintro e w9 ⟨rfl, hb9⟩)
      go_ret
      exact ⟨rfl, bel_trans (below_drewN HB4.out _) hb9⟩

set_option maxHeartbeats 1000000 in
theorem floatEnds_many (a : Option Addr) (l c : Nat) (w : World) (hl : 2000 < l) (hm : l ≤ maxLen) (hT : Tab w) :
    Calls Tryd.prog 7 #[.slice a l c] w fun e w' => e = .returned (.bool true) ∧ Below w.heap.size w w' := by
  unfold maxLen at hm
  have hd : decide ((2000 : Int) < (l : Int)) = true := by simp; omega
  go_enter Tryd.func7, Tryd.ntmps7
  go_wp2_with (first | (go_at_call 14; refine (wakes_any _ hT).mono ?_; rintro e w' ⟨rfl, hb⟩))
  go_ret
  exact ⟨rfl, hb⟩

theorem Tryd.append_none (a : Option Addr) (c : Nat) (ha : a = none → c = 0) (w : World) (t : TypeId) :
    (Builtin.append_ #[38, 38] t #[.slice (some ⟨w.heap.size, 0, none⟩) 0 0, .slice a 0 c]).run Tryd.prog (w.alloc (.cells #[] 22)) = .ok (.slice (some ⟨w.heap.size, 0, none⟩) 0 0) (w.alloc (.cells #[] 22)) := by
  obtain ⟨i22, hi⟩ : ∃ i, Tryd.prog.info? 22 = some i := ⟨_, Tryd.type22⟩
  cases a with
  | none =>
    have h := run_append_room_src (P := Tryd.prog) (w.alloc (.cells #[] 22)) 38 38 t 22 i22 Tryd.underlying38 hi w.heap.size 0 0 0 (.slice none 0 c) 0 [] (Src.ofNil _ Tryd.underlying38 c) (by omega) (fun j h => by cases h) (fun j h => by cases h)
    exact h
  | some x =>
    have h := run_append_room_src (P := Tryd.prog) (w.alloc (.cells #[] 22)) 38 38 t 22 i22 Tryd.underlying38 hi w.heap.size 0 0 0 (.slice (some x) 0 c) 0 [] (Src.ofSlice _ Tryd.underlying38 x 0 c [] (by simp) (fun _ _ h => by cases h) (fun _ h => by cases h)) (by omega) (fun j h => by cases h) (fun j h => by cases h)
    exact h

set_option maxRecDepth 100000 in
set_option maxHeartbeats 4000000 in
theorem floatEnds_none (a : Option Addr) (c : Nat) (ha : a = none → c = 0) (w : World) (hT : Tab w) :
    Calls Tryd.prog 7 #[.slice a 0 c] w fun e w' => e = .returned (.bool true) ∧ Below w.heap.size w w' := by
  have happ := Tryd.append_none a c ha w 38
  have e1 : ((0 : Nat) == 0) = true := by simp
  go_enter Tryd.func7, Tryd.ntmps7
  go_wp2_with (first | (at_builtin; refine Fl.wpList_append_run _ _ rfl _ _ 38 38 rfl _ _ _ rfl rfl happ ?_) | (go_at_call 24; refine (min_none _ _ _).mono ?_; rintro e w' ⟨rfl, rfl⟩) | (go_at_call 25; refine (max_none _ _ _).mono ?_; rintro e w' ⟨rfl, rfl⟩) | (go_at_call 26; refine (refMin_none _ _ _).mono ?_; rintro e w' ⟨rfl, hb2⟩) | (go_at_call 27; refine (refMax_none _ _ _).mono ?_; rintro e w' ⟨rfl, hb3⟩) | (go_at_call 9; refine (same_any _ _ _).mono ?_; rintro e w' ⟨rfl, rfl⟩))
  go_name_world W4 hW4
  have hB4 : Below w.heap.size w W4 := by rw [← hW4]; exact bel_alloc (bel_alloc (bel_trans (bel_trans (bel_alloc (Below.refl _ _) _) hb2) hb3) _) _
  have HB4 := Lib.hid hB4
  clear hW4 hB4 hb2 hb3 happ
  go_loopw [10] (fun i wr => i = .int .i64 0 ∧ Hid (wr = W4)) (fun _ _ => 0)
  case atStart => exact ⟨rfl, rfl⟩
  case round =>
    obtain ⟨rfl, HW⟩ := hrel
    obtain rfl := HW.out
    go_wp2_with (first | (go_at_call 14; refine (wakes_any _ (hT.below HB4.out)).mono ?_; rintro e w' ⟨rfl, hb9⟩))
    go_ret
    exact ⟨rfl, bel_trans HB4.out hb9⟩

theorem floatEnds_walk (a : Option Addr) (l c : Nat) (z : Nat → Nat) (w : World) (h : Fl.IsFloats w a l c z) (hT : Tab w) :
    Calls Tryd.prog 7 #[.slice a l c] w fun e w' => e = .returned (.bool true) ∧ Below w.heap.size w w' := by
  rcases h with ⟨rfl, rfl, rfl⟩ | ⟨x, rfl, hl, hm, hx⟩
  · exact floatEnds_none none 0 (fun _ => rfl) w hT
  · by_cases h0 : l = 0
    · subst h0; exact floatEnds_none (some x) c (fun h => by cases h) w hT
    · by_cases h2 : 2000 < l
      · exact floatEnds_many (some x) l c w h2 (Nat.le_trans hl hm) hT
      · obtain ⟨n, rfl⟩ : ∃ n, l = n + 1 := ⟨l - 1, by omega⟩
        obtain ⟨b, off, hx', hc⟩ := Fl.floats_at (fun i hi => (hx i hi).1) (by omega)
        subst hx'
        exact floatEnds_some b off n c z w hl hm (by omega) hc (fun j hj => (hx j hj).2) hT

end Go.Proofs.YtamefmblpncmeaaDoor
