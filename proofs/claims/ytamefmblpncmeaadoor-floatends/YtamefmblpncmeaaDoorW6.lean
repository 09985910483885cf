/- Walks of float.Min, Max and of their reference twins over a slice that is not empty, and over an empty one. -/
import Derived.Test.YtamefmblpncmeaaDoorW5
import Derived.Test.YtamefmblpncmeaaDoorMath4
namespace Go.Proofs.YtamefmblpncmeaaDoor
open Go.RowKit
attribute [local go_sem] Fl.run_store_float

-- 33: the reference's answers
attribute [local go_sem] Tryd.buildGot Tryd.buildGot0

set_option maxHeartbeats 1000000 in
theorem outermost_none (a : Option Addr) (cap : Nat) (s : Int) (w : World) :
    Calls Tryd.prog 41 #[.slice a 0 cap, .int .i64 s] w fun e w' => e = .returned (.tuple #[.float .f64 0, .bool false]) ∧ w' = w := by
  go_enter Tryd.func41, Tryd.ntmps41
  go_wp2
  go_ret2
  exact ⟨rfl, rfl⟩

set_option maxHeartbeats 1000000 in
theorem outermost_any (up : Bool) (b off n cap : Nat) (z : Nat → Nat) (w : World) (hn : n + 1 ≤ cap) (hm : cap ≤ maxLen)
    (hc : ∀ j, j < n + 1 → w.cell? ⟨b, off + j, none⟩ = some (.float .f64 (z j))) :
    Calls Tryd.prog 41 #[.slice (some ⟨b, off, none⟩) (n + 1) cap, .int .i64 (Fl.side up)] w fun e w' => ∃ m, Fl.IsEnd up z (n + 1) m ∧ e = .returned (.tuple #[.float .f64 (Fl.canonN m), .bool true]) ∧ w' = w := by
  unfold maxLen at hm
  have he : ((n : Int) + 1 == 0) = false := by simp; omega
  have hc0 : w.cell? ⟨b, off, none⟩ = some (.float .f64 (z 0)) := hc 0 (by omega)
  obtain ⟨o', ho⟩ : ∃ o', o' = if cap = 1 then off else off + 1 := ⟨_, rfl⟩
  have hc1 : ∀ j, j < n → w.cell? ⟨b, o' + j, none⟩ = some (.float .f64 (z (j + 1))) := fun j hj => by
    rw [ho, if_neg (by omega), Nat.add_assoc, Nat.add_comm 1]; exact hc (j + 1) (by omega)
  have hsl : ∀ W, (Instr.slice 38 (.slice (some ⟨b, off, none⟩) (n + 1) cap) (some (.int .i64 1)) none none).run Tryd.prog W = .ok (.slice (some ⟨b, o', none⟩) n (cap - 1)) W := fun W => by
    rw [run_slice_l W 38 _ _ _ (by simp [Program.elem, Tryd.underlying38]) .i64 1 (by omega) (by omega)]
    go_simp
    by_cases h1 : cap = 1 <;> simp [h1]
  clear hc ho
  go_enter Tryd.func41, Tryd.ntmps41
  go_wp2_with fail
  go_loop [6, 18] (fun best i => ∃ k m : Nat, k ≤ n ∧ i = .int .i64 k ∧ best = .float .f64 m ∧ Hid (Fl.IsEnd up z (k + 1) m)) (fun _ i => n - (intOf i).toNat)
  case atStart => exact ⟨0, z 0, Nat.zero_le _, rfl, rfl, Fl.IsEnd.start up z⟩
  case round =>
    obtain ⟨k, m, hk, rfl, rfl, HE⟩ := hrel
    by_cases hlt : k < n
    · have hck := hc1 k hlt
      cases ht : (Fl.cmpI (z (k + 1)) m == Fl.side up)
      · go_wp2_with (first | (go_at_call 15; refine (compare_any _ _ _).mono ?_; rintro e w' ⟨rfl, rfl⟩))
        go_round
        case rel => exact ⟨k + 1, m, by omega, by go_num, rfl, HE.out.keep ht⟩
        case measure => simp [intOf]; omega
      · go_wp2_with (first | (go_at_call 15; refine (compare_any _ _ _).mono ?_; rintro e w' ⟨rfl, rfl⟩))
        go_round
        case rel => exact ⟨k + 1, z (k + 1), by omega, by go_num, rfl, HE.out.take ht⟩
        case measure => simp [intOf]; omega
    · obtain rfl : k = n := by omega
      go_wp2_with (first | (go_at_call 10; refine (canon_any _ _).mono ?_; rintro e w' ⟨rfl, rfl⟩))
      go_ret2
      exact ⟨m, HE.out, rfl, rfl⟩

set_option maxHeartbeats 400000 in
theorem min_none (a : Option Addr) (cap : Nat) (w : World) :
    Calls Tryd.prog 24 #[.slice a 0 cap] w fun e w' => e = .returned (.tuple #[.float .f64 0, .bool false]) ∧ w' = w := by
  go_enter Tryd.func24, Tryd.ntmps24
  go_wp2_with (first | (go_at_call 41; refine (outermost_none _ _ _ _).mono ?_; rintro e w' ⟨rfl, rfl⟩))
  go_ret2
  exact ⟨rfl, rfl⟩

set_option maxHeartbeats 400000 in
theorem min_any (b off n cap : Nat) (z : Nat → Nat) (w : World) (hn : n + 1 ≤ cap) (hm : cap ≤ maxLen)
    (hc : ∀ j, j < n + 1 → w.cell? ⟨b, off + j, none⟩ = some (.float .f64 (z j))) :
    Calls Tryd.prog 24 #[.slice (some ⟨b, off, none⟩) (n + 1) cap] w fun e w' => ∃ m, Fl.IsEnd false z (n + 1) m ∧ e = .returned (.tuple #[.float .f64 (Fl.canonN m), .bool true]) ∧ w' = w := by
  have H := Lib.hid (outermost_any false b off n cap z w hn hm hc)
  clear hc
  go_enter Tryd.func24, Tryd.ntmps24
  go_wp2_with fail
  refine H.out.mono ?_
  rintro e w' ⟨m, h, rfl, rfl⟩
  go_wp2
  go_ret2
  exact ⟨m, h, rfl, rfl⟩

set_option maxHeartbeats 400000 in
theorem max_none (a : Option Addr) (cap : Nat) (w : World) :
    Calls Tryd.prog 25 #[.slice a 0 cap] w fun e w' => e = .returned (.tuple #[.float .f64 0, .bool false]) ∧ w' = w := by
  go_enter Tryd.func25, Tryd.ntmps25
  go_wp2_with (first | (go_at_call 41; refine (outermost_none _ _ _ _).mono ?_; rintro e w' ⟨rfl, rfl⟩))
  go_ret2
  exact ⟨rfl, rfl⟩

set_option maxHeartbeats 400000 in
theorem max_any (b off n cap : Nat) (z : Nat → Nat) (w : World) (hn : n + 1 ≤ cap) (hm : cap ≤ maxLen)
    (hc : ∀ j, j < n + 1 → w.cell? ⟨b, off + j, none⟩ = some (.float .f64 (z j))) :
    Calls Tryd.prog 25 #[.slice (some ⟨b, off, none⟩) (n + 1) cap] w fun e w' => ∃ m, Fl.IsEnd true z (n + 1) m ∧ e = .returned (.tuple #[.float .f64 (Fl.canonN m), .bool true]) ∧ w' = w := by
  have H := Lib.hid (outermost_any true b off n cap z w hn hm hc)
  clear hc
  go_enter Tryd.func25, Tryd.ntmps25
  go_wp2_with fail
  refine H.out.mono ?_
  rintro e w' ⟨m, h, rfl, rfl⟩
  go_wp2
  go_ret2
  exact ⟨m, h, rfl, rfl⟩

set_option maxHeartbeats 1000000 in
theorem refMin_none (a : Option Addr) (cap : Nat) (w : World) :
    Calls Tryd.prog 26 #[.slice a 0 cap] w fun e w' => e = .returned (.agg #[.float .f64 0, .bool false]) ∧ Below w.heap.size w w' := by
  go_enter Tryd.func26, Tryd.ntmps26
  go_wp2
  exact bodyPost_ret (v := .agg #[.float .f64 0, .bool false]) (by simp [results, Tryd.results26, go_sem]) rfl ⟨rfl, (Below.refl _ _).alloc (Nat.le_refl _) _⟩

set_option maxHeartbeats 1000000 in
theorem refMin_any (b off n cap : Nat) (z : Nat → Nat) (w : World) (hn : n + 1 ≤ cap) (hm : cap ≤ maxLen) (hb : b < w.heap.size)
    (hc : ∀ j, j < n + 1 → w.cell? ⟨b, off + j, none⟩ = some (.float .f64 (z j))) :
    Calls Tryd.prog 26 #[.slice (some ⟨b, off, none⟩) (n + 1) cap] w fun e w' => ∃ m, Fl.IsEnd false z (n + 1) m ∧ e = .returned (.agg #[.float .f64 (Fl.canonN m), .bool true]) ∧ Below w.heap.size w w' := by
  unfold maxLen at hm
  have he : ((n : Int) + 1 == 0) = false := by simp; omega
  have hcA : ∀ o j, j < n + 1 → (w.alloc o).cell? ⟨b, off + j, none⟩ = some (.float .f64 (z j)) := fun o j hj => by
    rw [World.cell?_alloc_past _ _ _ hb]; exact hc j hj
  have hc0 : ∀ o, (w.alloc o).cell? ⟨b, off, none⟩ = some (.float .f64 (z 0)) := fun o => hcA o 0 (by omega)
  clear hc
  go_enter Tryd.func26, Tryd.ntmps26
  go_wp2_with fail
  go_loop [3, 4] (fun best i => ∃ k m : Nat, k ≤ n + 1 ∧ i = .int .i64 k ∧ best = .float .f64 m ∧ Hid (Fl.IsEnd false z (max k 1) m)) (fun _ i => n + 1 - (intOf i).toNat)
  case atStart => exact ⟨0, z 0, Nat.zero_le _, rfl, rfl, Fl.IsEnd.start false z⟩
  case round =>
    obtain ⟨k, m, hk, rfl, rfl, HE⟩ := hrel
    by_cases hlt : k < n + 1
    · have hck := fun o => hcA o k hlt
      have b0 := Fl.cmpI_bd (z k) m
      cases ht : (Fl.cmpI (z k) m == Fl.side false)
      · have ht' : ¬ (Fl.cmpI (z k) m < 0) := by
          have : Fl.cmpI (z k) m ≠ Fl.side false := by simpa using ht
          simp [Fl.side] at this; omega
        go_wp2_with (first | (go_at_call 17; refine (refCompare_any _ _ _).mono ?_; rintro e w' ⟨rfl, rfl⟩))
        go_round
        case rel => exact ⟨k + 1, m, by omega, by go_num, rfl, Fl.end_keep HE.out ht⟩
        case measure => simp [intOf]; omega
      · have ht' : (Fl.cmpI (z k) m < 0) := by
          have : Fl.cmpI (z k) m = Fl.side false := by simpa using ht
          simp [Fl.side] at this; omega
        go_wp2_with (first | (go_at_call 17; refine (refCompare_any _ _ _).mono ?_; rintro e w' ⟨rfl, rfl⟩))
        go_round
        case rel => exact ⟨k + 1, z k, by omega, by go_num, rfl, Fl.end_take HE.out ht⟩
        case measure => simp [intOf]; omega
    · obtain rfl : k = n + 1 := by omega
      go_wp2_with (first | (go_at_call 11; refine (refCanon_any _ _).mono ?_; rintro e w' ⟨rfl, rfl⟩))
      exact bodyPost_ret (v := .agg #[.float .f64 (Fl.canonN m), .bool true]) (by simp [results, Tryd.results26, go_sem]) rfl ⟨m, by have := HE.out; rwa [Nat.max_eq_left (by omega)] at this, rfl, (Below.refl _ _).alloc (Nat.le_refl _) _⟩

set_option maxHeartbeats 1000000 in
theorem refMax_none (a : Option Addr) (cap : Nat) (w : World) :
    Calls Tryd.prog 27 #[.slice a 0 cap] w fun e w' => e = .returned (.agg #[.float .f64 0, .bool false]) ∧ Below w.heap.size w w' := by
  go_enter Tryd.func27, Tryd.ntmps27
  go_wp2
  exact bodyPost_ret (v := .agg #[.float .f64 0, .bool false]) (by simp [results, Tryd.results27, go_sem]) rfl ⟨rfl, (Below.refl _ _).alloc (Nat.le_refl _) _⟩

set_option maxHeartbeats 1000000 in
theorem refMax_any (b off n cap : Nat) (z : Nat → Nat) (w : World) (hn : n + 1 ≤ cap) (hm : cap ≤ maxLen) (hb : b < w.heap.size)
    (hc : ∀ j, j < n + 1 → w.cell? ⟨b, off + j, none⟩ = some (.float .f64 (z j))) :
    Calls Tryd.prog 27 #[.slice (some ⟨b, off, none⟩) (n + 1) cap] w fun e w' => ∃ m, Fl.IsEnd true z (n + 1) m ∧ e = .returned (.agg #[.float .f64 (Fl.canonN m), .bool true]) ∧ Below w.heap.size w w' := by
  unfold maxLen at hm
  have he : ((n : Int) + 1 == 0) = false := by simp; omega
  have hcA : ∀ o j, j < n + 1 → (w.alloc o).cell? ⟨b, off + j, none⟩ = some (.float .f64 (z j)) := fun o j hj => by
    rw [World.cell?_alloc_past _ _ _ hb]; exact hc j hj
  have hc0 : ∀ o, (w.alloc o).cell? ⟨b, off, none⟩ = some (.float .f64 (z 0)) := fun o => hcA o 0 (by omega)
  clear hc
  go_enter Tryd.func27, Tryd.ntmps27
  go_wp2_with fail
  go_loop [3, 4] (fun best i => ∃ k m : Nat, k ≤ n + 1 ∧ i = .int .i64 k ∧ best = .float .f64 m ∧ Hid (Fl.IsEnd true z (max k 1) m)) (fun _ i => n + 1 - (intOf i).toNat)
  case atStart => exact ⟨0, z 0, Nat.zero_le _, rfl, rfl, Fl.IsEnd.start true z⟩
  case round =>
    obtain ⟨k, m, hk, rfl, rfl, HE⟩ := hrel
    by_cases hlt : k < n + 1
    · have hck := fun o => hcA o k hlt
      have b0 := Fl.cmpI_bd (z k) m
      cases ht : (Fl.cmpI (z k) m == Fl.side true)
      · have ht' : ¬ (0 < Fl.cmpI (z k) m) := by
          have : Fl.cmpI (z k) m ≠ Fl.side true := by simpa using ht
          simp [Fl.side] at this; omega
        go_wp2_with (first | (go_at_call 17; refine (refCompare_any _ _ _).mono ?_; rintro e w' ⟨rfl, rfl⟩))
        go_round
        case rel => exact ⟨k + 1, m, by omega, by go_num, rfl, Fl.end_keep HE.out ht⟩
        case measure => simp [intOf]; omega
      · have ht' : (0 < Fl.cmpI (z k) m) := by
          have : Fl.cmpI (z k) m = Fl.side true := by simpa using ht
          simp [Fl.side] at this; omega
        go_wp2_with (first | (go_at_call 17; refine (refCompare_any _ _ _).mono ?_; rintro e w' ⟨rfl, rfl⟩))
        go_round
        case rel => exact ⟨k + 1, z k, by omega, by go_num, rfl, Fl.end_take HE.out ht⟩
        case measure => simp [intOf]; omega
    · obtain rfl : k = n + 1 := by omega
      go_wp2_with (first | (go_at_call 11; refine (refCanon_any _ _).mono ?_; rintro e w' ⟨rfl, rfl⟩))
      exact bodyPost_ret (v := .agg #[.float .f64 (Fl.canonN m), .bool true]) (by simp [results, Tryd.results27, go_sem]) rfl ⟨m, by have := HE.out; rwa [Nat.max_eq_left (by omega)] at this, rfl, (Below.refl _ _).alloc (Nat.le_refl _) _⟩

end Go.Proofs.YtamefmblpncmeaaDoor
