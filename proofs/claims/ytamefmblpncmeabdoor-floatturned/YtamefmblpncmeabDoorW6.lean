/- Walks of float.Min, Max and of their reference twins over a slice that is not empty, and over an empty one. -/
import Derived.Test.YtamefmblpncmeabDoorW5
import Derived.Test.YtamefmblpncmeabDoorMath4
namespace Go.Proofs.YtamefmblpncmeabDoor
open Go.RowKit
attribute [local go_sem] Fl.run_store_float

set_option maxHeartbeats 1000000 in
theorem outermost_none (a : Option Addr) (cap : Nat) (s : Int) (w : World) :
    Calls Tryd.prog 20 #[.slice a 0 cap, .int .i64 s] w fun e w' => e = .returned (.tuple #[.float .f64 0, .bool false]) ∧ w' = w := by
  go_enter Tryd.func20, Tryd.ntmps20
  go_wp2
  go_ret2
  exact ⟨rfl, rfl⟩

set_option maxHeartbeats 1000000 in
theorem outermost_any (up : Bool) (b off n cap : Nat) (z : Nat → Nat) (w : World) (hn : n + 1 ≤ cap) (hm : cap ≤ maxLen)
    (hc : ∀ j, j < n + 1 → w.cell? ⟨b, off + j, none⟩ = some (.float .f64 (z j))) :
    Calls Tryd.prog 20 #[.slice (some ⟨b, off, none⟩) (n + 1) cap, .int .i64 (Fl.side up)] w fun e w' => ∃ m, Fl.IsEnd up z (n + 1) m ∧ e = .returned (.tuple #[.float .f64 (Fl.canonN m), .bool true]) ∧ w' = w := by
  unfold maxLen at hm
  have he : ((n : Int) + 1 == 0) = false := by simp; omega
  have hc0 : w.cell? ⟨b, off, none⟩ = some (.float .f64 (z 0)) := hc 0 (by omega)
  obtain ⟨o', ho⟩ : ∃ o', o' = if cap = 1 then off else off + 1 := ⟨_, rfl⟩
  have hc1 : ∀ j, j < n → w.cell? ⟨b, o' + j, none⟩ = some (.float .f64 (z (j + 1))) := fun j hj => by
    rw [ho, if_neg (by omega), Nat.add_assoc, Nat.add_comm 1]; exact hc (j + 1) (by omega)
  have hsl : ∀ W, (Instr.slice 28 (.slice (some ⟨b, off, none⟩) (n + 1) cap) (some (.int .i64 1)) none none).run Tryd.prog W = .ok (.slice (some ⟨b, o', none⟩) n (cap - 1)) W := fun W => by
    rw [run_slice_l W 28 _ _ _ (by simp [Program.elem, Tryd.underlying28]) .i64 1 (by omega) (by omega)]
    go_simp
    by_cases h1 : cap = 1 <;> simp [h1]
  clear hc ho
  go_enter Tryd.func20, Tryd.ntmps20
  go_wp2_with fail
  go_loop [6, 18] (fun best i => ∃ k m : Nat, k ≤ n ∧ i = .int .i64 k ∧ best = .float .f64 m ∧ Hid (Fl.IsEnd up z (k + 1) m)) (fun _ i => n - (intOf i).toNat)
  case atStart => exact ⟨0, z 0, Nat.zero_le _, rfl, rfl, Fl.IsEnd.start up z⟩
  case round =>
    obtain ⟨k, m, hk, rfl, rfl, HE⟩ := hrel
    by_cases hlt : k < n
    · have hck := hc1 k hlt
      cases ht : (Fl.cmpI (z (k + 1)) m == Fl.side up)
      · go_wp2_with (first | (go_at_call 5; refine (compare_any _ _ _).mono ?_; rintro e w' ⟨rfl, rfl⟩))
        go_round
        case rel => exact ⟨k + 1, m, by omega, by go_num, rfl, HE.out.keep ht⟩
        case measure => simp [intOf]; omega
      · go_wp2_with (first | (go_at_call 5; refine (compare_any _ _ _).mono ?_; rintro e w' ⟨rfl, rfl⟩))
        go_round
        case rel => exact ⟨k + 1, z (k + 1), by omega, by go_num, rfl, HE.out.take ht⟩
        case measure => simp [intOf]; omega
    · obtain rfl : k = n := by omega
      go_wp2_with (first | (go_at_call 6; refine (canon_any _ _).mono ?_; rintro e w' ⟨rfl, rfl⟩))
      go_ret2
      exact ⟨m, HE.out, rfl, rfl⟩

set_option maxHeartbeats 400000 in
theorem min_none (a : Option Addr) (cap : Nat) (w : World) :
    Calls Tryd.prog 11 #[.slice a 0 cap] w fun e w' => e = .returned (.tuple #[.float .f64 0, .bool false]) ∧ w' = w := by
  go_enter Tryd.func11, Tryd.ntmps11
  go_wp2_with (first | (go_at_call 20; refine (outermost_none _ _ _ _).mono ?_; rintro e w' ⟨rfl, rfl⟩))
  go_ret2
  exact ⟨rfl, rfl⟩

set_option maxHeartbeats 400000 in
theorem min_any (b off n cap : Nat) (z : Nat → Nat) (w : World) (hn : n + 1 ≤ cap) (hm : cap ≤ maxLen)
    (hc : ∀ j, j < n + 1 → w.cell? ⟨b, off + j, none⟩ = some (.float .f64 (z j))) :
    Calls Tryd.prog 11 #[.slice (some ⟨b, off, none⟩) (n + 1) cap] w fun e w' => ∃ m, Fl.IsEnd false z (n + 1) m ∧ e = .returned (.tuple #[.float .f64 (Fl.canonN m), .bool true]) ∧ w' = w := by
  have H := Lib.hid (outermost_any false b off n cap z w hn hm hc)
  clear hc
  go_enter Tryd.func11, Tryd.ntmps11
  go_wp2_with fail
  refine H.out.mono ?_
  rintro e w' ⟨m, h, rfl, rfl⟩
  go_wp2
  go_ret2
  exact ⟨m, h, rfl, rfl⟩

set_option maxHeartbeats 400000 in
theorem max_none (a : Option Addr) (cap : Nat) (w : World) :
    Calls Tryd.prog 10 #[.slice a 0 cap] w fun e w' => e = .returned (.tuple #[.float .f64 0, .bool false]) ∧ w' = w := by
  go_enter Tryd.func10, Tryd.ntmps10
  go_wp2_with (first | (go_at_call 20; refine (outermost_none _ _ _ _).mono ?_; rintro e w' ⟨rfl, rfl⟩))
  go_ret2
  exact ⟨rfl, rfl⟩

set_option maxHeartbeats 400000 in
theorem max_any (b off n cap : Nat) (z : Nat → Nat) (w : World) (hn : n + 1 ≤ cap) (hm : cap ≤ maxLen)
    (hc : ∀ j, j < n + 1 → w.cell? ⟨b, off + j, none⟩ = some (.float .f64 (z j))) :
    Calls Tryd.prog 10 #[.slice (some ⟨b, off, none⟩) (n + 1) cap] w fun e w' => ∃ m, Fl.IsEnd true z (n + 1) m ∧ e = .returned (.tuple #[.float .f64 (Fl.canonN m), .bool true]) ∧ w' = w := by
  have H := Lib.hid (outermost_any true b off n cap z w hn hm hc)
  clear hc
  go_enter Tryd.func10, Tryd.ntmps10
  go_wp2_with fail
  refine H.out.mono ?_
  rintro e w' ⟨m, h, rfl, rfl⟩
  go_wp2
  go_ret2
  exact ⟨m, h, rfl, rfl⟩

end Go.Proofs.YtamefmblpncmeabDoor
