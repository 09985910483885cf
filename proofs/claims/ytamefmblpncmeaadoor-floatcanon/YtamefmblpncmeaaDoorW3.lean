/- Walks of float.Next and its reference twin. -/
import Derived.Test.YtamefmblpncmeaaDoorW2
namespace Go.Proofs.YtamefmblpncmeaaDoor
open Go.RowKit
attribute [local go_sem] Fl.lss_eq Fl.gtr_eq Fl.eql_eq Fl.neq_eq Fl.eqB_self Tryd.float64bits Tryd.float64frombits Fl.run_store_float

-- 33: the reference's answers
attribute [local go_sem] Tryd.buildGot Tryd.buildGot0

set_option maxHeartbeats 400000 in
theorem next_any (x : Nat) (w : World) (hx : x < 18446744073709551616) :
    Calls Tryd.prog 21 #[.float .f64 x] w fun e w' => e = .returned (.tuple #[.float .f64 (Fl.nxtN x), .bool (!Fl.nanB x)]) ∧ w' = w := by
  cases hn : Fl.nanB x
  · cases hi : Fl.infB x
    · have hi' : Fl.ltB 9218868437227405311 x = false := hi
      cases he : Fl.eqB x 9223372036854775809
      · obtain ⟨b1, b2, b3⟩ := Fl.next_bits hx hn hi he
        have B2 : Hid (Fl.unbN (Fl.bitsN x + 1) = Fl.nextN x) := b2
        clear b2
        go_enter Tryd.func21, Tryd.ntmps21
        go_wp2_with (first | (go_at_call 23; refine (isNaN_any _ _).mono ?_; rintro e w' ⟨rfl, rfl⟩) | (go_at_call 39; refine (isInf_any _ _).mono ?_; rintro e w' ⟨rfl, rfl⟩) | (go_at_call 34; refine (nan_any _).mono ?_; rintro e w' ⟨rfl, rfl⟩) | (go_at_call 10; refine (canon_any _ _).mono ?_; rintro e w' ⟨rfl, rfl⟩) | (go_at_call 16; refine (bits_any _ _ hx).mono ?_; rintro e w' ⟨rfl, rfl⟩))
        rw [show ((Fl.bitsN x : Int) + 1) = ((Fl.bitsN x + 1 : Nat) : Int) from rfl]
        refine (from_any _ _ (by omega)).mono ?_
        rintro e w' ⟨rfl, rfl⟩
        rw [B2.out]
        have hg : Fl.gotN (Fl.nextN x) = Fl.nextN x := by unfold Fl.gotN; rw [b3]; rfl
        go_wp2
        go_ret2
        exact ⟨by unfold Fl.nxtN; rw [hn, hi]; rfl, rfl⟩
      · go_enter Tryd.func21, Tryd.ntmps21
        go_wp2_with (first | (go_at_call 23; refine (isNaN_any _ _).mono ?_; rintro e w' ⟨rfl, rfl⟩) | (go_at_call 39; refine (isInf_any _ _).mono ?_; rintro e w' ⟨rfl, rfl⟩) | (go_at_call 34; refine (nan_any _).mono ?_; rintro e w' ⟨rfl, rfl⟩) | (go_at_call 10; refine (canon_any _ _).mono ?_; rintro e w' ⟨rfl, rfl⟩) | (go_at_call 16; refine (bits_any _ _ hx).mono ?_; rintro e w' ⟨rfl, rfl⟩))
        go_ret2
        exact ⟨by unfold Fl.nxtN; rw [hn, hi, Fl.nextN_neg hx hn he]; rfl, rfl⟩
    · have hi' : Fl.ltB 9218868437227405311 x = true := hi
      go_enter Tryd.func21, Tryd.ntmps21
      go_wp2_with (first | (go_at_call 23; refine (isNaN_any _ _).mono ?_; rintro e w' ⟨rfl, rfl⟩) | (go_at_call 39; refine (isInf_any _ _).mono ?_; rintro e w' ⟨rfl, rfl⟩) | (go_at_call 34; refine (nan_any _).mono ?_; rintro e w' ⟨rfl, rfl⟩) | (go_at_call 10; refine (canon_any _ _).mono ?_; rintro e w' ⟨rfl, rfl⟩) | (go_at_call 16; refine (bits_any _ _ hx).mono ?_; rintro e w' ⟨rfl, rfl⟩))
      go_ret2
      exact ⟨by unfold Fl.nxtN; rw [hn, hi]; rfl, rfl⟩
  · go_enter Tryd.func21, Tryd.ntmps21
    go_wp2_with (first | (go_at_call 23; refine (isNaN_any _ _).mono ?_; rintro e w' ⟨rfl, rfl⟩) | (go_at_call 39; refine (isInf_any _ _).mono ?_; rintro e w' ⟨rfl, rfl⟩) | (go_at_call 34; refine (nan_any _).mono ?_; rintro e w' ⟨rfl, rfl⟩) | (go_at_call 10; refine (canon_any _ _).mono ?_; rintro e w' ⟨rfl, rfl⟩) | (go_at_call 16; refine (bits_any _ _ hx).mono ?_; rintro e w' ⟨rfl, rfl⟩))
    go_ret2
    exact ⟨by unfold Fl.nxtN; rw [hn]; rfl, rfl⟩

set_option maxHeartbeats 400000 in
theorem nextafter_any (x : Nat) (w : World) (hx : x < 18446744073709551616) (hn : Fl.nanB x = false) (hi : Fl.infB x = false) :
    Calls Tryd.prog 40 #[.float .f64 x, .float .f64 9218868437227405312] w fun e w' => e = .returned (.float .f64 (Fl.nafN x)) ∧ w' = w := by
  have n1 := Fl.nan_inf
  have n2 := Fl.eq_inf hn hi
  have n3 := Fl.lt_inf hn hi
  cases hz : Fl.eqB x 0
  · cases hp : Fl.ltB 0 x
    · have c := Fl.nafN_neg hx hn hz hp
      have C : Hid (Fl.nafN x = x - 1) := c.1
      have c2 := c.2
      clear c
      go_enter Tryd.func40, Tryd.ntmps40
      go_wp2_with (first | (go_at_call 23; refine (isNaN_any _ _).mono ?_; rintro e w' ⟨rfl, rfl⟩) | (go_at_call 34; refine (nan_any _).mono ?_; rintro e w' ⟨rfl, rfl⟩) | (go_at_call 36; refine (copysign_one _).mono ?_; rintro e w' ⟨rfl, rfl⟩))
      go_ret
      exact ⟨by rw [C.out]; rfl, rfl⟩
    · have c := Fl.nafN_pos hx hn hz hp
      have C : Hid (Fl.nafN x = x + 1) := c.1
      have c2 := c.2
      clear c
      go_enter Tryd.func40, Tryd.ntmps40
      go_wp2_with (first | (go_at_call 23; refine (isNaN_any _ _).mono ?_; rintro e w' ⟨rfl, rfl⟩) | (go_at_call 34; refine (nan_any _).mono ?_; rintro e w' ⟨rfl, rfl⟩) | (go_at_call 36; refine (copysign_one _).mono ?_; rintro e w' ⟨rfl, rfl⟩))
      go_ret
      exact ⟨by rw [C.out]; rfl, rfl⟩
  · go_enter Tryd.func40, Tryd.ntmps40
    go_wp2_with (first | (go_at_call 23; refine (isNaN_any _ _).mono ?_; rintro e w' ⟨rfl, rfl⟩) | (go_at_call 34; refine (nan_any _).mono ?_; rintro e w' ⟨rfl, rfl⟩) | (go_at_call 36; refine (copysign_one _).mono ?_; rintro e w' ⟨rfl, rfl⟩))
    go_ret
    exact ⟨by rw [Fl.nafN_zero hn hz]; rfl, rfl⟩

set_option maxHeartbeats 400000 in
theorem refNext_any (x : Nat) (w : World) (hx : x < 18446744073709551616) :
    Calls Tryd.prog 22 #[.float .f64 x] w fun e w' => e = .returned (.agg #[.float .f64 (Fl.nxtN x), .bool (!Fl.nanB x)]) ∧ Below w.heap.size w w' := by
  cases hn : Fl.nanB x
  · cases hi : Fl.infB x
    · have hi' : Fl.ltB 9218868437227405311 x = false := hi
      have c := Fl.canon_naf hx hn hi
      go_enter Tryd.func22, Tryd.ntmps22
      go_wp2_with (first | (go_at_call 23; refine (isNaN_any _ _).mono ?_; rintro e w' ⟨rfl, rfl⟩) | (go_at_call 39; refine (isInf_any _ _).mono ?_; rintro e w' ⟨rfl, rfl⟩) | (go_at_call 34; refine (nan_any _).mono ?_; rintro e w' ⟨rfl, rfl⟩) | (go_at_call 35; refine (inf_any _).mono ?_; rintro e w' ⟨rfl, rfl⟩) | (go_at_call 11; refine (refCanon_any _ _).mono ?_; rintro e w' ⟨rfl, rfl⟩) | (go_at_call 40; refine (nextafter_any _ _ hx hn hi).mono ?_; rintro e w' ⟨rfl, rfl⟩))
      exact bodyPost_ret (v := .agg #[.float .f64 (Fl.nextN x), .bool true]) (by simp [results, Tryd.results22, go_sem]) rfl ⟨by unfold Fl.nxtN; rw [hn, hi]; rfl, (Below.refl _ _).alloc (Nat.le_refl _) _⟩
    · have hi' : Fl.ltB 9218868437227405311 x = true := hi
      have c : Fl.canonN 9221120237041090561 = 9221120237041090560 := by decide
      go_enter Tryd.func22, Tryd.ntmps22
      go_wp2_with (first | (go_at_call 23; refine (isNaN_any _ _).mono ?_; rintro e w' ⟨rfl, rfl⟩) | (go_at_call 39; refine (isInf_any _ _).mono ?_; rintro e w' ⟨rfl, rfl⟩) | (go_at_call 34; refine (nan_any _).mono ?_; rintro e w' ⟨rfl, rfl⟩) | (go_at_call 35; refine (inf_any _).mono ?_; rintro e w' ⟨rfl, rfl⟩) | (go_at_call 11; refine (refCanon_any _ _).mono ?_; rintro e w' ⟨rfl, rfl⟩) | (go_at_call 40; refine (nextafter_any _ _ hx hn hi).mono ?_; rintro e w' ⟨rfl, rfl⟩))
      exact bodyPost_ret (v := .agg #[.float .f64 9221120237041090560, .bool true]) (by simp [results, Tryd.results22, go_sem]) rfl ⟨by unfold Fl.nxtN; rw [hn, hi]; rfl, (Below.refl _ _).alloc (Nat.le_refl _) _⟩
  · go_enter Tryd.func22, Tryd.ntmps22
    go_wp2_with (first | (go_at_call 23; refine (isNaN_any _ _).mono ?_; rintro e w' ⟨rfl, rfl⟩) | (go_at_call 39; refine (isInf_any _ _).mono ?_; rintro e w' ⟨rfl, rfl⟩) | (go_at_call 34; refine (nan_any _).mono ?_; rintro e w' ⟨rfl, rfl⟩) | (go_at_call 35; refine (inf_any _).mono ?_; rintro e w' ⟨rfl, rfl⟩) | (go_at_call 11; refine (refCanon_any _ _).mono ?_; rintro e w' ⟨rfl, rfl⟩) | (go_at_call 40; refine (nextafter_any _ _ hx hn hi).mono ?_; rintro e w' ⟨rfl, rfl⟩))
    exact bodyPost_ret (v := .agg #[.float .f64 0, .bool false]) (by simp [results, Tryd.results22, go_sem]) rfl ⟨by unfold Fl.nxtN; rw [hn]; rfl, (Below.refl _ _).alloc (Nat.le_refl _) _⟩

end Go.Proofs.YtamefmblpncmeaaDoor
