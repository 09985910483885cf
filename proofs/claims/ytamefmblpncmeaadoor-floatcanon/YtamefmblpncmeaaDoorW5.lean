/- Walks of strconv.FormatUint at base 16, of float.Text at 1, of wakes. -/
import Derived.Test.YtamefmblpncmeaaDoorW4
namespace Go.Proofs.YtamefmblpncmeaaDoor
open Go.RowKit Go.Sort
attribute [local go_sem] Fl.lss_eq Fl.gtr_eq Fl.eql_eq Fl.neq_eq Fl.eqB_self Tryd.float64bits Tryd.float64frombits

/-- What the table of bits.TrailingZeros64 holds at the place of 16. -/
def Tab (w : World) : Prop := w.cell? ⟨4, 15, none⟩ = some (.int .u8 4)
theorem Tab.lt {w : World} (h : Tab w) : 4 < w.heap.size := by
  rcases Nat.lt_or_ge 4 w.heap.size with c | c
  · exact c
  · simp [Tab, World.cell?, Array.getElem?_eq_none c] at h
theorem Tab.below {w w' : World} (h : Tab w) (hb : Below w.heap.size w w') : Tab w' := by
  have := hb.cell (p := ⟨4, 15, none⟩) h.lt
  unfold Tab; rw [this]; exact h

theorem bel_trans {a b c : World} (h : Below a.heap.size a b) (k : Below b.heap.size b c) : Below a.heap.size a c := h.trans (k.mono h.size)
theorem bel_alloc {a b : World} (h : Below a.heap.size a b) (o : Obj) : Below a.heap.size a (b.alloc o) := h.alloc h.size o
theorem Tab.drewN {w : World} (h : Tab w) (k : Nat) : Tab (w.drewN k) := by unfold Tab; rw [World.cell?_drewN]; exact h
theorem Tab.alloc {w : World} (h : Tab w) (o : Obj) : Tab (w.alloc o) := h.below (bel_alloc (Below.refl _ _) o)

set_option maxHeartbeats 400000 in
theorem inFormatUint_any (U : Nat) (w : World) (hU : U < 18446744073709551616) (hT : Tab w) :
    Calls Tryd.prog 46 #[.int .u64 (U : Int), .int .i64 16] w fun e w' =>
      ∃ n : Nat, 1 ≤ n ∧ n ≤ 16 ∧ U < 16 ^ n ∧ e = .returned (.string ⟨(Fl.hexL U n).toArray⟩) ∧ Below w.heap.size w w' := by
  go_enter Tryd.func46, Tryd.ntmps46
  go_wp2_with (go_at_call 56; refine (formatBits_any _ _ hU hT).mono ?_; rintro e w' ⟨n, h1, h2, h3, rfl, hb⟩)
  go_ret
  exact ⟨n, h1, h2, h3, rfl, hb⟩

set_option maxHeartbeats 400000 in
theorem formatUint_any (U : Nat) (w : World) (hU : U < 18446744073709551616) (hT : Tab w) :
    Calls Tryd.prog 42 #[.int .u64 (U : Int), .int .i64 16] w fun e w' =>
      ∃ n : Nat, 1 ≤ n ∧ n ≤ 16 ∧ U < 16 ^ n ∧ e = .returned (.string ⟨(Fl.hexL U n).toArray⟩) ∧ Below w.heap.size w w' := by
  go_enter Tryd.func42, Tryd.ntmps42
  go_wp2_with (go_at_call 46; refine (inFormatUint_any _ _ hU hT).mono ?_; rintro e w' ⟨n, h1, h2, h3, rfl, hb⟩)
  go_ret
  exact ⟨n, h1, h2, h3, rfl, hb⟩

set_option maxRecDepth 100000 in
set_option maxHeartbeats 400000 in
theorem repeat_zero (s : ByteArray) (w : World) :
    Calls Tryd.prog 43 #[.string s, .int .i64 0] w fun e w' => e = .returned (.string ⟨#[]⟩) ∧ w' = w := by
  go_enter Tryd.func43, Tryd.ntmps43
  go_wp2
  go_ret
  exact ⟨rfl, rfl⟩

theorem Fl.canon_one : Fl.canonN 4607182418800017408 = 4607182418800017408 := by decide
theorem Fl.hex_one : Fl.hexL 4607182418800017408 16 = [51, 102, 102, 48, 48, 48, 48, 48, 48, 48, 48, 48, 48, 48, 48, 48] := by decide +kernel
theorem Fl.sixteen {n : Nat} (h2 : n ≤ 16) (h3 : 4607182418800017408 < 16 ^ n) : n = 16 := by
  rcases Nat.lt_or_ge n 16 with c | c
  · have := Nat.pow_le_pow_right (n := 16) (by omega) (by omega : n ≤ 15)
    have e : (16 : Nat) ^ 15 = 1152921504606846976 := by decide
    omega
  · omega

set_option maxHeartbeats 400000 in
theorem text_one (w : World) (hT : Tab w) :
    Calls Tryd.prog 28 #[.float .f64 4607182418800017408] w fun e w' =>
      e = .returned (.string ⟨#[51, 102, 102, 48, 48, 48, 48, 48, 48, 48, 48, 48, 48, 48, 48, 48]⟩) ∧ Below w.heap.size w w' := by
  go_enter Tryd.func28, Tryd.ntmps28
  go_wp2_with fail
  refine (canon_any _ _).mono ?_
  rintro e w' ⟨rfl, rfl⟩
  rw [Fl.canon_one]
  go_wp2_with fail
  rw [show (4607182418800017408 : Int) = ((4607182418800017408 : Nat) : Int) from rfl]
  refine (formatUint_any _ _ (by decide) hT).mono ?_
  rintro e w1 ⟨n, h1, h2, h3, rfl, hb⟩
  obtain rfl := Fl.sixteen h2 h3
  rw [Fl.hex_one]
  go_wp2_with (go_at_call 43; refine (repeat_zero _ _).mono ?_; rintro e w' ⟨rfl, rfl⟩)
  go_ret
  exact ⟨rfl, hb⟩

set_option maxHeartbeats 400000 in
theorem wakes_any (w : World) (hT : Tab w) :
    Calls Tryd.prog 14 #[] w fun e w' => e = .returned (.bool true) ∧ Below w.heap.size w w' := by
  have e1 : Fl.nxtN 0 = 1 := by decide
  have e2 : Fl.nanB 0 = false := by decide
  have e3 : Fl.cmpI 9221120237041090561 9218868437227405312 = 1 := by decide
  have e4 : ((Fl.bitsN 9223372036854775808 : Int) == 9223372036854775808) = true := by decide
  have e5 : Fl.eqB 1 1 = true := by decide
  go_enter Tryd.func14, Tryd.ntmps14
  go_wp2_with (first | (go_at_call 21; refine (next_any _ _ (by decide)).mono ?_; rintro e w' ⟨rfl, rfl⟩) | (go_at_call 34; refine (nan_any _).mono ?_; rintro e w' ⟨rfl, rfl⟩) | (go_at_call 35; refine (inf_any _).mono ?_; rintro e w' ⟨rfl, rfl⟩) | (go_at_call 15; refine (compare_any _ _ _).mono ?_; rintro e w' ⟨rfl, rfl⟩) | (go_at_call 36; refine (copysign_zero _).mono ?_; rintro e w' ⟨rfl, rfl⟩) | (go_at_call 16; refine (bits_any _ _ (by decide)).mono ?_; rintro e w' ⟨rfl, rfl⟩) | (go_at_call 28; refine (text_one _ hT).mono ?_; rintro e w' ⟨rfl, hb⟩))
  go_ret
  exact ⟨rfl, hb⟩

end Go.Proofs.YtamefmblpncmeaaDoor
