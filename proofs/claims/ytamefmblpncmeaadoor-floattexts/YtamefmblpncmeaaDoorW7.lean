/- Walks of float.Text, Parse and of their reference twins. -/
import Derived.Test.YtamefmblpncmeaaDoorW5
import Derived.Test.YtamefmblpncmeaaDoorMath5
import Derived.Test.YtamefmblpncmeaaDoorShelf
namespace Go.Proofs.YtamefmblpncmeaaDoor
open Go.RowKit Go.Sort
attribute [local go_sem] Tryd.float64bits Tryd.float64frombits Fl.run_store_float Tryd.buildGot Tryd.buildGot0

set_option maxHeartbeats 1000000 in
theorem text_any (x : Nat) (w : World) (hx : x < 18446744073709551616) (hT : Tab w) :
    Calls Tryd.prog 28 #[.float .f64 x] w fun e w' => e = .returned (.string ⟨(Fl.textN x).toArray⟩) ∧ Below w.heap.size w w' := by
  have hc := Fl.canonN_lt hx
  go_enter Tryd.func28, Tryd.ntmps28
  go_wp2_with fail
  refine (canon_any _ _).mono ?_
  rintro e w' ⟨rfl, hq⟩
  obtain rfl := hq.symm
  go_wp2_with fail
  refine (formatUint_any _ _ hc hT).mono ?_
  rintro e w1 ⟨n, h1, h2, h3, rfl, hb⟩
  have hl : (⟨(Fl.hexL (Fl.canonN x) n).toArray⟩ : ByteArray).size = n := by
    show (Fl.hexL (Fl.canonN x) n).toArray.size = n
    simp [Fl.hexL_length]
  go_wp2_with fail
  rw [show (16 : Int) - (n : Int) = ((16 - n : Nat) : Int) from by omega]
  refine (Tryd.strings_Repeat _ _ _ (by omega) (by show 1 * (16 - n) ≤ _; omega)).mono ?_
  rintro e w2 ⟨rfl, hb2⟩
  have hr : (Lib.repeatL [48] (16 - n)).length ≤ 16 := by rw [Lib.repeatL_length]; show (16 - n) * 1 ≤ 16; omega
  go_wp2
  go_ret
  exact ⟨congrArg (fun b => Ending.returned (Value.string b)) (Fl.text_join _ n h2 h3), bel_trans hb hb2⟩

set_option maxHeartbeats 1000000 in
theorem digit_any (c : Nat) (w : World) (hc : c < 256) :
    Calls Tryd.prog 44 #[.int .u8 (c : Int)] w fun e w' => e = .returned (.tuple #[.int .u64 (Fl.hexD c : Int), .bool (Fl.hexB c)]) ∧ w' = w := by
  by_cases h1 : 48 ≤ c
  · by_cases h2 : c ≤ 57
    · go_enter Tryd.func44, Tryd.ntmps44
      go_wp2
      go_ret2
      exact ⟨by rw [(Fl.hex_low h1 h2).1, (Fl.hex_low h1 h2).2]; rfl, rfl⟩
    · by_cases h3 : 97 ≤ c
      · by_cases h4 : c ≤ 102
        · go_enter Tryd.func44, Tryd.ntmps44
          go_wp2
          go_ret2
          exact ⟨by rw [(Fl.hex_high h3 h4).1, (Fl.hex_high h3 h4).2]; rfl, rfl⟩
        · go_enter Tryd.func44, Tryd.ntmps44
          go_wp2
          go_ret2
          exact ⟨by rw [(Fl.hex_none (c := c) (by omega)).1, (Fl.hex_none (c := c) (by omega)).2]; rfl, rfl⟩
      · go_enter Tryd.func44, Tryd.ntmps44
        go_wp2
        go_ret2
        exact ⟨by rw [(Fl.hex_none (c := c) (by omega)).1, (Fl.hex_none (c := c) (by omega)).2]; rfl, rfl⟩
  · go_enter Tryd.func44, Tryd.ntmps44
    go_wp2
    go_ret2
    exact ⟨by rw [(Fl.hex_none (c := c) (by omega)).1, (Fl.hex_none (c := c) (by omega)).2]; rfl, rfl⟩

set_option maxHeartbeats 1000000 in
theorem parse_short (s : ByteArray) (w : World) (hs : s.size ≠ 16) :
    Calls Tryd.prog 29 #[.string s] w fun e w' => e = .returned (.tuple #[.float .f64 (Fl.parseF s), .bool (Fl.parseB s)]) ∧ w' = w := by
  have hb : Fl.parseB s = false := by unfold Fl.parseB; rw [decide_eq_false hs]; rfl
  have hf : Fl.parseF s = 0 := by unfold Fl.parseF; rw [hb]; rfl
  have hn : ((s.size : Int) != 16) = true := by simp; omega
  go_enter Tryd.func29, Tryd.ntmps29
  go_wp2
  go_ret2
  exact ⟨by rw [hb, hf]; rfl, rfl⟩

set_option maxHeartbeats 1000000 in
theorem parse_long (s : ByteArray) (w : World) (hs : s.size = 16) :
    Calls Tryd.prog 29 #[.string s] w fun e w' => e = .returned (.tuple #[.float .f64 (Fl.parseF s), .bool (Fl.parseB s)]) ∧ w' = w := by
  have hn : ((s.size : Int) != 16) = false := by rw [hs]; rfl
  have HS := Lib.hid hs
  have hs1 : (s.size : Int) ≤ 16 := by omega
  have hs2 : 16 ≤ (s.size : Int) := by omega
  clear hs
  go_enter Tryd.func29, Tryd.ntmps29
  go_wp2_with fail
  go_loop [4, 13] (fun b i => ∃ k : Nat, k ≤ 16 ∧ i = .int .i64 k ∧ b = .int .u64 (Fl.pv s k : Int) ∧ Hid (Fl.allB s k = true)) (fun _ i => 16 - (intOf i).toNat)
  case atStart => exact ⟨0, Nat.zero_le _, rfl, rfl, rfl⟩
  case round =>
    obtain ⟨k, hk, rfl, rfl, HA⟩ := hrel
    have hv := Fl.pv_lt64 s hk
    by_cases hlt : k < 16
    · have hX : ∀ w, (Instr.index 9 (.string s) (.int .i64 (k : Int))).run Tryd.prog w = .ok (.int .u8 (Fl.cAt s k : Int)) w := Fl.idx_str 9 Tryd.underlying9 s k (by omega)
      have hv2 := Fl.pv_lt60 s hlt
      have hd := Fl.hexD_lt (Fl.cAt s k)
      have ho := Fl.or_digit (Fl.pv s k) (Fl.hexD (Fl.cAt s k)) hv2 hd
      have HO := Lib.hid ho
      clear ho
      cases hh : Fl.hexB (Fl.cAt s k)
      · go_wp2_with (first | (go_at_call 44; refine (digit_any _ _ (Fl.cAt_lt _ _)).mono ?_; rintro e w' ⟨rfl, hq⟩; obtain rfl := hq.symm))
        go_ret2
        exact ⟨by have hb : Fl.parseB s = false := by
                    unfold Fl.parseB; rw [Fl.allB_false s hlt hh]; simp
                  have hf : Fl.parseF s = 0 := by unfold Fl.parseF; rw [hb]; rfl
                  rw [hb, hf]; rfl, rfl⟩
      · go_wp2_with (first | (go_at_call 44; refine (digit_any _ _ (Fl.cAt_lt _ _)).mono ?_; rintro e w' ⟨rfl, hq⟩; obtain rfl := hq.symm))
        go_round
        case rel => exact ⟨k + 1, by omega, by go_num, by rw [HO.out]; rfl, by show Fl.allB s (k + 1) = true; rw [Fl.allB, HA.out, hh]; rfl⟩
        case measure => simp [intOf]; omega
    · obtain rfl : k = 16 := by omega
      go_wp2_with (first | (go_at_call 38; refine (canonical_any _ _).mono ?_; rintro e w' ⟨rfl, hq⟩; obtain rfl := hq.symm))
      go_ret2
      exact ⟨by rw [Fl.parse_end s HS.out HA.out]; rfl, rfl⟩

end Go.Proofs.YtamefmblpncmeaaDoor
