/- Walks of the reference's Text and Parse. -/
import Derived.Test.YtamefmblpncmeaaDoorW7
import Derived.Deep.QuietTactic
import Derived.BigQuiet
namespace Go.Proofs.YtamefmblpncmeaaDoor
open Go.RowKit Go.Sort
attribute [local go_sem] Tryd.float64bits Tryd.float64frombits Fl.run_store_float Tryd.buildGot Tryd.buildGot0

set_option maxRecDepth 100000 in
set_option maxHeartbeats 2000000 in
theorem refText_any (x : Nat) (w : World) (hx : x < 18446744073709551616) :
    Calls Tryd.prog 31 #[.float .f64 x] w fun e w' => e = .returned (.string ⟨(Fl.textN x).toArray⟩) ∧ Below w.heap.size w w' := by
  have hc := Fl.canonN_lt hx
  go_enter Tryd.func31, Tryd.ntmps31
  go_name_bytes_deep 12 DG hDG
  have eDG : DG = Fl.digs16 := by rw [← hDG]; decide +kernel
  subst eDG
  clear hDG
  obtain ⟨i5, hi, hz0, hz1, hz2⟩ : ∃ i, Tryd.prog.info? 5 = some i ∧ i.zero = some (.int .u8 0) ∧ i.size = 1 ∧ i.bytes = 1 := ⟨_, Tryd.type5, rfl, rfl, rfl⟩
  go_wp2_with (first | (go_at_call 11; refine (refCanon_any _ _).mono ?_; rintro e w' ⟨rfl, hq⟩; obtain rfl := hq.symm) | (at_make; refine wpList_make_full _ rfl _ _ 58 rfl w.heap.size 5 i5 (.int .u8 0) 1 Tryd.underlying58 hi hz0 hz1 .i64 .i64 16 16 16 rfl rfl rfl rfl (by rw [hz2]; decide) (by decide) (Nat.le_refl _) ?_; intro W1 hown hgrow))
  have HZ := Lib.hid (Fl.made16 hown)
  have HB : Hid (Below w.heap.size w W1) := (Below.refl _ _).grown hgrow (Nat.le_refl _) (fun k h => by cases h)
  clear hown hgrow hi hz0 hz1 hz2
  go_loopw [3, 5] (fun vu vi wr => ∃ (t v : Nat) (dk : Array UInt8), t ≤ 16 ∧ v < 18446744073709551616 ∧ vu = .int .u64 v ∧ vi = .int .i64 (15 - (t : Int)) ∧ wr = putRow (fun (b : UInt8) => Value.int .u8 (b.toNat : Int)) W1 w.heap.size 0 dk ∧ Hid (v = Fl.canonN x / 16 ^ t) ∧ Hid (Fl.Hex16 (Fl.canonN x) t dk)) (fun _ vi _ => (RowKit.intOf vi + 1).toNat)
  case atStart => exact ⟨0, Fl.canonN x, _, by omega, hc, rfl, rfl, (putRow_self _ _ _ _ _ HZ.out).symm, (Nat.div_one _).symm, Fl.Hex16.start _⟩
  case round =>
    obtain ⟨t, v, dk, ht, hv, rfl, rfl, hw0, HV, HI⟩ := hrel
    rename World => W0
    have hs0 := HI.out.size
    have hH0 : Holds (fun (b : UInt8) => Value.int .u8 (b.toNat : Int)) W0 w.heap.size 0 dk := by rw [hw0]; exact holds_putRow _ _ _ _ _ dk HZ.out (by rw [hs0]; simp)
    have AW0 := Lib.hid hw0
    by_cases h16 : t < 16
    · have hc1 : W0.cell? ⟨w.heap.size, 15 - t, none⟩ = some (.int .u8 (dk[15 - t]!.toNat : Int)) := by have := (hH0 (15 - t) (by omega)).1; rw [Nat.zero_add] at this; exact this
      have hf1 : W0.frozen? ⟨w.heap.size, 15 - t, none⟩ = false := by have := (hH0 (15 - t) (by omega)).2; rw [Nat.zero_add] at this; exact this
      have hX : ∀ w, (Instr.index 9 (.string Fl.digs16) (.int .u64 ((v : Int) % 16))).run Tryd.prog w = .ok (.int .u8 ((Fl.hexd (v % 16)).toNat : Int)) w := Fl.idx_digs16 9 Tryd.underlying9 .u64 _ _ (by omega) (by omega)
      have hge : decide ((0 : Int) ≤ 15 - (t : Int)) = true := decide_eq_true (by omega)
      generalize (dk[15 - t]!.toNat : Int) = old at hc1
      clear hw0 hH0
      go_wp2
      go_roundw
      case rel =>
        refine ⟨t + 1, v / 16, dk.setIfInBounds (15 - t) (Fl.hexd (v % 16)), by omega, by omega, by go_num, by congr 1; omega, ?_, ?_, ?_⟩
        · rw [AW0.out, ← putRow_set (fun (b : UInt8) => Value.int .u8 (b.toNat : Int)) _ _ 0 dk (15 - t) _ (by omega), Nat.zero_add]
        · show v / 16 = _; rw [Fl.div_pow_succ, ← HV.out]
        · have e := HI.out.step (by omega)
          rw [← HV.out] at e
          exact e
      case measure => simp [RowKit.intOf]; omega
    · obtain rfl : t = 16 := by omega
      have hge : decide ((0 : Int) ≤ 15 - ((16 : Nat) : Int)) = false := by decide
      have hcv : (convert 58 9 (.slice (some ⟨w.heap.size, 0, none⟩) 16 16)).run Tryd.prog W0 = .ok (.string ⟨(Fl.textN x).toArray⟩) W0 := by
        have h := run_convert_bytes_back (P := Tryd.prog) W0 58 9 5 ⟨w.heap.size, 0, none⟩ 16 (Fl.hexL (Fl.canonN x) 16) Tryd.underlying58 Tryd.underlying5 Tryd.underlying9 (fun j hj => by
          rw [HI.out.row j hj, Lib.add_plain]
          have hj' : j < 16 := by rw [Fl.hexL_length] at hj; exact hj
          exact (hH0 j (by omega)).1)
        rw [Fl.hexL_length] at h
        exact h
      clear hw0 hH0
      go_wp2
      go_ret
      refine ⟨rfl, ?_⟩
      rw [AW0.out]
      exact Fl.below_putRow _ HB.out (Nat.le_refl _) _ _

set_option maxHeartbeats 1000000 in
theorem refParse_short (s : ByteArray) (w : World) (hs : s.size ≠ 16) :
    Calls Tryd.prog 30 #[.string s] w fun e w' => e = .returned (.agg #[.float .f64 (Fl.parseF s), .bool (Fl.parseB s)]) ∧ Below w.heap.size w w' := by
  have hb : Fl.parseB s = false := by unfold Fl.parseB; rw [decide_eq_false hs]; rfl
  have hf : Fl.parseF s = 0 := by unfold Fl.parseF; rw [hb]; rfl
  have hn : ((s.size : Int) != 16) = true := by simp; omega
  go_enter Tryd.func30, Tryd.ntmps30
  go_wp2
  exact bodyPost_ret (v := .agg #[.float .f64 0, .bool false]) (by simp [results, Tryd.results30, go_sem]) rfl ⟨by rw [hb, hf], (Below.refl _ _).alloc (Nat.le_refl _) _⟩

set_option maxRecDepth 100000 in
set_option maxHeartbeats 4000000 in
theorem refParse_long (s : ByteArray) (w : World) (hs : s.size = 16) :
    Calls Tryd.prog 30 #[.string s] w fun e w' => e = .returned (.agg #[.float .f64 (Fl.parseF s), .bool (Fl.parseB s)]) ∧ Below w.heap.size w w' := by
  have hn : ((s.size : Int) != 16) = false := by rw [hs]; rfl
  have HS := Lib.hid hs
  have hs1 : (s.size : Int) ≤ 16 := by omega
  have hs2 : 16 ≤ (s.size : Int) := by omega
  clear hs
  go_enter Tryd.func30, Tryd.ntmps30
  go_name_bytes_deep 12 DG hDG
  have eDG : DG = Fl.digs16 := by rw [← hDG]; decide +kernel
  subst eDG
  clear hDG
  go_wp2_with fail
  go_loopw [3, 4] (fun vu vi wr => ∃ k : Nat, k ≤ 16 ∧ vi = .int .i64 k ∧ vu = .int .u64 (Fl.pv s k : Int) ∧ Hid (Fl.allB s k = true) ∧ Hid (∃ q, wr = (w.alloc (Obj.cells #[Value.float FloatKind.f64 0, Value.bool false] 33)).drewN q)) (fun _ vi _ => 16 - (intOf vi).toNat)
  case atStart => exact ⟨0, Nat.zero_le _, rfl, rfl, rfl, 0, rfl⟩
  case round =>
    obtain ⟨k, hk, rfl, rfl, HA, HW⟩ := hrel
    rename World => W5
    have hv := Fl.pv_lt64 s hk
    by_cases hlt : k < 16
    · have hX : ∀ w, (Instr.index 9 (.string s) (.int .i64 (k : Int))).run Tryd.prog w = .ok (.int .u8 (Fl.cAt s k : Int)) w := Fl.idx_str 9 Tryd.underlying9 s k (by omega)
      have hv2 := Fl.pv_lt60 s hlt
      have hcl := Fl.cAt_lt s k
      have hd := Fl.hexD_lt (Fl.cAt s k)
      have hlt1 : decide ((k : Int) < 16) = true := decide_eq_true (by omega)
      go_wp2_with fail
      go_loopw [5, 6] (fun vd vk wr => ∃ j : Nat, j ≤ 16 ∧ vk = .int .i64 j ∧ vd = .int .i64 (Fl.dAt (Fl.cAt s k) j) ∧ Hid (∃ q, wr = (w.alloc (Obj.cells #[Value.float FloatKind.f64 0, Value.bool false] 33)).drewN q)) (fun _ vk _ => 16 - (intOf vk).toNat)
      case atStart => exact ⟨0, Nat.zero_le _, rfl, by rw [Fl.dAt_zero], HW⟩
      case round =>
        obtain ⟨j, hj, rfl, rfl, HW2⟩ := hrel
        clear HW
        rename World => W6
        by_cases hjl : j < 16
        · have hY : ∀ w, (Instr.index 9 (.string Fl.digs16) (.int .i64 (j : Int))).run Tryd.prog w = .ok (.int .u8 ((Fl.hexd j).toNat : Int)) w := Fl.idx_digs16 9 Tryd.underlying9 .i64 _ _ rfl hjl
          have hlt2 : decide ((j : Int) < 16) = true := decide_eq_true (by omega)
          cases ht : (((Fl.hexd j).toNat : Int) == (Fl.cAt s k : Int))
          · go_wp2_with fail
            go_quiet (fail)
            go_wp2
            go_roundw
            case rel => exact ⟨j + 1, by omega, by go_num, by rw [Fl.dAt_miss hcl hjl ht], by obtain ⟨q, hq⟩ := HW2.out; exact ⟨q + nq, by rw [hq, World.drewN_drewN]⟩⟩
            case measure => simp [intOf]; omega
          · go_wp2_with fail
            go_quiet (fail)
            go_wp2
            go_roundw
            case rel => exact ⟨j + 1, by omega, by go_num, by rw [Fl.dAt_hit hcl hjl ht], by obtain ⟨q, hq⟩ := HW2.out; exact ⟨q + nq, by rw [hq, World.drewN_drewN]⟩⟩
            case measure => simp [intOf]; omega
        · obtain rfl : j = 16 := by omega
          have hde := Fl.dAt_end (Fl.cAt s k)
          have hlt2 : decide (((16 : Nat) : Int) < 16) = false := by decide
          cases hh : Fl.hexB (Fl.cAt s k)
          · rw [hh, if_neg (by simp)] at hde
            rw [hde]
            clear hde
            obtain ⟨q, rfl⟩ := HW2.out
            have hb : Fl.parseB s = false := by unfold Fl.parseB; rw [Fl.allB_false s hlt hh]; simp
            have hf : Fl.parseF s = 0 := by unfold Fl.parseF; rw [hb]; rfl
            go_wp2
            exact bodyPost_ret (v := .agg #[.float .f64 0, .bool false]) (by simp [results, Tryd.results30, go_sem]) rfl ⟨by rw [hb, hf], ((below_drewN ((Below.refl _ _).alloc (Nat.le_refl _) _) _).setCell (Nat.le_refl _) _).setCell (Nat.le_refl _) _⟩
          · rw [hh, if_pos rfl] at hde
            rw [hde]
            clear hde
            go_wp2
            go_roundw
            case rel => exact ⟨k + 1, by omega, by go_num, by rw [Fl.pv]; congr 1; omega, by show Fl.allB s (k + 1) = true; rw [Fl.allB, HA.out, hh]; rfl, HW2⟩
            case measure => simp [intOf]; omega
    · obtain rfl : k = 16 := by omega
      have hlt1 : decide (((16 : Nat) : Int) < 16) = false := by decide
      have hpb : Fl.parseB s = Fl.isB (Fl.pv s 16) := by unfold Fl.parseB; rw [HA.out, decide_eq_true HS.out]; simp
      obtain ⟨q, rfl⟩ := HW.out
      cases hi : Fl.isB (Fl.pv s 16)
      · have hf : Fl.parseF s = 0 := by unfold Fl.parseF; rw [hpb, hi]; rfl
        rw [hi] at hpb
        go_wp2_with (first | (go_at_call 13; refine (refIs_any _ _).mono ?_; rintro e w' ⟨rfl, hq⟩; obtain rfl := hq.symm))
        exact bodyPost_ret (v := .agg #[.float .f64 0, .bool false]) (by simp [results, Tryd.results30, go_sem]) rfl ⟨by rw [hpb, hf], ((below_drewN ((Below.refl _ _).alloc (Nat.le_refl _) _) _).setCell (Nat.le_refl _) _).setCell (Nat.le_refl _) _⟩
      · have hf : Fl.parseF s = Fl.pv s 16 := by unfold Fl.parseF; rw [hpb, hi]; rfl
        rw [hi] at hpb
        go_wp2_with (first | (go_at_call 13; refine (refIs_any _ _).mono ?_; rintro e w' ⟨rfl, hq⟩; obtain rfl := hq.symm))
        exact bodyPost_ret (v := .agg #[.float .f64 (Fl.pv s 16), .bool true]) (by simp [results, Tryd.results30, go_sem]) rfl ⟨by rw [hpb, hf], ((below_drewN ((Below.refl _ _).alloc (Nat.le_refl _) _) _).setCell (Nat.le_refl _) _).setCell (Nat.le_refl _) _⟩

theorem parse_any (s : ByteArray) (w : World) :
    Calls Tryd.prog 29 #[.string s] w fun e w' => e = .returned (.tuple #[.float .f64 (Fl.parseF s), .bool (Fl.parseB s)]) ∧ w' = w := by
  by_cases h : s.size = 16
  · exact parse_long s w h
  · exact parse_short s w h

theorem refParse_any (s : ByteArray) (w : World) :
    Calls Tryd.prog 30 #[.string s] w fun e w' => e = .returned (.agg #[.float .f64 (Fl.parseF s), .bool (Fl.parseB s)]) ∧ Below w.heap.size w w' := by
  by_cases h : s.size = 16
  · exact refParse_long s w h
  · exact refParse_short s w h

end Go.Proofs.YtamefmblpncmeaaDoor
