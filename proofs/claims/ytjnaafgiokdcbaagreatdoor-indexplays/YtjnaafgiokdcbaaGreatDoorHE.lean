/- Walks of bigEndian, number, Eight, Number. -/
import Derived.Test.YtjnaafgiokdcbaaGreatDoorHB
import Derived.Test.YtjnaafgiokdcbaaGreatDoorHC
import Derived.Lib.UnsafeStr
import Derived.Lib.BufferWrite
namespace Go.Proofs.YtjnaafgiokdcbaaGreatDoor
open Go.RowKit Go.Sort

set_option maxRecDepth 100000 in
set_option maxHeartbeats 2000000 in
theorem bigEndian_any (u m : Nat) (w : World) (hm : m ≤ 8) :
    Calls Tryz.prog 132 #[.int .u64 (u : Int), .int .i64 (m : Int)] w fun e w' => e = .returned (.string ⟨(Vl.beL u m).toArray⟩) ∧ Below w.heap.size w w' := by
  obtain ⟨i5, hi, hz0, hz1, hz2⟩ : ∃ i, Tryz.prog.info? 5 = some i ∧ i.zero = some (.int .u8 0) ∧ i.size = 1 ∧ i.bytes = 1 := ⟨_, Tryz.type5, rfl, rfl, rfl⟩
  go_enter Tryz.func132, Tryz.ntmps132
  go_wp2_with (first | (at_make; refine wpList_make_full _ rfl _ _ 106 rfl w.heap.size 5 i5 (.int .u8 0) 1 Tryz.underlying106 hi hz0 hz1 .i64 .i64 (m : Int) (m : Int) m rfl rfl rfl rfl (by rw [hz2]; omega) (by unfold maxLen; omega) (Nat.le_refl _) ?_; intro W1 hown hgrow))
  have HZ := Vl.hid (Vl.madeM hown)
  have HB : Hid (Below w.heap.size w W1) := (Below.refl _ _).grown hgrow (Nat.le_refl _) (fun k h => by cases h)
  clear hown hgrow hi hz0 hz1 hz2
  go_loopw [11] (fun vi wr => ∃ (t : Nat) (dk : Array UInt8), t ≤ m ∧ vi = .int .i64 (t : Int) ∧ wr = putRow (fun (b : UInt8) => Value.int .u8 (b.toNat : Int)) W1 w.heap.size 0 dk ∧ Hid (Vl.Be u m t dk)) (fun vi _ => m - (RowKit.intOf vi).toNat)
  case atStart => exact ⟨0, _, by omega, rfl, (putRow_self _ _ _ _ _ HZ.out).symm, Vl.Be.start _ _⟩
  case round =>
    obtain ⟨t, dk, ht, rfl, hw0, HI⟩ := hrel
    rename World => W0
    have hs0 := HI.out.size
    have hH0 : Holds (fun (b : UInt8) => Value.int .u8 (b.toNat : Int)) W0 w.heap.size 0 dk := by rw [hw0]; exact holds_putRow _ _ _ _ _ dk HZ.out (by rw [hs0]; simp)
    have AW0 := Vl.hid hw0
    by_cases h16 : t < m
    · have hc1 : W0.cell? ⟨w.heap.size, m - 1 - t, none⟩ = some (.int .u8 (dk[m - 1 - t]!.toNat : Int)) := by have := (hH0 (m - 1 - t) (by omega)).1; rw [Nat.zero_add] at this; exact this
      have hf1 : W0.frozen? ⟨w.heap.size, m - 1 - t, none⟩ = false := by have := (hH0 (m - 1 - t) (by omega)).2; rw [Nat.zero_add] at this; exact this
      generalize (dk[m - 1 - t]!.toNat : Int) = old at hc1
      clear hw0 hH0
      go_wp2_with fail
      refine ⟨⟨t + 1, dk.setIfInBounds (m - 1 - t) (u / 256 ^ t % 256).toUInt8, by omega, by go_num, ?_, HI.out.step h16⟩, by simp [intOf]; omega⟩
      rw [Vl.byte_shr, AW0.out, ← putRow_set (fun (b : UInt8) => Value.int .u8 (b.toNat : Int)) _ _ 0 dk (m - 1 - t) _ (by omega), Nat.zero_add]
    · obtain rfl : t = m := by omega
      have hcv : (convert 106 9 (.slice (some ⟨w.heap.size, 0, none⟩) t t)).run Tryz.prog W0 = .ok (.string ⟨(Vl.beL u t).toArray⟩) W0 := by
        have h := run_convert_bytes_back (P := Tryz.prog) W0 106 9 5 ⟨w.heap.size, 0, none⟩ t (Vl.beL u t) Tryz.underlying106 Tryz.underlying5 Tryz.underlying9 (fun j hj => by
          rw [HI.out.row j hj, Vl.add_plain]
          have hj' : j < t := by rw [Vl.beL_length] at hj; exact hj
          exact (hH0 j (by omega)).1)
        rw [Vl.beL_length] at h
        exact h
      clear hw0 hH0
      go_wp2
      go_ret
      refine ⟨rfl, ?_⟩
      rw [AW0.out]
      exact Vl.below_putRow _ HB.out (Nat.le_refl _) _ _

set_option maxHeartbeats 1000000 in
theorem number_short (s : ByteArray) (m : Nat) (w : World) (hs : s.size < m) :
    Calls Tryz.prog 133 #[.string s, .int .i64 (m : Int)] w fun e w' => e = .returned (.tuple #[.int .u64 0, .bool false]) ∧ w' = w := by
  have h : (s.size : Int) < (m : Int) := by omega
  go_enter Tryz.func133, Tryz.ntmps133
  go_wp2
  go_ret2
  exact ⟨rfl, rfl⟩

set_option maxHeartbeats 1000000 in
theorem number_any (s : ByteArray) (m : Nat) (w : World) (hs : m ≤ s.size) (hm : m ≤ 8) :
    Calls Tryz.prog 133 #[.string s, .int .i64 (m : Int)] w fun e w' => e = .returned (.tuple #[.int .u64 (Vl.nv s m : Int), .bool true]) ∧ w' = w := by
  have h : ¬ (s.size : Int) < (m : Int) := by omega
  have hd : decide ((s.size : Int) < (m : Int)) = false := decide_eq_false h
  go_enter Tryz.func133, Tryz.ntmps133
  go_wp2_with fail
  go_loop [6, 13] (fun b i => ∃ k : Nat, k ≤ m ∧ i = .int .i64 k ∧ b = .int .u64 (Vl.nv s k : Int)) (fun _ i => m - (intOf i).toNat)
  case atStart => exact ⟨0, Nat.zero_le _, rfl, rfl⟩
  case round =>
    obtain ⟨k, hk, rfl, rfl⟩ := hrel
    by_cases hlt : k < m
    · have hX : ∀ w, (Instr.index 177 (.string s) (.int .i64 (k : Int))).run Tryz.prog w = .ok (.int .u8 (Vl.cAt s k : Int)) w := Vl.idx_str 177 Tryz.underlying177 s k (by omega)
      have hv := Vl.nv_lt56 s (by omega : k < 8)
      have hc := Vl.cAt_lt s k
      have HO := Vl.hid (Vl.or_byte _ _ hv hc)
      go_wp2
      go_round
      case rel => exact ⟨k + 1, by omega, by go_num, by rw [HO.out]; rfl⟩
      case measure => simp [intOf]; omega
    · obtain rfl : k = m := by omega
      go_wp2
      go_ret2
      exact ⟨rfl, rfl⟩

set_option maxHeartbeats 1000000 in
theorem refNumber_any (s : ByteArray) (w : World) (hm : s.size ≤ 8) :
    Calls Tryz.prog 100 #[.string s] w fun e w' => e = .returned (.int .u64 (Vl.nv s s.size : Int)) ∧ w' = w := by
  go_enter Tryz.func100, Tryz.ntmps100
  go_wp2_with fail
  go_loop [3, 4] (fun b i => ∃ k : Nat, k ≤ s.size ∧ i = .int .i64 k ∧ b = .int .u64 (Vl.nv s k : Int)) (fun _ i => s.size - (intOf i).toNat)
  case atStart => exact ⟨0, Nat.zero_le _, rfl, rfl⟩
  case round =>
    obtain ⟨k, hk, rfl, rfl⟩ := hrel
    by_cases hlt : k < s.size
    · have hX : ∀ w, (Instr.index 9 (.string s) (.int .i64 (k : Int))).run Tryz.prog w = .ok (.int .u8 (Vl.cAt s k : Int)) w := Vl.idx_str 9 Tryz.underlying9 s k (by omega)
      have hv := Vl.nv_lt56 s (by omega : k < 8)
      have hc := Vl.cAt_lt s k
      go_wp2
      go_round
      case rel => exact ⟨k + 1, by omega, by go_num, by rw [Vl.nv]; go_num⟩
      case measure => simp [intOf]; omega
    · obtain rfl : k = s.size := by omega
      go_wp2
      go_ret
      exact ⟨rfl, rfl⟩

set_option maxRecDepth 100000 in
set_option maxHeartbeats 2000000 in
theorem eight_any (u : Nat) (w : World) (hu : u < 18446744073709551616) :
    Calls Tryz.prog 78 #[.int .u64 (u : Int)] w fun e w' => e = .returned (.string ⟨(Vl.beL u 8).toArray⟩) ∧ Below w.heap.size w w' := by
  obtain ⟨i5, hi, hz0, hz1, hz2⟩ : ∃ i, Tryz.prog.info? 5 = some i ∧ i.zero = some (.int .u8 0) ∧ i.size = 1 ∧ i.bytes = 1 := ⟨_, Tryz.type5, rfl, rfl, rfl⟩
  go_enter Tryz.func78, Tryz.ntmps78
  go_wp2_with (first | (at_make; refine wpList_make_full _ rfl _ _ 106 rfl w.heap.size 5 i5 (.int .u8 0) 1 Tryz.underlying106 hi hz0 hz1 .i64 .i64 8 8 8 rfl rfl rfl rfl (by rw [hz2]; omega) (by unfold maxLen; omega) (Nat.le_refl _) ?_; intro W1 hown hgrow))
  have HZ := Vl.hid (Vl.madeM hown)
  have HB : Hid (Below w.heap.size w W1) := (Below.refl _ _).grown hgrow (Nat.le_refl _) (fun k h => by cases h)
  clear hown hgrow hi hz0 hz1 hz2
  go_loopw [0, 4] (fun vu vi wr => ∃ (t v : Nat) (dk : Array UInt8), t ≤ 8 ∧ v < 18446744073709551616 ∧ vu = .int .u64 v ∧ vi = .int .i64 (7 - (t : Int)) ∧ wr = putRow (fun (b : UInt8) => Value.int .u8 (b.toNat : Int)) W1 w.heap.size 0 dk ∧ Hid (v = u / 256 ^ t) ∧ Hid (Vl.Be u 8 t dk)) (fun _ vi _ => (RowKit.intOf vi + 1).toNat)
  case atStart => exact ⟨0, u, _, by omega, hu, rfl, rfl, (putRow_self _ _ _ _ _ HZ.out).symm, (Nat.div_one _).symm, Vl.Be.start _ _⟩
  case round =>
    obtain ⟨t, v, dk, ht, hv, rfl, rfl, hw0, HV, HI⟩ := hrel
    rename World => W0
    have hs0 := HI.out.size
    have hH0 : Holds (fun (b : UInt8) => Value.int .u8 (b.toNat : Int)) W0 w.heap.size 0 dk := by rw [hw0]; exact holds_putRow _ _ _ _ _ dk HZ.out (by rw [hs0]; simp)
    have AW0 := Vl.hid hw0
    by_cases h16 : t < 8
    · have hc1 : W0.cell? ⟨w.heap.size, 7 - t, none⟩ = some (.int .u8 (dk[7 - t]!.toNat : Int)) := by have := (hH0 (7 - t) (by omega)).1; rw [Nat.zero_add] at this; exact this
      have hf1 : W0.frozen? ⟨w.heap.size, 7 - t, none⟩ = false := by have := (hH0 (7 - t) (by omega)).2; rw [Nat.zero_add] at this; exact this
      have hge : decide ((0 : Int) ≤ 7 - (t : Int)) = true := decide_eq_true (by omega)
      generalize (dk[7 - t]!.toNat : Int) = old at hc1
      clear hw0 hH0
      go_wp2
      go_roundw
      case rel =>
        refine ⟨t + 1, v / 256, dk.setIfInBounds (7 - t) (u / 256 ^ t % 256).toUInt8, by omega, by omega, by go_num, by congr 1; omega, ?_, ?_, HI.out.step h16⟩
        · rw [AW0.out, ← putRow_set (fun (b : UInt8) => Value.int .u8 (b.toNat : Int)) _ _ 0 dk (7 - t) _ (by omega), Nat.zero_add, ← HV.out, Vl.byte_of v]
        · show v / 256 = _; rw [HV.out, Nat.pow_succ, Nat.div_div_eq_div_mul]
      case measure => simp [RowKit.intOf]; omega
    · obtain rfl : t = 8 := by omega
      have hge : decide ((0 : Int) ≤ 7 - ((8 : Nat) : Int)) = false := by decide
      have hcv : (convert 106 9 (.slice (some ⟨w.heap.size, 0, none⟩) 8 8)).run Tryz.prog W0 = .ok (.string ⟨(Vl.beL u 8).toArray⟩) W0 := by
        have h := run_convert_bytes_back (P := Tryz.prog) W0 106 9 5 ⟨w.heap.size, 0, none⟩ 8 (Vl.beL u 8) Tryz.underlying106 Tryz.underlying5 Tryz.underlying9 (fun j hj => by
          rw [HI.out.row j hj, Vl.add_plain]
          have hj' : j < 8 := by rw [Vl.beL_length] at hj; exact hj
          exact (hH0 j (by omega)).1)
        rw [Vl.beL_length] at h
        exact h
      clear hw0 hH0
      go_wp2
      go_ret
      refine ⟨rfl, ?_⟩
      rw [AW0.out]
      exact Vl.below_putRow _ HB.out (Nat.le_refl _) _ _

end Go.Proofs.YtjnaafgiokdcbaaGreatDoor

/- Walks of strings.Clone. -/
namespace Go.Proofs.YtjnaafgiokdcbaaGreatDoor
open Go.RowKit Go.Sort

theorem Vl.row_of {w' : World} {base g m : Nat} {e : TypeId} {l : List Value} (h : w'.ownsRow base e 1 (.slice (some ⟨g, 0, none⟩) m m) m l) :
    ∃ cur : Array Value, w'.heap[g]? = some (.cells cur e (0, 0)) ∧ cur.size = m := by
  obtain ⟨_, ⟨h0, _⟩ | ⟨g', cap, cur, h0, hg, hh, h1, h2, h3, h4⟩⟩ := h
  · cases h0
  · cases h0
    exact ⟨cur, hh, by omega⟩
theorem Vl.setRow_at {w : World} {g : Nat} {cur cs : Array Value} {t : TypeId} (h : w.heap[g]? = some (.cells cur t (0, 0))) : (w.setRow g cs).heap[g]? = some (.cells cs t (0, 0)) := by
  simp only [World.setRow, Array.getElem?_modify, h]; rfl
theorem Vl.below_setRow {B : Nat} {a w : World} (h : Below B a w) {g : Nat} (hg : B ≤ g) (cs : Array Value) : Below B a (w.setRow g cs) :=
  h.trans ⟨rfl, rfl, rfl, by simp [World.setRow], fun k hk => by
    simp only [World.setRow, Array.getElem?_modify]
    rw [if_neg (by omega)]⟩

set_option maxRecDepth 100000 in
set_option maxHeartbeats 1000000 in
theorem clone_in (s : ByteArray) (w : World) (hs : s.size ≤ 100000) :
    Calls Tryz.prog 75 #[.string s] w fun e w' => e = .returned (.string s) ∧ Below w.heap.size w w' := by
  by_cases h0 : s.size = 0
  · have hb : ((s.size : Int) == 0) = true := by simp [h0]
    have he : s = ⟨#[]⟩ := by cases s; rename_i d; congr; simpa [ByteArray.size] using h0
    have HE := Vl.hid he
    clear he h0
    go_enter Tryz.func75, Tryz.ntmps75
    go_wp2
    go_ret
    exact ⟨by rw [HE.out]; rfl, Below.refl _ _⟩
  · have hb : ((s.size : Int) == 0) = false := beq_eq_false_iff_ne.2 (by omega)
    have hsi : (s.size : Int) ≤ 100000 := by omega
    obtain ⟨i5, hi, hz0, hz1, hz2⟩ : ∃ i, Tryz.prog.info? 5 = some i ∧ i.zero = some (.int .u8 0) ∧ i.size = 1 ∧ i.bytes = 1 := ⟨_, Tryz.type5, rfl, rfl, rfl⟩
    go_enter Tryz.func75, Tryz.ntmps75
    go_wp2_with (first | (at_make; refine wpList_make_full _ rfl _ _ 106 rfl w.heap.size 5 i5 (.int .u8 0) 1 Tryz.underlying106 hi hz0 hz1 .i64 .i64 (s.size : Int) (s.size : Int) s.size rfl rfl rfl rfl (by rw [hz2]; omega) (by unfold maxLen; omega) (Nat.le_refl _) ?_; intro W1 hown hgrow))
    obtain ⟨cur, hg, hcs⟩ : ∃ cur : Array Value, W1.heap[w.heap.size]? = some (.cells cur 5 (0, 0)) ∧ cur.size = s.size := Vl.row_of hown
    have HB : Hid (Below w.heap.size w W1) := (Below.refl _ _).grown hgrow (Nat.le_refl _) (fun k h => by cases h)
    have hcp := Lib.run_copy_row_string (P := Tryz.prog) W1 106 9 3 5 w.heap.size 0 s.size s.size s cur 5 Tryz.underlying106 (by rw [hi]; simp [hz1]) hg (Nat.le_refl _) (by omega)
    rw [hcp]
    simp only [Result.andThen]
    rw [Oper.upon_value]
    have hrow : (cur.toList.take 0 ++ Lib.byteCells s.data.toList ++ cur.toList.drop (0 + s.size)).toArray = (Lib.byteCells s.data.toList).toArray := by
      rw [List.drop_of_length_le (by simp; omega)]; simp
    rw [hrow]
    have hW2 : (W1.setRow w.heap.size (Lib.byteCells s.data.toList).toArray).heap[w.heap.size]? = some (.cells (Lib.byteCells s.data.toList).toArray 5 (0, 0)) := Vl.setRow_at hg
    have HB2 : Hid (Below w.heap.size w (W1.setRow w.heap.size (Lib.byteCells s.data.toList).toArray)) := Vl.below_setRow HB.out (Nat.le_refl _) _
    generalize W1.setRow w.heap.size (Lib.byteCells s.data.toList).toArray = W2 at hW2 HB2
    have hus := Lib.run_unsafeString_row (P := Tryz.prog) W2 153 3 9 5 Tryz.underlying153 (by kernel_rfl) w.heap.size (Lib.byteCells s.data.toList).length (by simp [World.shape?, hW2]) s.data.toList (by intro e; apply h0; show s.data.size = 0; simpa using congrArg List.length e) (by rw [Lib.byteCells_length]; exact Nat.le_refl _) (by rw [(by simp : s.data.toList.length = s.size)]; omega)
      (fun j x hx => by rw [Vl.add_plain]; simp [World.cell?, hW2, Lib.byteCells, hx])
    have hsl : (s.data.toList.length : Int) = (s.size : Int) := by simp
    rw [hsl] at hus
    have HB3 : Hid (Below w.heap.size w (W2.freeze ⟨w.heap.size, 0, none⟩ s.data.toList.length)) := Lib.below_freeze HB2.out (Nat.le_refl _) _
    clear hcp hrow hown hgrow hg hW2 hi hz0 hz1 hz2
    go_wp2
    go_ret
    exact ⟨rfl, HB3.out⟩

set_option maxHeartbeats 1000000 in
theorem clone_any (s : ByteArray) (w : World) (hs : s.size ≤ 100000) :
    Calls Tryz.prog 54 #[.string s] w fun e w' => e = .returned (.string s) ∧ Below w.heap.size w w' := by
  go_enter Tryz.func54, Tryz.ntmps54
  go_wp2_with (go_at_call 75; refine (clone_in _ _ hs).mono ?_; rintro e w1 ⟨rfl, hb⟩)
  go_ret
  exact ⟨rfl, hb⟩

end Go.Proofs.YtjnaafgiokdcbaaGreatDoor
