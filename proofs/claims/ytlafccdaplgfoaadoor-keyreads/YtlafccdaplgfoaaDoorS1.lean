/- Walks of key's small functions: number, told, joined, kept, plain. -/
import Derived.Test.YtlafccdaplgfoaaDoorQ2
import Derived.Test.YtlafccdaplgfoaaDoorB1
import Derived.Test.YtlafccdaplgfoaaDoorD0
import Derived.Test.YtlafccdaplgfoaaDoorShelf
namespace Go.Proofs.YtlafccdaplgfoaaDoor
open Go.RowKit Go.Sort

theorem Ky.write_any (B b : Nat) (bs : List Value) (s : ByteArray) (w : World) (h : Lib.IsBuilder 83 5 B b bs w) (hlen : bs.length + s.size ≤ 140737488355328) (hBw : B ≤ w.heap.size) :
    Calls Tryd.prog 40 #[.pointer (some ⟨b, 0, none⟩), .string s] w fun e w' => e = .returned (.tuple #[.int .i64 s.size, .nilIface]) ∧ (Lib.BuilderAt 83 5 B b (.pointer (some ⟨b, 0, none⟩)) (bs ++ Lib.strCells s) w' ∧ Below B w w') :=
  Any.Builder_WriteString { Tryd.lays155 with } Tryd.Builder_Extra_155 B b bs s w h hlen hBw
theorem Ky.string_any (B b : Nat) (l : List UInt8) (w : World) (h : Lib.IsBuilder 83 5 B b (Lib.byteCells l) w) (hBw : B ≤ w.heap.size) :
    Calls Tryd.prog 41 #[.pointer (some ⟨b, 0, none⟩)] w fun e w' => e = .returned (.string ⟨l.toArray⟩) ∧ Below B w w' :=
  Any.Builder_String_any { Tryd.lays155 with } Tryd.Builder_Extra_155 B b l w h hBw

/-- The library's variable holds some number. -/
def Ky.Mx (w : World) : Prop := ∃ m, w.cell? ⟨1, 0, none⟩ = some (.int .i64 m)
theorem Ky.Mx.lt {w : World} (h : Ky.Mx w) : 1 < w.heap.size := by
  obtain ⟨m, hm⟩ := h
  exact World.block_lt_of_cell? _ _ hm
theorem Ky.Mx.below {w w1 : World} (h : Ky.Mx w) (hb : Below w.heap.size w w1) : Ky.Mx w1 := by
  have hl := h.lt
  obtain ⟨m, hm⟩ := h
  exact ⟨m, by rw [hb.cell (p := ⟨1, 0, none⟩) hl]; exact hm⟩

set_option maxRecDepth 100000 in
set_option maxHeartbeats 2000000 in
theorem knumber_any (u m : Nat) (w : World) (hm : m ≤ 8) :
    Calls Tryd.prog 28 #[.int .u64 (u : Int), .int .i64 (m : Int)] w fun e w' => e = .returned (.string ⟨(Vl.beL u m).toArray⟩) ∧ Below w.heap.size w w' := by
  obtain ⟨i5, hi, hz0, hz1, hz2⟩ : ∃ i, Tryd.prog.info? 5 = some i ∧ i.zero = some (.int .u8 0) ∧ i.size = 1 ∧ i.bytes = 1 := ⟨_, Tryd.type5, rfl, rfl, rfl⟩
  go_enter Tryd.func28, Tryd.ntmps28
  go_wp2_with (first | (at_make; refine wpList_make_full _ rfl _ _ 60 rfl w.heap.size 5 i5 (.int .u8 0) 1 Tryd.underlying60 hi hz0 hz1 .i64 .i64 (m : Int) (m : Int) m rfl rfl rfl rfl (by rw [hz2]; omega) (by unfold maxLen; omega) (Nat.le_refl _) ?_; intro W1 hown hgrow))
  have HZ := Vl.hid (Vl.madeM hown)
  have HB : Hid (Below w.heap.size w W1) := (Below.refl _ _).grown hgrow (Nat.le_refl _) (fun k h => by cases h)
  clear hown hgrow hi hz0 hz1 hz2
  go_loopw [11] (fun vi wr => ∃ (t : Nat) (dk : Array UInt8), t ≤ m ∧ vi = .int .i64 (t : Int) ∧ wr = putRow (fun (b : UInt8) => Value.int .u8 (b.toNat : Int)) W1 w.heap.size 0 dk ∧ Hid (Vl.Be u m t dk)) (fun vi _ => m - (RowKit.intOf vi).toNat)
  case atStart => exact ⟨0, _, by omega, rfl, (putRow_self _ _ _ _ _ HZ.out).symm, Vl.Be.start _ _⟩
  case round =>
    obtain ⟨t, dk, ht, rfl, hw0, HI⟩ := hrel
    rename World => W0
    have hs0 := HI.out.size
    have hH0 : Holds (fun (b : UInt8) => Value.int .u8 (b.toNat : Int)) W0 w.heap.size 0 dk := by rw [hw0]; exact holds_putRow _ _ _ _ _ dk HZ.out (by rw [hs0]; simp)
    have AW0 := Vl.hid hw0
    by_cases h16 : t < m
    · have hc1 : W0.cell? ⟨w.heap.size, m - 1 - t, none⟩ = some (.int .u8 (dk[m - 1 - t]!.toNat : Int)) := by have := (hH0 (m - 1 - t) (by omega)).1; rw [Nat.zero_add] at this; exact this
      have hf1 : W0.frozen? ⟨w.heap.size, m - 1 - t, none⟩ = false := by have := (hH0 (m - 1 - t) (by omega)).2; rw [Nat.zero_add] at this; exact this
      generalize (dk[m - 1 - t]!.toNat : Int) = old at hc1
      clear hw0 hH0
      go_wp2_with fail
      refine ⟨⟨t + 1, dk.setIfInBounds (m - 1 - t) (u / 256 ^ t % 256).toUInt8, by omega, by go_num, ?_, HI.out.step h16⟩, by simp [intOf]; omega⟩
      rw [Vl.byte_shr, AW0.out, ← putRow_set (fun (b : UInt8) => Value.int .u8 (b.toNat : Int)) _ _ 0 dk (m - 1 - t) _ (by omega), Nat.zero_add]
    · obtain rfl : t = m := by omega
      have hcv : (convert 60 9 (.slice (some ⟨w.heap.size, 0, none⟩) t t)).run Tryd.prog W0 = .ok (.string ⟨(Vl.beL u t).toArray⟩) W0 := by
        have h := run_convert_bytes_back (P := Tryd.prog) W0 60 9 5 ⟨w.heap.size, 0, none⟩ t (Vl.beL u t) Tryd.underlying60 Tryd.underlying5 Tryd.underlying9 (fun j hj => by
          rw [HI.out.row j hj, Vl.add_plain]
          have hj' : j < t := by rw [Vl.beL_length] at hj; exact hj
          exact (hH0 j (by omega)).1)
        rw [Vl.beL_length] at h
        exact h
      clear hw0 hH0
      go_wp2
      go_ret
      refine ⟨rfl, ?_⟩
      rw [AW0.out]
      exact Vl.below_putRow _ HB.out (Nat.le_refl _) _ _

/-- One byte more, whatever came before. -/
theorem Ky.or_any (v d : Nat) (hd : d < 256) : ∃ x : Nat, x < 18446744073709551616 ∧ bits BinOp.or IntKind.u64 (IntKind.u64.wrap ((v : Int) * 256)) (d : Int) = (x : Int) ∧ (v < 72057594037927936 → x = v * 256 + d) := by
  have e : IntKind.u64.wrap ((v : Int) * 256) = ((v * 256 % 18446744073709551616 : Nat) : Int) := by rw [IntKind.wrap_u64]; omega
  have h1 : v * 256 % 18446744073709551616 < 18446744073709551616 := by omega
  rw [e, u64_or_nat _ d h1 (by omega)]
  refine ⟨_, Nat.or_lt_two_pow (n := 64) h1 (by omega : d < 2 ^ 64), rfl, fun hv => ?_⟩
  have := nat_join 8 (256 * v) d (by omega) hd
  rw [Nat.mod_eq_of_lt (by omega), Nat.mul_comm v 256, this]

set_option maxHeartbeats 1000000 in
theorem told_any (s : ByteArray) (w : World) (hs : s.size ≤ 100000) :
    Calls Tryd.prog 34 #[.string s] w fun e w' => ∃ v : Nat, v < 18446744073709551616 ∧ e = .returned (.int .u64 (v : Int)) ∧ (s.size ≤ 8 → v = Ky.nvL s.data.toList) ∧ w' = w := by
  go_enter Tryd.func34, Tryd.ntmps34
  go_wp2_with fail
  go_loop [3, 7] (fun b i => ∃ k v : Nat, k ≤ s.size ∧ i = .int .i64 k ∧ b = .int .u64 (v : Int) ∧ Hid (v < 18446744073709551616 ∧ (k ≤ 8 → v = Vl.nv s k))) (fun _ i => s.size - (intOf i).toNat)
  case atStart => exact ⟨0, 0, Nat.zero_le _, rfl, rfl, by decide, fun _ => rfl⟩
  case round =>
    obtain ⟨k, v, hk, rfl, rfl, HV⟩ := hrel
    by_cases hlt : k < s.size
    · have hX : ∀ w, (Instr.index 9 (.string s) (.int .i64 (k : Int))).run Tryd.prog w = .ok (.int .u8 (Vl.cAt s k : Int)) w := Vl.idx_str 9 Tryd.underlying9 s k (by omega)
      have hc := Vl.cAt_lt s k
      obtain ⟨x, hx1, hx2, hx3⟩ := Ky.or_any v (Vl.cAt s k) hc
      have HX := Vl.hid (And.intro hx1 (And.intro hx2 hx3))
      clear hx1 hx2 hx3
      go_wp2
      go_round
      case rel => exact ⟨k + 1, x, by omega, by go_num, by first | rw [HX.out.2.1] | (have := HX.out.2.1; simp_all), HX.out.1, fun h8 => by
        have hv := HV.out.2 (by omega)
        rw [HX.out.2.2 (by rw [hv]; exact Vl.nv_lt56 s (by omega)), hv]; rfl⟩
      case measure => simp [intOf]; omega
    · obtain rfl : k = s.size := by omega
      go_wp2
      go_ret
      exact ⟨v, HV.out.1, rfl, fun h => by rw [HV.out.2 h, Ky.nv_all], rfl⟩

end Go.Proofs.YtlafccdaplgfoaaDoor
