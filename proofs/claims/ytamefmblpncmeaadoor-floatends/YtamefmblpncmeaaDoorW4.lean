/- Walks towards strconv.FormatUint at base 16. -/
import Derived.Test.YtamefmblpncmeaaDoorW3
import Derived.Test.YtamefmblpncmeaaDoorMath3
import Derived.Lib.Walk
import Derived.Lib.ItoaMem
import Derived.Lib.ItoaWalk
namespace Go.Proofs.YtamefmblpncmeaaDoor
open Go.RowKit Go.Sort

set_option maxHeartbeats 400000 in
theorem isPow_any (w : World) :
    Calls Tryd.prog 65 #[.int .i64 16] w fun e w' => e = .returned (.bool true) ∧ w' = w := by
  go_enter Tryd.func65, Tryd.ntmps65
  go_wp2
  go_ret
  exact ⟨congrArg (fun n => Ending.returned (Value.bool n)) (by decide +kernel), rfl⟩

set_option maxHeartbeats 400000 in
theorem trailing_any (w : World) (hT : w.cell? ⟨4, 15, none⟩ = some (.int .u8 4)) :
    Calls Tryd.prog 66 #[.int .u64 16] w fun e w' => e = .returned (.int .i64 4) ∧ w' = w := by
  go_enter Tryd.func66, Tryd.ntmps66
  have hb : bits BinOp.and IntKind.u64 16 (IntKind.u64.wrap (-16)) = 16 := by decide +kernel
  have hm : IntKind.u64.wrap (16 * 285870213051353865) / 288230376151711744 = 15 := by decide +kernel
  go_wp2
  go_ret
  exact ⟨rfl, rfl⟩

/-- 'var a [65]byte', under a name. -/
def Fl.z65 : Array Value := Array.replicate 65 (.int .u8 0)
theorem Fl.z65_size : Fl.z65.size = 65 := by unfold Fl.z65; simp
theorem Fl.z65_ne : Fl.z65 ≠ #[] := fun e => by have := Fl.z65_size; rw [e] at this; cases this
theorem Tryd.zero65 (w : World) : (zeroValue 87).run Tryd.prog w = .ok (.agg Fl.z65) w := by kernel_rfl
attribute [local go_sem] Tryd.zero65 Fl.z65_size
attribute [local simp] Fl.z65_ne

set_option maxRecDepth 100000 in
set_option maxHeartbeats 1600000 in
theorem formatBits_any (U : Nat) (w : World) (hU : U < 18446744073709551616) (hT : w.cell? ⟨4, 15, none⟩ = some (.int .u8 4)) :
    Calls Tryd.prog 56 #[.slice none 0 0, .int .u64 (U : Int), .int .i64 16, .bool false, .bool false] w fun e w' =>
      ∃ n : Nat, 1 ≤ n ∧ n ≤ 16 ∧ U < 16 ^ n ∧ e = .returned (.tuple #[.slice none 0 0, .string ⟨(Fl.hexL U n).toArray⟩]) ∧ Below w.heap.size w w' := by
  have hlt : 4 < w.heap.size := by
    rcases Nat.lt_or_ge 4 w.heap.size with h | h
    · exact h
    · simp [World.cell?, Array.getElem?_eq_none h] at hT
  have hT' : ∀ o, (w.alloc o).cell? ⟨4, 15, none⟩ = some (.int .u8 4) := fun o => by
    rw [World.cell?_alloc_past _ _ _ hlt]; exact hT
  go_enter Tryd.func56, Tryd.ntmps56
  go_name_bytes PM hPM
  clear hPM
  go_name_bytes DG hDG
  have eDG : DG = Fl.digs := by rw [← hDG]; decide +kernel
  subst eDG
  clear hDG
  go_wp2_with (first | (go_at_call 65; refine (isPow_any _).mono ?_; rintro e w' ⟨rfl, rfl⟩) | (go_at_call 66; refine (trailing_any _ (hT' _)).mono ?_; rintro e w' ⟨rfl, rfl⟩))
  go_name_world W1 hW1
  have HZ : Hid (Holds (fun (b : UInt8) => Value.int .u8 (b.toNat : Int)) W1 w.heap.size 0 (Array.replicate 65 (0 : UInt8))) := by
    rw [← hW1]; exact Fl.zeros65 w _ _ rfl
  have HB : Hid (∀ dk : Array UInt8, Below w.heap.size w (putRow (fun (b : UInt8) => Value.int .u8 (b.toNat : Int)) W1 w.heap.size 0 dk)) := by
    rw [← hW1]; exact fun dk => Fl.below_row w _ dk
  clear hW1 hT'
  go_loopw [1, 13] (fun vu vi wr => ∃ (m v : Nat) (dk : Array UInt8), 50 ≤ m ∧ m ≤ 65 ∧ v < 18446744073709551616 ∧ vu = .int .u64 v ∧ vi = .int .i64 m ∧ wr = putRow (fun (b : UInt8) => Value.int .u8 (b.toNat : Int)) W1 w.heap.size 0 dk ∧ Hid (v = U / 16 ^ (65 - m)) ∧ Hid (Fl.HexInv U (65 - m) dk)) (fun vu _ _ => (RowKit.intOf vu).toNat)
  case atStart => exact ⟨65, U, _, by omega, by omega, hU, rfl, rfl, (putRow_self _ _ _ _ _ HZ.out).symm, (Nat.div_one U).symm, Fl.HexInv.start U⟩
  case round =>
    obtain ⟨m, v, dk, hm1, hm2, hv, rfl, rfl, hw0, HV, HI⟩ := hrel
    rename World => W0
    have hs0 := HI.out.size
    have hH0 : Holds (fun (b : UInt8) => Value.int .u8 (b.toNat : Int)) W0 w.heap.size 0 dk := by rw [hw0]; exact holds_putRow _ _ _ _ _ dk HZ.out (by rw [hs0]; simp)
    obtain ⟨G0, hG0⟩ : ∃ G : Nat → Int, ∀ t, G t = (dk[t]!.toNat : Int) := ⟨_, fun _ => rfl⟩
    have hc0 : ∀ t, t < 65 → W0.cell? ⟨w.heap.size, t, none⟩ = some (.int .u8 (G0 t)) := fun t ht => by rw [hG0]; have := (hH0 t (by omega)).1; rw [Nat.zero_add] at this; exact this
    have hf0 : ∀ t, t < 65 → W0.frozen? ⟨w.heap.size, t, none⟩ = false := fun t ht => by have := (hH0 t (by omega)).2; rw [Nat.zero_add] at this; exact this
    have AW0 := Lib.hid hw0
    clear hw0 hG0 hH0
    by_cases h16 : 16 ≤ v
    · have hm : 51 ≤ m := by
        rcases Nat.lt_or_ge m 51 with h | h
        · have e : m = 50 := by omega
          subst e
          have := HV.out
          omega
        · exact h
      have hmask := Fl.and15 v hv
      have hX : ∀ w, (Instr.index 9 (.string Fl.digs) (.int .u64 ((v : Int) % 16))).run Tryd.prog w = .ok (.int .u8 ((Fl.hexd (v % 16)).toNat : Int)) w := Fl.idx_digs 9 Tryd.underlying9 .u64 _ _ (by omega) (by omega)
      have hc1 := hc0 (m - 1) (by omega)
      have hf1 := hf0 (m - 1) (by omega)
      clear hc0 hf0
      go_wp2
      go_roundw
      case rel =>
        refine ⟨m - 1, v / 16, dk.setIfInBounds (m - 1) (Fl.hexd (v % 16)), by omega, by omega, by omega, by go_num, by go_num, ?_, ?_, ?_⟩
        · rw [AW0.out, ← putRow_set (fun (b : UInt8) => Value.int .u8 (b.toNat : Int)) _ _ 0 dk (m - 1) _ (by omega), Nat.zero_add]
        · have e := Fl.div_pow_succ U (65 - m)
          rw [show 65 - (m - 1) = 65 - m + 1 from by omega, HV.out, e]; rfl
        · have e := HI.out.step (by omega)
          rw [← HV.out] at e
          rw [show 65 - (m - 1) = 65 - m + 1 from by omega, show m - 1 = 64 - (65 - m) from by omega]
          exact e
      case measure => simp [RowKit.intOf]; omega
    · have hX : ∀ w, (Instr.index 9 (.string Fl.digs) (.int .u64 (v : Int))).run Tryd.prog w = .ok (.int .u8 ((Fl.hexd v).toNat : Int)) w := Fl.idx_digs 9 Tryd.underlying9 .u64 _ _ (by omega) (by omega)
      have hc1 := hc0 (m - 1) (by omega)
      have hf1 := hf0 (m - 1) (by omega)
      clear hc0 hf0
      have hal : Tryd.prog.arrayLen 87 = 65 := by simp [Program.arrayLen, Tryd.underlying87]
      have hsl : ∀ W, (Instr.sliceAt 87 (.pointer (some ⟨w.heap.size, 0, none⟩)) (some (.int .i64 ((m : Int) - 1))) none none).run Tryd.prog W = .ok (.slice (some ⟨w.heap.size, m - 1, none⟩) (66 - m) (66 - m)) W := fun W => by
        rw [run_sliceAt_array_l W 87 ⟨w.heap.size, 0, none⟩ (by simp [Program.arrayLen, Program.elem, Tryd.underlying87]) .i64 ((m : Int) - 1) (by omega) (by rw [hal]; omega)]
        go_simp
        omega
      have hw1 : W0.setCell ⟨w.heap.size, m - 1, none⟩ (.int .u8 ((Fl.hexd v).toNat : Int)) = putRow (fun (b : UInt8) => Value.int .u8 (b.toNat : Int)) W1 w.heap.size 0 (dk.setIfInBounds (m - 1) (Fl.hexd v)) := by
        rw [AW0.out, ← putRow_set (fun (b : UInt8) => Value.int .u8 (b.toNat : Int)) _ _ 0 dk (m - 1) _ (by omega), Nat.zero_add]
      have hI : Fl.HexInv U (66 - m) (dk.setIfInBounds (m - 1) (Fl.hexd v)) := by
        have e := HI.out.step (by omega)
        rw [← HV.out, Nat.mod_eq_of_lt (by omega : v < 16)] at e
        rw [show 66 - m = 65 - m + 1 from by omega, show m - 1 = 64 - (65 - m) from by omega]
        exact e
      have hUn : U < 16 ^ (66 - m) := by
        have e := HV.out
        have h1 : U / 16 ^ (65 - m) < 16 := by omega
        have h2 := (Nat.div_lt_iff_lt_mul (Nat.pow_pos (by omega))).1 h1
        rw [show 66 - m = 65 - m + 1 from by omega, Nat.pow_succ, Nat.mul_comm]; exact h2
      have hcv : (convert 58 9 (.slice (some ⟨w.heap.size, m - 1, none⟩) (66 - m) (66 - m))).run Tryd.prog (W0.setCell ⟨w.heap.size, m - 1, none⟩ (.int .u8 ((Fl.hexd v).toNat : Int))) = .ok (.string ⟨(Fl.hexL U (66 - m)).toArray⟩) (W0.setCell ⟨w.heap.size, m - 1, none⟩ (.int .u8 ((Fl.hexd v).toNat : Int))) := by
        have h := run_convert_bytes_back (P := Tryd.prog) (W0.setCell ⟨w.heap.size, m - 1, none⟩ (.int .u8 ((Fl.hexd v).toNat : Int))) 58 9 5 ⟨w.heap.size, m - 1, none⟩ (66 - m) (Fl.hexL U (66 - m)) Tryd.underlying58 Tryd.underlying5 Tryd.underlying9 (fun j hj => by
          rw [Fl.row_is_hex hI (by omega) j hj, Lib.add_plain, hw1]
          have hj' : j < 66 - m := by rw [Fl.hexL_length] at hj; exact hj
          have := cell?_putRow (fun (b : UInt8) => Value.int .u8 (b.toNat : Int)) _ w.heap.size 0 _ (dk.setIfInBounds (m - 1) (Fl.hexd v)) HZ.out (by rw [hI.size]; simp) (m - 1 + j) (by rw [hI.size]; omega)
          rw [Nat.zero_add] at this
          rw [this, show 65 - (66 - m) + j = m - 1 + j from by omega])
        rw [Fl.hexL_length] at h
        exact h
      have HW1 := Lib.hid hw1
      have HI1 := Lib.hid hI
      have HUn := Lib.hid hUn
      clear hw1 hI hUn hal
      go_wp2
      go_ret2
      refine ⟨66 - m, by omega, by omega, HUn.out, rfl, ?_⟩
      rw [HW1.out]
      exact HB.out _

end Go.Proofs.YtamefmblpncmeaaDoor
