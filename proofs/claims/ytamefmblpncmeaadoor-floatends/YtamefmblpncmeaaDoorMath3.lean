/- Hexadecimal digits: plain numbers and lists. -/
import Derived.Test.YtamefmblpncmeaaDoorMath2
import Derived.Lib.ItoaMem
import Derived.Lib.AppendIntMem
namespace Go.Proofs.YtamefmblpncmeaaDoor
namespace Fl
open Go.Sort

/-- The digit of a number below 36. -/
def hexd (n : Nat) : UInt8 := UInt8.ofNat (if n < 10 then 48 + n else 87 + n)
/-- The digits that internal/strconv writes with. -/
def digs : ByteArray := ⟨#[48, 49, 50, 51, 52, 53, 54, 55, 56, 57, 97, 98, 99, 100, 101, 102, 103, 104, 105, 106, 107, 108, 109, 110, 111, 112, 113, 114, 115, 116, 117, 118, 119, 120, 121, 122]⟩
theorem digs_size : digs.size = 36 := rfl
theorem digs_at : ∀ i : Fin 36, digs.data[i.val]! = hexd i.val := by decide +kernel
theorem idx_digs {P : Program} (t : TypeId) (ht : P.underlying t = some .string) (k : IntKind) (z : Int) (i : Nat) (hz : z = (i : Int)) (hi : i < 36) (w : World) :
    (Instr.index t (.string digs) (.int k z)).run P w = .ok (.int .u8 ((hexd i).toNat : Int)) w := by
  subst hz
  rw [run_index_string w t digs k _ ht, dif_pos ⟨by omega, by rw [digs_size]; omega⟩]
  have e : ((i : Int)).toNat = i := by omega
  simp only [e]
  have h := digs_at ⟨i, hi⟩
  simp only at h
  rw [← h, getElem!_pos digs.data i (by show i < 36; exact hi)]
  rfl

/-- Behind k digits: the last k cells of the row hold them. -/
structure HexInv (U k : Nat) (dk : Array UInt8) : Prop where
  size : dk.size = 65
  done : ∀ t, t < k → dk[64 - t]! = hexd (U / 16 ^ t % 16)

theorem HexInv.start (U : Nat) : HexInv U 0 (Array.replicate 65 0) := ⟨by simp, fun t h => absurd h (Nat.not_lt_zero t)⟩
theorem HexInv.step {U k : Nat} {dk : Array UInt8} (h : HexInv U k dk) (hk : k < 65) : HexInv U (k + 1) (dk.setIfInBounds (64 - k) (hexd (U / 16 ^ k % 16))) := by
  refine ⟨by rw [Array.size_setIfInBounds]; exact h.size, fun t ht => ?_⟩
  have hs := h.size
  rw [getElem!_pos _ _ (by rw [Array.size_setIfInBounds]; omega), Array.getElem_setIfInBounds]
  by_cases e : t = k
  · subst e; rw [if_pos rfl]
  · rw [if_neg (by omega)]
    have := h.done t (by omega)
    rw [getElem!_pos _ _ (by omega)] at this
    exact this

/-- The last n digits of a number, the highest first. -/
def hexL (U n : Nat) : List UInt8 := (List.range n).map fun j => hexd (U / 16 ^ (n - 1 - j) % 16)
theorem hexL_length (U n : Nat) : (hexL U n).length = n := by simp [hexL]
theorem row_is_hex {U n : Nat} {dk : Array UInt8} (h : HexInv U n dk) (hn : n ≤ 65) (j : Nat) (hj : j < (hexL U n).length) : (hexL U n)[j] = dk[65 - n + j]! := by
  have hj' : j < n := by rw [hexL_length] at hj; exact hj
  have := h.done (n - 1 - j) (by omega)
  rw [show 64 - (n - 1 - j) = 65 - n + j from by omega] at this
  rw [this]
  simp [hexL]

theorem div_pow_succ (U k : Nat) : U / 16 ^ (k + 1) = U / 16 ^ k / 16 := by rw [Nat.pow_succ, Nat.div_div_eq_div_mul]

theorem and15 (v : Nat) (h : v < 18446744073709551616) : bits BinOp.and IntKind.u64 (v : Int) 15 = ((v % 16 : Nat) : Int) := by
  have e := u64_and_nat v 15 h (by omega)
  rw [nat_mask4] at e
  exact e

/-- Text's sixteen digits. -/
def textN (x : Nat) : List UInt8 := hexL (canonN x) 16

theorem hexL_pad (U n : Nat) (hn : n ≤ 16) (hU : U < 16 ^ n) : List.replicate (16 - n) 48 ++ hexL U n = hexL U 16 := by
  apply List.ext_getElem
  · simp [hexL_length]; omega
  · intro i h1 h2
    rw [hexL_length] at h2
    by_cases c : i < 16 - n
    · rw [List.getElem_append_left (by simpa using c), List.getElem_replicate]
      have : U / 16 ^ (16 - 1 - i) = 0 := Nat.div_eq_of_lt (Nat.lt_of_lt_of_le hU (Nat.pow_le_pow_right (by omega) (by omega)))
      simp only [hexL, List.getElem_map, List.getElem_range]
      rw [this]; rfl
    · rw [List.getElem_append_right (by simpa using c)]
      simp only [hexL, List.getElem_map, List.getElem_range, List.length_replicate]
      rw [show n - 1 - (i - (16 - n)) = 16 - 1 - i from by omega]

theorem below_row (w : World) (o : Obj) (dk : Array UInt8) : RowKit.Below w.heap.size w (putRow (fun (b : UInt8) => Value.int .u8 (b.toNat : Int)) (w.alloc o) w.heap.size 0 dk) := by
  rw [alloc_eq_grow]
  obtain ⟨os', _, e⟩ := putRow_grow_new (fun (b : UInt8) => Value.int .u8 (b.toNat : Int)) w #[o] w.heap.size 0 dk (Nat.le_refl _)
  rw [e]
  have := Lib.below_grow w.heap.size w (Nat.le_refl _) 0 os'
  rw [World.drewN_zero] at this
  exact this

theorem zeros65 (w : World) (T : TypeId) (Z : Array Value) (hZ : Z = Array.replicate 65 (.int .u8 0)) : Holds (fun (b : UInt8) => Value.int .u8 (b.toNat : Int)) (w.alloc (.cells Z T)) w.heap.size 0 (Array.replicate 65 (0 : UInt8)) := fun j hj => by
  have hj' : j < 65 := by simpa using hj
  refine ⟨?_, World.frozen?_alloc_new _ _ _ _⟩
  rw [World.cell?_alloc_new, hZ, Array.getElem?_replicate, if_pos (by omega), getElem!_pos _ j hj]
  simp

end Fl
end Go.Proofs.YtamefmblpncmeaaDoor
