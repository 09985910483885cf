/- Whole numbers as bytes, the highest first: plain. -/
import Derived.Test.YtaclkmhgbmencaaV0
import Derived.Lib.Walk
import Derived.Sort.Row
import Derived.Sort.Grow
import Derived.Laws.BitsAllLaws
namespace Go.Proofs.Ytaclkmhgbmencaa
namespace Vl

/-- The lowest m bytes of u, the highest first. -/
def beL (u m : Nat) : List UInt8 := (List.range m).map fun j => (u / 256 ^ (m - 1 - j) % 256).toUInt8
theorem beL_length (u m : Nat) : (beL u m).length = m := by simp [beL]

/-- Behind k rounds: the last k of m cells hold them. -/
structure Be (U m k : Nat) (dk : Array UInt8) : Prop where
  size : dk.size = m
  done : ∀ t, t < k → dk[m - 1 - t]! = (U / 256 ^ t % 256).toUInt8
theorem Be.start (U m : Nat) : Be U m 0 (Array.replicate m 0) := ⟨by simp, fun t h => absurd h (Nat.not_lt_zero t)⟩
theorem Be.step {U m k : Nat} {dk : Array UInt8} (h : Be U m k dk) (hk : k < m) : Be U m (k + 1) (dk.setIfInBounds (m - 1 - k) (U / 256 ^ k % 256).toUInt8) := by
  refine ⟨by rw [Array.size_setIfInBounds]; exact h.size, fun t ht => ?_⟩
  have hs := h.size
  rw [getElem!_pos _ _ (by rw [Array.size_setIfInBounds]; omega), Array.getElem_setIfInBounds]
  by_cases e : t = k
  · subst e; rw [if_pos rfl]
  · rw [if_neg (by omega)]
    have := h.done t (by omega)
    rw [getElem!_pos _ _ (by omega)] at this
    exact this
theorem Be.row {U m : Nat} {dk : Array UInt8} (h : Be U m m dk) (j : Nat) (hj : j < (beL U m).length) : (beL U m)[j] = dk[j]! := by
  have hj' : j < m := by rw [beL_length] at hj; exact hj
  have := h.done (m - 1 - j) (by omega)
  rw [show m - 1 - (m - 1 - j) = j from by omega] at this
  rw [this]
  simp [beL]

theorem byte_shr (u t : Nat) : ((u : Int) / 2 ^ (8 * t) % 256) = (((u / 256 ^ t % 256).toUInt8.toNat : Nat) : Int) := by
  have e : (2 : Int) ^ (8 * t) = ((256 ^ t : Nat) : Int) := by
    rw [Int.pow_mul]; simp
  rw [e]
  have : (u / 256 ^ t % 256).toUInt8.toNat = u / 256 ^ t % 256 := by
    rw [Nat.toUInt8, UInt8.toNat_ofNat']; omega
  rw [this]; simp
theorem byte_of (v : Nat) : (((v % 256).toUInt8.toNat : Nat) : Int) = (v : Int) % 256 := by
  rw [Nat.toUInt8, UInt8.toNat_ofNat']; omega
theorem add_plain (b o j : Nat) : (⟨b, o, none⟩ : Addr).add j = ⟨b, o + j, none⟩ := by
  unfold Addr.add
  split
  · rename_i h; subst h; rfl
  · rfl
theorem below_putRow {α : Type} [Inhabited α] (enc : α → Value) {B : Nat} {w w1 : World} (h : RowKit.Below B w w1) {blk : Nat} (hb : B ≤ blk) (off : Nat) (d : Array α) : RowKit.Below B w (Sort.putRow enc w1 blk off d) :=
  h.trans ⟨rfl, rfl, rfl, by simp [Sort.putRow, Sort.mapBlock], fun k hk => by
    simp only [Sort.putRow, Sort.mapBlock, Array.getElem?_modify]
    rw [if_neg (by omega)]⟩

theorem madeM {w' : World} {base g m : Nat} {e : TypeId} (h : w'.ownsRow base e 1 (.slice (some ⟨g, 0, none⟩) m m) m (madeCells (Value.int .u8 0).cells (m * 1)).toList) :
    Sort.Holds (fun (b : UInt8) => Value.int .u8 (b.toNat : Int)) w' g 0 (Array.replicate m (0 : UInt8)) := by
  obtain ⟨_, ⟨h0, _⟩ | ⟨g', cap, cur, h0, hg, hh, h1, h2, h3, h4⟩⟩ := h
  · cases h0
  · cases h0
    intro j hj
    have hj' : j < m := by simpa using hj
    have e1 : (cur.toList.take (m * 1))[j]? = some (.int .u8 0) := by
      have e0 : (madeCells (Value.int .u8 0).cells (m * 1)).toList[j]? = some (.int .u8 0) := by
        simp [madeCells, Value.cells, hj', Nat.mod_one]
      rw [h4, e0]
    rw [List.getElem?_take, if_pos (by omega)] at e1
    refine ⟨?_, ?_⟩
    · simp only [World.cell?, hh, Nat.zero_add]
      rw [getElem!_pos _ j hj]
      simpa using e1
    · simp [World.frozen?, hh]

/-- The number that the first k bytes tell. -/
def nv (s : ByteArray) : Nat → Nat
  | 0 => 0
  | k + 1 => nv s k * 256 + cAt s k
theorem nv_lt (s : ByteArray) : ∀ k, nv s k < 256 ^ k
  | 0 => by simp [nv]
  | k + 1 => by have := nv_lt s k; have := cAt_lt s k; simp only [nv, Nat.pow_succ]; omega
theorem nv_lt64 (s : ByteArray) {k : Nat} (h : k ≤ 8) : nv s k < 18446744073709551616 :=
  Nat.lt_of_lt_of_le (nv_lt s k) (Nat.pow_le_pow_right (n := 256) (by omega) h)
theorem nv_lt56 (s : ByteArray) {k : Nat} (h : k < 8) : nv s k < 72057594037927936 :=
  Nat.lt_of_lt_of_le (nv_lt s k) (Nat.pow_le_pow_right (n := 256) (by omega) (by omega : k ≤ 7))
theorem or_byte (v d : Nat) (hv : v < 72057594037927936) (hd : d < 256) : bits BinOp.or IntKind.u64 ((v : Int) * 256) (d : Int) = ((v * 256 + d : Nat) : Int) := by
  have e := u64_or_nat (256 * v) d (by omega) (by omega)
  rw [nat_join 8 (256 * v) d (by omega) hd] at e
  rw [show ((v : Int) * 256) = ((256 * v : Nat) : Int) from by omega, e]
  omega

end Vl
end Go.Proofs.Ytaclkmhgbmencaa
