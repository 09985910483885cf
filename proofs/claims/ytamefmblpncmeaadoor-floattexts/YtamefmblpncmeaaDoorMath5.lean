/- Hexadecimal digits read: plain numbers. -/
import Derived.Test.YtamefmblpncmeaaDoorMath3
import Derived.Lib.ItoaWalk
import Derived.Lib.RepeatB
namespace Go.Proofs.YtamefmblpncmeaaDoor
namespace Fl

/-- The reference's digits. -/
def digs16 : ByteArray := ⟨#[48, 49, 50, 51, 52, 53, 54, 55, 56, 57, 97, 98, 99, 100, 101, 102]⟩
theorem digs16_at : ∀ i : Fin 16, digs16.data[i.val]! = hexd i.val := by decide +kernel
theorem idx_digs16 {P : Program} (t : TypeId) (ht : P.underlying t = some .string) (k : IntKind) (z : Int) (i : Nat) (hz : z = (i : Int)) (hi : i < 16) (w : World) :
    (Instr.index t (.string digs16) (.int k z)).run P w = .ok (.int .u8 ((hexd i).toNat : Int)) w := by
  subst hz
  rw [run_index_string w t digs16 k _ ht, dif_pos ⟨by omega, by show (i : Int) < 16; omega⟩]
  have e : ((i : Int)).toNat = i := by omega
  simp only [e]
  have h := digs16_at ⟨i, hi⟩
  simp only at h
  rw [← h, getElem!_pos digs16.data i (by show i < 16; exact hi)]
  rfl

open Go.Sort in
/-- Behind k digits: the last k of sixteen cells hold them. -/
structure Hex16 (U k : Nat) (dk : Array UInt8) : Prop where
  size : dk.size = 16
  done : ∀ t, t < k → dk[15 - t]! = hexd (U / 16 ^ t % 16)
theorem Hex16.start (U : Nat) : Hex16 U 0 (Array.replicate 16 0) := ⟨by simp, fun t h => absurd h (Nat.not_lt_zero t)⟩
theorem Hex16.step {U k : Nat} {dk : Array UInt8} (h : Hex16 U k dk) (hk : k < 16) : Hex16 U (k + 1) (dk.setIfInBounds (15 - k) (hexd (U / 16 ^ k % 16))) := by
  refine ⟨by rw [Array.size_setIfInBounds]; exact h.size, fun t ht => ?_⟩
  have hs := h.size
  rw [getElem!_pos _ _ (by rw [Array.size_setIfInBounds]; omega), Array.getElem_setIfInBounds]
  by_cases e : t = k
  · subst e; rw [if_pos rfl]
  · rw [if_neg (by omega)]
    have := h.done t (by omega)
    rw [getElem!_pos _ _ (by omega)] at this
    exact this
theorem Hex16.row {U : Nat} {dk : Array UInt8} (h : Hex16 U 16 dk) (j : Nat) (hj : j < (hexL U 16).length) : (hexL U 16)[j] = dk[j]! := by
  have hj' : j < 16 := by rw [hexL_length] at hj; exact hj
  have := h.done (15 - j) (by omega)
  rw [show 15 - (15 - j) = j from by omega] at this
  rw [this]
  simp [hexL]

theorem below_putRow {α : Type} [Inhabited α] (enc : α → Value) {B : Nat} {w w1 : World} (h : RowKit.Below B w w1) {blk : Nat} (hb : B ≤ blk) (off : Nat) (d : Array α) : RowKit.Below B w (Sort.putRow enc w1 blk off d) :=
  h.trans ⟨rfl, rfl, rfl, by simp [Sort.putRow, Sort.mapBlock], fun k hk => by
    simp only [Sort.putRow, Sort.mapBlock, Array.getElem?_modify]
    rw [if_neg (by omega)]⟩

theorem made16 {w' : World} {base g : Nat} {e : TypeId} (h : w'.ownsRow base e 1 (.slice (some ⟨g, 0, none⟩) 16 16) 16 (madeCells (Value.int .u8 0).cells (16 * 1)).toList) :
    Sort.Holds (fun (b : UInt8) => Value.int .u8 (b.toNat : Int)) w' g 0 (Array.replicate 16 (0 : UInt8)) := by
  obtain ⟨_, ⟨h0, _⟩ | ⟨g', cap, cur, h0, hg, hh, h1, h2, h3, h4⟩⟩ := h
  · cases h0
  · cases h0
    intro j hj
    have hj' : j < 16 := by simpa using hj
    have e1 : (cur.toList.take (16 * 1))[j]? = some (.int .u8 0) := by
      have e0 : (madeCells (Value.int .u8 0).cells (16 * 1)).toList = List.replicate 16 (.int .u8 0) := by kernel_rfl
      rw [h4, e0, List.getElem?_replicate, if_pos hj']
    rw [List.getElem?_take, if_pos (by omega)] at e1
    refine ⟨?_, ?_⟩
    · simp only [World.cell?, hh, Nat.zero_add]
      rw [getElem!_pos _ j hj]
      simpa using e1
    · simp [World.frozen?, hh]

/-- The byte at a place of a string. -/
def cAt (s : ByteArray) (k : Nat) : Nat := (s.data.toList.getD k 0).toNat
theorem cAt_lt (s : ByteArray) (k : Nat) : cAt s k < 256 := UInt8.toNat_lt _
theorem idx_str {P : Program} (t : TypeId) (ht : P.underlying t = some .string) (s : ByteArray) (k : Nat) (hk : k < s.size) (w : World) :
    (Instr.index t (.string s) (.int .i64 (k : Int))).run P w = .ok (.int .u8 (cAt s k : Int)) w := by
  rw [run_index_string w t s .i64 _ ht, dif_pos ⟨by omega, by omega⟩]
  have e : ((k : Int)).toNat = k := by omega
  simp only [e, cAt]
  rw [Lib.getD_at s k hk]

/-- Is it a digit, and which? -/
def hexB (c : Nat) : Bool := decide ((48 ≤ c ∧ c ≤ 57) ∨ (97 ≤ c ∧ c ≤ 102))
def hexD (c : Nat) : Nat := if 48 ≤ c ∧ c ≤ 57 then c - 48 else if 97 ≤ c ∧ c ≤ 102 then c - 87 else 0
theorem hex_low {c : Nat} (h1 : 48 ≤ c) (h2 : c ≤ 57) : ((hexD c : Nat) : Int) = (c : Int) - 48 ∧ hexB c = true := by
  unfold hexD hexB; rw [if_pos ⟨h1, h2⟩]; exact ⟨by omega, decide_eq_true (.inl ⟨h1, h2⟩)⟩
theorem hex_high {c : Nat} (h3 : 97 ≤ c) (h4 : c ≤ 102) : ((hexD c : Nat) : Int) = (c : Int) - 97 + 10 ∧ hexB c = true := by
  unfold hexD hexB; rw [if_neg (by omega), if_pos ⟨h3, h4⟩]; exact ⟨by omega, decide_eq_true (.inr ⟨h3, h4⟩)⟩
theorem hex_none {c : Nat} (h : ¬ ((48 ≤ c ∧ c ≤ 57) ∨ (97 ≤ c ∧ c ≤ 102))) : ((hexD c : Nat) : Int) = 0 ∧ hexB c = false := by
  unfold hexD hexB; rw [if_neg (by omega), if_neg (by omega)]; exact ⟨rfl, decide_eq_false h⟩
theorem hexD_lt (c : Nat) : hexD c < 16 := by unfold hexD; split <;> (try split) <;> omega
theorem hexd_hit : ∀ k : Fin 16, ∀ c : Fin 256, ((hexd k.val).toNat == c.val) = (hexB c.val && hexD c.val == k.val) := by decide +kernel

/-- Which of the first j digits it is, -1 of none. -/
def dAt (c j : Nat) : Int := if hexB c = true ∧ hexD c < j then (hexD c : Int) else -1
theorem dAt_zero (c : Nat) : dAt c 0 = -1 := by unfold dAt; rw [if_neg (by omega)]
theorem dAt_hit {c j : Nat} (hc : c < 256) (hj : j < 16) (h : (((hexd j).toNat : Int) == (c : Int)) = true) : dAt c (j + 1) = (j : Int) := by
  have e := hexd_hit ⟨j, hj⟩ ⟨c, hc⟩
  have h' : ((hexd j).toNat == c) = true := by simp at h ⊢; omega
  simp only at e
  rw [h'] at e
  have e' : hexB c = true ∧ hexD c = j := by simpa using e.symm
  unfold dAt; rw [if_pos ⟨e'.1, by omega⟩, e'.2]
theorem dAt_miss {c j : Nat} (hc : c < 256) (hj : j < 16) (h : (((hexd j).toNat : Int) == (c : Int)) = false) : dAt c (j + 1) = dAt c j := by
  have e := hexd_hit ⟨j, hj⟩ ⟨c, hc⟩
  have h' : ((hexd j).toNat == c) = false := by simp at h ⊢; omega
  simp only at e
  rw [h'] at e
  have e' : ¬ (hexB c = true ∧ hexD c = j) := by intro hh; simp [hh.1, hh.2] at e
  unfold dAt
  by_cases hh : hexB c = true ∧ hexD c < j
  · rw [if_pos hh, if_pos ⟨hh.1, by omega⟩]
  · rw [if_neg hh, if_neg (by intro hx; apply hh; exact ⟨hx.1, by have := hx.2; rcases Nat.lt_or_ge (hexD c) j with a | a; exact a; exact absurd ⟨hx.1, by omega⟩ e'⟩)]
theorem dAt_end (c : Nat) : dAt c 16 = if hexB c = true then (hexD c : Int) else -1 := by
  have := hexD_lt c
  unfold dAt; by_cases h : hexB c = true
  · rw [if_pos ⟨h, this⟩, if_pos h]
  · rw [if_neg (fun x => h x.1), if_neg h]

/-- The number of the first k digits, and whether all are digits. -/
def pv (s : ByteArray) : Nat → Nat
  | 0 => 0
  | k + 1 => 16 * pv s k + hexD (cAt s k)
def allB (s : ByteArray) : Nat → Bool
  | 0 => true
  | k + 1 => allB s k && hexB (cAt s k)
theorem pv_lt (s : ByteArray) : ∀ k, pv s k < 16 ^ k
  | 0 => by simp [pv]
  | k + 1 => by have := pv_lt s k; have := hexD_lt (cAt s k); simp only [pv, Nat.pow_succ]; omega
theorem pv_lt64 (s : ByteArray) {k : Nat} (h : k ≤ 16) : pv s k < 18446744073709551616 :=
  Nat.lt_of_lt_of_le (pv_lt s k) (Nat.pow_le_pow_right (n := 16) (by omega) h)
theorem pv_lt60 (s : ByteArray) {k : Nat} (h : k < 16) : pv s k < 1152921504606846976 :=
  Nat.lt_of_lt_of_le (pv_lt s k) (Nat.pow_le_pow_right (n := 16) (by omega) (by omega : k ≤ 15))
theorem allB_false (s : ByteArray) {k n : Nat} (hk : k < n) (h : hexB (cAt s k) = false) : allB s n = false := by
  induction n with
  | zero => omega
  | succ n ih =>
    by_cases e : k = n
    · subst e; simp [allB, h]
    · simp [allB, ih (by omega)]

/-- What Parse comes to. -/
def parseB (s : ByteArray) : Bool := decide (s.size = 16) && allB s 16 && isB (pv s 16)
def parseF (s : ByteArray) : Nat := if parseB s then pv s 16 else 0

theorem parse_end (s : ByteArray) (hs : s.size = 16) (ha : allB s 16 = true) : (.tuple #[.float .f64 (parseF s), .bool (parseB s)] : Value) = .tuple #[.float .f64 (gotN (pv s 16)), .bool (isB (pv s 16))] := by
  have hb : parseB s = isB (pv s 16) := by unfold parseB; rw [ha, decide_eq_true hs]; simp
  unfold parseF gotN; rw [hb]

theorem or_digit (v d : Nat) (hv : v < 1152921504606846976) (hd : d < 16) : bits BinOp.or IntKind.u64 ((v : Int) * 16) (d : Int) = ((16 * v + d : Nat) : Int) := by
  have e := u64_or_nat (16 * v) d (by omega) (by omega)
  rw [nat_join 4 (16 * v) d (by omega) hd] at e
  rw [show ((v : Int) * 16) = ((16 * v : Nat) : Int) from by omega]
  exact e

theorem repeat_zeros (c : Nat) : Lib.repeatL [48] c = List.replicate c 48 := by
  induction c with
  | zero => rfl
  | succ c ih => simp [Lib.repeatL, ih, List.replicate_succ]
theorem text_join (U n : Nat) (hn : n ≤ 16) (hU : U < 16 ^ n) : (⟨(Lib.repeatL [48] (16 - n)).toArray⟩ : ByteArray) ++ ⟨(hexL U n).toArray⟩ = ⟨(hexL U 16).toArray⟩ := by
  rw [← hexL_pad U n hn hU, repeat_zeros]
  apply ByteArray.ext
  simp

/-- Parse of Text. -/
theorem hexB_hexd : ∀ d : Fin 16, hexB (hexd d.val).toNat = true ∧ hexD (hexd d.val).toNat = d.val := by decide +kernel
theorem text_at (U k : Nat) (hk : k < 16) : cAt ⟨(hexL U 16).toArray⟩ k = (hexd (U / 16 ^ (15 - k) % 16)).toNat := by
  simp [cAt, hexL, hk]
theorem text_allB (U : Nat) : ∀ k, k ≤ 16 → allB ⟨(hexL U 16).toArray⟩ k = true
  | 0, _ => rfl
  | k + 1, h => by
    rw [allB, text_allB U k (by omega), text_at U k (by omega), (hexB_hexd ⟨U / 16 ^ (15 - k) % 16, Nat.mod_lt _ (by omega)⟩).1]; rfl
theorem text_pv (U : Nat) (hU : U < 16 ^ 16) : ∀ k, k ≤ 16 → pv ⟨(hexL U 16).toArray⟩ k = U / 16 ^ (16 - k)
  | 0, _ => by rw [pv, Nat.div_eq_of_lt hU]
  | k + 1, h => by
    rw [pv, text_pv U hU k (by omega), text_at U k (by omega), (hexB_hexd ⟨U / 16 ^ (15 - k) % 16, Nat.mod_lt _ (by omega)⟩).2]
    have e := div_pow_succ U (15 - k)
    rw [show 15 - k + 1 = 16 - k from by omega] at e
    rw [e, show 16 - (k + 1) = 15 - k from by omega]
    simp only []
    omega
theorem parse_text {x : Nat} (hx : x < 18446744073709551616) : parseB ⟨(textN x).toArray⟩ = true ∧ parseF ⟨(textN x).toArray⟩ = canonN x := by
  have hc := canonN_lt hx
  have hp := text_pv (canonN x) (show canonN x < 16 ^ 16 from hc) 16 (by omega)
  rw [show 16 - 16 = 0 from rfl, Nat.pow_zero, Nat.div_one] at hp
  have hb : parseB ⟨(textN x).toArray⟩ = true := by
    have hs : (⟨(textN x).toArray⟩ : ByteArray).size = 16 := by
      show (textN x).toArray.size = 16
      simp [textN, hexL_length]
    unfold parseB
    rw [hs]
    unfold textN
    rw [text_allB _ 16 (by omega), hp, isB_canon]; rfl
  refine ⟨hb, ?_⟩
  unfold parseF; rw [hb]; exact hp

end Fl
end Go.Proofs.YtamefmblpncmeaaDoor
