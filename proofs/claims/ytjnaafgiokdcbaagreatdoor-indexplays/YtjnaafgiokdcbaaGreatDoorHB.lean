/- Values as plain data: their order, which are good. -/
import Derived.Test.YtjnaafgiokdcbaaGreatDoorHA
import Derived.WalkKit
import Derived.Lib.Bytealg
import Derived.Lib.Walk
import Derived.Sort.Row
import Derived.Sort.Grow
import Derived.Laws.BitsAllLaws
import Derived.Lib.ReplaceLaws

namespace Go.Proofs.YtjnaafgiokdcbaaGreatDoor
open Go.RowKit
namespace Vl

/-- A value's four fields. -/
structure V where
  k : Int
  n : Int
  f : Nat
  s : ByteArray

/-- As a value, and as cells. -/
def V.cs (v : V) : Array Value := #[.int .i64 v.k, .int .i64 v.n, .float .f64 v.f, .string v.s]

def cmpZ (x y : Int) : Int := if x < y then -1 else if y < x then 1 else 0
def cmpS (a b : ByteArray) : Int := Lib.compareBytes a.data.toList b.data.toList

/-- By Kind, N, F, S. -/
def cmpV (a b : V) : Int :=
  if cmpZ a.k b.k != 0 then cmpZ a.k b.k else if cmpZ a.n b.n != 0 then cmpZ a.n b.n else if Fl.cmpI a.f b.f != 0 then Fl.cmpI a.f b.f else cmpS a.s b.s

theorem hid {p : Prop} (h : p) : Hid p := h
theorem bcell {W w1 : World} (hb : Below W.heap.size W w1) : (∀ b o, b < W.heap.size → w1.cell? ⟨b, o, none⟩ = W.cell? ⟨b, o, none⟩) ∧ (∀ b o, b < W.heap.size → w1.frozen? ⟨b, o, none⟩ = W.frozen? ⟨b, o, none⟩) :=
  ⟨fun b o h => hb.cell (p := ⟨b, o, none⟩) h, fun b o h => hb.frozen (p := ⟨b, o, none⟩) h⟩
theorem bal {w w1 : World} (h : Below w.heap.size w w1) (o : Obj) : Below w.heap.size w (w1.alloc o) := h.alloc h.size o
theorem btr {w w1 w2 : World} (h : Below w.heap.size w w1) (h2 : Below w1.heap.size w1 w2) : Below w.heap.size w w2 := h.trans (h2.mono h.size)
/-- The order of strings, by Go's operators. -/
theorem lss_cmp : ∀ a b : List UInt8, Op.bytesLess a b = decide (Lib.compareBytes a b < 0)
  | [], [] => by decide
  | [], _ :: _ => by simp [Op.bytesLess, Lib.compareBytes]
  | _ :: _, [] => by simp [Op.bytesLess, Lib.compareBytes]
  | a :: x, b :: y => by
    have ih := lss_cmp x y
    unfold Op.bytesLess Lib.compareBytes
    by_cases h1 : a < b
    · simp [h1]
    · by_cases h2 : b < a
      · have h3 : ¬ a = b := fun e => by subst e; exact h1 h2
        simp [h1, h2, h3]
      · have h3 : a = b := UInt8.le_antisymm (UInt8.not_lt.1 h2) (UInt8.not_lt.1 h1)
        simp [h3, ih]
theorem eql_cmp : ∀ a b : List UInt8, Lib.compareBytes a b = 0 ↔ a = b
  | [], [] => by simp [Lib.compareBytes]
  | [], _ :: _ => by simp [Lib.compareBytes]
  | _ :: _, [] => by simp [Lib.compareBytes]
  | a :: x, b :: y => by
    have ih := eql_cmp x y
    unfold Lib.compareBytes
    by_cases h1 : a < b
    · have h3 : ¬ a = b := fun e => by subst e; exact UInt8.lt_irrefl _ h1
      simp [h1, h3]
    · by_cases h2 : b < a
      · have h3 : ¬ a = b := fun e => by subst e; exact h1 h2
        simp [h1, h2, h3]
      · have h3 : a = b := UInt8.le_antisymm (UInt8.not_lt.1 h2) (UInt8.not_lt.1 h1)
        simp [h3, ih]
theorem cmp_bd : ∀ a b : List UInt8, Lib.compareBytes a b = -1 ∨ Lib.compareBytes a b = 0 ∨ Lib.compareBytes a b = 1
  | [], [] => by simp [Lib.compareBytes]
  | [], _ :: _ => by simp [Lib.compareBytes]
  | _ :: _, [] => by simp [Lib.compareBytes]
  | a :: x, b :: y => by
    have ih := cmp_bd x y
    unfold Lib.compareBytes
    by_cases h1 : a < b
    · simp [h1]
    · by_cases h2 : b < a
      · simp [h1, h2]
      · simp [h1, h2, ih]
theorem cmp_flip : ∀ a b : List UInt8, Lib.compareBytes b a = -Lib.compareBytes a b
  | [], [] => by simp [Lib.compareBytes]
  | [], _ :: _ => by simp [Lib.compareBytes]
  | _ :: _, [] => by simp [Lib.compareBytes]
  | a :: x, b :: y => by
    have ih := cmp_flip x y
    unfold Lib.compareBytes
    by_cases h1 : a < b
    · have h2 : ¬ b < a := fun h => UInt8.lt_asymm h h1
      simp [h1, h2]
    · by_cases h2 : b < a
      · simp [h1, h2]
      · simp [h1, h2, ih]

/-- Go's operators on strings, in one number's terms. -/
theorem str_lss (a b : ByteArray) : Op.bytesLess a.toList b.toList = decide (cmpS a b < 0) := by
  rw [Lib.toList_data, Lib.toList_data, lss_cmp]; rfl
theorem str_eql (a b : ByteArray) : (a.toList == b.toList) = decide (cmpS a b = 0) := by
  rw [Lib.toList_data, Lib.toList_data, Bool.eq_iff_iff, beq_iff_eq, decide_eq_true_iff, ← eql_cmp]; rfl
theorem cmpS_bd (a b : ByteArray) : cmpS a b = -1 ∨ cmpS a b = 0 ∨ cmpS a b = 1 := cmp_bd _ _
theorem cmpS_flip (a b : ByteArray) : cmpS b a = -cmpS a b := cmp_flip _ _
theorem cmpS_eq (a b : ByteArray) : cmpS a b = 0 ↔ a = b := by
  unfold cmpS; rw [eql_cmp]
  constructor
  · intro h; cases a; cases b; simp at h; rw [h]
  · intro h; rw [h]
theorem cmpZ_bd (a b : Int) : cmpZ a b = -1 ∨ cmpZ a b = 0 ∨ cmpZ a b = 1 := by unfold cmpZ; split <;> (try split) <;> simp
theorem cmpZ_flip (a b : Int) : cmpZ b a = -cmpZ a b := by unfold cmpZ; split <;> split <;> first | omega | (split <;> omega) | rfl

theorem getD_at (s : ByteArray) (i : Nat) (hi : i < s.size) : s[i] = s.data.toList.getD i 0 := by
  show s.data[i] = _
  rw [List.getD_eq_getElem?_getD, List.getElem?_eq_getElem (by simpa using hi)]
  simp
theorem cmpZ_lt {a b : Int} (h : a < b) : cmpZ a b = -1 := by unfold cmpZ; rw [if_pos h]
theorem cmpZ_gt {a b : Int} (h : b < a) : cmpZ a b = 1 := by unfold cmpZ; rw [if_neg (by omega), if_pos h]
theorem cmpZ_eq {a b : Int} (h : a = b) : cmpZ a b = 0 := by unfold cmpZ; rw [if_neg (by omega), if_neg (by omega)]
theorem cmpV_k1 {a b : V} (h : a.k < b.k) : cmpV a b = -1 := by unfold cmpV; rw [cmpZ_lt h]; rfl
theorem cmpV_k2 {a b : V} (h : b.k < a.k) : cmpV a b = 1 := by unfold cmpV; rw [cmpZ_gt h]; rfl
theorem cmpV_n1 {a b : V} (e : a.k = b.k) (h : a.n < b.n) : cmpV a b = -1 := by unfold cmpV; rw [cmpZ_eq e, cmpZ_lt h]; rfl
theorem cmpV_n2 {a b : V} (e : a.k = b.k) (h : b.n < a.n) : cmpV a b = 1 := by unfold cmpV; rw [cmpZ_eq e, cmpZ_gt h]; rfl
theorem cmpV_f {a b : V} (e : a.k = b.k) (e2 : a.n = b.n) (h : (Fl.cmpI a.f b.f != 0) = true) : cmpV a b = Fl.cmpI a.f b.f := by unfold cmpV; rw [cmpZ_eq e, cmpZ_eq e2, if_neg (by decide), if_neg (by decide), if_pos h]
theorem cmpV_s {a b : V} (e : a.k = b.k) (e2 : a.n = b.n) (h : (Fl.cmpI a.f b.f != 0) = false) : cmpV a b = cmpS a.s b.s := by unfold cmpV; rw [cmpZ_eq e, cmpZ_eq e2, if_neg (by decide), if_neg (by decide), if_neg (by rw [h]; decide)]
/-- The byte at a place of a string. -/
def cAt (s : ByteArray) (k : Nat) : Nat := (s.data.toList.getD k 0).toNat
theorem cAt_lt (s : ByteArray) (k : Nat) : cAt s k < 256 := UInt8.toNat_lt _
theorem idx_str {P : Program} (t : TypeId) (ht : P.underlying t = some .string) (s : ByteArray) (k : Nat) (hk : k < s.size) (w : World) :
    (Instr.index t (.string s) (.int .i64 (k : Int))).run P w = .ok (.int .u8 (cAt s k : Int)) w := by
  rw [run_index_string w t s .i64 _ ht, dif_pos ⟨by omega, by omega⟩]
  have e : ((k : Int)).toNat = k := by omega
  simp only [e, cAt]
  rw [getD_at s k hk]

/-- Names. -/
def letB (c : Nat) : Bool := decide (97 ≤ c) && decide (c ≤ 122)
def digB (c : Nat) : Bool := decide (48 ≤ c) && decide (c ≤ 57)
def okB (c : Nat) : Bool := letB c || digB c || c == 95
def allOk (s : ByteArray) : Nat → Bool
  | 0 => true
  | k + 1 => allOk s k && okB (cAt s k)
def nameB (s : ByteArray) : Bool := decide (1 ≤ s.size) && decide (s.size ≤ 8) && letB (cAt s 0) && allOk s s.size
theorem allOk_false (s : ByteArray) {k : Nat} (h : okB (cAt s k) = false) : ∀ {n : Nat}, k < n → allOk s n = false
  | 0, h0 => absurd h0 (Nat.not_lt_zero _)
  | n + 1, h0 => by
    unfold allOk
    by_cases e : k = n
    · subst e; rw [h, Bool.and_false]
    · rw [allOk_false s h (by omega : k < n), Bool.false_and]

theorem ref_step {s : ByteArray} {k c : Nat} (HA : Hid (allOk s k = true ∧ (0 < k → letB (cAt s 0) = true))) (hc : c = cAt s k) (h : letB c = true ∨ (0 < k ∧ okB c = true)) :
    Hid (allOk s (k + 1) = true ∧ (0 < k + 1 → letB (cAt s 0) = true)) := by
  subst hc
  have ho : okB (cAt s k) = true := by
    rcases h with h | h
    · unfold okB; rw [h]; rfl
    · exact h.2
  refine ⟨by unfold allOk; rw [HA.out.1, ho]; rfl, fun _ => ?_⟩
  by_cases h0 : 0 < k
  · exact HA.out.2 h0
  · obtain rfl : k = 0 := by omega
    rcases h with h | h
    · exact h
    · exact absurd h.1 h0
theorem ref_stop {s : ByteArray} {k c : Nat} (hc : c = cAt s k) (hlt : k < s.size) (hl : letB c = false) (h : k = 0 ∨ okB c = false) : nameB s = false := by
  subst hc
  rcases h with h | h
  · subst h; unfold nameB; rw [hl]; simp
  · unfold nameB; rw [allOk_false s h hlt]; simp

end Vl

end Go.Proofs.YtjnaafgiokdcbaaGreatDoor

/- Whole numbers as bytes, the highest first: plain. -/
namespace Go.Proofs.YtjnaafgiokdcbaaGreatDoor
namespace Vl

/-- The lowest m bytes of u, the highest first. -/
def beL (u m : Nat) : List UInt8 := (List.range m).map fun j => (u / 256 ^ (m - 1 - j) % 256).toUInt8
theorem beL_length (u m : Nat) : (beL u m).length = m := by simp [beL]

/-- Behind k rounds: the last k of m cells hold them. -/
structure Be (U m k : Nat) (dk : Array UInt8) : Prop where
  size : dk.size = m
  done : ∀ t, t < k → dk[m - 1 - t]! = (U / 256 ^ t % 256).toUInt8
theorem Be.start (U m : Nat) : Be U m 0 (Array.replicate m 0) := ⟨by simp, fun t h => absurd h (Nat.not_lt_zero t)⟩
theorem Be.step {U m k : Nat} {dk : Array UInt8} (h : Be U m k dk) (hk : k < m) : Be U m (k + 1) (dk.setIfInBounds (m - 1 - k) (U / 256 ^ k % 256).toUInt8) := by
  refine ⟨by rw [Array.size_setIfInBounds]; exact h.size, fun t ht => ?_⟩
  have hs := h.size
  rw [getElem!_pos _ _ (by rw [Array.size_setIfInBounds]; omega), Array.getElem_setIfInBounds]
  by_cases e : t = k
  · subst e; rw [if_pos rfl]
  · rw [if_neg (by omega)]
    have := h.done t (by omega)
    rw [getElem!_pos _ _ (by omega)] at this
    exact this
theorem Be.row {U m : Nat} {dk : Array UInt8} (h : Be U m m dk) (j : Nat) (hj : j < (beL U m).length) : (beL U m)[j] = dk[j]! := by
  have hj' : j < m := by rw [beL_length] at hj; exact hj
  have := h.done (m - 1 - j) (by omega)
  rw [show m - 1 - (m - 1 - j) = j from by omega] at this
  rw [this]
  simp [beL]

theorem byte_shr (u t : Nat) : ((u : Int) / 2 ^ (8 * t) % 256) = (((u / 256 ^ t % 256).toUInt8.toNat : Nat) : Int) := by
  have e : (2 : Int) ^ (8 * t) = ((256 ^ t : Nat) : Int) := by
    rw [Int.pow_mul]; simp
  rw [e]
  have : (u / 256 ^ t % 256).toUInt8.toNat = u / 256 ^ t % 256 := by
    rw [Nat.toUInt8, UInt8.toNat_ofNat']; omega
  rw [this]; simp
theorem byte_of (v : Nat) : (((v % 256).toUInt8.toNat : Nat) : Int) = (v : Int) % 256 := by
  rw [Nat.toUInt8, UInt8.toNat_ofNat']; omega
theorem add_plain (b o j : Nat) : (⟨b, o, none⟩ : Addr).add j = ⟨b, o + j, none⟩ := by
  unfold Addr.add
  split
  · rename_i h; subst h; rfl
  · rfl
theorem below_putRow {α : Type} [Inhabited α] (enc : α → Value) {B : Nat} {w w1 : World} (h : RowKit.Below B w w1) {blk : Nat} (hb : B ≤ blk) (off : Nat) (d : Array α) : RowKit.Below B w (Sort.putRow enc w1 blk off d) :=
  h.trans ⟨rfl, rfl, rfl, by simp [Sort.putRow, Sort.mapBlock], fun k hk => by
    simp only [Sort.putRow, Sort.mapBlock, Array.getElem?_modify]
    rw [if_neg (by omega)]⟩

theorem madeM {w' : World} {base g m : Nat} {e : TypeId} (h : w'.ownsRow base e 1 (.slice (some ⟨g, 0, none⟩) m m) m (madeCells (Value.int .u8 0).cells (m * 1)).toList) :
    Sort.Holds (fun (b : UInt8) => Value.int .u8 (b.toNat : Int)) w' g 0 (Array.replicate m (0 : UInt8)) := by
  obtain ⟨_, ⟨h0, _⟩ | ⟨g', cap, cur, h0, hg, hh, h1, h2, h3, h4⟩⟩ := h
  · cases h0
  · cases h0
    intro j hj
    have hj' : j < m := by simpa using hj
    have e1 : (cur.toList.take (m * 1))[j]? = some (.int .u8 0) := by
      have e0 : (madeCells (Value.int .u8 0).cells (m * 1)).toList[j]? = some (.int .u8 0) := by
        simp [madeCells, Value.cells, hj', Nat.mod_one]
      rw [h4, e0]
    rw [List.getElem?_take, if_pos (by omega)] at e1
    refine ⟨?_, ?_⟩
    · simp only [World.cell?, hh, Nat.zero_add]
      rw [getElem!_pos _ j hj]
      simpa using e1
    · simp [World.frozen?, hh]

/-- The number that the first k bytes tell. -/
def nv (s : ByteArray) : Nat → Nat
  | 0 => 0
  | k + 1 => nv s k * 256 + cAt s k
theorem nv_lt (s : ByteArray) : ∀ k, nv s k < 256 ^ k
  | 0 => by simp [nv]
  | k + 1 => by have := nv_lt s k; have := cAt_lt s k; simp only [nv, Nat.pow_succ]; omega
theorem nv_lt64 (s : ByteArray) {k : Nat} (h : k ≤ 8) : nv s k < 18446744073709551616 :=
  Nat.lt_of_lt_of_le (nv_lt s k) (Nat.pow_le_pow_right (n := 256) (by omega) h)
theorem nv_lt56 (s : ByteArray) {k : Nat} (h : k < 8) : nv s k < 72057594037927936 :=
  Nat.lt_of_lt_of_le (nv_lt s k) (Nat.pow_le_pow_right (n := 256) (by omega) (by omega : k ≤ 7))
theorem or_byte (v d : Nat) (hv : v < 72057594037927936) (hd : d < 256) : bits BinOp.or IntKind.u64 ((v : Int) * 256) (d : Int) = ((v * 256 + d : Nat) : Int) := by
  have e := u64_or_nat (256 * v) d (by omega) (by omega)
  rw [nat_join 8 (256 * v) d (by omega) hd] at e
  rw [show ((v : Int) * 256) = ((256 * v : Nat) : Int) from by omega, e]
  omega

end Vl

end Go.Proofs.YtjnaafgiokdcbaaGreatDoor

/- Keys as lists of bytes: plain. -/
namespace Go.Proofs.YtjnaafgiokdcbaaGreatDoor
namespace Ky
open Vl

/-- A text in which no 00 is taken for its end. -/
def esc : List UInt8 → List UInt8
  | [] => []
  | c :: l => if c = 0 then 0 :: 255 :: esc l else c :: esc l
/-- 00 ff is 00. -/
def unesc : List UInt8 → List UInt8
  | [] => []
  | [c] => [c]
  | c :: d :: l => if c = 0 ∧ d = 255 then 0 :: unesc l else c :: unesc (d :: l)
theorem esc_nz {c : UInt8} (h : c ≠ 0) (l : List UInt8) : esc (c :: l) = c :: esc l := by rw [esc, if_neg h]
theorem esc_z (l : List UInt8) : esc (0 :: l) = 0 :: 255 :: esc l := by rw [esc, if_pos rfl]
theorem unesc_nz {c : UInt8} (h : c ≠ 0) : ∀ l : List UInt8, unesc (c :: l) = c :: unesc l
  | [] => by rw [unesc, unesc]
  | d :: l => by rw [unesc, if_neg (fun e => h e.1)]
theorem unesc_esc : ∀ l : List UInt8, unesc (esc l) = l
  | [] => by rw [esc, unesc]
  | c :: l => by
    by_cases h : c = 0
    · subst h; rw [esc_z, unesc, if_pos ⟨rfl, rfl⟩, unesc_esc l]
    · rw [esc_nz h, unesc_nz h, unesc_esc l]
theorem esc_len : ∀ l : List UInt8, l.length ≤ (esc l).length ∧ (esc l).length ≤ 2 * l.length
  | [] => by simp [esc]
  | c :: l => by
    have := esc_len l
    by_cases h : c = 0
    · subst h; rw [esc_z]; simp; omega
    · rw [esc_nz h]; simp; omega
theorem unesc_len : ∀ l : List UInt8, (unesc l).length ≤ l.length
  | [] => by rw [unesc]; exact Nat.le_refl _
  | [c] => by rw [unesc]; exact Nat.le_refl _
  | c :: d :: l => by
    have h1 := unesc_len l
    have h2 := unesc_len (d :: l)
    rw [unesc]
    split
    · simp; omega
    · simp at *; omega
theorem esc_append : ∀ a b : List UInt8, esc (a ++ b) = esc a ++ esc b
  | [], b => by simp [esc]
  | c :: a, b => by
    by_cases h : c = 0
    · subst h; rw [List.cons_append, esc_z, esc_z, esc_append a b]; rfl
    · rw [List.cons_append, esc_nz h, esc_nz h, esc_append a b]; rfl

/-! The library's ReplaceAll. -/
theorem rep_hit {old new l : List UInt8} (ho : old ≠ []) (h : old.isPrefixOf l = true) :
    Lib.replaceK old new (Lib.count l old) l = new ++ Lib.replaceK old new (Lib.count (l.drop old.length) old) (l.drop old.length) := by
  have hi : Lib.index l old = (0 : Nat) := Lib.index_first (i := 0) (Nat.zero_le _) (by simpa [Lib.occAt] using h) (fun j hj => absurd hj (Nat.not_lt_zero _))
  rw [Lib.count_hit ho hi, Nat.zero_add, Nat.add_comm, Lib.replaceK_hit old new _ l 0 hi]
  simp
theorem rep_miss {old new : List UInt8} {c : UInt8} {l : List UInt8} (ho : old ≠ []) (h : old.isPrefixOf (c :: l) = false) :
    Lib.replaceK old new (Lib.count (c :: l) old) (c :: l) = c :: Lib.replaceK old new (Lib.count l old) l := by
  by_cases hm : Lib.index l old = -1
  · have hm2 : Lib.index (c :: l) old = -1 := by unfold Lib.index; rw [h, hm]; rfl
    rw [Lib.count_miss hm, Lib.count_miss hm2]; rfl
  · have hge := Lib.index_ge l old
    obtain ⟨i, hi⟩ : ∃ i : Nat, Lib.index l old = i := ⟨(Lib.index l old).toNat, by omega⟩
    have hi2 : Lib.index (c :: l) old = ((i + 1 : Nat) : Int) := by
      unfold Lib.index
      rw [h, hi, if_neg (by simp), if_neg (by rw [beq_iff_eq]; omega)]
      omega
    have ed : (c :: l).drop (i + 1 + old.length) = l.drop (i + old.length) := by
      rw [show i + 1 + old.length = (i + old.length) + 1 by omega]; rfl
    rw [Lib.count_hit ho hi, Lib.count_hit ho hi2, Nat.add_comm 1, Nat.add_comm 1, Lib.replaceK_hit old new _ l i hi, Lib.replaceK_hit old new _ (c :: l) (i + 1) hi2, ed]
    simp
theorem rep_nil {old new : List UInt8} (ho : old ≠ []) : Lib.replaceK old new (Lib.count [] old) [] = [] := by
  have hm : Lib.index [] old = -1 := by
    unfold Lib.index
    cases old with
    | nil => exact absurd rfl ho
    | cons a b => rfl
  rw [Lib.count_miss hm]; rfl
theorem rep_all {s old new : List UInt8} (h : (old == new) = false) : Lib.replaceAll s old new = Lib.replaceK old new (Lib.count s old) s := by
  unfold Lib.replaceAll Lib.replace Lib.replaceNum
  rw [if_neg (by rw [h]; exact Bool.false_ne_true), if_pos (Or.inl (by omega))]
theorem rep_esc_go : ∀ l : List UInt8, Lib.replaceK [0] [0, 255] (Lib.count l [0]) l = esc l
  | [] => by rw [rep_nil (by simp)]; rfl
  | c :: l => by
    by_cases h : c = 0
    · subst h
      rw [rep_hit (by simp) (by simp [List.isPrefixOf]), esc_z]
      show _ ++ Lib.replaceK _ _ (Lib.count l [0]) l = _
      rw [rep_esc_go l]; rfl
    · rw [rep_miss (by simp) (by simp [List.isPrefixOf]; exact fun e => h e.symm), rep_esc_go l, esc_nz h]
theorem rep_esc (l : List UInt8) : Lib.replaceAll l [0] [0, 255] = esc l := by
  rw [rep_all (by decide), rep_esc_go]
theorem rep_unesc_go : ∀ l : List UInt8, Lib.replaceK [0, 255] [0] (Lib.count l [0, 255]) l = unesc l
  | [] => by rw [rep_nil (by simp)]; rw [unesc]
  | [c] => by rw [rep_miss (by simp) (by simp [List.isPrefixOf]), rep_nil (by simp)]; rw [unesc]
  | c :: d :: l => by
    by_cases h : c = 0 ∧ d = 255
    · obtain ⟨rfl, rfl⟩ := h
      rw [rep_hit (by simp) (by simp [List.isPrefixOf])]
      show _ ++ Lib.replaceK _ _ (Lib.count l [0, 255]) l = _
      rw [rep_unesc_go l, unesc, if_pos ⟨rfl, rfl⟩]; rfl
    · rw [rep_miss (by simp) (by simp [List.isPrefixOf]; intro e1 e2; exact h ⟨e1.symm, e2.symm⟩), rep_unesc_go (d :: l), unesc, if_neg h]
theorem rep_unesc (l : List UInt8) : Lib.replaceAll l [0, 255] [0] = unesc l := by
  rw [rep_all (by decide), rep_unesc_go]
theorem count_le_len {old : List UInt8} (ho : old ≠ []) : ∀ (n : Nat) (l : List UInt8), l.length ≤ n → Lib.count l old ≤ l.length
  | n, l, hn => by
    by_cases hm : Lib.index l old = -1
    · rw [Lib.count_miss hm]; omega
    · have hge := Lib.index_ge l old
      obtain ⟨i, hi⟩ : ∃ i : Nat, Lib.index l old = i := ⟨(Lib.index l old).toNat, by omega⟩
      have hr := Lib.index_room l old (by omega)
      rw [hi] at hr
      have hp : 0 < old.length := List.length_pos_iff.2 ho
      rw [Lib.count_hit ho hi]
      match n, hn with
      | 0, hn => omega
      | n + 1, hn =>
        have ih := count_le_len ho n (l.drop (i + old.length)) (by rw [List.length_drop]; omega)
        rw [List.length_drop] at ih
        omega

/-! The order of bytes. -/
theorem cmp_self (l : List UInt8) : Lib.compareBytes l l = 0 := (eql_cmp l l).2 rfl
theorem cmp_cons (c d : UInt8) (x y : List UInt8) : Lib.compareBytes (c :: x) (d :: y) = if c < d then -1 else if d < c then 1 else Lib.compareBytes x y := by rw [Lib.compareBytes]
theorem cmp_same (c : UInt8) (x y : List UInt8) : Lib.compareBytes (c :: x) (c :: y) = Lib.compareBytes x y := by
  rw [cmp_cons, if_neg (UInt8.lt_irrefl c), if_neg (UInt8.lt_irrefl c)]
theorem cmp_front (l x y : List UInt8) : Lib.compareBytes (l ++ x) (l ++ y) = Lib.compareBytes x y := by
  induction l with
  | nil => rfl
  | cons c l ih => rw [List.cons_append, List.cons_append, cmp_same, ih]
theorem cmp_len : ∀ (a b x y : List UInt8), a.length = b.length → Lib.compareBytes (a ++ x) (b ++ y) = if Lib.compareBytes a b = 0 then Lib.compareBytes x y else Lib.compareBytes a b
  | [], [], x, y, _ => by simp [Lib.compareBytes]
  | [], _ :: _, _, _, h => by simp at h
  | _ :: _, [], _, _, h => by simp at h
  | c :: a, d :: b, x, y, h => by
    have ih := cmp_len a b x y (by simpa using h)
    rw [List.cons_append, List.cons_append, cmp_cons, cmp_cons, ih]
    split
    · simp
    · split <;> simp
theorem cmp_esc : ∀ (a b x y : List UInt8), Lib.compareBytes (esc a ++ (0 :: 1 :: x)) (esc b ++ (0 :: 1 :: y)) = if Lib.compareBytes a b = 0 then Lib.compareBytes x y else Lib.compareBytes a b
  | [], [], x, y => by
    rw [esc, List.nil_append, List.nil_append, cmp_same, cmp_same]; simp [Lib.compareBytes]
  | [], d :: b, x, y => by
    by_cases h : d = 0
    · subst h; rw [esc, esc_z, List.nil_append, List.cons_append, cmp_same, List.cons_append, cmp_cons]; simp [Lib.compareBytes]
    · have h0 : (0 : UInt8) < d := by
        rw [UInt8.lt_iff_toNat_lt]
        have : d.toNat ≠ 0 := fun e => h (UInt8.toNat_inj.1 e)
        show 0 < d.toNat; omega
      rw [esc, esc_nz h, List.nil_append, List.cons_append, cmp_cons, if_pos h0]; simp [Lib.compareBytes]
  | c :: a, [], x, y => by
    by_cases h : c = 0
    · subst h; rw [esc, esc_z, List.nil_append, List.cons_append, cmp_same, List.cons_append, cmp_cons]; simp [Lib.compareBytes]
    · have h0 : (0 : UInt8) < c := by
        rw [UInt8.lt_iff_toNat_lt]
        have : c.toNat ≠ 0 := fun e => h (UInt8.toNat_inj.1 e)
        show 0 < c.toNat; omega
      rw [esc, esc_nz h, List.nil_append, List.cons_append, cmp_cons, if_neg (UInt8.lt_asymm h0), if_pos h0]; simp [Lib.compareBytes]
  | c :: a, d :: b, x, y => by
    have ih := cmp_esc a b x y
    by_cases h : c = 0 <;> by_cases h' : d = 0
    · subst h h'
      rw [esc_z, esc_z, List.cons_append, List.cons_append, List.cons_append, List.cons_append, cmp_same, cmp_same, cmp_same, ih]
    · subst h
      have h0 : (0 : UInt8) < d := by
        rw [UInt8.lt_iff_toNat_lt]
        have : d.toNat ≠ 0 := fun e => h' (UInt8.toNat_inj.1 e)
        show 0 < d.toNat; omega
      rw [esc_z, esc_nz h']; simp only [List.cons_append]; rw [cmp_cons, if_pos h0, cmp_cons, if_pos h0]; simp
    · subst h'
      have h0 : (0 : UInt8) < c := by
        rw [UInt8.lt_iff_toNat_lt]
        have : c.toNat ≠ 0 := fun e => h (UInt8.toNat_inj.1 e)
        show 0 < c.toNat; omega
      rw [esc_z, esc_nz h]; simp only [List.cons_append]; rw [cmp_cons, if_neg (UInt8.lt_asymm h0), if_pos h0, cmp_cons, if_neg (UInt8.lt_asymm h0), if_pos h0]; simp
    · rw [esc_nz h, esc_nz h', List.cons_append, List.cons_append, cmp_cons, cmp_cons, ih]
      split
      · simp
      · split <;> simp

/-! Numbers. -/
theorem beL_snoc (u m : Nat) : beL u (m + 1) = beL (u / 256) m ++ [(u % 256).toUInt8] := by
  apply List.ext_getElem (by simp [beL])
  intro j h1 h2
  have hj : j < m + 1 := by simpa [beL] using h1
  by_cases e : j < m
  · rw [List.getElem_append_left (by simpa [beL] using e)]
    simp only [beL, List.getElem_map, List.getElem_range]
    rw [show m + 1 - 1 - j = (m - 1 - j) + 1 from by omega, Nat.pow_succ, Nat.mul_comm, ← Nat.div_div_eq_div_mul]
  · obtain rfl : j = m := by omega
    rw [List.getElem_append_right (by simp [beL])]
    simp [beL]
/-- The number of a list of bytes. -/
def nvL (l : List UInt8) : Nat := l.foldl (fun u c => u * 256 + c.toNat) 0
theorem nvL_snoc (l : List UInt8) (c : UInt8) : nvL (l ++ [c]) = nvL l * 256 + c.toNat := by simp [nvL]
theorem nv_take (s : ByteArray) : ∀ k, k ≤ s.size → nv s k = nvL (s.data.toList.take k)
  | 0, _ => by simp [nv, nvL]
  | k + 1, h => by
    have hk : k < s.data.toList.length := by simp; omega
    rw [List.take_succ_eq_append_getElem hk, nvL_snoc, nv, nv_take s k (by omega)]
    congr 1
    unfold cAt
    rw [List.getD_eq_getElem?_getD, List.getElem?_eq_getElem hk]; rfl
theorem nv_all (s : ByteArray) : nv s s.size = nvL s.data.toList := by
  rw [nv_take s _ (Nat.le_refl _), List.take_of_length_le (by simp)]
theorem nvL_beL : ∀ (m u : Nat), nvL (beL u m) = u % 256 ^ m
  | 0, u => by simp [beL, nvL, Nat.mod_one]
  | m + 1, u => by
    rw [beL_snoc, nvL_snoc, nvL_beL m (u / 256)]
    have e : ((u % 256).toUInt8).toNat = u % 256 := by rw [Nat.toUInt8, UInt8.toNat_ofNat']; omega
    rw [e, Nat.pow_succ, Nat.mul_comm (256 ^ m) 256, Nat.mod_mul]
    omega
theorem beL_nvL : ∀ (l : List UInt8), beL (nvL l) l.length = l := by
  intro l
  induction hn : l.length generalizing l with
  | zero => obtain rfl := List.length_eq_zero_iff.1 hn; rfl
  | succ m ih =>
    have hne : l ≠ [] := by intro e; rw [e] at hn; cases hn
    obtain ⟨a, c, rfl⟩ : ∃ a c, l = a ++ [c] := ⟨l.dropLast, l.getLast hne, (List.dropLast_concat_getLast hne).symm⟩
    have ha : a.length = m := by simpa using hn
    rw [beL_snoc, nvL_snoc]
    have hc := UInt8.toNat_lt c
    have e1 : (nvL a * 256 + c.toNat) / 256 = nvL a := by omega
    have e2 : (nvL a * 256 + c.toNat) % 256 = c.toNat := by omega
    rw [e1, e2, ih a ha]
    congr 2
    simp
theorem nvL_lt (l : List UInt8) : nvL l < 256 ^ l.length := by
  have h := nvL_beL l.length (nvL l)
  rw [beL_nvL] at h
  rw [h]
  exact Nat.mod_lt _ (Nat.pow_pos (by omega))
theorem cmp_snoc (a b : List UInt8) (c d : UInt8) (h : a.length = b.length) : Lib.compareBytes (a ++ [c]) (b ++ [d]) = if Lib.compareBytes a b = 0 then cmpZ c.toNat d.toNat else Lib.compareBytes a b := by
  rw [cmp_len a b _ _ h]
  congr 1
  rw [cmp_cons]
  unfold cmpZ
  simp only [UInt8.lt_iff_toNat_lt, Lib.compareBytes]
  repeat' split
  all_goals first | rfl | omega
theorem cmp_be : ∀ (m u v : Nat), u < 256 ^ m → v < 256 ^ m → Lib.compareBytes (beL u m) (beL v m) = cmpZ u v
  | 0, u, v, hu, hv => by
    have h1 : u = 0 := by simp at hu; omega
    have h2 : v = 0 := by simp at hv; omega
    subst h1 h2; rfl
  | m + 1, u, v, hu, hv => by
    have ih := cmp_be m (u / 256) (v / 256) (by rw [Nat.pow_succ] at hu; omega) (by rw [Nat.pow_succ] at hv; omega)
    rw [beL_snoc, beL_snoc, cmp_snoc _ _ _ _ (by rw [beL_length, beL_length]), ih]
    have e : ∀ u, ((u % 256).toUInt8).toNat = u % 256 := fun u => by rw [Nat.toUInt8, UInt8.toNat_ofNat']; omega
    rw [e, e]
    unfold cmpZ
    repeat' split
    all_goals omega
theorem cmp_num (m u v : Nat) (x y : List UInt8) (hu : u < 256 ^ m) (hv : v < 256 ^ m) : Lib.compareBytes (beL u m ++ x) (beL v m ++ y) = if cmpZ u v = 0 then Lib.compareBytes x y else cmpZ u v := by
  rw [cmp_len _ _ _ _ (by rw [beL_length, beL_length]), cmp_be m u v hu hv]

/-! Lists of bytes and strings. -/
theorem ext_list {a b : ByteArray} (h : a.data.toList = b.data.toList) : a = b := by
  cases a; cases b; simp at h; rw [h]
theorem size_list (a : ByteArray) : a.size = a.data.toList.length := by simp
theorem extract_list (t : ByteArray) (i j : Nat) : (t.extract i j).data.toList = (t.data.toList.take j).drop i := by
  rw [ByteArray.data_extract, Array.toList_extract]
  simp [List.extract_eq_take_drop, List.drop_take]
theorem append_list (a b : ByteArray) : (a ++ b).data.toList = a.data.toList ++ b.data.toList := by simp
theorem mk_list (l : List UInt8) : (⟨l.toArray⟩ : ByteArray).data.toList = l := rfl
theorem empty_of {s : ByteArray} (h : s.toList.isEmpty = true) : s = ⟨#[]⟩ := by
  apply ext_list
  rw [ByteArray.toList_eq] at h
  simpa using h

end Ky

end Go.Proofs.YtjnaafgiokdcbaaGreatDoor
