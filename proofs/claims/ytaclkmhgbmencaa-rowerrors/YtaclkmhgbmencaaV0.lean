/- Values as plain data: their order, which are good. -/
import Derived.Test.YtaclkmhgbmencaaMath2
import Derived.WalkKit
import Derived.Lib.Bytealg

namespace Go.Proofs.Ytaclkmhgbmencaa
open Go.RowKit
namespace Vl

/-- A value's four fields. -/
structure V where
  k : Int
  n : Int
  f : Nat
  s : ByteArray

/-- As a value, and as cells. -/
def V.cs (v : V) : Array Value := #[.int .i64 v.k, .int .i64 v.n, .float .f64 v.f, .string v.s]

def cmpZ (x y : Int) : Int := if x < y then -1 else if y < x then 1 else 0
def cmpS (a b : ByteArray) : Int := Lib.compareBytes a.data.toList b.data.toList

/-- By Kind, N, F, S. -/
def cmpV (a b : V) : Int :=
  if cmpZ a.k b.k != 0 then cmpZ a.k b.k else if cmpZ a.n b.n != 0 then cmpZ a.n b.n else if Fl.cmpI a.f b.f != 0 then Fl.cmpI a.f b.f else cmpS a.s b.s

theorem hid {p : Prop} (h : p) : Hid p := h
theorem bcell {W w1 : World} (hb : Below W.heap.size W w1) : (∀ b o, b < W.heap.size → w1.cell? ⟨b, o, none⟩ = W.cell? ⟨b, o, none⟩) ∧ (∀ b o, b < W.heap.size → w1.frozen? ⟨b, o, none⟩ = W.frozen? ⟨b, o, none⟩) :=
  ⟨fun b o h => hb.cell (p := ⟨b, o, none⟩) h, fun b o h => hb.frozen (p := ⟨b, o, none⟩) h⟩
theorem bal {w w1 : World} (h : Below w.heap.size w w1) (o : Obj) : Below w.heap.size w (w1.alloc o) := h.alloc h.size o
theorem btr {w w1 w2 : World} (h : Below w.heap.size w w1) (h2 : Below w1.heap.size w1 w2) : Below w.heap.size w w2 := h.trans (h2.mono h.size)
/-- The order of strings, by Go's operators. -/
theorem lss_cmp : ∀ a b : List UInt8, Op.bytesLess a b = decide (Lib.compareBytes a b < 0)
  | [], [] => by decide
  | [], _ :: _ => by simp [Op.bytesLess, Lib.compareBytes]
  | _ :: _, [] => by simp [Op.bytesLess, Lib.compareBytes]
  | a :: x, b :: y => by
    have ih := lss_cmp x y
    unfold Op.bytesLess Lib.compareBytes
    by_cases h1 : a < b
    · simp [h1]
    · by_cases h2 : b < a
      · have h3 : ¬ a = b := fun e => by subst e; exact h1 h2
        simp [h1, h2, h3]
      · have h3 : a = b := UInt8.le_antisymm (UInt8.not_lt.1 h2) (UInt8.not_lt.1 h1)
        simp [h3, ih]
theorem eql_cmp : ∀ a b : List UInt8, Lib.compareBytes a b = 0 ↔ a = b
  | [], [] => by simp [Lib.compareBytes]
  | [], _ :: _ => by simp [Lib.compareBytes]
  | _ :: _, [] => by simp [Lib.compareBytes]
  | a :: x, b :: y => by
    have ih := eql_cmp x y
    unfold Lib.compareBytes
    by_cases h1 : a < b
    · have h3 : ¬ a = b := fun e => by subst e; exact UInt8.lt_irrefl _ h1
      simp [h1, h3]
    · by_cases h2 : b < a
      · have h3 : ¬ a = b := fun e => by subst e; exact h1 h2
        simp [h1, h2, h3]
      · have h3 : a = b := UInt8.le_antisymm (UInt8.not_lt.1 h2) (UInt8.not_lt.1 h1)
        simp [h3, ih]
theorem cmp_bd : ∀ a b : List UInt8, Lib.compareBytes a b = -1 ∨ Lib.compareBytes a b = 0 ∨ Lib.compareBytes a b = 1
  | [], [] => by simp [Lib.compareBytes]
  | [], _ :: _ => by simp [Lib.compareBytes]
  | _ :: _, [] => by simp [Lib.compareBytes]
  | a :: x, b :: y => by
    have ih := cmp_bd x y
    unfold Lib.compareBytes
    by_cases h1 : a < b
    · simp [h1]
    · by_cases h2 : b < a
      · simp [h1, h2]
      · simp [h1, h2, ih]
theorem cmp_flip : ∀ a b : List UInt8, Lib.compareBytes b a = -Lib.compareBytes a b
  | [], [] => by simp [Lib.compareBytes]
  | [], _ :: _ => by simp [Lib.compareBytes]
  | _ :: _, [] => by simp [Lib.compareBytes]
  | a :: x, b :: y => by
    have ih := cmp_flip x y
    unfold Lib.compareBytes
    by_cases h1 : a < b
    · have h2 : ¬ b < a := fun h => UInt8.lt_asymm h h1
      simp [h1, h2]
    · by_cases h2 : b < a
      · simp [h1, h2]
      · simp [h1, h2, ih]

/-- Go's operators on strings, in one number's terms. -/
theorem str_lss (a b : ByteArray) : Op.bytesLess a.toList b.toList = decide (cmpS a b < 0) := by
  rw [Lib.toList_data, Lib.toList_data, lss_cmp]; rfl
theorem str_eql (a b : ByteArray) : (a.toList == b.toList) = decide (cmpS a b = 0) := by
  rw [Lib.toList_data, Lib.toList_data, Bool.eq_iff_iff, beq_iff_eq, decide_eq_true_iff, ← eql_cmp]; rfl
theorem cmpS_bd (a b : ByteArray) : cmpS a b = -1 ∨ cmpS a b = 0 ∨ cmpS a b = 1 := cmp_bd _ _
theorem cmpS_flip (a b : ByteArray) : cmpS b a = -cmpS a b := cmp_flip _ _
theorem cmpS_eq (a b : ByteArray) : cmpS a b = 0 ↔ a = b := by
  unfold cmpS; rw [eql_cmp]
  constructor
  · intro h; cases a; cases b; simp at h; rw [h]
  · intro h; rw [h]
theorem cmpZ_bd (a b : Int) : cmpZ a b = -1 ∨ cmpZ a b = 0 ∨ cmpZ a b = 1 := by unfold cmpZ; split <;> (try split) <;> simp
theorem cmpZ_flip (a b : Int) : cmpZ b a = -cmpZ a b := by unfold cmpZ; split <;> split <;> first | omega | (split <;> omega) | rfl

theorem getD_at (s : ByteArray) (i : Nat) (hi : i < s.size) : s[i] = s.data.toList.getD i 0 := by
  show s.data[i] = _
  rw [List.getD_eq_getElem?_getD, List.getElem?_eq_getElem (by simpa using hi)]
  simp
theorem cmpZ_lt {a b : Int} (h : a < b) : cmpZ a b = -1 := by unfold cmpZ; rw [if_pos h]
theorem cmpZ_gt {a b : Int} (h : b < a) : cmpZ a b = 1 := by unfold cmpZ; rw [if_neg (by omega), if_pos h]
theorem cmpZ_eq {a b : Int} (h : a = b) : cmpZ a b = 0 := by unfold cmpZ; rw [if_neg (by omega), if_neg (by omega)]
theorem cmpV_k1 {a b : V} (h : a.k < b.k) : cmpV a b = -1 := by unfold cmpV; rw [cmpZ_lt h]; rfl
theorem cmpV_k2 {a b : V} (h : b.k < a.k) : cmpV a b = 1 := by unfold cmpV; rw [cmpZ_gt h]; rfl
theorem cmpV_n1 {a b : V} (e : a.k = b.k) (h : a.n < b.n) : cmpV a b = -1 := by unfold cmpV; rw [cmpZ_eq e, cmpZ_lt h]; rfl
theorem cmpV_n2 {a b : V} (e : a.k = b.k) (h : b.n < a.n) : cmpV a b = 1 := by unfold cmpV; rw [cmpZ_eq e, cmpZ_gt h]; rfl
theorem cmpV_f {a b : V} (e : a.k = b.k) (e2 : a.n = b.n) (h : (Fl.cmpI a.f b.f != 0) = true) : cmpV a b = Fl.cmpI a.f b.f := by unfold cmpV; rw [cmpZ_eq e, cmpZ_eq e2, if_neg (by decide), if_neg (by decide), if_pos h]
theorem cmpV_s {a b : V} (e : a.k = b.k) (e2 : a.n = b.n) (h : (Fl.cmpI a.f b.f != 0) = false) : cmpV a b = cmpS a.s b.s := by unfold cmpV; rw [cmpZ_eq e, cmpZ_eq e2, if_neg (by decide), if_neg (by decide), if_neg (by rw [h]; decide)]
/-- The byte at a place of a string. -/
def cAt (s : ByteArray) (k : Nat) : Nat := (s.data.toList.getD k 0).toNat
theorem cAt_lt (s : ByteArray) (k : Nat) : cAt s k < 256 := UInt8.toNat_lt _
theorem idx_str {P : Program} (t : TypeId) (ht : P.underlying t = some .string) (s : ByteArray) (k : Nat) (hk : k < s.size) (w : World) :
    (Instr.index t (.string s) (.int .i64 (k : Int))).run P w = .ok (.int .u8 (cAt s k : Int)) w := by
  rw [run_index_string w t s .i64 _ ht, dif_pos ⟨by omega, by omega⟩]
  have e : ((k : Int)).toNat = k := by omega
  simp only [e, cAt]
  rw [getD_at s k hk]

/-- Names. -/
def letB (c : Nat) : Bool := decide (97 ≤ c) && decide (c ≤ 122)
def digB (c : Nat) : Bool := decide (48 ≤ c) && decide (c ≤ 57)
def okB (c : Nat) : Bool := letB c || digB c || c == 95
def allOk (s : ByteArray) : Nat → Bool
  | 0 => true
  | k + 1 => allOk s k && okB (cAt s k)
def nameB (s : ByteArray) : Bool := decide (1 ≤ s.size) && decide (s.size ≤ 8) && letB (cAt s 0) && allOk s s.size
theorem allOk_false (s : ByteArray) {k : Nat} (h : okB (cAt s k) = false) : ∀ {n : Nat}, k < n → allOk s n = false
  | 0, h0 => absurd h0 (Nat.not_lt_zero _)
  | n + 1, h0 => by
    unfold allOk
    by_cases e : k = n
    · subst e; rw [h, Bool.and_false]
    · rw [allOk_false s h (by omega : k < n), Bool.false_and]

theorem ref_step {s : ByteArray} {k c : Nat} (HA : Hid (allOk s k = true ∧ (0 < k → letB (cAt s 0) = true))) (hc : c = cAt s k) (h : letB c = true ∨ (0 < k ∧ okB c = true)) :
    Hid (allOk s (k + 1) = true ∧ (0 < k + 1 → letB (cAt s 0) = true)) := by
  subst hc
  have ho : okB (cAt s k) = true := by
    rcases h with h | h
    · unfold okB; rw [h]; rfl
    · exact h.2
  refine ⟨by unfold allOk; rw [HA.out.1, ho]; rfl, fun _ => ?_⟩
  by_cases h0 : 0 < k
  · exact HA.out.2 h0
  · obtain rfl : k = 0 := by omega
    rcases h with h | h
    · exact h
    · exact absurd h.1 h0
theorem ref_stop {s : ByteArray} {k c : Nat} (hc : c = cAt s k) (hlt : k < s.size) (hl : letB c = false) (h : k = 0 ∨ okB c = false) : nameB s = false := by
  subst hc
  rcases h with h | h
  · subst h; unfold nameB; rw [hl]; simp
  · unfold nameB; rw [allOk_false s h hlt]; simp

end Vl
end Go.Proofs.Ytaclkmhgbmencaa
