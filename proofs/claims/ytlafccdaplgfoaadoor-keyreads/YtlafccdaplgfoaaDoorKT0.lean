/- What a text's bytes in a key are read as: plain. -/
import Derived.Test.YtlafccdaplgfoaaDoorS8
import Derived.Laws.AppendOwn
import Derived.Lib.BufferRead
namespace Go.Proofs.YtlafccdaplgfoaaDoor
open Go.RowKit
namespace Ky
open Vl
/-- What text answers: the text and how many bytes it has. -/
def TextIs (l : List UInt8) : Option (List UInt8 × Nat) → Prop
  | none => ∀ t r, l ≠ esc t ++ 0 :: 1 :: r
  | some p => ∃ r, l = esc p.1 ++ 0 :: 1 :: r ∧ p.2 = (esc p.1).length + 2
theorem esc_cons_inv : ∀ (b t r x : List UInt8), esc b ++ r = esc t ++ 0 :: 1 :: x → ∃ u, t = b ++ u ∧ r = esc u ++ 0 :: 1 :: x
  | [], t, r, x, h => ⟨t, rfl, h⟩
  | c :: b, t, r, x, h => by
    by_cases hc : c = 0
    · subst hc
      rw [esc_z] at h
      cases t with
      | nil =>
        have h' : (0 : UInt8) :: 255 :: (esc b ++ r) = 0 :: 1 :: x := h
        injection h' with _ h'; injection h' with h' _; exact absurd h' (by decide)
      | cons d t =>
        by_cases hd : d = 0
        · subst hd
          rw [esc_z] at h
          have h' : (0 : UInt8) :: 255 :: (esc b ++ r) = 0 :: 255 :: (esc t ++ 0 :: 1 :: x) := h
          injection h' with _ h'; injection h' with _ h'
          obtain ⟨u, rfl, hu⟩ := esc_cons_inv b t r x h'
          exact ⟨u, rfl, hu⟩
        · rw [esc_nz hd] at h
          have h' : (0 : UInt8) :: 255 :: (esc b ++ r) = d :: (esc t ++ 0 :: 1 :: x) := h
          injection h' with h' _; exact absurd h'.symm hd
    · rw [esc_nz hc] at h
      cases t with
      | nil =>
        have h' : c :: (esc b ++ r) = 0 :: 1 :: x := h
        injection h' with h' _; exact absurd h' hc
      | cons d t =>
        by_cases hd : d = 0
        · subst hd
          rw [esc_z] at h
          have h' : c :: (esc b ++ r) = 0 :: 255 :: (esc t ++ 0 :: 1 :: x) := h
          injection h' with h' _; exact absurd h' hc
        · rw [esc_nz hd] at h
          have h' : c :: (esc b ++ r) = d :: (esc t ++ 0 :: 1 :: x) := h
          injection h' with h1 h'
          obtain ⟨u, rfl, hu⟩ := esc_cons_inv b t r x h'
          exact ⟨u, by rw [h1]; rfl, hu⟩
/-- A rest that no text's end opens. -/
def Dead (r : List UInt8) : Prop := ∀ u x, r ≠ esc u ++ 0 :: 1 :: x
theorem dead_nil : Dead [] := fun u x h => by cases hu : esc u <;> (rw [hu] at h; cases h)
theorem dead_one : Dead [0] := fun u x h => by
  have := congrArg List.length h
  rw [List.length_append] at this
  simp at this
  omega
theorem dead_two {c : UInt8} {r : List UInt8} (h1 : c ≠ 1) (h2 : c ≠ 255) : Dead (0 :: c :: r) := fun u x h => by
  cases u with
  | nil =>
    have h' : (0 : UInt8) :: c :: r = 0 :: 1 :: x := h
    injection h' with _ h'; injection h' with h' _; exact h1 h'
  | cons d u =>
    by_cases hd : d = 0
    · subst hd
      rw [esc_z] at h
      have h' : (0 : UInt8) :: c :: r = 0 :: 255 :: (esc u ++ 0 :: 1 :: x) := h
      injection h' with _ h'; injection h' with h' _; exact h2 h'
    · rw [esc_nz hd] at h
      have h' : (0 : UInt8) :: c :: r = d :: (esc u ++ 0 :: 1 :: x) := h
      injection h' with h' _; exact hd h'.symm
theorem text_none {l b r : List UInt8} (h : l = esc b ++ r) (hr : Dead r) : TextIs l none := fun t x e => by
  obtain ⟨u, _, hu⟩ := esc_cons_inv b t r x (h.symm.trans e)
  exact hr u x hu
/-- Behind i bytes of which b has been read. -/
def TextAt (s : ByteArray) (b : List UInt8) (i : Nat) : Prop := s.data.toList = esc b ++ s.data.toList.drop i ∧ (esc b).length = i
theorem textAt_0 (s : ByteArray) : TextAt s [] 0 := ⟨rfl, rfl⟩
theorem drop_at (s : ByteArray) {i : Nat} (h : i < s.size) : s.data.toList.drop i = s.data.toList.getD i 0 :: s.data.toList.drop (i + 1) := by
  have hl : i < s.data.toList.length := by rw [← size_list]; exact h
  rw [List.drop_eq_getElem_cons hl]
  have e : s.data.toList[i] = s.data.toList.getD i 0 := by rw [List.getD_eq_getElem?_getD, List.getElem?_eq_getElem hl]; rfl
  rw [e]
theorem esc_snoc_nz {b : List UInt8} {c : UInt8} (h : c ≠ 0) : esc (b ++ [c]) = esc b ++ [c] := by rw [esc_append, esc_nz h]; rfl
theorem esc_snoc_z {b : List UInt8} : esc (b ++ [0]) = esc b ++ [0, 255] := by rw [esc_append]; rfl
theorem TextAt.byte {s : ByteArray} {b : List UInt8} {i : Nat} (h : TextAt s b i) (hi : i < s.size) {c : UInt8} (hc : s.data.toList.getD i 0 = c) (h0 : c ≠ 0) : TextAt s (b ++ [c]) (i + 1) := by
  refine ⟨?_, by rw [esc_snoc_nz h0, List.length_append, h.2]; rfl⟩
  rw [esc_snoc_nz h0, List.append_assoc, ← hc]
  have e := h.1
  rw [drop_at s hi] at e
  exact e
theorem TextAt.zero {s : ByteArray} {b : List UInt8} {i : Nat} (h : TextAt s b i) (hi : i + 1 < s.size) (h0 : s.data.toList.getD i 0 = 0) (h1 : s.data.toList.getD (i + 1) 0 = 255) : TextAt s (b ++ [0]) (i + 1 + 1) := by
  refine ⟨?_, by rw [esc_snoc_z, List.length_append, h.2]; rfl⟩
  rw [esc_snoc_z, List.append_assoc]
  have e := h.1
  rw [drop_at s (by omega), drop_at s hi, h0, h1] at e
  exact e
theorem TextAt.endd {s : ByteArray} {b : List UInt8} {i : Nat} (h : TextAt s b i) (hi : i + 1 < s.size) (h0 : s.data.toList.getD i 0 = 0) (h1 : s.data.toList.getD (i + 1) 0 = 1) : TextIs s.data.toList (some (b, i + 2)) := by
  refine ⟨s.data.toList.drop (i + 1 + 1), ?_, by rw [h.2]⟩
  have e := h.1
  rw [drop_at s (by omega), drop_at s hi, h0, h1] at e
  exact e
theorem TextAt.bad {s : ByteArray} {b : List UInt8} {i : Nat} (h : TextAt s b i) (hi : i + 1 < s.size) (h0 : s.data.toList.getD i 0 = 0) (h1 : s.data.toList.getD (i + 1) 0 ≠ 1) (h2 : s.data.toList.getD (i + 1) 0 ≠ 255) : TextIs s.data.toList none := by
  have e := h.1
  rw [drop_at s (by omega), drop_at s hi, h0] at e
  exact text_none e (dead_two h1 h2)
theorem TextAt.last {s : ByteArray} {b : List UInt8} {i : Nat} (h : TextAt s b i) (hi : i + 1 = s.size) (h0 : s.data.toList.getD i 0 = 0) : TextIs s.data.toList none := by
  have e := h.1
  rw [drop_at s (by omega), h0, List.drop_of_length_le (by rw [← size_list]; omega)] at e
  exact text_none e dead_one
theorem TextAt.over {s : ByteArray} {b : List UInt8} {i : Nat} (h : TextAt s b i) (hi : s.size ≤ i) : TextIs s.data.toList none := by
  have e := h.1
  rw [List.drop_of_length_le (by rw [← size_list]; omega)] at e
  exact text_none e dead_nil
theorem TextAt.len {s : ByteArray} {b : List UInt8} {i : Nat} (h : TextAt s b i) : b.length ≤ i ∧ i ≤ s.size := by
  have h1 := (esc_len b).1
  have h2 := congrArg List.length h.1
  rw [List.length_append, ← size_list, h.2] at h2
  have := h.2
  omega
theorem cAt_n {s : ByteArray} {k n : Nat} (hn : n < 256) (h : cAt s k = n) : s.data.toList.getD k 0 = UInt8.ofNat n := by
  apply UInt8.toNat_inj.1
  rw [UInt8.toNat_ofNat_of_lt' hn]; exact h
/-- What is owned as bytes converts to them. -/
theorem conv_own {P : Program} {T S B : TypeId} (hT : P.underlying T = some (.slice B)) (hB : P.underlying B = some (.int .u8)) (hS : P.underlying S = some .string) {W : World} {base n : Nat} {v : Value} {l : List UInt8} (h : W.ownsRow base B 1 v n (Lib.byteCells l)) :
    (convert T S v).run P W = .ok (.string ⟨l.toArray⟩) W := by
  obtain ⟨hl, ⟨rfl, rfl⟩ | ⟨g, cap, cur, rfl, _, hg, _, _, _, htk⟩⟩ := h
  · have : l = [] := by
      rw [Lib.byteCells_length] at hl
      exact List.length_eq_zero_iff.1 (by omega)
    subst this
    exact Lib.run_convert_nil_bytes W T S B 0 hT hB hS
  · rw [Lib.byteCells_length, Nat.mul_one] at hl
    subst hl
    rw [Nat.mul_one] at htk
    exact run_convert_bytes_back W T S B ⟨g, 0, none⟩ cap l hT hB hS (Lib.bytes_of_row hg htk)
end Ky
end Go.Proofs.YtlafccdaplgfoaaDoor
