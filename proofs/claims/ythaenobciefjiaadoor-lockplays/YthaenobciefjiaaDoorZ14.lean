/- LockApart: plain. -/
import Derived.Test.YthaenobciefjiaaDoorZ12
namespace Go.Proofs.YthaenobciefjiaaDoor
open Go.RowKit

namespace Lk
variable {s s' : St} {x y m E : Int} {nm : Bytes} {out : List Int}
/-- Is mode k of a set? -/
def inS (v : Nat) (k : Nat) : Bool := Md.inB (v : Int) k
theorem in_or {a b : Nat} (ha : a < 512) (hb : b < 512) (k : Nat) : inS (a ||| b) k = (inS a k || inS b k) := by
  have l : ∀ n : Nat, n < 512 → Md.low (n : Int) = n := fun n h => by unfold Md.low; omega
  have e4 : a ||| b < 512 := Nat.or_lt_two_pow (n := 9) ha hb
  have t : ∀ n : Nat, n < 512 → inS n k = n.testBit k := fun n h => by
    unfold inS Md.inB
    rw [l n h, Nat.testBit_eq_decide_div_mod_eq]
    rfl
  rw [t _ e4, t a ha, t b hb, Nat.testBit_or]
theorem in_zero (k : Nat) : inS 0 k = false := by
  unfold inS Md.inB Md.low
  simp
theorem in_bit (hm : 1 ≤ m ∧ m ≤ 8) (k : Nat) : inS (bit m) k = decide ((k : Int) = m) := by
  have t : inS (bit m) k = (bit m).testBit k := by
    unfold inS Md.inB
    have l : Md.low ((bit m : Nat) : Int) = bit m := by unfold Md.low; have := (bit_lt hm).2; omega
    rw [l, Nat.testBit_eq_decide_div_mod_eq]
    rfl
  rw [t]
  unfold bit
  rw [Nat.testBit_two_pow]
  by_cases e : (k : Int) = m
  · have : m.toNat = k := by omega
    simp [e, this]
  · have : ¬ m.toNat = k := by omega
    simp [e, this]
theorem any_or {a b : Nat} (ha : a < 512) (hb : b < 512) (k : Int) : Md.anyB ((a ||| b : Nat) : Int) k = (Md.anyB (a : Int) k || Md.anyB (b : Int) k) := by
  have e : ∀ j, (Md.inB ((a ||| b : Nat) : Int) j && Md.barsB k (j : Int)) = ((Md.inB (a : Int) j && Md.barsB k (j : Int)) || (Md.inB (b : Int) j && Md.barsB k (j : Int))) := fun j => by
    have := in_or ha hb j
    unfold inS at this
    rw [this, Bool.and_or_distrib_right]
  rw [Md.any_eq, Md.any_eq, Md.any_eq]
  simp only [e]
  generalize List.range 9 = l
  induction l with
  | nil => rfl
  | cons j l ih =>
    simp only [List.any_cons, ih]
    cases (Md.inB (a : Int) j && Md.barsB k (j : Int)) <;> cases (Md.inB (b : Int) j && Md.barsB k (j : Int)) <;> simp
/-- No mode of one bars a mode of the other. -/
def Free (a b : Nat) : Prop := ∀ k : Nat, 1 ≤ k → k ≤ 8 → inS a k = true → Md.anyB (b : Int) (k : Int) = false
theorem any_iff (v : Nat) (k : Int) : Md.anyB (v : Int) k = true ↔ ∃ j : Nat, 1 ≤ j ∧ j ≤ 8 ∧ inS v j = true ∧ Md.barsB k (j : Int) = true := by
  rw [Md.any_eq, List.any_eq_true]
  constructor
  · rintro ⟨j, hj, h⟩
    rw [Bool.and_eq_true] at h
    refine ⟨j, ?_, by have := List.mem_range.1 hj; omega, h.1, h.2⟩
    rcases Nat.eq_zero_or_pos j with e | e
    · subst e
      have := Md.bars_zero k
      rw [show ((0 : Nat) : Int) = 0 from rfl, this] at h
      cases h.2
    · exact e
  · rintro ⟨j, h1, h2, h3, h4⟩
    exact ⟨j, List.mem_range.2 (by omega), by rw [Bool.and_eq_true]; exact ⟨h3, h4⟩⟩
theorem Free.symm {a b : Nat} (h : Free a b) : Free b a := fun k h1 h2 h3 => by
  rw [Bool.eq_false_iff]
  intro h4
  obtain ⟨j, j1, j2, j3, j4⟩ := (any_iff a k).1 h4
  have := h j j1 j2 j3
  rw [Bool.eq_false_iff] at this
  exact this ((any_iff b j).2 ⟨k, h1, h2, h3, by rw [bars_comm]; exact j4⟩)
theorem Free.zero (b : Nat) : Free 0 b := fun k _ _ h => by rw [in_zero] at h; cases h
theorem Free.or {a b c : Nat} (ha : a < 512) (hb : b < 512) (h1 : Free a c) (h2 : Free b c) : Free (a ||| b) c := fun k k1 k2 h => by
  rw [in_or ha hb, Bool.or_eq_true] at h
  exact h.elim (h1 k k1 k2) (h2 k k1 k2)
theorem Free.bit {c : Nat} (hm : 1 ≤ m ∧ m ≤ 8) (h : Md.anyB (c : Int) m = false) : Free (Lk.bit m) c := fun k _ _ hk => by
  rw [in_bit hm] at hk
  rw [of_decide_eq_true hk]; exact h
/-- What holds of every table besides. -/
structure Ap (s : St) : Prop where
  lo : ∀ y n, s.set y n < 512
  nh : ∀ y n, s.hol y = false → s.set y n = 0
  free : ∀ a b n, a ≠ b → Free (s.set a n) (s.set b n)
/-- Who waits is barred. -/
def Wb (s : St) : Prop := ∀ y n m, s.want y = some (n, m) → s.set y n &&& bit m = 0 ∧ barredP s y n m
theorem notbar (h : ¬ barredP s x nm m) {o : Int} (ho : o ≠ x) (hn : s.hol o = false → s.set o nm = 0) : Md.anyB (s.set o nm : Int) m = false := by
  rw [Bool.eq_false_iff]
  intro e
  refine h ⟨o, ?_⟩
  unfold barB barH
  have h1 : (o != x) = true := by simpa using ho
  have h2 : s.hol o = true := by
    cases hh : s.hol o
    · rw [hn hh] at e
      have := any0 m
      rw [show (((0 : Nat) : Int)) = 0 from rfl, this] at e
      cases e
    · rfl
  rw [h1, h2, e]; rfl
/-- A mode more. -/
theorem Ap.give (h : Ap s) (hm : 1 ≤ m ∧ m ≤ 8) (hb : ¬ barredP s x nm m) {t : St} (hts : t.set = fun y k => if y = x ∧ k = nm then s.set x nm ||| bit m else s.set y k) (hth : t.hol = fun y => if y = x then true else s.hol y) : Ap t := by
  have hor : s.set x nm ||| bit m < 512 := Nat.or_lt_two_pow (n := 9) (h.lo x nm) (bit_lt hm).2
  have hfr : ∀ b, b ≠ x → Free (s.set x nm ||| bit m) (s.set b nm) := fun b hb' => Free.or (h.lo x nm) (bit_lt hm).2 (h.free x b nm (fun e => hb' e.symm)) (Free.bit hm (notbar hb hb' (h.nh b nm)))
  refine ⟨fun y n => ?_, fun y n hy => ?_, fun a b n hab => ?_⟩
  · rw [hts]
    by_cases e : y = x ∧ n = nm
    · simp only [if_pos e]; exact hor
    · simp only [if_neg e]; exact h.lo y n
  · rw [hth] at hy
    rw [hts]
    have hyx : y ≠ x := fun e => by simp [e] at hy
    simp only [if_neg hyx] at hy
    simp only [if_neg (fun e : y = x ∧ n = nm => hyx e.1)]
    exact h.nh y n hy
  · rw [hts]
    by_cases ea : a = x ∧ n = nm
    · have eb : ¬ (b = x ∧ n = nm) := fun e => hab (by rw [ea.1, e.1])
      simp only [if_pos ea, if_neg eb]
      rw [ea.2]
      exact hfr b (fun e => hab (by rw [ea.1, e]))
    · by_cases eb : b = x ∧ n = nm
      · simp only [if_neg ea, if_pos eb]
        rw [eb.2]
        exact (hfr a (fun e => hab (by rw [eb.1, e]))).symm
      · simp only [if_neg ea, if_neg eb]
        exact h.free a b n hab
theorem Ap.start : Ap st0 := ⟨fun _ _ => by show 0 < 512; omega, fun _ _ _ => rfl, fun _ _ _ _ => Free.zero _⟩
/-- Bars stay where modes only come, requests ahead stay. -/
theorem bar_mono {t : St} (hm : ∀ o n, ∀ k : Int, Md.anyB (s.set o n : Int) k = true → Md.anyB (t.set o n : Int) k = true) (hl : ∀ o n, Md.anyB (s.set o n : Int) m = true → s.hol o = true → t.hol o = true) (hz : s.set y nm = 0 → t.set y nm = 0)
    (hq : ∀ o, o ∈ ahead s y nm → Md.barsB (wm s o) m = true → (o ∈ ahead t y nm ∧ wm t o = wm s o) ∨ (o ≠ y ∧ t.hol o = true ∧ Md.anyB (t.set o nm : Int) m = true)) (h : barredP s y nm m) : barredP t y nm m := by
  obtain ⟨o, ho⟩ := h
  unfold barB barH at ho
  rw [Bool.or_eq_true] at ho
  rcases ho with ho | ho
  · rw [Bool.and_eq_true, Bool.and_eq_true] at ho
    refine ⟨o, ?_⟩
    unfold barB barH
    rw [ho.1.1, hl o nm ho.2 ho.1.2, hm o nm m ho.2]; rfl
  · rw [Bool.and_eq_true, Bool.and_eq_true] at ho
    obtain ⟨h1, h2, h3⟩ := ho
    have h1' := hz (of_decide_eq_true h1)
    rcases hq o (List.contains_iff_mem.1 h2) h3 with ⟨h4, h5⟩ | ⟨h4, h5, h6⟩
    · refine ⟨o, ?_⟩
      unfold barB
      rw [h1', h5, h3, List.contains_iff_mem.2 h4]
      simp
    · refine ⟨o, ?_⟩
      unfold barB barH
      have : (o != y) = true := by simpa using h4
      rw [this, h5, h6]; rfl
end Lk

end Go.Proofs.YthaenobciefjiaaDoor
