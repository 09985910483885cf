/- Keys on leaves, plain. -/
import Derived.Test.YtjnaafgiokdcbaaLa1
namespace Go.Proofs.Ytjnaafgiokdcbaa
namespace Lf
/-- The order of texts. -/
def lt (a b : ByteArray) : Bool := Op.bytesLess a.toList b.toList
theorem bl_eq : ∀ a b : List UInt8, Op.bytesLess a b = decide (a < b)
  | [], [] => by simp [Op.bytesLess]
  | _ :: _, [] => by simp [Op.bytesLess]
  | [], _ :: _ => by simp [Op.bytesLess]
  | a :: x, b :: y => by
    rw [Op.bytesLess, bl_eq x y, Bool.eq_iff_iff]
    simp [List.cons_lt_cons_iff]
theorem lt_eq (a b : ByteArray) : lt a b = decide (a.toList < b.toList) := bl_eq _ _
theorem toList_inj {a b : ByteArray} (h : a.toList = b.toList) : a = b := by
  rw [ByteArray.toList_eq, ByteArray.toList_eq] at h
  cases a; cases b
  congr
  exact Array.toList_inj.1 h
theorem lt_irr (a : ByteArray) : lt a a = false := by rw [lt_eq]; exact decide_eq_false (List.lt_irrefl _)
theorem lt_tr {a b c : ByteArray} (h : lt a b = true) (h2 : lt b c = true) : lt a c = true := by
  rw [lt_eq] at *
  exact decide_eq_true (List.lt_trans (of_decide_eq_true h) (of_decide_eq_true h2))
theorem lt_as {a b : ByteArray} (h : lt a b = true) : lt b a = false := by
  rw [lt_eq] at *
  exact decide_eq_false (List.lt_asymm (of_decide_eq_true h))
theorem lt_tri {a b : ByteArray} (h : lt a b = false) (h2 : lt b a = false) : a = b := by
  rw [lt_eq] at *
  exact toList_inj (List.le_antisymm (of_decide_eq_false h2) (of_decide_eq_false h))
theorem le_lt {a b c : ByteArray} (h : lt b a = false) (h2 : lt b c = true) : lt a c = true := by
  cases hh : lt a b with
  | true => exact lt_tr hh h2
  | false => rw [lt_tri hh h]; exact h2
theorem lt_le {a b c : ByteArray} (h : lt a b = true) (h2 : lt c b = false) : lt a c = true := by
  cases hh : lt b c with
  | true => exact lt_tr h hh
  | false => rw [← lt_tri hh h2]; exact h
theorem le_tr {a b c : ByteArray} (h : lt b a = false) (h2 : lt c b = false) : lt c a = false := by
  cases hh : lt c a with
  | false => rfl
  | true => rw [lt_le hh h] at h2; cases h2
theorem lt_emp (a : ByteArray) : lt a ⟨#[]⟩ = false := by
  unfold lt
  rw [ByteArray.toList_eq ⟨#[]⟩]
  cases h : a.toList <;> simp [Op.bytesLess]
theorem eqB (a b : ByteArray) : (a.toList == b.toList) = decide (a = b) := by
  by_cases h : a = b
  · subst h; simp
  · rw [decide_eq_false h, beq_eq_false_iff_ne]; exact fun e => h (toList_inj e)
theorem lt_ne {a b : ByteArray} (h : lt a b = true) : a ≠ b := fun e => by rw [e, lt_irr] at h; cases h
end Lf
end Go.Proofs.Ytjnaafgiokdcbaa
