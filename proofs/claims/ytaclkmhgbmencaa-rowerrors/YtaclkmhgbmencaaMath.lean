/- The order of two float64 words, read off their bits: plain numbers, nothing of the program. -/
import Ieee.Arith
import Derived.WalkLawsBesides
namespace Go.Proofs.Ytaclkmhgbmencaa
namespace Fl

/-- Is the word a NaN? -/
def nanB (x : Nat) : Bool := decide (9218868437227405312 < x % 9223372036854775808)
/-- The place of a word that is no NaN among all such, 0 and -0 at one place. -/
def key (x : Nat) : Int := if x / 9223372036854775808 % 2 = 1 then -((x % 9223372036854775808 : Nat) : Int) else ((x % 9223372036854775808 : Nat) : Int)

def sgn (s : Bool) (n : Nat) : Int := if s then -(n : Int) else (n : Int)
/-- The magnitude of a finite rung, in units of the least one. -/
def mag (r : Nat) : Nat := if r < 4503599627370496 then r else (4503599627370496 + r % 4503599627370496) * 2 ^ (r / 4503599627370496 - 1)

theorem mag_succ (r : Nat) : mag r < mag (r + 1) := by
  unfold mag
  by_cases h1 : r + 1 < 4503599627370496
  · rw [if_pos (by omega), if_pos h1]; omega
  · rw [if_neg h1]
    by_cases h2 : r < 4503599627370496
    · rw [if_pos h2]
      have e : r = 4503599627370495 := by omega
      subst e
      decide
    · rw [if_neg h2]
      by_cases h3 : r % 4503599627370496 = 4503599627370495
      · have e1 : (r + 1) % 4503599627370496 = 0 := by omega
        have e2 : (r + 1) / 4503599627370496 - 1 = (r / 4503599627370496 - 1) + 1 := by omega
        rw [e1, e2, h3, Nat.pow_succ]
        have hp : 0 < 2 ^ (r / 4503599627370496 - 1) := Nat.two_pow_pos _
        generalize 2 ^ (r / 4503599627370496 - 1) = p at hp
        omega
      · have e1 : (r + 1) % 4503599627370496 = r % 4503599627370496 + 1 := by omega
        have e2 : (r + 1) / 4503599627370496 = r / 4503599627370496 := by omega
        rw [e1, e2]
        exact Nat.mul_lt_mul_of_pos_right (by omega) (Nat.two_pow_pos _)

theorem mag_lt {a b : Nat} (h : a < b) : mag a < mag b := by
  induction b with
  | zero => omega
  | succ n ih =>
    by_cases e : a = n
    · subst e; exact mag_succ a
    · exact Nat.lt_trans (ih (by omega)) (mag_succ n)

theorem mag_lt_iff (a b : Nat) : mag a < mag b ↔ a < b := by
  constructor
  · intro h
    by_cases e : a < b
    · exact e
    · by_cases e2 : a = b
      · subst e2; omega
      · have := mag_lt (a := b) (b := a) (by omega); omega
  · exact mag_lt

theorem mag_zero : mag 0 = 0 := rfl

theorem compare_congr {a b c d : Int} (h1 : a < b ↔ c < d) (h2 : b < a ↔ d < c) : compare a b = compare c d := by
  show compareOfLessAndEq a b = compareOfLessAndEq c d
  unfold compareOfLessAndEq
  by_cases x : a < b
  · rw [if_pos x, if_pos (h1.1 x)]
  · have y : ¬ c < d := fun h => x (h1.2 h)
    rw [if_neg x, if_neg y]
    by_cases z : a = b
    · have : c = d := by
        have : ¬ d < c := fun h => by have := h2.2 h; omega
        omega
      rw [if_pos z, if_pos this]
    · have : ¬ c = d := by
        have : b < a := by omega
        have := h2.1 this
        omega
      rw [if_neg z, if_neg this]

theorem compare_mag (s t : Bool) (a b : Nat) : compare (sgn s (mag a)) (sgn t (mag b)) = compare (sgn s a) (sgn t b) := by
  have h1 := mag_lt_iff a b
  have h2 := mag_lt_iff b a
  have h3 := mag_lt_iff 0 a
  have h4 := mag_lt_iff 0 b
  rw [mag_zero] at h3 h4
  refine compare_congr ?_ ?_ <;> cases s <;> cases t <;> simp only [sgn, if_true, if_false, Bool.false_eq_true] <;> omega

theorem signed_eq (s : Bool) (m k : Nat) : Ieee.signed s m k = sgn s (m * 2 ^ k) := by
  unfold Ieee.signed sgn; rw [Nat.shiftLeft_eq]

theorem compare_scale (s t : Bool) (a b p : Nat) (hp : 0 < p) : compare (sgn s a) (sgn t b) = compare (sgn s (a * p)) (sgn t (b * p)) := by
  have h1 : a * p < b * p ↔ a < b := Nat.mul_lt_mul_right hp
  have h2 : b * p < a * p ↔ b < a := Nat.mul_lt_mul_right hp
  have h3 : 0 < a * p ↔ 0 < a := by have := Nat.mul_lt_mul_right (b := 0) (c := a) hp; rwa [Nat.zero_mul] at this
  have h4 : 0 < b * p ↔ 0 < b := by have := Nat.mul_lt_mul_right (b := 0) (c := b) hp; rwa [Nat.zero_mul] at this
  generalize a * p = a' at *
  generalize b * p = b' at *
  refine compare_congr ?_ ?_ <;> cases s <;> cases t <;> simp only [sgn, if_true, if_false, Bool.false_eq_true] <;> omega

theorem order_numbers (s t : Bool) (m n k l : Nat) (L : Int) :
    (Ieee.Datum.number s m (L + (k : Nat))).order (Ieee.Datum.number t n (L + (l : Nat))) = some (compare (sgn s (m * 2 ^ k)) (sgn t (n * 2 ^ l))) := by
  simp only [Ieee.Datum.order, signed_eq]
  have e1 : (L + (k : Int) - min (L + (k : Int)) (L + (l : Int))).toNat = k - min k l := by omega
  have e2 : (L + (l : Int) - min (L + (k : Int)) (L + (l : Int))).toNat = l - min k l := by omega
  rw [e1, e2, compare_scale s t _ _ (2 ^ min k l) (Nat.two_pow_pos _)]
  rw [Nat.mul_assoc, Nat.mul_assoc, ← Nat.pow_add, ← Nat.pow_add, Nat.sub_add_cancel (Nat.min_le_left _ _), Nat.sub_add_cancel (Nat.min_le_right _ _)]

theorem read_eq (x : Nat) : Ieee.double.read x =
    if x % 9223372036854775808 < 9218868437227405312 then
      .number (x / 9223372036854775808 % 2 == 1) (if x % 9223372036854775808 < 4503599627370496 then x % 9223372036854775808 else 4503599627370496 + x % 9223372036854775808 % 4503599627370496)
        (Ieee.double.leastPlace + ((if x % 9223372036854775808 < 4503599627370496 then 0 else x % 9223372036854775808 / 4503599627370496 - 1 : Nat) : Int))
    else if x % 9223372036854775808 = 9218868437227405312 then .infinity (x / 9223372036854775808 % 2 == 1)
    else .nan (x / 9223372036854775808 % 2 == 1) (x % 9223372036854775808 - 9218868437227405312) := by
  have hb : Ieee.double.binade = 4503599627370496 := by decide
  have hi : Ieee.double.infRung = 9218868437227405312 := by decide
  have hs : Ieee.double.signWeight = 9223372036854775808 := by decide
  unfold Ieee.Format.read
  rw [hb, hi, hs]
  simp only []
  by_cases h1 : x % 9223372036854775808 < 4503599627370496
  · rw [if_pos h1, if_pos (by omega), if_pos h1, if_pos h1]; simp
  · rw [if_neg h1, if_neg h1, if_neg h1]

theorem mag_eq (r : Nat) : (if r < 4503599627370496 then r else 4503599627370496 + r % 4503599627370496) * 2 ^ (if r < 4503599627370496 then 0 else r / 4503599627370496 - 1) = mag r := by
  unfold mag
  by_cases h : r < 4503599627370496
  · rw [if_pos h, if_pos h, if_pos h, Nat.pow_zero, Nat.mul_one]
  · rw [if_neg h, if_neg h, if_neg h]

theorem sgn_key (x : Nat) : sgn (x / 9223372036854775808 % 2 == 1) (x % 9223372036854775808) = key x := by
  unfold sgn key
  by_cases h : x / 9223372036854775808 % 2 = 1
  · rw [if_pos h, if_pos (by rw [h]; rfl)]
  · rw [if_neg h, if_neg (by simpa using h)]

theorem ite_ff {α : Type} (a b : α) : (if false = true then a else b) = b := rfl

/-- THE ORDER OF TWO WORDS. -/
theorem order_eq (x y : Nat) : Ieee.double.order x y = if nanB x || nanB y then none else some (compare (key x) (key y)) := by
  have kx := sgn_key x
  have ky := sgn_key y
  unfold Ieee.Format.order
  rw [read_eq x, read_eq y]
  generalize hr : x % 9223372036854775808 = r at *
  generalize hq : y % 9223372036854775808 = q at *
  have hnx : nanB x = decide (9218868437227405312 < r) := by unfold nanB; rw [hr]
  have hny : nanB y = decide (9218868437227405312 < q) := by unfold nanB; rw [hq]
  generalize (x / 9223372036854775808 % 2 == 1) = s at *
  generalize (y / 9223372036854775808 % 2 == 1) = t at *
  rw [hnx, hny, ← kx, ← ky]
  by_cases a1 : r < 9218868437227405312
  · rw [if_pos a1, decide_eq_false (by omega : ¬ 9218868437227405312 < r), Bool.false_or]
    by_cases b1 : q < 9218868437227405312
    · rw [if_pos b1, decide_eq_false (by omega : ¬ 9218868437227405312 < q), ite_ff, order_numbers, mag_eq, mag_eq, compare_mag]
    · rw [if_neg b1]
      by_cases b2 : q = 9218868437227405312
      · rw [if_pos b2, decide_eq_false (by omega : ¬ 9218868437227405312 < q), ite_ff]
        simp only [Ieee.Datum.order]
        cases t
        · have h : compare (sgn s r) (sgn false q) = .lt := by
            have h : sgn s r < sgn false q := by cases s <;> simp only [sgn, if_true, if_false, Bool.false_eq_true] <;> omega
            show compareOfLessAndEq _ _ = _
            unfold compareOfLessAndEq; rw [if_pos h]
          rw [h]; rfl
        · have h : compare (sgn s r) (sgn true q) = .gt := by
            have h : sgn true q < sgn s r := by cases s <;> simp only [sgn, if_true, if_false, Bool.false_eq_true] <;> omega
            show compareOfLessAndEq _ _ = _
            unfold compareOfLessAndEq; rw [if_neg (by omega), if_neg (by omega)]
          rw [h]; rfl
      · rw [if_neg b2, decide_eq_true (by omega : 9218868437227405312 < q), if_pos rfl]; rfl
  · rw [if_neg a1]
    by_cases a2 : r = 9218868437227405312
    · rw [if_pos a2, decide_eq_false (by omega : ¬ 9218868437227405312 < r), Bool.false_or]
      by_cases b1 : q < 9218868437227405312
      · rw [if_pos b1, decide_eq_false (by omega : ¬ 9218868437227405312 < q), ite_ff]
        simp only [Ieee.Datum.order]
        cases s
        · have h : compare (sgn false r) (sgn t q) = .gt := by
            have h : sgn t q < sgn false r := by cases t <;> simp only [sgn, if_true, if_false, Bool.false_eq_true] <;> omega
            show compareOfLessAndEq _ _ = _
            unfold compareOfLessAndEq; rw [if_neg (by omega), if_neg (by omega)]
          rw [h]; rfl
        · have h : compare (sgn true r) (sgn t q) = .lt := by
            have h : sgn true r < sgn t q := by cases t <;> simp only [sgn, if_true, if_false, Bool.false_eq_true] <;> omega
            show compareOfLessAndEq _ _ = _
            unfold compareOfLessAndEq; rw [if_pos h]
          rw [h]; rfl
      · rw [if_neg b1]
        by_cases b2 : q = 9218868437227405312
        · rw [if_pos b2, decide_eq_false (by omega : ¬ 9218868437227405312 < q), ite_ff]
          subst a2; subst b2
          simp only [Ieee.Datum.order]
          cases s <;> cases t <;> decide
        · rw [if_neg b2, decide_eq_true (by omega : 9218868437227405312 < q), if_pos rfl]; rfl
    · rw [if_neg a2, decide_eq_true (by omega : 9218868437227405312 < r), Bool.true_or, if_pos rfl]
      split <;> (try split) <;> rfl

/-- Is the one ahead of the other? -/
def ltB (x y : Nat) : Bool := !nanB x && !nanB y && decide (key x < key y)
/-- Are they equal? -/
def eqB (x y : Nat) : Bool := !nanB x && !nanB y && decide (key x = key y)

theorem cmp_lt {a b : Int} : (compare a b == Ordering.lt) = decide (a < b) := by
  show (compareOfLessAndEq a b == Ordering.lt) = _
  unfold compareOfLessAndEq
  by_cases x : a < b
  · rw [if_pos x, decide_eq_true x]; rfl
  · rw [if_neg x, decide_eq_false x]; by_cases z : a = b
    · rw [if_pos z]; rfl
    · rw [if_neg z]; rfl
theorem cmp_gt {a b : Int} : (compare a b == Ordering.gt) = decide (b < a) := by
  show (compareOfLessAndEq a b == Ordering.gt) = _
  unfold compareOfLessAndEq
  by_cases x : a < b
  · rw [if_pos x, decide_eq_false (by omega)]; rfl
  · rw [if_neg x]; by_cases z : a = b
    · rw [if_pos z, decide_eq_false (by omega)]; rfl
    · rw [if_neg z, decide_eq_true (by omega)]; rfl
theorem cmp_eq {a b : Int} : (compare a b == Ordering.eq) = decide (a = b) := by
  show (compareOfLessAndEq a b == Ordering.eq) = _
  unfold compareOfLessAndEq
  by_cases x : a < b
  · rw [if_pos x, decide_eq_false (by omega)]; rfl
  · rw [if_neg x]; by_cases z : a = b
    · rw [if_pos z, decide_eq_true z]; rfl
    · rw [if_neg z, decide_eq_false z]; rfl

theorem lss_eq (x y : Nat) : (FloatKind.f64.format.order x y == some .lt) = ltB x y := by
  show (Ieee.double.order x y == some .lt) = _
  rw [order_eq]; unfold ltB
  cases nanB x <;> cases nanB y <;> simp only [Bool.or_true, Bool.or_false, Bool.or_self, if_true, if_false, Bool.false_eq_true] <;> first | rfl | exact cmp_lt
theorem gtr_eq (x y : Nat) : (FloatKind.f64.format.order x y == some .gt) = ltB y x := by
  show (Ieee.double.order x y == some .gt) = _
  rw [order_eq]; unfold ltB
  cases nanB x <;> cases nanB y <;> simp only [Bool.or_true, Bool.or_false, Bool.or_self, if_true, if_false, Bool.false_eq_true] <;> first | rfl | exact cmp_gt
theorem eql_eq (x y : Nat) : (FloatKind.f64.format.order x y == some .eq) = eqB x y := by
  show (Ieee.double.order x y == some .eq) = _
  rw [order_eq]; unfold eqB
  cases nanB x <;> cases nanB y <;> simp only [Bool.or_true, Bool.or_false, Bool.or_self, if_true, if_false, Bool.false_eq_true] <;> first | rfl | exact cmp_eq
theorem neq_eq (x y : Nat) : (FloatKind.f64.format.order x y != some .eq) = !eqB x y := by
  rw [← eql_eq]; rfl
theorem eqB_self (x : Nat) : eqB x x = !nanB x := by
  unfold eqB; cases nanB x <;> simp

/-- The canonical word. -/
def canonN (x : Nat) : Nat := if nanB x then 9221120237041090560 else if x % 9223372036854775808 = 0 then 0 else x
theorem canonN_nan {x : Nat} (h : nanB x = true) : canonN x = 9221120237041090560 := by unfold canonN; rw [if_pos h]
theorem canonN_zero {x : Nat} (h : nanB x = false) (hz : eqB x 0 = true) : canonN x = 0 := by
  unfold canonN; rw [h]; simp only [Bool.false_eq_true, if_false]
  unfold eqB at hz; simp at hz
  rw [if_pos]
  have h0 : key 0 = 0 := rfl
  have := hz.2; rw [h0] at this; unfold key at this; split at this <;> omega
theorem canonN_other {x : Nat} (h : nanB x = false) (hz : eqB x 0 = false) : canonN x = x := by
  unfold canonN; rw [h]; simp only [Bool.false_eq_true, if_false]
  have n0 : nanB 0 = false := rfl
  unfold eqB at hz; rw [h, n0] at hz; simp at hz
  rw [if_neg]
  intro e
  apply hz
  have h0 : key 0 = 0 := rfl
  rw [h0]; unfold key; split <;> omega

end Fl
end Go.Proofs.Ytaclkmhgbmencaa
