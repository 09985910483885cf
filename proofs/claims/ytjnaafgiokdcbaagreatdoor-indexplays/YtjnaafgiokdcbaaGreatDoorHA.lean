/- The order of two float64 words, read off their bits: plain numbers, nothing of the program. -/
import Ieee.Arith
import Derived.WalkLawsBesides
import Derived.Laws.BitsAllLaws
import Derived.WalkKit
namespace Go.Proofs.YtjnaafgiokdcbaaGreatDoor
namespace Fl

/-- Is the word a NaN? -/
def nanB (x : Nat) : Bool := decide (9218868437227405312 < x % 9223372036854775808)
/-- The place of a word that is no NaN among all such, 0 and -0 at one place. -/
def key (x : Nat) : Int := if x / 9223372036854775808 % 2 = 1 then -((x % 9223372036854775808 : Nat) : Int) else ((x % 9223372036854775808 : Nat) : Int)

def sgn (s : Bool) (n : Nat) : Int := if s then -(n : Int) else (n : Int)
/-- The magnitude of a finite rung, in units of the least one. -/
def mag (r : Nat) : Nat := if r < 4503599627370496 then r else (4503599627370496 + r % 4503599627370496) * 2 ^ (r / 4503599627370496 - 1)

theorem mag_succ (r : Nat) : mag r < mag (r + 1) := by
  unfold mag
  by_cases h1 : r + 1 < 4503599627370496
  · rw [if_pos (by omega), if_pos h1]; omega
  · rw [if_neg h1]
    by_cases h2 : r < 4503599627370496
    · rw [if_pos h2]
      have e : r = 4503599627370495 := by omega
      subst e
      decide
    · rw [if_neg h2]
      by_cases h3 : r % 4503599627370496 = 4503599627370495
      · have e1 : (r + 1) % 4503599627370496 = 0 := by omega
        have e2 : (r + 1) / 4503599627370496 - 1 = (r / 4503599627370496 - 1) + 1 := by omega
        rw [e1, e2, h3, Nat.pow_succ]
        have hp : 0 < 2 ^ (r / 4503599627370496 - 1) := Nat.two_pow_pos _
        generalize 2 ^ (r / 4503599627370496 - 1) = p at hp
        omega
      · have e1 : (r + 1) % 4503599627370496 = r % 4503599627370496 + 1 := by omega
        have e2 : (r + 1) / 4503599627370496 = r / 4503599627370496 := by omega
        rw [e1, e2]
        exact Nat.mul_lt_mul_of_pos_right (by omega) (Nat.two_pow_pos _)

theorem mag_lt {a b : Nat} (h : a < b) : mag a < mag b := by
  induction b with
  | zero => omega
  | succ n ih =>
    by_cases e : a = n
    · subst e; exact mag_succ a
    · exact Nat.lt_trans (ih (by omega)) (mag_succ n)

theorem mag_lt_iff (a b : Nat) : mag a < mag b ↔ a < b := by
  constructor
  · intro h
    by_cases e : a < b
    · exact e
    · by_cases e2 : a = b
      · subst e2; omega
      · have := mag_lt (a := b) (b := a) (by omega); omega
  · exact mag_lt

theorem mag_zero : mag 0 = 0 := rfl

theorem compare_congr {a b c d : Int} (h1 : a < b ↔ c < d) (h2 : b < a ↔ d < c) : compare a b = compare c d := by
  show compareOfLessAndEq a b = compareOfLessAndEq c d
  unfold compareOfLessAndEq
  by_cases x : a < b
  · rw [if_pos x, if_pos (h1.1 x)]
  · have y : ¬ c < d := fun h => x (h1.2 h)
    rw [if_neg x, if_neg y]
    by_cases z : a = b
    · have : c = d := by
        have : ¬ d < c := fun h => by have := h2.2 h; omega
        omega
      rw [if_pos z, if_pos this]
    · have : ¬ c = d := by
        have : b < a := by omega
        have := h2.1 this
        omega
      rw [if_neg z, if_neg this]

theorem compare_mag (s t : Bool) (a b : Nat) : compare (sgn s (mag a)) (sgn t (mag b)) = compare (sgn s a) (sgn t b) := by
  have h1 := mag_lt_iff a b
  have h2 := mag_lt_iff b a
  have h3 := mag_lt_iff 0 a
  have h4 := mag_lt_iff 0 b
  rw [mag_zero] at h3 h4
  refine compare_congr ?_ ?_ <;> cases s <;> cases t <;> simp only [sgn, if_true, if_false, Bool.false_eq_true] <;> omega

theorem signed_eq (s : Bool) (m k : Nat) : Ieee.signed s m k = sgn s (m * 2 ^ k) := by
  unfold Ieee.signed sgn; rw [Nat.shiftLeft_eq]

theorem compare_scale (s t : Bool) (a b p : Nat) (hp : 0 < p) : compare (sgn s a) (sgn t b) = compare (sgn s (a * p)) (sgn t (b * p)) := by
  have h1 : a * p < b * p ↔ a < b := Nat.mul_lt_mul_right hp
  have h2 : b * p < a * p ↔ b < a := Nat.mul_lt_mul_right hp
  have h3 : 0 < a * p ↔ 0 < a := by have := Nat.mul_lt_mul_right (b := 0) (c := a) hp; rwa [Nat.zero_mul] at this
  have h4 : 0 < b * p ↔ 0 < b := by have := Nat.mul_lt_mul_right (b := 0) (c := b) hp; rwa [Nat.zero_mul] at this
  generalize a * p = a' at *
  generalize b * p = b' at *
  refine compare_congr ?_ ?_ <;> cases s <;> cases t <;> simp only [sgn, if_true, if_false, Bool.false_eq_true] <;> omega

theorem order_numbers (s t : Bool) (m n k l : Nat) (L : Int) :
    (Ieee.Datum.number s m (L + (k : Nat))).order (Ieee.Datum.number t n (L + (l : Nat))) = some (compare (sgn s (m * 2 ^ k)) (sgn t (n * 2 ^ l))) := by
  simp only [Ieee.Datum.order, signed_eq]
  have e1 : (L + (k : Int) - min (L + (k : Int)) (L + (l : Int))).toNat = k - min k l := by omega
  have e2 : (L + (l : Int) - min (L + (k : Int)) (L + (l : Int))).toNat = l - min k l := by omega
  rw [e1, e2, compare_scale s t _ _ (2 ^ min k l) (Nat.two_pow_pos _)]
  rw [Nat.mul_assoc, Nat.mul_assoc, ← Nat.pow_add, ← Nat.pow_add, Nat.sub_add_cancel (Nat.min_le_left _ _), Nat.sub_add_cancel (Nat.min_le_right _ _)]

theorem read_eq (x : Nat) : Ieee.double.read x =
    if x % 9223372036854775808 < 9218868437227405312 then
      .number (x / 9223372036854775808 % 2 == 1) (if x % 9223372036854775808 < 4503599627370496 then x % 9223372036854775808 else 4503599627370496 + x % 9223372036854775808 % 4503599627370496)
        (Ieee.double.leastPlace + ((if x % 9223372036854775808 < 4503599627370496 then 0 else x % 9223372036854775808 / 4503599627370496 - 1 : Nat) : Int))
    else if x % 9223372036854775808 = 9218868437227405312 then .infinity (x / 9223372036854775808 % 2 == 1)
    else .nan (x / 9223372036854775808 % 2 == 1) (x % 9223372036854775808 - 9218868437227405312) := by
  have hb : Ieee.double.binade = 4503599627370496 := by decide
  have hi : Ieee.double.infRung = 9218868437227405312 := by decide
  have hs : Ieee.double.signWeight = 9223372036854775808 := by decide
  unfold Ieee.Format.read
  rw [hb, hi, hs]
  simp only []
  by_cases h1 : x % 9223372036854775808 < 4503599627370496
  · rw [if_pos h1, if_pos (by omega), if_pos h1, if_pos h1]; simp
  · rw [if_neg h1, if_neg h1, if_neg h1]

theorem mag_eq (r : Nat) : (if r < 4503599627370496 then r else 4503599627370496 + r % 4503599627370496) * 2 ^ (if r < 4503599627370496 then 0 else r / 4503599627370496 - 1) = mag r := by
  unfold mag
  by_cases h : r < 4503599627370496
  · rw [if_pos h, if_pos h, if_pos h, Nat.pow_zero, Nat.mul_one]
  · rw [if_neg h, if_neg h, if_neg h]

theorem sgn_key (x : Nat) : sgn (x / 9223372036854775808 % 2 == 1) (x % 9223372036854775808) = key x := by
  unfold sgn key
  by_cases h : x / 9223372036854775808 % 2 = 1
  · rw [if_pos h, if_pos (by rw [h]; rfl)]
  · rw [if_neg h, if_neg (by simpa using h)]

theorem ite_ff {α : Type} (a b : α) : (if false = true then a else b) = b := rfl

/-- THE ORDER OF TWO WORDS. -/
theorem order_eq (x y : Nat) : Ieee.double.order x y = if nanB x || nanB y then none else some (compare (key x) (key y)) := by
  have kx := sgn_key x
  have ky := sgn_key y
  unfold Ieee.Format.order
  rw [read_eq x, read_eq y]
  generalize hr : x % 9223372036854775808 = r at *
  generalize hq : y % 9223372036854775808 = q at *
  have hnx : nanB x = decide (9218868437227405312 < r) := by unfold nanB; rw [hr]
  have hny : nanB y = decide (9218868437227405312 < q) := by unfold nanB; rw [hq]
  generalize (x / 9223372036854775808 % 2 == 1) = s at *
  generalize (y / 9223372036854775808 % 2 == 1) = t at *
  rw [hnx, hny, ← kx, ← ky]
  by_cases a1 : r < 9218868437227405312
  · rw [if_pos a1, decide_eq_false (by omega : ¬ 9218868437227405312 < r), Bool.false_or]
    by_cases b1 : q < 9218868437227405312
    · rw [if_pos b1, decide_eq_false (by omega : ¬ 9218868437227405312 < q), ite_ff, order_numbers, mag_eq, mag_eq, compare_mag]
    · rw [if_neg b1]
      by_cases b2 : q = 9218868437227405312
      · rw [if_pos b2, decide_eq_false (by omega : ¬ 9218868437227405312 < q), ite_ff]
        simp only [Ieee.Datum.order]
        cases t
        · have h : compare (sgn s r) (sgn false q) = .lt := by
            have h : sgn s r < sgn false q := by cases s <;> simp only [sgn, if_true, if_false, Bool.false_eq_true] <;> omega
            show compareOfLessAndEq _ _ = _
            unfold compareOfLessAndEq; rw [if_pos h]
          rw [h]; rfl
        · have h : compare (sgn s r) (sgn true q) = .gt := by
            have h : sgn true q < sgn s r := by cases s <;> simp only [sgn, if_true, if_false, Bool.false_eq_true] <;> omega
            show compareOfLessAndEq _ _ = _
            unfold compareOfLessAndEq; rw [if_neg (by omega), if_neg (by omega)]
          rw [h]; rfl
      · rw [if_neg b2, decide_eq_true (by omega : 9218868437227405312 < q), if_pos rfl]; rfl
  · rw [if_neg a1]
    by_cases a2 : r = 9218868437227405312
    · rw [if_pos a2, decide_eq_false (by omega : ¬ 9218868437227405312 < r), Bool.false_or]
      by_cases b1 : q < 9218868437227405312
      · rw [if_pos b1, decide_eq_false (by omega : ¬ 9218868437227405312 < q), ite_ff]
        simp only [Ieee.Datum.order]
        cases s
        · have h : compare (sgn false r) (sgn t q) = .gt := by
            have h : sgn t q < sgn false r := by cases t <;> simp only [sgn, if_true, if_false, Bool.false_eq_true] <;> omega
            show compareOfLessAndEq _ _ = _
            unfold compareOfLessAndEq; rw [if_neg (by omega), if_neg (by omega)]
          rw [h]; rfl
        · have h : compare (sgn true r) (sgn t q) = .lt := by
            have h : sgn true r < sgn t q := by cases t <;> simp only [sgn, if_true, if_false, Bool.false_eq_true] <;> omega
            show compareOfLessAndEq _ _ = _
            unfold compareOfLessAndEq; rw [if_pos h]
          rw [h]; rfl
      · rw [if_neg b1]
        by_cases b2 : q = 9218868437227405312
        · rw [if_pos b2, decide_eq_false (by omega : ¬ 9218868437227405312 < q), ite_ff]
          subst a2; subst b2
          simp only [Ieee.Datum.order]
          cases s <;> cases t <;> decide
        · rw [if_neg b2, decide_eq_true (by omega : 9218868437227405312 < q), if_pos rfl]; rfl
    · rw [if_neg a2, decide_eq_true (by omega : 9218868437227405312 < r), Bool.true_or, if_pos rfl]
      split <;> (try split) <;> rfl

/-- Is the one ahead of the other? -/
def ltB (x y : Nat) : Bool := !nanB x && !nanB y && decide (key x < key y)
/-- Are they equal? -/
def eqB (x y : Nat) : Bool := !nanB x && !nanB y && decide (key x = key y)

theorem cmp_lt {a b : Int} : (compare a b == Ordering.lt) = decide (a < b) := by
  show (compareOfLessAndEq a b == Ordering.lt) = _
  unfold compareOfLessAndEq
  by_cases x : a < b
  · rw [if_pos x, decide_eq_true x]; rfl
  · rw [if_neg x, decide_eq_false x]; by_cases z : a = b
    · rw [if_pos z]; rfl
    · rw [if_neg z]; rfl
theorem cmp_gt {a b : Int} : (compare a b == Ordering.gt) = decide (b < a) := by
  show (compareOfLessAndEq a b == Ordering.gt) = _
  unfold compareOfLessAndEq
  by_cases x : a < b
  · rw [if_pos x, decide_eq_false (by omega)]; rfl
  · rw [if_neg x]; by_cases z : a = b
    · rw [if_pos z, decide_eq_false (by omega)]; rfl
    · rw [if_neg z, decide_eq_true (by omega)]; rfl
theorem cmp_eq {a b : Int} : (compare a b == Ordering.eq) = decide (a = b) := by
  show (compareOfLessAndEq a b == Ordering.eq) = _
  unfold compareOfLessAndEq
  by_cases x : a < b
  · rw [if_pos x, decide_eq_false (by omega)]; rfl
  · rw [if_neg x]; by_cases z : a = b
    · rw [if_pos z, decide_eq_true z]; rfl
    · rw [if_neg z, decide_eq_false z]; rfl

theorem lss_eq (x y : Nat) : (FloatKind.f64.format.order x y == some .lt) = ltB x y := by
  show (Ieee.double.order x y == some .lt) = _
  rw [order_eq]; unfold ltB
  cases nanB x <;> cases nanB y <;> simp only [Bool.or_true, Bool.or_false, Bool.or_self, if_true, if_false, Bool.false_eq_true] <;> first | rfl | exact cmp_lt
theorem gtr_eq (x y : Nat) : (FloatKind.f64.format.order x y == some .gt) = ltB y x := by
  show (Ieee.double.order x y == some .gt) = _
  rw [order_eq]; unfold ltB
  cases nanB x <;> cases nanB y <;> simp only [Bool.or_true, Bool.or_false, Bool.or_self, if_true, if_false, Bool.false_eq_true] <;> first | rfl | exact cmp_gt
theorem eql_eq (x y : Nat) : (FloatKind.f64.format.order x y == some .eq) = eqB x y := by
  show (Ieee.double.order x y == some .eq) = _
  rw [order_eq]; unfold eqB
  cases nanB x <;> cases nanB y <;> simp only [Bool.or_true, Bool.or_false, Bool.or_self, if_true, if_false, Bool.false_eq_true] <;> first | rfl | exact cmp_eq
theorem neq_eq (x y : Nat) : (FloatKind.f64.format.order x y != some .eq) = !eqB x y := by
  rw [← eql_eq]; rfl
theorem eqB_self (x : Nat) : eqB x x = !nanB x := by
  unfold eqB; cases nanB x <;> simp

/-- The canonical word. -/
def canonN (x : Nat) : Nat := if nanB x then 9221120237041090560 else if x % 9223372036854775808 = 0 then 0 else x
theorem canonN_nan {x : Nat} (h : nanB x = true) : canonN x = 9221120237041090560 := by unfold canonN; rw [if_pos h]
theorem canonN_zero {x : Nat} (h : nanB x = false) (hz : eqB x 0 = true) : canonN x = 0 := by
  unfold canonN; rw [h]; simp only [Bool.false_eq_true, if_false]
  unfold eqB at hz; simp at hz
  rw [if_pos]
  have h0 : key 0 = 0 := rfl
  have := hz.2; rw [h0] at this; unfold key at this; split at this <;> omega
theorem canonN_other {x : Nat} (h : nanB x = false) (hz : eqB x 0 = false) : canonN x = x := by
  unfold canonN; rw [h]; simp only [Bool.false_eq_true, if_false]
  have n0 : nanB 0 = false := rfl
  unfold eqB at hz; rw [h, n0] at hz; simp at hz
  rw [if_neg]
  intro e
  apply hz
  have h0 : key 0 = 0 := rfl
  rw [h0]; unfold key; split <;> omega

end Fl

end Go.Proofs.YtjnaafgiokdcbaaGreatDoor

/- Words of float64: canonical ones, their bits, the next one, how two compare; how Go's operations on uint64 come to them. Plain numbers. -/
namespace Go.Proofs.YtjnaafgiokdcbaaGreatDoor
namespace Fl

theorem xor_low (n : Nat) (h : n < 9223372036854775808) : n ^^^ 9223372036854775808 = n + 9223372036854775808 := by
  apply Nat.eq_of_testBit_eq
  intro i
  rw [Nat.testBit_xor, show (9223372036854775808 : Nat) = 2 ^ 63 from rfl, Nat.testBit_two_pow, Nat.add_comm n]
  rcases Nat.lt_trichotomy i 63 with hi | hi | hi
  · rw [Nat.testBit_two_pow_add_gt hi, decide_eq_false (by omega)]; simp
  · subst hi; rw [Nat.testBit_two_pow_add_eq]; simp
  · have a1 : n < 2 ^ i := Nat.lt_of_lt_of_le (show n < 2 ^ 63 from h) (Nat.pow_le_pow_right (by omega) (by omega : 63 ≤ i))
    have a2 : 2 ^ 63 + n < 2 ^ i := Nat.lt_of_lt_of_le (Nat.add_lt_add_left h (2 ^ 63)) (Nat.le_trans (by decide : 2 ^ 63 + 9223372036854775808 ≤ 2 ^ 64) (Nat.pow_le_pow_right (by omega) (by omega : 64 ≤ i)))
    rw [Nat.testBit_lt_two_pow a1, Nat.testBit_lt_two_pow a2]; simp; omega

theorem xor_high (n : Nat) (h1 : 9223372036854775808 ≤ n) (h2 : n < 18446744073709551616) : n ^^^ 9223372036854775808 = n - 9223372036854775808 := by
  have e := xor_low (n - 9223372036854775808) (by omega)
  rw [Nat.sub_add_cancel h1] at e
  rw [← e, Nat.xor_assoc, Nat.xor_self, Nat.xor_zero, e]

theorem xor_all (n : Nat) (h : n < 18446744073709551616) : 18446744073709551615 ^^^ n = 18446744073709551615 - n := by
  apply Nat.eq_of_testBit_eq
  intro i
  rw [Nat.testBit_xor, show (18446744073709551615 : Nat) = 2 ^ 64 - 1 from rfl, Nat.testBit_two_pow_sub_one, show 2 ^ 64 - 1 - n = 2 ^ 64 - (n + 1) from by omega, Nat.testBit_two_pow_sub_succ (by omega)]
  by_cases hi : i < 64
  · simp [hi]
  · have a1 : n < 2 ^ i := Nat.lt_of_lt_of_le (by omega : n < 2 ^ 64) (Nat.pow_le_pow_right (by omega) (by omega : 64 ≤ i))
    rw [Nat.testBit_lt_two_pow a1]; simp [hi]

theorem and_sign (n : Nat) (h : n < 18446744073709551616) : n &&& 9223372036854775808 = if 9223372036854775808 ≤ n then 9223372036854775808 else 0 := by
  have e := nat_bit 63 n
  rw [show (2 : Nat) ^ 63 = 9223372036854775808 from rfl] at e
  rw [e]
  split <;> omega

theorem and_u64 (n : Nat) (h : n < 18446744073709551616) : bits BinOp.and IntKind.u64 (n : Int) 9223372036854775808 = if 9223372036854775808 ≤ n then 9223372036854775808 else 0 := by
  have e := u64_and_nat n 9223372036854775808 h (by omega)
  rw [show ((9223372036854775808 : Nat) : Int) = 9223372036854775808 from rfl] at e
  rw [e, and_sign n h]
  split <;> rfl

theorem sign_of_true {n : Nat} (h : n < 18446744073709551616) (ht : (bits BinOp.and IntKind.u64 (n : Int) 9223372036854775808 != 0) = true) : 9223372036854775808 ≤ n := by
  rw [and_u64 n h] at ht
  by_cases c : 9223372036854775808 ≤ n
  · exact c
  · rw [if_neg c] at ht; simp at ht
theorem sign_of_false {n : Nat} (h : n < 18446744073709551616) (ht : (bits BinOp.and IntKind.u64 (n : Int) 9223372036854775808 != 0) = false) : n < 9223372036854775808 := by
  rw [and_u64 n h] at ht
  by_cases c : 9223372036854775808 ≤ n
  · rw [if_pos c] at ht; simp at ht
  · omega

theorem umax : IntKind.u64.max = 18446744073709551615 := by decide
theorem not_u64 (n : Nat) (h : n < 18446744073709551616) : bits BinOp.xor IntKind.u64 IntKind.u64.max (n : Int) = ((18446744073709551615 - n : Nat) : Int) := by
  have e := u64_xor_nat 18446744073709551615 n (by omega) h
  rw [xor_all n h] at e
  rw [umax]; exact e
theorem flip_u64 (n : Nat) (h : n < 18446744073709551616) : bits BinOp.xor IntKind.u64 (n : Int) 9223372036854775808 = ((if 9223372036854775808 ≤ n then n - 9223372036854775808 else n + 9223372036854775808 : Nat) : Int) := by
  have e := u64_xor_nat n 9223372036854775808 h (by omega)
  rw [show ((9223372036854775808 : Nat) : Int) = 9223372036854775808 from rfl] at e
  rw [e]
  by_cases c : 9223372036854775808 ≤ n
  · rw [if_pos c, xor_high n c h]
  · rw [if_neg c, xor_low n (by omega)]

theorem canonN_lt {x : Nat} (h : x < 18446744073709551616) : canonN x < 18446744073709551616 := by
  unfold canonN; split
  · omega
  · split <;> omega

/-- Is the word canonical? -/
def isB (x : Nat) : Bool := x == canonN x
theorem isB_int (x : Nat) : ((x : Int) == (canonN x : Int)) = isB x := by
  unfold isB; rw [Bool.eq_iff_iff]; simp; omega

/-- The word, or 0 where it is not canonical. -/
def gotN (x : Nat) : Nat := if isB x then x else 0

theorem gotN_lt {x : Nat} (h : x < 18446744073709551616) : gotN x < 18446744073709551616 := by unfold gotN; split <;> omega

/-- The bits in the order. -/
def bitsN (x : Nat) : Nat := if 9223372036854775808 ≤ canonN x then 18446744073709551615 - canonN x else canonN x + 9223372036854775808
theorem bits_neg {x : Nat} (h : x < 18446744073709551616) (ht : (bits BinOp.and IntKind.u64 (canonN x : Int) 9223372036854775808 != 0) = true) :
    bits BinOp.xor IntKind.u64 IntKind.u64.max (canonN x : Int) = (bitsN x : Int) := by
  have c := sign_of_true (canonN_lt h) ht
  rw [not_u64 _ (canonN_lt h)]; unfold bitsN; rw [if_pos c]
theorem bits_pos {x : Nat} (h : x < 18446744073709551616) (ht : (bits BinOp.and IntKind.u64 (canonN x : Int) 9223372036854775808 != 0) = false) :
    bits BinOp.xor IntKind.u64 (canonN x : Int) 9223372036854775808 = (bitsN x : Int) := by
  have c := sign_of_false (canonN_lt h) ht
  rw [flip_u64 _ (canonN_lt h)]; unfold bitsN; rw [if_neg (by omega), if_neg (by omega)]
theorem bitsN_lt {x : Nat} (h : x < 18446744073709551616) : bitsN x < 18446744073709551616 := by
  have := canonN_lt h
  unfold bitsN; split <;> omega

/-- The word of given bits. -/
def unbN (u : Nat) : Nat := if 9223372036854775808 ≤ u then u - 9223372036854775808 else 18446744073709551615 - u
theorem unbN_lt {u : Nat} (h : u < 18446744073709551616) : unbN u < 18446744073709551616 := by
  unfold unbN; split <;> omega
theorem unb_high {u : Nat} (h : u < 18446744073709551616) (ht : (bits BinOp.and IntKind.u64 (u : Int) 9223372036854775808 != 0) = true) :
    bits BinOp.xor IntKind.u64 (u : Int) 9223372036854775808 = (unbN u : Int) := by
  have c := sign_of_true h ht
  rw [flip_u64 _ h]; unfold unbN; rw [if_pos c, if_pos c]
theorem unb_low {u : Nat} (h : u < 18446744073709551616) (ht : (bits BinOp.and IntKind.u64 (u : Int) 9223372036854775808 != 0) = false) :
    bits BinOp.xor IntKind.u64 IntKind.u64.max (u : Int) = (unbN u : Int) := by
  have c := sign_of_false h ht
  rw [not_u64 _ h]; unfold unbN; rw [if_neg (by omega)]

theorem unb_wrap {u : Nat} (h : u < 18446744073709551616) (hs : decide ((9223372036854775808 : Int) ≤ (u : Int)) = true) : (IntKind.u64.wrap ((u : Int) - 9223372036854775808)).toNat = unbN u := by
  have hs' : (9223372036854775808 : Int) ≤ (u : Int) := by simpa using hs
  rw [IntWalk.u64_in _ (by omega)]; unfold unbN; rw [if_pos (by omega)]; omega
theorem unb_not {u : Nat} (h : u < 18446744073709551616) (hs : decide ((9223372036854775808 : Int) ≤ (u : Int)) = false) : (bits BinOp.xor IntKind.u64 IntKind.u64.max (u : Int)).toNat = unbN u := by
  have hs' : (u : Int) < 9223372036854775808 := by simpa using hs
  rw [not_u64 _ h]; unfold unbN; rw [if_neg (by omega)]; omega
theorem wrap_up {n : Nat} (h : (n : Int) < 9223372036854775808) : IntKind.u64.wrap ((n : Int) + 9223372036854775808) = ((n + 9223372036854775808 : Nat) : Int) := by
  rw [IntWalk.u64_in _ (by omega)]; omega

/-- How two compare, by cases. -/
def cmpI (x y : Nat) : Int := if nanB x then (if nanB y then 0 else 1) else if nanB y then -1 else if ltB x y then -1 else if ltB y x then 1 else 0
/-- The place of any word in the order. -/
def ord (x : Nat) : Int := if nanB x then 9223372036854775808 else key x

theorem ltB_of {x y : Nat} (hx : nanB x = false) (hy : nanB y = false) : ltB x y = decide (key x < key y) := by
  unfold ltB; rw [hx, hy]; rfl
theorem key_lt {x : Nat} (h : nanB x = false) : key x < 9223372036854775808 ∧ key x ≤ 9218868437227405312 ∧ -9218868437227405312 ≤ key x := by
  unfold nanB at h; simp at h; unfold key; split <;> omega
theorem cmpI_eq (x y : Nat) : cmpI x y = if ord x < ord y then -1 else if ord y < ord x then 1 else 0 := by
  unfold cmpI ord
  cases hx : nanB x <;> cases hy : nanB y <;> simp only [if_true, if_false, Bool.false_eq_true]
  · rw [ltB_of hx hy, ltB_of hy hx]; simp only [decide_eq_true_eq]
  · have := key_lt hx; rw [if_pos this.1]
  · have := key_lt hy; rw [if_neg (by omega), if_pos this.1]
  · rw [if_neg (by omega), if_neg (by omega)]

theorem ord_cases {x : Nat} (h : x < 18446744073709551616) : (nanB x = true ∧ ord x = 9223372036854775808 ∧ canonN x = 9221120237041090560 ∧ bitsN x = 18444492273895866368) ∨
    (nanB x = false ∧ (-9218868437227405312 ≤ ord x ∧ ord x ≤ 9218868437227405312) ∧ (bitsN x : Int) = (if ord x < 0 then ord x + 9223372036854775807 else ord x + 9223372036854775808)
      ∧ (canonN x : Int) = (if ord x < 0 then 9223372036854775808 - ord x else ord x)) := by
  cases hx : nanB x
  · refine Or.inr ⟨rfl, ?_⟩
    have hk := key_lt hx
    have ho : ord x = key x := by unfold ord; rw [hx]; rfl
    rw [ho]
    have hc : (canonN x : Int) = (if key x < 0 then 9223372036854775808 - key x else key x) := by
      unfold canonN; rw [hx]; simp only [Bool.false_eq_true, if_false]
      unfold key; split <;> split <;> split <;> omega
    refine ⟨⟨hk.2.2, hk.2.1⟩, ?_, hc⟩
    unfold bitsN
    split at hc <;> rename_i h1
    · rw [if_pos (by omega), if_pos h1]; omega
    · rw [if_neg (by omega), if_neg h1]; omega
  · refine Or.inl ⟨rfl, ?_, canonN_nan hx, ?_⟩
    · unfold ord; rw [hx]; rfl
    · unfold bitsN; rw [canonN_nan hx]; rfl

theorem bitsN_lt_iff {x y : Nat} (hx : x < 18446744073709551616) (hy : y < 18446744073709551616) : bitsN x < bitsN y ↔ ord x < ord y := by
  rcases ord_cases hx with ⟨_, a1, _, a2⟩ | ⟨_, a1, a2, _⟩ <;> rcases ord_cases hy with ⟨_, b1, _, b2⟩ | ⟨_, b1, b2, _⟩ <;> (try split at a2) <;> (try split at b2) <;> omega

theorem canonN_idem (x : Nat) : canonN (canonN x) = canonN x := by
  cases hx : nanB x
  · have e : canonN x = if x % 9223372036854775808 = 0 then 0 else x := by unfold canonN; rw [hx]; rfl
    by_cases hz : x % 9223372036854775808 = 0
    · rw [e, if_pos hz]; rfl
    · rw [if_neg hz] at e; rw [e, e]
  · rw [canonN_nan hx]; rfl
theorem isB_canon (x : Nat) : isB (canonN x) = true := by
  unfold isB; rw [canonN_idem x]; simp

theorem bits_unb {u : Nat} (h : u < 18446744073709551616) (hi : isB (unbN u) = true) : bitsN (unbN u) = u := by
  unfold isB at hi
  have e : unbN u = canonN (unbN u) := by simpa using hi
  unfold bitsN; rw [← e]; unfold unbN; split <;> split <;> omega

theorem ord_canon (x : Nat) (h : x < 18446744073709551616) : ord (canonN x) = ord x := by
  have e := canonN_idem x
  have hl := canonN_lt h
  rcases ord_cases h with ⟨n1, a1, a2, _⟩ | ⟨n1, a1, _, a2⟩ <;> rcases ord_cases hl with ⟨m1, b1, b2, _⟩ | ⟨m1, b1, _, b2⟩
  · rw [a1, b1]
  · rw [a2] at m1; exact absurd m1 (by decide)
  · have : canonN x = x := by
      rw [e] at b2
      unfold canonN; rw [n1]; simp only [Bool.false_eq_true, if_false]
      split at a2 <;> omega
    rw [this]
  · rw [e] at b2; split at a2 <;> split at b2 <;> omega

theorem canon_of_ord {x y : Nat} (hx : x < 18446744073709551616) (hy : y < 18446744073709551616) : ord x = ord y ↔ canonN x = canonN y := by
  constructor
  · intro h
    rcases ord_cases hx with ⟨n1, a1, a2, _⟩ | ⟨n1, a1, _, a2⟩ <;> rcases ord_cases hy with ⟨m1, b1, b2, _⟩ | ⟨m1, b1, _, b2⟩
    · rw [a2, b2]
    · omega
    · omega
    · split at a2 <;> split at b2 <;> omega
  · intro h; rw [← ord_canon x hx, ← ord_canon y hy, h]

theorem cmpI_bd (x y : Nat) : -1 ≤ cmpI x y ∧ cmpI x y ≤ 1 := by rw [cmpI_eq]; split <;> (try split) <;> omega
theorem cmp_cases {x y : Nat} (hx : x < 18446744073709551616) (hy : y < 18446744073709551616) :
    (cmpI x y = -1 ∧ cmpI y x = 1 ∧ decide (bitsN x < bitsN y) = true ∧ decide (bitsN y < bitsN x) = false) ∨ (cmpI x y = 0 ∧ cmpI y x = 0 ∧ decide (bitsN x < bitsN y) = false ∧ decide (bitsN y < bitsN x) = false)
      ∨ (cmpI x y = 1 ∧ cmpI y x = -1 ∧ decide (bitsN x < bitsN y) = false ∧ decide (bitsN y < bitsN x) = true) := by
  have h1 := bitsN_lt_iff hx hy
  have h2 := bitsN_lt_iff hy hx
  rw [cmpI_eq, cmpI_eq y x]
  simp only [decide_eq_true_eq, decide_eq_false_iff_not, h1, h2]
  split <;> (try split) <;> omega

/-- The least word behind a finite one or -infinity. -/
def nextN (x : Nat) : Nat := if x % 9223372036854775808 = 0 then 1 else if x < 9223372036854775808 then x + 1 else if x = 9223372036854775809 then 0 else x - 1
/-- Is it infinity? -/
def infB (x : Nat) : Bool := ltB 9218868437227405311 x
/-- The least number behind one, 0 behind NaN. -/
def nxtN (x : Nat) : Nat := if nanB x then 0 else if infB x then 9221120237041090560 else nextN x

theorem key_inf : key 9218868437227405311 = 9218868437227405311 := by decide
theorem infB_of {x : Nat} (h : nanB x = false) : infB x = decide (9218868437227405311 < key x) := by
  unfold infB; rw [ltB_of (by decide) h, key_inf]
theorem key_of {x : Nat} (hx : x < 18446744073709551616) : key x = if 9223372036854775808 ≤ x then 9223372036854775808 - (x : Int) else (x : Int) := by
  unfold key; split <;> split <;> omega
theorem rung_of {x : Nat} (h : nanB x = false) : x % 9223372036854775808 ≤ 9218868437227405312 := by
  unfold nanB at h; simpa using h
theorem canonN_num {x : Nat} (h : nanB x = false) : canonN x = if x % 9223372036854775808 = 0 then 0 else x := by
  unfold canonN; rw [h]; rfl
theorem isB_num {x : Nat} (h : nanB x = false) (hz : x ≠ 9223372036854775808) (hx : x < 18446744073709551616) : isB x = true := by
  unfold isB; rw [canonN_num h]; split <;> simp; omega
theorem nan_false {x : Nat} (h : x % 9223372036854775808 ≤ 9218868437227405312) : nanB x = false := by
  unfold nanB; simpa using h

theorem eqB_neg {x : Nat} (hx : x < 18446744073709551616) (hn : nanB x = false) : eqB x 9223372036854775809 = decide (x = 9223372036854775809) := by
  have e : key 9223372036854775809 = -1 := by decide
  unfold eqB; rw [hn, show nanB 9223372036854775809 = false from by decide, e, key_of hx]
  rw [Bool.eq_iff_iff]; simp; split <;> omega

theorem next_bits {x : Nat} (hx : x < 18446744073709551616) (hn : nanB x = false) (hi : infB x = false) (he : eqB x 9223372036854775809 = false) :
    bitsN x < 18446744073709551615 ∧ unbN (bitsN x + 1) = nextN x ∧ isB (nextN x) = true := by
  rw [eqB_neg hx hn] at he
  rw [infB_of hn, key_of hx] at hi
  have hr := rung_of hn
  have hc := canonN_num hn
  have e1 : x ≠ 9223372036854775809 := by simpa using he
  have e2 : ¬ 9218868437227405311 < (if 9223372036854775808 ≤ x then 9223372036854775808 - (x : Int) else (x : Int)) := by simpa using hi
  have hv : nextN x % 9223372036854775808 ≤ 9218868437227405312 ∧ nextN x ≠ 9223372036854775808 ∧ nextN x < 18446744073709551616 := by
    unfold nextN; split at e2 <;> split <;> (try split) <;> (try split) <;> omega
  have hi' := isB_num (nan_false hv.1) hv.2.1 hv.2.2
  clear hv
  by_cases hz : x % 9223372036854775808 = 0
  · rw [if_pos hz] at hc
    have hb : bitsN x = 9223372036854775808 := by unfold bitsN; rw [hc]; decide
    have hq : nextN x = 1 := by unfold nextN; rw [if_pos hz]
    rw [hb, hq] at *
    exact ⟨by omega, by decide, by decide⟩
  · rw [if_neg hz] at hc
    by_cases hg : 9223372036854775808 ≤ x
    · rw [if_pos hg] at e2
      have hb : bitsN x = 18446744073709551615 - x := by unfold bitsN; rw [hc, if_pos hg]
      have hq : nextN x = x - 1 := by unfold nextN; rw [if_neg hz, if_neg (by omega), if_neg e1]
      refine ⟨by omega, ?_, hi'⟩
      rw [hb, hq]; unfold unbN; rw [if_neg (by omega)]; omega
    · rw [if_neg hg] at e2
      have hb : bitsN x = x + 9223372036854775808 := by unfold bitsN; rw [hc, if_neg hg]
      have hq : nextN x = x + 1 := by unfold nextN; rw [if_neg hz, if_pos (by omega)]
      refine ⟨by omega, ?_, hi'⟩
      rw [hb, hq]; unfold unbN; rw [if_pos (by omega)]; omega

theorem zero_of {x : Nat} (hn : nanB x = false) : eqB x 0 = decide (x % 9223372036854775808 = 0) := by
  have e : key 0 = 0 := by decide
  unfold eqB; rw [hn, show nanB 0 = false from by decide, e, Bool.eq_iff_iff]; unfold key; simp; split <;> omega
theorem pos_of {x : Nat} (hx : x < 18446744073709551616) (hn : nanB x = false) : ltB 0 x = decide (x < 9223372036854775808 ∧ x ≠ 0) := by
  have e : key 0 = 0 := by decide
  rw [ltB_of (by decide) hn, e, key_of hx, Bool.eq_iff_iff]; simp; split <;> omega
theorem nan_inf : nanB 9218868437227405312 = false := by decide
theorem eq_inf {x : Nat} (hn : nanB x = false) (hi : infB x = false) : eqB x 9218868437227405312 = false := by
  have e : key 9218868437227405312 = 9218868437227405312 := by decide
  rw [infB_of hn] at hi
  have hi' : ¬ 9218868437227405311 < key x := by simpa using hi
  unfold eqB; rw [hn, nan_inf, e, decide_eq_false (by omega)]; rfl
theorem lt_inf {x : Nat} (hn : nanB x = false) (hi : infB x = false) : ltB x 9218868437227405312 = true := by
  have e : key 9218868437227405312 = 9218868437227405312 := by decide
  rw [infB_of hn] at hi
  have hi' : ¬ 9218868437227405311 < key x := by simpa using hi
  rw [ltB_of hn nan_inf, e, decide_eq_true (by omega)]
/-- What math.Nextafter comes to, towards infinity. -/
def nafN (x : Nat) : Nat := if x % 9223372036854775808 = 0 then 1 else if x < 9223372036854775808 then x + 1 else x - 1
theorem nafN_zero {x : Nat} (hn : nanB x = false) (hz : eqB x 0 = true) : nafN x = 1 := by
  rw [zero_of hn] at hz; unfold nafN; rw [if_pos (by simpa using hz)]
theorem nafN_pos {x : Nat} (hx : x < 18446744073709551616) (hn : nanB x = false) (hz : eqB x 0 = false) (hp : ltB 0 x = true) : nafN x = x + 1 ∧ x < 9223372036854775808 := by
  rw [zero_of hn] at hz; rw [pos_of hx hn] at hp
  have a1 : ¬ x % 9223372036854775808 = 0 := by simpa using hz
  have a2 : x < 9223372036854775808 ∧ x ≠ 0 := by simpa using hp
  unfold nafN; rw [if_neg a1, if_pos a2.1]; omega
theorem nafN_neg {x : Nat} (hx : x < 18446744073709551616) (hn : nanB x = false) (hz : eqB x 0 = false) (hp : ltB 0 x = false) : nafN x = x - 1 ∧ 9223372036854775808 < x := by
  rw [zero_of hn] at hz; rw [pos_of hx hn] at hp
  have a1 : ¬ x % 9223372036854775808 = 0 := by simpa using hz
  have a2 : ¬ (x < 9223372036854775808 ∧ x ≠ 0) := by simpa using hp
  have a3 : ¬ x < 9223372036854775808 := by omega
  unfold nafN; rw [if_neg a1, if_neg a3]; omega
theorem canon_naf {x : Nat} (hx : x < 18446744073709551616) (hn : nanB x = false) (hi : infB x = false) : canonN (nafN x) = nextN x := by
  have hr := rung_of hn
  rw [infB_of hn, key_of hx] at hi
  have e2 : ¬ 9218868437227405311 < (if 9223372036854775808 ≤ x then 9223372036854775808 - (x : Int) else (x : Int)) := by simpa using hi
  have hm : nafN x % 9223372036854775808 ≤ 9218868437227405312 := by
    unfold nafN; split at e2 <;> split <;> (try split) <;> omega
  rw [canonN_num (nan_false hm)]
  unfold nafN nextN
  by_cases hz : x % 9223372036854775808 = 0
  · rw [if_pos hz, if_pos hz]; decide
  · rw [if_neg hz, if_neg hz]
    by_cases hg : x < 9223372036854775808
    · rw [if_neg (by omega : ¬ 9223372036854775808 ≤ x)] at e2
      rw [if_pos hg, if_pos hg, if_neg (by omega)]
    · rw [if_neg hg, if_neg hg]
      by_cases he : x = 9223372036854775809
      · subst he; decide
      · rw [if_neg he, if_neg (by omega)]

theorem nextN_neg {x : Nat} (hx : x < 18446744073709551616) (hn : nanB x = false) (he : eqB x 9223372036854775809 = true) : nextN x = 0 := by
  rw [eqB_neg hx hn] at he
  have e1 : x = 9223372036854775809 := by simpa using he
  subst e1; decide
theorem infB_neg {x : Nat} (hx : x < 18446744073709551616) (hn : nanB x = false) (he : eqB x 9223372036854775809 = true) : infB x = false := by
  rw [eqB_neg hx hn] at he
  have e1 : x = 9223372036854775809 := by simpa using he
  subst e1; decide

theorem ord_next {x : Nat} (hx : x < 18446744073709551616) (hn : nanB x = false) (hi : infB x = false) : nextN x < 18446744073709551616 ∧ ord (nextN x) = ord x + 1 := by
  have hr := rung_of hn
  rw [infB_of hn, key_of hx] at hi
  have e2 : ¬ 9218868437227405311 < (if 9223372036854775808 ≤ x then 9223372036854775808 - (x : Int) else (x : Int)) := by simpa using hi
  have hv : nextN x % 9223372036854775808 ≤ 9218868437227405312 ∧ nextN x < 18446744073709551616 := by
    unfold nextN; split at e2 <;> split <;> (try split) <;> (try split) <;> omega
  refine ⟨hv.2, ?_⟩
  unfold ord
  rw [hn, nan_false hv.1]
  simp only [Bool.false_eq_true, if_false]
  rw [key_of hx, key_of hv.2]
  unfold nextN
  by_cases hz : x % 9223372036854775808 = 0
  · rw [if_pos hz, if_neg (by omega)]; split <;> omega
  · rw [if_neg hz]
    by_cases hg : x < 9223372036854775808
    · rw [if_neg (by omega : ¬ 9223372036854775808 ≤ x)] at e2
      rw [if_pos hg, if_neg (by omega), if_neg (by omega)]; omega
    · rw [if_neg hg, if_pos (by omega : 9223372036854775808 ≤ x)]
      by_cases he : x = 9223372036854775809
      · subst he; decide
      · rw [if_neg he, if_pos (by omega)]; omega
theorem ord_le {x : Nat} (hx : x < 18446744073709551616) : ord x ≤ 9218868437227405312 ∨ ord x = 9223372036854775808 := by
  rcases ord_cases hx with ⟨_, a, _⟩ | ⟨_, a, _⟩ <;> omega
theorem nxt_ord {x : Nat} (hx : x < 18446744073709551616) (hn : nanB x = false) : nxtN x < 18446744073709551616 ∧ ord x < ord (nxtN x) ∧ ∀ b, b < 18446744073709551616 → ord b ≤ ord x ∨ ord (nxtN x) ≤ ord b := by
  have hx' := ord_cases hx
  rw [hn] at hx'
  cases hi : infB x
  · have h := ord_next hx hn hi
    have e : nxtN x = nextN x := by unfold nxtN; rw [hn, hi]; rfl
    rw [e, h.2]
    exact ⟨h.1, by omega, fun b _ => by omega⟩
  · have e : nxtN x = 9221120237041090560 := by unfold nxtN; rw [hn, hi]; rfl
    have o : ord 9221120237041090560 = 9223372036854775808 := by decide
    rw [infB_of hn] at hi
    have hi' : 9218868437227405311 < key x := by simpa using hi
    have ho : ord x = key x := by unfold ord; rw [hn]; rfl
    rw [e, o]
    refine ⟨by omega, ?_, fun b hb => ?_⟩
    · have := key_lt hn; omega
    · have := ord_le hb; omega
theorem nxt_cmp {x b : Nat} (hx : x < 18446744073709551616) (hb : b < 18446744073709551616) (hn : nanB x = false) : cmpI x (nxtN x) = -1 ∧ (cmpI x b = 0 ∨ cmpI x b = 1 ∨ (cmpI x b = -1 ∧ (cmpI b (nxtN x) = 0 ∨ cmpI b (nxtN x) = 1))) := by
  have h := nxt_ord hx hn
  have h3 := h.2.2 b hb
  rw [cmpI_eq, cmpI_eq x b, cmpI_eq b]
  refine ⟨if_pos h.2.1, ?_⟩
  split <;> (try split) <;> (try split) <;> (try split) <;> omega

theorem cmpI_self (x : Nat) : cmpI x x = 0 := by rw [cmpI_eq]; split <;> (try split) <;> omega
theorem cmpI_canon {x : Nat} (hx : x < 18446744073709551616) : cmpI x (canonN x) = 0 := by rw [cmpI_eq, ord_canon x hx]; split <;> (try split) <;> omega
theorem total3 {a b c : Nat} (ha : a < 18446744073709551616) (hb : b < 18446744073709551616) :
    ((cmpI a b = 0 ∧ (canonN a == canonN b) = true) ∨ (cmpI a b = -1 ∧ (canonN a == canonN b) = false) ∨ (cmpI a b = 1 ∧ (canonN a == canonN b) = false)) ∧ (0 < cmpI a b ∨ 0 < cmpI b c ∨ cmpI a c ≤ 0) := by
  have h := canon_of_ord ha hb
  constructor
  · simp only [beq_iff_eq, beq_eq_false_iff_ne, ne_eq]
    rw [← h, cmpI_eq]; split <;> (try split) <;> omega
  · rw [cmpI_eq, cmpI_eq b c, cmpI_eq a c]; split <;> (try split) <;> (try split) <;> (try split) <;> (try split) <;> (try split) <;> omega

end Fl

end Go.Proofs.YtjnaafgiokdcbaaGreatDoor
