/- Decode, whole. -/
import Derived.Test.YtanljohnmaokeaaD3
namespace Go.Proofs.Ytanljohnmaokeaa
open Go.RowKit
namespace Vl

/-- A value and how many bytes stand behind its kind's. -/
structure Got where
  v : V
  sz : Nat
def zeroV : V := ⟨0, 0, 0, ⟨#[]⟩⟩
def chk (k n : Int) (f : Nat) (t : ByteArray) (sz : Nat) : Option Got := if goodB k n f t then some ⟨⟨k, n, f, t⟩, sz⟩ else none
/-- The value whose kind's byte is c and behind it stands x. -/
def decX (c : Nat) (x : ByteArray) : Option Got :=
  if c = 0 then chk 0 0 0 ⟨#[]⟩ 0
  else if c = 1 then (if x.size < 1 then none else chk 1 (i64N (nv x 1)) 0 ⟨#[]⟩ 1)
  else if c = 2 then (if x.size < 8 then none else chk 2 (i64N (nv x 8)) 0 ⟨#[]⟩ 8)
  else if c = 3 then (if x.size < 8 then none else if Fl.isB (Fl.unbN (nv x 8)) then chk 3 0 (Fl.gotN (Fl.unbN (nv x 8))) ⟨#[]⟩ 8 else none)
  else if c = 4 then (if x.size < 2 then none else if x.size < 2 + nv x 2 then none else chk 4 0 0 (x.extract 2 (2 + nv x 2)) (2 + nv x 2))
  else none
theorem decX_0 (x : ByteArray) : decX 0 x = chk 0 0 0 ⟨#[]⟩ 0 := by unfold decX; rw [if_pos rfl]
theorem decX_1 (x : ByteArray) : decX 1 x = if x.size < 1 then none else chk 1 (i64N (nv x 1)) 0 ⟨#[]⟩ 1 := by unfold decX; rw [if_neg (by omega), if_pos rfl]
theorem decX_2 (x : ByteArray) : decX 2 x = if x.size < 8 then none else chk 2 (i64N (nv x 8)) 0 ⟨#[]⟩ 8 := by unfold decX; rw [if_neg (by omega), if_neg (by omega), if_pos rfl]
theorem decX_3 (x : ByteArray) : decX 3 x = if x.size < 8 then none else if Fl.isB (Fl.unbN (nv x 8)) then chk 3 0 (Fl.gotN (Fl.unbN (nv x 8))) ⟨#[]⟩ 8 else none := by unfold decX; rw [if_neg (by omega), if_neg (by omega), if_neg (by omega), if_pos rfl]
theorem decX_4 (x : ByteArray) : decX 4 x = if x.size < 2 then none else if x.size < 2 + nv x 2 then none else chk 4 0 0 (x.extract 2 (2 + nv x 2)) (2 + nv x 2) := by unfold decX; rw [if_neg (by omega), if_neg (by omega), if_neg (by omega), if_neg (by omega), if_pos rfl]
theorem chk_no {k n : Int} {f : Nat} {t : ByteArray} {sz : Nat} (h : goodB k n f t = false) : chk k n f t sz = none := by unfold chk; rw [h]; rfl
theorem chk_yes {k n : Int} {f : Nat} {t : ByteArray} {sz : Nat} (h : goodB k n f t = true) : chk k n f t sz = some ⟨⟨k, n, f, t⟩, sz⟩ := by unfold chk; rw [if_pos h]
/-- The value that stands in s from a on. -/
def dec (s : ByteArray) (a : Int) : Option Got := if a < 0 ∨ (s.size : Int) ≤ a then none else decX (cAt s a.toNat) (s.extract (a.toNat + 1) s.size)
def gotV : Option Got → V
  | some g => g.v
  | none => zeroV
def gotZ : Option Got → Int
  | some g => 1 + (g.sz : Int)
  | none => 0
def gotB : Option Got → Bool
  | some _ => true
  | none => false
def V.agg (v : V) : Value := .agg #[.int .i64 v.k, .int .i64 v.n, .float .f64 v.f, .string v.s]
/-- What Decode tells. -/
def decT (r : Option Got) : Value := .tuple #[(gotV r).agg, .int .i64 (gotZ r), .bool (gotB r)]
end Vl

theorem decode_yes' (g pf tf : Nat) (s x : ByteArray) (a c : Nat) (k n : Int) (f : Nat) (t : ByteArray) (sz : Nat) (w : World) (eg : Vl.EntersFn Try.prog g) (et : Vl.EntersFn Try.prog tf) (ha : a < s.size) (hs : s.size ≤ 100000)
    (HC : Hid (Vl.cAt s a = c)) (ci : Int) (hci : ci = (c : Int)) (hl : Vl.Look Try.prog ci (.agg #[.func (.func g) #[] #[], .func (.func pf) #[] #[], .func (.func tf) #[] #[]]) true) (HX : Hid (s.extract (a + 1) s.size = x)) (hsz : sz ≤ 100000)
    (HG : Vl.GoodFn Try.prog g k n f t true) (z : Int) (hz : z = (sz : Int)) (HT : Vl.TakeFn Try.prog tf x k n f t z true) :
    Calls Try.prog 20 #[.string s, .int .i64 (a : Int)] w fun e w' => e = .returned (.tuple #[.agg #[.int .i64 k, .int .i64 n, .float .f64 f, .string t], .int .i64 (1 + z), .bool true]) ∧ Below w.heap.size w w' := by
  subst hci; subst hz
  exact decode_yes g pf tf s x a c k n f t sz w eg et ha hs HC hl HX hsz HG HT
theorem decode_no1' (g pf tf : Nat) (s x : ByteArray) (a c : Nat) (k n : Int) (f : Nat) (t : ByteArray) (sz : Nat) (w : World) (et : Vl.EntersFn Try.prog tf) (ha : a < s.size) (hs : s.size ≤ 100000)
    (HC : Hid (Vl.cAt s a = c)) (ci : Int) (hci : ci = (c : Int)) (hl : Vl.Look Try.prog ci (.agg #[.func (.func g) #[] #[], .func (.func pf) #[] #[], .func (.func tf) #[] #[]]) true) (HX : Hid (s.extract (a + 1) s.size = x))
    (z : Int) (hz : z = (sz : Int)) (HT : Vl.TakeFn Try.prog tf x k n f t z false) :
    Calls Try.prog 20 #[.string s, .int .i64 (a : Int)] w fun e w' => e = .returned (.tuple #[.agg #[.int .i64 0, .int .i64 0, .float .f64 0, .string ⟨#[]⟩], .int .i64 0, .bool false]) ∧ Below w.heap.size w w' := by
  subst hci; subst hz
  exact decode_no1 g pf tf s x a c k n f t sz w et ha hs HC hl HX HT
theorem decode_no2' (g pf tf : Nat) (s x : ByteArray) (a c : Nat) (k n : Int) (f : Nat) (t : ByteArray) (sz : Nat) (w : World) (eg : Vl.EntersFn Try.prog g) (et : Vl.EntersFn Try.prog tf) (ha : a < s.size) (hs : s.size ≤ 100000)
    (HC : Hid (Vl.cAt s a = c)) (ci : Int) (hci : ci = (c : Int)) (hl : Vl.Look Try.prog ci (.agg #[.func (.func g) #[] #[], .func (.func pf) #[] #[], .func (.func tf) #[] #[]]) true) (HX : Hid (s.extract (a + 1) s.size = x))
    (HG : Vl.GoodFn Try.prog g k n f t false) (z : Int) (hz : z = (sz : Int)) (HT : Vl.TakeFn Try.prog tf x k n f t z true) :
    Calls Try.prog 20 #[.string s, .int .i64 (a : Int)] w fun e w' => e = .returned (.tuple #[.agg #[.int .i64 0, .int .i64 0, .float .f64 0, .string ⟨#[]⟩], .int .i64 0, .bool false]) ∧ Below w.heap.size w w' := by
  subst hci; subst hz
  exact decode_no2 g pf tf s x a c k n f t sz w eg et ha hs HC hl HX HG HT

theorem decode_0 (s : ByteArray) (a : Nat) (w : World) (ha : a < s.size) (hs : s.size ≤ 100000) (hc : Vl.cAt s a = 0) :
    Calls Try.prog 20 #[.string s, .int .i64 (a : Int)] w fun e w' => e = .returned (Vl.decT (Vl.decX 0 (s.extract (a + 1) s.size))) ∧ Below w.heap.size w w' := by
  have hxs : (s.extract (a + 1) s.size).size ≤ 100000 := by rw [ByteArray.size_extract]; omega
  obtain ⟨x, hx⟩ : ∃ x, s.extract (a + 1) s.size = x := ⟨_, rfl⟩
  rw [hx] at hxs ⊢
  have HC : Hid (Vl.cAt s a = 0) := hc
  have HX : Hid (s.extract (a + 1) s.size = x) := hx
  clear hc hx
  cases hg : Vl.good0 (0) (0) (⟨#[]⟩)
  · have hgB : Vl.goodB 0 (0) (0) (⟨#[]⟩) = false := by rw [Vl.goodB_0]; exact hg
    have e : Vl.decT (Vl.decX 0 x) = .tuple #[.agg #[.int .i64 0, .int .i64 0, .float .f64 0, .string ⟨#[]⟩], .int .i64 0, .bool false] := by
      have e0 : Vl.decX 0 x = none := by rw [Vl.decX_0]; exact Vl.chk_no hgB
      rw [e0]; rfl
    rw [e]
    exact decode_no2' 62 63 64 s x a 0 0 (0) (0) (⟨#[]⟩) (0) w (enters_of Try.func62 (by kernel_rfl) rfl) (enters_of Try.func64 (by kernel_rfl) rfl) ha hs HC 0 rfl Try.look0 HX (fun W => by rw [← hg]; exact goodNull_any _ _ _ _ W) (0) rfl (fun W => takeNull_any x W)
  · have hgB : Vl.goodB 0 (0) (0) (⟨#[]⟩) = true := by rw [Vl.goodB_0]; exact hg
    have e : Vl.decT (Vl.decX 0 x) = .tuple #[.agg #[.int .i64 0, .int .i64 (0), .float .f64 (0), .string (⟨#[]⟩)], .int .i64 (1 + (0)), .bool true] := by
      have e0 : Vl.decX 0 x = some ⟨⟨0, 0, 0, ⟨#[]⟩⟩, 0⟩ := by rw [Vl.decX_0]; exact Vl.chk_yes hgB
      rw [e0]; rfl
    rw [e]
    exact decode_yes' 62 63 64 s x a 0 0 (0) (0) (⟨#[]⟩) (0) w (enters_of Try.func62 (by kernel_rfl) rfl) (enters_of Try.func64 (by kernel_rfl) rfl) ha hs HC 0 rfl Try.look0 HX (by omega) (fun W => by rw [← hg]; exact goodNull_any _ _ _ _ W) (0) rfl (fun W => takeNull_any x W)

theorem decode_1 (s : ByteArray) (a : Nat) (w : World) (ha : a < s.size) (hs : s.size ≤ 100000) (hc : Vl.cAt s a = 1) :
    Calls Try.prog 20 #[.string s, .int .i64 (a : Int)] w fun e w' => e = .returned (Vl.decT (Vl.decX 1 (s.extract (a + 1) s.size))) ∧ Below w.heap.size w w' := by
  have hxs : (s.extract (a + 1) s.size).size ≤ 100000 := by rw [ByteArray.size_extract]; omega
  obtain ⟨x, hx⟩ : ∃ x, s.extract (a + 1) s.size = x := ⟨_, rfl⟩
  rw [hx] at hxs ⊢
  have HC : Hid (Vl.cAt s a = 1) := hc
  have HX : Hid (s.extract (a + 1) s.size = x) := hx
  clear hc hx
  by_cases hm : x.size < 1
  · have e : Vl.decT (Vl.decX 1 x) = .tuple #[.agg #[.int .i64 0, .int .i64 0, .float .f64 0, .string ⟨#[]⟩], .int .i64 0, .bool false] := by
      have e0 : Vl.decX 1 x = none := by rw [Vl.decX_1, if_pos hm]
      rw [e0]; rfl
    rw [e]
    exact decode_no1' 65 66 67 s x a 1 1 (0) (0) (⟨#[]⟩) (1) w (enters_of Try.func67 (by kernel_rfl) rfl) ha hs HC 1 rfl Try.look1 HX (1) rfl (fun W => takeBool_no x W hm)
  · cases hg : Vl.good1 (Vl.i64N (Vl.nv x 1)) (0) (⟨#[]⟩)
    · have hgB : Vl.goodB 1 (Vl.i64N (Vl.nv x 1)) (0) (⟨#[]⟩) = false := by rw [Vl.goodB_1]; exact hg
      have e : Vl.decT (Vl.decX 1 x) = .tuple #[.agg #[.int .i64 0, .int .i64 0, .float .f64 0, .string ⟨#[]⟩], .int .i64 0, .bool false] := by
        have e0 : Vl.decX 1 x = none := by rw [Vl.decX_1, if_neg hm]; exact Vl.chk_no hgB
        rw [e0]; rfl
      rw [e]
      exact decode_no2' 65 66 67 s x a 1 1 (Vl.i64N (Vl.nv x 1)) (0) (⟨#[]⟩) (1) w (enters_of Try.func65 (by kernel_rfl) rfl) (enters_of Try.func67 (by kernel_rfl) rfl) ha hs HC 1 rfl Try.look1 HX (fun W => by rw [← hg]; exact goodBool_any _ _ _ _ W) (1) rfl (fun W => takeBool_yes x W (by omega))
    · have hgB : Vl.goodB 1 (Vl.i64N (Vl.nv x 1)) (0) (⟨#[]⟩) = true := by rw [Vl.goodB_1]; exact hg
      have e : Vl.decT (Vl.decX 1 x) = .tuple #[.agg #[.int .i64 1, .int .i64 (Vl.i64N (Vl.nv x 1)), .float .f64 (0), .string (⟨#[]⟩)], .int .i64 (1 + (1)), .bool true] := by
        have e0 : Vl.decX 1 x = some ⟨⟨1, Vl.i64N (Vl.nv x 1), 0, ⟨#[]⟩⟩, 1⟩ := by rw [Vl.decX_1, if_neg hm]; exact Vl.chk_yes hgB
        rw [e0]; rfl
      rw [e]
      exact decode_yes' 65 66 67 s x a 1 1 (Vl.i64N (Vl.nv x 1)) (0) (⟨#[]⟩) (1) w (enters_of Try.func65 (by kernel_rfl) rfl) (enters_of Try.func67 (by kernel_rfl) rfl) ha hs HC 1 rfl Try.look1 HX (by omega) (fun W => by rw [← hg]; exact goodBool_any _ _ _ _ W) (1) rfl (fun W => takeBool_yes x W (by omega))

theorem decode_2 (s : ByteArray) (a : Nat) (w : World) (ha : a < s.size) (hs : s.size ≤ 100000) (hc : Vl.cAt s a = 2) :
    Calls Try.prog 20 #[.string s, .int .i64 (a : Int)] w fun e w' => e = .returned (Vl.decT (Vl.decX 2 (s.extract (a + 1) s.size))) ∧ Below w.heap.size w w' := by
  have hxs : (s.extract (a + 1) s.size).size ≤ 100000 := by rw [ByteArray.size_extract]; omega
  obtain ⟨x, hx⟩ : ∃ x, s.extract (a + 1) s.size = x := ⟨_, rfl⟩
  rw [hx] at hxs ⊢
  have HC : Hid (Vl.cAt s a = 2) := hc
  have HX : Hid (s.extract (a + 1) s.size = x) := hx
  clear hc hx
  by_cases hm : x.size < 8
  · have e : Vl.decT (Vl.decX 2 x) = .tuple #[.agg #[.int .i64 0, .int .i64 0, .float .f64 0, .string ⟨#[]⟩], .int .i64 0, .bool false] := by
      have e0 : Vl.decX 2 x = none := by rw [Vl.decX_2, if_pos hm]
      rw [e0]; rfl
    rw [e]
    exact decode_no1' 68 69 70 s x a 2 2 (0) (0) (⟨#[]⟩) (8) w (enters_of Try.func70 (by kernel_rfl) rfl) ha hs HC 2 rfl Try.look2 HX (8) rfl (fun W => takeInt_no x W hm)
  · cases hg : Vl.good2 (0) (⟨#[]⟩)
    · have hgB : Vl.goodB 2 (Vl.i64N (Vl.nv x 8)) (0) (⟨#[]⟩) = false := by rw [Vl.goodB_2]; exact hg
      have e : Vl.decT (Vl.decX 2 x) = .tuple #[.agg #[.int .i64 0, .int .i64 0, .float .f64 0, .string ⟨#[]⟩], .int .i64 0, .bool false] := by
        have e0 : Vl.decX 2 x = none := by rw [Vl.decX_2, if_neg hm]; exact Vl.chk_no hgB
        rw [e0]; rfl
      rw [e]
      exact decode_no2' 68 69 70 s x a 2 2 (Vl.i64N (Vl.nv x 8)) (0) (⟨#[]⟩) (8) w (enters_of Try.func68 (by kernel_rfl) rfl) (enters_of Try.func70 (by kernel_rfl) rfl) ha hs HC 2 rfl Try.look2 HX (fun W => by rw [← hg]; exact goodInt_any _ _ _ _ W) (8) rfl (fun W => takeInt_yes x W (by omega))
    · have hgB : Vl.goodB 2 (Vl.i64N (Vl.nv x 8)) (0) (⟨#[]⟩) = true := by rw [Vl.goodB_2]; exact hg
      have e : Vl.decT (Vl.decX 2 x) = .tuple #[.agg #[.int .i64 2, .int .i64 (Vl.i64N (Vl.nv x 8)), .float .f64 (0), .string (⟨#[]⟩)], .int .i64 (1 + (8)), .bool true] := by
        have e0 : Vl.decX 2 x = some ⟨⟨2, Vl.i64N (Vl.nv x 8), 0, ⟨#[]⟩⟩, 8⟩ := by rw [Vl.decX_2, if_neg hm]; exact Vl.chk_yes hgB
        rw [e0]; rfl
      rw [e]
      exact decode_yes' 68 69 70 s x a 2 2 (Vl.i64N (Vl.nv x 8)) (0) (⟨#[]⟩) (8) w (enters_of Try.func68 (by kernel_rfl) rfl) (enters_of Try.func70 (by kernel_rfl) rfl) ha hs HC 2 rfl Try.look2 HX (by omega) (fun W => by rw [← hg]; exact goodInt_any _ _ _ _ W) (8) rfl (fun W => takeInt_yes x W (by omega))

theorem decode_3 (s : ByteArray) (a : Nat) (w : World) (ha : a < s.size) (hs : s.size ≤ 100000) (hc : Vl.cAt s a = 3) :
    Calls Try.prog 20 #[.string s, .int .i64 (a : Int)] w fun e w' => e = .returned (Vl.decT (Vl.decX 3 (s.extract (a + 1) s.size))) ∧ Below w.heap.size w w' := by
  have hxs : (s.extract (a + 1) s.size).size ≤ 100000 := by rw [ByteArray.size_extract]; omega
  obtain ⟨x, hx⟩ : ∃ x, s.extract (a + 1) s.size = x := ⟨_, rfl⟩
  rw [hx] at hxs ⊢
  have HC : Hid (Vl.cAt s a = 3) := hc
  have HX : Hid (s.extract (a + 1) s.size = x) := hx
  clear hc hx
  by_cases hm : x.size < 8
  · have e : Vl.decT (Vl.decX 3 x) = .tuple #[.agg #[.int .i64 0, .int .i64 0, .float .f64 0, .string ⟨#[]⟩], .int .i64 0, .bool false] := by
      have e0 : Vl.decX 3 x = none := by rw [Vl.decX_3]; rw [if_pos hm]
      rw [e0]; rfl
    rw [e]
    exact decode_no1' 71 72 73 s x a 3 3 (0) (Fl.gotN (Fl.unbN 0)) (⟨#[]⟩) (8) w (enters_of Try.func73 (by kernel_rfl) rfl) ha hs HC 3 rfl Try.look3 HX (8) rfl (fun W => takeFloat_no x W hm)
  · cases hi : Fl.isB (Fl.unbN (Vl.nv x 8))
    · have e : Vl.decT (Vl.decX 3 x) = .tuple #[.agg #[.int .i64 0, .int .i64 0, .float .f64 0, .string ⟨#[]⟩], .int .i64 0, .bool false] := by
        have e0 : Vl.decX 3 x = none := by rw [Vl.decX_3]; rw [if_neg hm, hi]; rfl
        rw [e0]; rfl
      rw [e]
      exact decode_no1' 71 72 73 s x a 3 3 (0) (Fl.gotN (Fl.unbN (Vl.nv x 8))) (⟨#[]⟩) (8) w (enters_of Try.func73 (by kernel_rfl) rfl) ha hs HC 3 rfl Try.look3 HX (8) rfl (fun W => by rw [← hi]; exact takeFloat_yes x W (by omega))
    · cases hg : Vl.good3 (0) (Fl.gotN (Fl.unbN (Vl.nv x 8))) (⟨#[]⟩)
      · have hgB : Vl.goodB 3 (0) (Fl.gotN (Fl.unbN (Vl.nv x 8))) (⟨#[]⟩) = false := by rw [Vl.goodB_3]; exact hg
        have e : Vl.decT (Vl.decX 3 x) = .tuple #[.agg #[.int .i64 0, .int .i64 0, .float .f64 0, .string ⟨#[]⟩], .int .i64 0, .bool false] := by
          have e0 : Vl.decX 3 x = none := by rw [Vl.decX_3]; rw [if_neg hm, hi, if_pos rfl]; exact Vl.chk_no hgB
          rw [e0]; rfl
        rw [e]
        exact decode_no2' 71 72 73 s x a 3 3 (0) (Fl.gotN (Fl.unbN (Vl.nv x 8))) (⟨#[]⟩) (8) w (enters_of Try.func71 (by kernel_rfl) rfl) (enters_of Try.func73 (by kernel_rfl) rfl) ha hs HC 3 rfl Try.look3 HX (fun W => by rw [← hg]; exact goodFloat_any _ _ _ _ W) (8) rfl (fun W => by rw [← hi]; exact takeFloat_yes x W (by omega))
      · have hgB : Vl.goodB 3 (0) (Fl.gotN (Fl.unbN (Vl.nv x 8))) (⟨#[]⟩) = true := by rw [Vl.goodB_3]; exact hg
        have e : Vl.decT (Vl.decX 3 x) = .tuple #[.agg #[.int .i64 3, .int .i64 (0), .float .f64 (Fl.gotN (Fl.unbN (Vl.nv x 8))), .string (⟨#[]⟩)], .int .i64 (1 + (8)), .bool true] := by
          have e0 : Vl.decX 3 x = some ⟨⟨3, 0, Fl.gotN (Fl.unbN (Vl.nv x 8)), ⟨#[]⟩⟩, 8⟩ := by rw [Vl.decX_3]; rw [if_neg hm, hi, if_pos rfl]; exact Vl.chk_yes hgB
          rw [e0]; rfl
        rw [e]
        exact decode_yes' 71 72 73 s x a 3 3 (0) (Fl.gotN (Fl.unbN (Vl.nv x 8))) (⟨#[]⟩) (8) w (enters_of Try.func71 (by kernel_rfl) rfl) (enters_of Try.func73 (by kernel_rfl) rfl) ha hs HC 3 rfl Try.look3 HX (by omega) (fun W => by rw [← hg]; exact goodFloat_any _ _ _ _ W) (8) rfl (fun W => by rw [← hi]; exact takeFloat_yes x W (by omega))

theorem decode_4 (s : ByteArray) (a : Nat) (w : World) (ha : a < s.size) (hs : s.size ≤ 100000) (hc : Vl.cAt s a = 4) :
    Calls Try.prog 20 #[.string s, .int .i64 (a : Int)] w fun e w' => e = .returned (Vl.decT (Vl.decX 4 (s.extract (a + 1) s.size))) ∧ Below w.heap.size w w' := by
  have hxs : (s.extract (a + 1) s.size).size ≤ 100000 := by rw [ByteArray.size_extract]; omega
  obtain ⟨x, hx⟩ : ∃ x, s.extract (a + 1) s.size = x := ⟨_, rfl⟩
  rw [hx] at hxs ⊢
  have HC : Hid (Vl.cAt s a = 4) := hc
  have HX : Hid (s.extract (a + 1) s.size = x) := hx
  clear hc hx
  by_cases hm : x.size < 2
  · have e : Vl.decT (Vl.decX 4 x) = .tuple #[.agg #[.int .i64 0, .int .i64 0, .float .f64 0, .string ⟨#[]⟩], .int .i64 0, .bool false] := by
      have e0 : Vl.decX 4 x = none := by rw [Vl.decX_4]; rw [if_pos hm]
      rw [e0]; rfl
    rw [e]
    exact decode_no1' 74 75 76 s x a 4 0 (0) (0) (⟨#[]⟩) (0) w (enters_of Try.func76 (by kernel_rfl) rfl) ha hs HC 4 rfl Try.look4 HX (0) rfl (fun W => takeText_no x W hm)
  · have hu2 : Vl.nv x 2 < 65536 := Vl.nv_lt x 2
    by_cases h2 : x.size < 2 + Vl.nv x 2
    · have e : Vl.decT (Vl.decX 4 x) = .tuple #[.agg #[.int .i64 0, .int .i64 0, .float .f64 0, .string ⟨#[]⟩], .int .i64 0, .bool false] := by
        have e0 : Vl.decX 4 x = none := by rw [Vl.decX_4]; rw [if_neg hm, if_pos h2]
        rw [e0]; rfl
      rw [e]
      exact decode_no1' 74 75 76 s x a 4 0 (0) (0) (⟨#[]⟩) (0) w (enters_of Try.func76 (by kernel_rfl) rfl) ha hs HC 4 rfl Try.look4 HX (0) rfl (fun W => takeText_short x W (by omega) h2)
    · cases hg : Vl.good4 (0) (0) (x.extract 2 (2 + Vl.nv x 2))
      · have hgB : Vl.goodB 4 (0) (0) (x.extract 2 (2 + Vl.nv x 2)) = false := by rw [Vl.goodB_4]; exact hg
        have e : Vl.decT (Vl.decX 4 x) = .tuple #[.agg #[.int .i64 0, .int .i64 0, .float .f64 0, .string ⟨#[]⟩], .int .i64 0, .bool false] := by
          have e0 : Vl.decX 4 x = none := by rw [Vl.decX_4]; rw [if_neg hm, if_neg h2]; exact Vl.chk_no hgB
          rw [e0]; rfl
        rw [e]
        exact decode_no2' 74 75 76 s x a 4 4 (0) (0) (x.extract 2 (2 + Vl.nv x 2)) (2 + Vl.nv x 2) w (enters_of Try.func74 (by kernel_rfl) rfl) (enters_of Try.func76 (by kernel_rfl) rfl) ha hs HC 4 rfl Try.look4 HX (fun W => by rw [← hg]; exact goodText_any _ _ _ _ W) (2 + (Vl.nv x 2 : Int)) rfl (fun W => takeText_yes x (Vl.nv x 2) W rfl hu2 (by omega) (by omega))
      · have hgB : Vl.goodB 4 (0) (0) (x.extract 2 (2 + Vl.nv x 2)) = true := by rw [Vl.goodB_4]; exact hg
        have e : Vl.decT (Vl.decX 4 x) = .tuple #[.agg #[.int .i64 4, .int .i64 (0), .float .f64 (0), .string (x.extract 2 (2 + Vl.nv x 2))], .int .i64 (1 + (2 + (Vl.nv x 2 : Int))), .bool true] := by
          have e0 : Vl.decX 4 x = some ⟨⟨4, 0, 0, x.extract 2 (2 + Vl.nv x 2)⟩, 2 + Vl.nv x 2⟩ := by rw [Vl.decX_4]; rw [if_neg hm, if_neg h2]; exact Vl.chk_yes hgB
          rw [e0]; rfl
        rw [e]
        exact decode_yes' 74 75 76 s x a 4 4 (0) (0) (x.extract 2 (2 + Vl.nv x 2)) (2 + Vl.nv x 2) w (enters_of Try.func74 (by kernel_rfl) rfl) (enters_of Try.func76 (by kernel_rfl) rfl) ha hs HC 4 rfl Try.look4 HX (by omega) (fun W => by rw [← hg]; exact goodText_any _ _ _ _ W) (2 + (Vl.nv x 2 : Int)) rfl (fun W => takeText_yes x (Vl.nv x 2) W rfl hu2 (by omega) (by omega))

theorem decode_any (s : ByteArray) (a : Int) (w : World) (hs : s.size ≤ 100000) :
    Calls Try.prog 20 #[.string s, .int .i64 a] w fun e w' => e = .returned (Vl.decT (Vl.dec s a)) ∧ Below w.heap.size w w' := by
  by_cases ho : a < 0 ∨ (s.size : Int) ≤ a
  · have e : Vl.dec s a = none := by unfold Vl.dec; rw [if_pos ho]
    have e2 : Vl.decT (Vl.dec s a) = .tuple #[.agg #[.int .i64 0, .int .i64 0, .float .f64 0, .string ⟨#[]⟩], .int .i64 0, .bool false] := by rw [e]; rfl
    rw [e2]; exact decode_out s a w ho
  · have e : Vl.dec s a = Vl.decX (Vl.cAt s a.toNat) (s.extract (a.toNat + 1) s.size) := by unfold Vl.dec; rw [if_neg ho]
    rw [e]
    obtain ⟨m, rfl⟩ := Int.eq_ofNat_of_zero_le (by omega : 0 ≤ a)
    rw [Int.toNat_natCast]
    have hm : m < s.size := by omega
    by_cases h0 : Vl.cAt s m = 0
    · rw [h0]; exact decode_0 s m w hm hs h0
    by_cases h1 : Vl.cAt s m = 1
    · rw [h1]; exact decode_1 s m w hm hs h1
    by_cases h2 : Vl.cAt s m = 2
    · rw [h2]; exact decode_2 s m w hm hs h2
    by_cases h3 : Vl.cAt s m = 3
    · rw [h3]; exact decode_3 s m w hm hs h3
    by_cases h4 : Vl.cAt s m = 4
    · rw [h4]; exact decode_4 s m w hm hs h4
    have e : Vl.decX (Vl.cAt s m) (s.extract (m + 1) s.size) = none := by
      unfold Vl.decX; rw [if_neg h0, if_neg h1, if_neg h2, if_neg h3, if_neg h4]
    have e2 : Vl.decT (Vl.decX (Vl.cAt s m) (s.extract (m + 1) s.size)) = .tuple #[.agg #[.int .i64 0, .int .i64 0, .float .f64 0, .string ⟨#[]⟩], .int .i64 0, .bool false] := by rw [e]; rfl
    rw [e2]; exact decode_not s m _ w hm rfl (by omega)

end Go.Proofs.Ytanljohnmaokeaa