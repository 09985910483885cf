/- The key of a value: plain. -/
import Derived.Test.YtlafccdaplgfoaaDoorQ0
import Derived.Test.YtlafccdaplgfoaaDoorK2
namespace Go.Proofs.YtlafccdaplgfoaaDoor
namespace Ky
open Vl

/-- A whole number with a sign as one without; with its highest bit turned over. -/
def uN (n : Int) : Nat := (n % 18446744073709551616).toNat
def flipN (u : Nat) : Nat := if 9223372036854775808 ≤ u then u - 9223372036854775808 else u + 9223372036854775808
def sN (u : Nat) : Int := if 9223372036854775808 ≤ u then (u : Int) - 18446744073709551616 else (u : Int)
theorem uN_lt (n : Int) : uN n < 18446744073709551616 := by unfold uN; omega
theorem flipN_lt {u : Nat} (h : u < 18446744073709551616) : flipN u < 18446744073709551616 := by unfold flipN; split <;> omega
theorem flip_flip {u : Nat} (h : u < 18446744073709551616) : flipN (flipN u) = u := by unfold flipN; split <;> split <;> omega
theorem sN_uN {n : Int} (h1 : -9223372036854775808 ≤ n) (h2 : n ≤ 9223372036854775807) : sN (uN n) = n := by unfold sN uN; split <;> omega
theorem uN_sN {u : Nat} (h : u < 18446744073709551616) : uN (sN u) = u := by unfold sN uN; split <;> omega
theorem sN_bd {u : Nat} (h : u < 18446744073709551616) : -9223372036854775808 ≤ sN u ∧ sN u ≤ 9223372036854775807 := by unfold sN; split <;> omega
theorem flip_of {n : Int} (h1 : -9223372036854775808 ≤ n) (h2 : n ≤ 9223372036854775807) : (flipN (uN n) : Int) = n + 9223372036854775808 := by unfold flipN uN; split <;> omega

/-- What stands behind the kind's byte. -/
def bodyL (v : V) : List UInt8 :=
  if v.k = 1 then beL (uN v.n) 1 else if v.k = 2 then beL (flipN (uN v.n)) 8 else if v.k = 3 then beL (Fl.bitsN v.f) 8 else if v.k = 4 then esc v.s.data.toList ++ [0, 1] else []
def keyL (v : V) : List UInt8 := v.k.toNat.toUInt8 :: bodyL v
/-- A good value, whose fields are as they may be. -/
structure GoodV (v : V) : Prop where
  g : goodB v.k v.n v.f v.s = true
  n1 : -9223372036854775808 ≤ v.n
  n2 : v.n ≤ 9223372036854775807
  f : v.f < 18446744073709551616
theorem GoodV.cases {v : V} (h : GoodV v) : (v.k = 0 ∧ v.n = 0 ∧ v.f = 0 ∧ v.s = ⟨#[]⟩) ∨ (v.k = 1 ∧ (v.n = 0 ∨ v.n = 1) ∧ v.f = 0 ∧ v.s = ⟨#[]⟩) ∨ (v.k = 2 ∧ v.f = 0 ∧ v.s = ⟨#[]⟩) ∨
    (v.k = 3 ∧ v.n = 0 ∧ Fl.isB v.f = true ∧ v.s = ⟨#[]⟩) ∨ (v.k = 4 ∧ v.n = 0 ∧ v.f = 0 ∧ v.s.size ≤ 256) := by
  obtain ⟨k, n, f, s⟩ := v
  have hg := h.g
  by_cases hk : k < 0 ∨ 4 < k
  · rw [goodB_not n f s hk] at hg; cases hg
  rcases (by omega : k = 0 ∨ k = 1 ∨ k = 2 ∨ k = 3 ∨ k = 4) with rfl | rfl | rfl | rfl | rfl
  · rw [show goodB _ _ _ _ = good0 n f s from goodB_0 n f s] at hg
    unfold good0 at hg
    simp only [Bool.and_eq_true, beq_iff_eq] at hg
    exact .inl ⟨rfl, hg.1.1, by have := hg.1.2; show f = 0; omega, empty_of hg.2⟩
  · rw [show goodB _ _ _ _ = good1 n f s from goodB_1 n f s] at hg
    unfold good1 at hg
    simp only [Bool.and_eq_true, Bool.or_eq_true, beq_iff_eq] at hg
    exact .inr (.inl ⟨rfl, hg.1.1, by have := hg.1.2; show f = 0; omega, empty_of hg.2⟩)
  · rw [show goodB _ _ _ _ = good2 f s from goodB_2 n f s] at hg
    unfold good2 at hg
    simp only [Bool.and_eq_true, beq_iff_eq] at hg
    exact .inr (.inr (.inl ⟨rfl, by have := hg.1; show f = 0; omega, empty_of hg.2⟩))
  · rw [show goodB _ _ _ _ = good3 n f s from goodB_3 n f s] at hg
    unfold good3 at hg
    simp only [Bool.and_eq_true, beq_iff_eq] at hg
    exact .inr (.inr (.inr (.inl ⟨rfl, hg.1.1, hg.1.2, empty_of hg.2⟩)))
  · rw [show goodB _ _ _ _ = good4 n f s from goodB_4 n f s] at hg
    unfold good4 at hg
    simp only [Bool.and_eq_true, beq_iff_eq, decide_eq_true_iff] at hg
    exact .inr (.inr (.inr (.inr ⟨rfl, hg.1.1, by have := hg.1.2; show f = 0; omega, by have := hg.2; show s.size ≤ 256; omega⟩)))
theorem empty_b : (⟨#[]⟩ : ByteArray).toList.isEmpty = true := by rw [ByteArray.toList_eq]; rfl
theorem good_0 : GoodV ⟨0, 0, 0, ⟨#[]⟩⟩ := ⟨by show good0 0 0 ⟨#[]⟩ = true; unfold good0; rw [empty_b]; rfl, by simp, by simp, by simp⟩
theorem good_1 {n : Int} (h : n = 0 ∨ n = 1) : GoodV ⟨1, n, 0, ⟨#[]⟩⟩ := by
  refine ⟨?_, ?_, ?_, by simp⟩
  · show good1 n 0 ⟨#[]⟩ = true
    unfold good1; rw [empty_b]; simp; omega
  · show _ ≤ n; omega
  · show n ≤ _; omega
theorem good_2 {n : Int} (h1 : -9223372036854775808 ≤ n) (h2 : n ≤ 9223372036854775807) : GoodV ⟨2, n, 0, ⟨#[]⟩⟩ := ⟨by show good2 0 ⟨#[]⟩ = true; unfold good2; rw [empty_b]; rfl, h1, h2, by simp⟩
theorem good_3 {f : Nat} (h : Fl.isB f = true) (hf : f < 18446744073709551616) : GoodV ⟨3, 0, f, ⟨#[]⟩⟩ := ⟨by show good3 0 f ⟨#[]⟩ = true; unfold good3; rw [empty_b, h]; rfl, by simp, by simp, hf⟩
theorem good_4 {s : ByteArray} (h : s.size ≤ 256) : GoodV ⟨4, 0, 0, s⟩ := ⟨by show good4 0 0 s = true; unfold good4; simp; omega, by simp, by simp, by simp⟩

theorem body_0 {v : V} (h : v.k = 0) : bodyL v = [] := by unfold bodyL; simp [h]
theorem body_1 {v : V} (h : v.k = 1) : bodyL v = beL (uN v.n) 1 := by unfold bodyL; rw [if_pos h]
theorem body_2 {v : V} (h : v.k = 2) : bodyL v = beL (flipN (uN v.n)) 8 := by unfold bodyL; rw [if_neg (by omega), if_pos h]
theorem body_3 {v : V} (h : v.k = 3) : bodyL v = beL (Fl.bitsN v.f) 8 := by unfold bodyL; rw [if_neg (by omega), if_neg (by omega), if_pos h]
theorem body_4 {v : V} (h : v.k = 4) : bodyL v = esc v.s.data.toList ++ [0, 1] := by unfold bodyL; rw [if_neg (by omega), if_neg (by omega), if_neg (by omega), if_pos h]

theorem cmpZ_congr {a b c d : Int} (h1 : a < b ↔ c < d) (h2 : b < a ↔ d < c) : cmpZ a b = cmpZ c d := by
  unfold cmpZ; simp only [h1, h2]
theorem cmpZ_zero {p q : Int} (e : cmpZ p q = 0) : p = q := by
  unfold cmpZ at e
  split at e
  · cases e
  · split at e
    · cases e
    · omega
theorem cmpV_n {a b : V} (hk : a.k = b.k) (hf : a.f = b.f) (hs : a.s = b.s) : cmpV a b = cmpZ a.n b.n := by
  unfold cmpV
  rw [cmpZ_eq hk, if_neg (by decide)]
  by_cases h : cmpZ a.n b.n = 0
  · rw [if_neg (by rw [h]; decide), hf, hs, Fl.cmpI_self, if_neg (by decide), h]; exact (cmpS_eq _ _).2 rfl
  · rw [if_pos (by simpa using h)]
theorem cmpV_fl {a b : V} (hk : a.k = b.k) (hn : a.n = b.n) (hs : a.s = b.s) : cmpV a b = Fl.cmpI a.f b.f := by
  unfold cmpV
  rw [cmpZ_eq hk, cmpZ_eq hn, if_neg (by decide), if_neg (by decide)]
  by_cases h : Fl.cmpI a.f b.f = 0
  · rw [if_neg (by rw [h]; decide), hs, h]; exact (cmpS_eq _ _).2 rfl
  · rw [if_pos (by simpa using h)]
theorem cmpV_st {a b : V} (hk : a.k = b.k) (hn : a.n = b.n) (hf : a.f = b.f) : cmpV a b = cmpS a.s b.s := by
  unfold cmpV
  rw [cmpZ_eq hk, cmpZ_eq hn, hf, Fl.cmpI_self, if_neg (by decide), if_neg (by decide), if_neg (by decide)]
theorem cmpI_bits {x y : Nat} (hx : x < 18446744073709551616) (hy : y < 18446744073709551616) : Fl.cmpI x y = cmpZ (Fl.bitsN x) (Fl.bitsN y) := by
  have h1 := Fl.bitsN_lt_iff hx hy
  have h2 := Fl.bitsN_lt_iff hy hx
  rw [Fl.cmpI_eq]
  unfold cmpZ
  repeat' split
  all_goals omega
theorem kb_lt (a b : Int) (h0 : 0 ≤ a) (h1 : a ≤ 4) (h2 : 0 ≤ b) (h3 : b ≤ 4) : (a.toNat.toUInt8 < b.toNat.toUInt8) ↔ a < b := by
  simp only [UInt8.lt_iff_toNat_lt, Nat.toUInt8, UInt8.toNat_ofNat']; omega

theorem GoodV.kind {v : V} (h : GoodV v) : 0 ≤ v.k ∧ v.k ≤ 4 := by
  rcases h.cases with h | h | h | h | h <;> omega
/-- Keys, whatever stands behind them, stand in the order of their values. -/
theorem key_cmp {a b : V} (ha : GoodV a) (hb : GoodV b) (x y : List UInt8) : Lib.compareBytes (keyL a ++ x) (keyL b ++ y) = if cmpV a b = 0 then Lib.compareBytes x y else cmpV a b := by
  obtain ⟨a0, a4⟩ := ha.kind
  obtain ⟨b0, b4⟩ := hb.kind
  unfold keyL
  rw [List.cons_append, List.cons_append, cmp_cons]
  by_cases h1 : a.k < b.k
  · rw [if_pos ((kb_lt _ _ a0 a4 b0 b4).2 h1), cmpV_k1 h1]; rfl
  by_cases h2 : b.k < a.k
  · rw [if_neg (fun e => h1 ((kb_lt _ _ a0 a4 b0 b4).1 e)), if_pos ((kb_lt _ _ b0 b4 a0 a4).2 h2), cmpV_k2 h2]; rfl
  have hk : a.k = b.k := by omega
  rw [if_neg (fun e => h1 ((kb_lt _ _ a0 a4 b0 b4).1 e)), if_neg (fun e => h2 ((kb_lt _ _ b0 b4 a0 a4).1 e))]
  have hbn1 := hb.n1
  have hbn2 := hb.n2
  have han1 := ha.n1
  have han2 := ha.n2
  rcases ha.cases with ⟨k1, k2, k3, k4⟩ | ⟨k1, k2, k3, k4⟩ | ⟨k1, k3, k4⟩ | ⟨k1, k2, k3, k4⟩ | ⟨k1, k2, k3, k4⟩ <;>
    rcases hb.cases with ⟨l1, l2, l3, l4⟩ | ⟨l1, l2, l3, l4⟩ | ⟨l1, l3, l4⟩ | ⟨l1, l2, l3, l4⟩ | ⟨l1, l2, l3, l4⟩ <;> first | (exfalso; omega) | skip
  · rw [body_0 k1, body_0 l1, cmpV_n hk (by rw [k3, l3]) (by rw [k4, l4]), k2, l2]; rfl
  · rw [body_1 k1, body_1 l1, cmpV_n hk (by rw [k3, l3]) (by rw [k4, l4]), cmp_num 1 _ _ _ _ (by unfold uN; omega) (by unfold uN; omega)]
    have e : cmpZ (uN a.n : Int) (uN b.n : Int) = cmpZ a.n b.n := cmpZ_congr (by unfold uN; omega) (by unfold uN; omega)
    rw [e]
  · rw [body_2 k1, body_2 l1, cmpV_n hk (by rw [k3, l3]) (by rw [k4, l4]), cmp_num 8 _ _ _ _ (flipN_lt (uN_lt _)) (flipN_lt (uN_lt _)), flip_of han1 han2, flip_of hbn1 hbn2]
    have e : cmpZ (a.n + 9223372036854775808) (b.n + 9223372036854775808) = cmpZ a.n b.n := cmpZ_congr (by omega) (by omega)
    rw [e]
  · rw [body_3 k1, body_3 l1, cmpV_fl hk (by rw [k2, l2]) (by rw [k4, l4]), cmp_num 8 _ _ _ _ (Fl.bitsN_lt ha.f) (Fl.bitsN_lt hb.f), cmpI_bits ha.f hb.f]
  · rw [body_4 k1, body_4 l1, cmpV_st hk (by rw [k2, l2]) (by rw [k3, l3])]
    have := cmp_esc a.s.data.toList b.s.data.toList x y
    rw [List.append_assoc, List.append_assoc]
    exact this
theorem v_ext {a b : V} (h1 : a.k = b.k) (h2 : a.n = b.n) (h3 : a.f = b.f) (h4 : a.s = b.s) : a = b := by
  cases a; cases b; simp only at h1 h2 h3 h4; subst h1 h2 h3 h4; rfl
/-- Good values at one place of the order are one. -/
theorem good_eq {a b : V} (ha : GoodV a) (hb : GoodV b) (h : cmpV a b = 0) : a = b := by
  have hk : a.k = b.k := by
    rcases Int.lt_trichotomy a.k b.k with e | e | e
    · rw [cmpV_k1 e] at h; cases h
    · exact e
    · rw [cmpV_k2 e] at h; cases h
  rcases ha.cases with ⟨k1, k2, k3, k4⟩ | ⟨k1, k2, k3, k4⟩ | ⟨k1, k3, k4⟩ | ⟨k1, k2, k3, k4⟩ | ⟨k1, k2, k3, k4⟩ <;>
    rcases hb.cases with ⟨l1, l2, l3, l4⟩ | ⟨l1, l2, l3, l4⟩ | ⟨l1, l3, l4⟩ | ⟨l1, l2, l3, l4⟩ | ⟨l1, l2, l3, l4⟩ <;> first | (exfalso; omega) | skip
  · exact v_ext hk (by rw [k2, l2]) (by rw [k3, l3]) (by rw [k4, l4])
  · rw [cmpV_n hk (by rw [k3, l3]) (by rw [k4, l4])] at h
    exact v_ext hk (cmpZ_zero h) (by rw [k3, l3]) (by rw [k4, l4])
  · rw [cmpV_n hk (by rw [k3, l3]) (by rw [k4, l4])] at h
    exact v_ext hk (cmpZ_zero h) (by rw [k3, l3]) (by rw [k4, l4])
  · rw [cmpV_fl hk (by rw [k2, l2]) (by rw [k4, l4]), cmpI_bits ha.f hb.f] at h
    have hh := cmpZ_zero h
    have e := Fl.canon_of_ord ha.f hb.f
    have h1 := Fl.bitsN_lt_iff ha.f hb.f
    have h2 := Fl.bitsN_lt_iff hb.f ha.f
    have ho : Fl.ord a.f = Fl.ord b.f := by omega
    have hc := e.1 ho
    have c1 : a.f = Fl.canonN a.f := by unfold Fl.isB at k3; exact beq_iff_eq.1 k3
    have c2 : b.f = Fl.canonN b.f := by unfold Fl.isB at l3; exact beq_iff_eq.1 l3
    exact v_ext hk (by rw [k2, l2]) (by rw [c1, c2, hc]) (by rw [k4, l4])
  · rw [cmpV_st hk (by rw [k2, l2]) (by rw [k3, l3])] at h
    exact v_ext hk (by rw [k2, l2]) (by rw [k3, l3]) ((cmpS_eq _ _).1 h)
theorem cmpV_self (a : V) : cmpV a a = 0 := by rw [cmpV_n rfl rfl rfl]; exact cmpZ_eq rfl
/-- No good value's key begins another one's. -/
theorem key_front {a b : V} (ha : GoodV a) (hb : GoodV b) {x y : List UInt8} (h : keyL a ++ x = keyL b ++ y) : a = b ∧ x = y := by
  have e := key_cmp ha hb x y
  rw [h, cmp_self] at e
  by_cases hc : cmpV a b = 0
  · rw [if_pos hc] at e
    exact ⟨good_eq ha hb hc, (eql_cmp _ _).1 e.symm⟩
  · rw [if_neg hc] at e; exact absurd e.symm hc
theorem key_inj {a b : V} (ha : GoodV a) (hb : GoodV b) (h : keyL a = keyL b) : a = b := (key_front ha hb (x := []) (y := []) (by rw [h])).1

/-- What a key is read as. -/
def KeyIs (l : List UInt8) : Option V → Prop
  | none => ∀ v, GoodV v → keyL v ≠ l
  | some v => GoodV v ∧ keyL v = l
theorem KeyIs.one {l : List UInt8} {o p : Option V} (h : KeyIs l o) (h' : KeyIs l p) : o = p := by
  cases o with
  | none => cases p with
    | none => rfl
    | some v => exact absurd h'.2 (h v h'.1)
  | some u => cases p with
    | none => exact absurd h.2 (h' u h.1)
    | some v => rw [key_inj h.1 h'.1 (h.2.trans h'.2.symm)]
theorem nvL_1 {x : List UInt8} (h : x.length = 1) : beL (nvL x) 1 = x := by have := beL_nvL x; rwa [h] at this
theorem nvL_8 {x : List UInt8} (h : x.length = 8) : beL (nvL x) 8 = x := by have := beL_nvL x; rwa [h] at this

/-- Which good value's key opens with a kind's byte: by kinds. -/
theorem key_cons {v : V} (hv : GoodV v) {c : UInt8} {x : List UInt8} (h : keyL v = c :: x) : v.k = c.toNat ∧ bodyL v = x := by
  obtain ⟨h0, h4⟩ := hv.kind
  unfold keyL at h
  injection h with h1 h2
  refine ⟨?_, h2⟩
  rw [← h1, Nat.toUInt8, UInt8.toNat_ofNat']; omega

end Ky
end Go.Proofs.YtlafccdaplgfoaaDoor
