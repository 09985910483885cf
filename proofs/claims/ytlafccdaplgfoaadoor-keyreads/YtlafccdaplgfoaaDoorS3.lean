/- Walks of put, Of, Entry, Least, After. -/
import Derived.Test.YtlafccdaplgfoaaDoorS2
import Derived.Test.YtlafccdaplgfoaaDoorK3
namespace Go.Proofs.YtlafccdaplgfoaaDoor
open Go.RowKit
attribute [local go_sem] Fl.run_store_float
attribute [local go_sem ↓] Go.wp_at_zero Go.wp_at_succ

theorem Ky.mxb {w w1 : World} (hb : Below w.heap.size w w1) (h : Ky.Mx w) : Ky.Mx w1 := h.below hb
theorem Ky.atc {w w1 : World} (hb : Below w.heap.size w w1) {b o : Nat} (h : b < w.heap.size) : w1.cell? ⟨b, o, none⟩ = w.cell? ⟨b, o, none⟩ := (Vl.bcell hb).1 b o h
theorem Ky.wrap_u64 (n : Int) : IntKind.u64.wrap n = ((Ky.uN n : Nat) : Int) := by
  rw [IntKind.wrap_u64]; unfold Ky.uN; omega
theorem Ky.flip_u64 (n : Nat) (h : n < 18446744073709551616) : bits BinOp.xor IntKind.u64 (n : Int) 9223372036854775808 = ((Ky.flipN n : Nat) : Int) := Fl.flip_u64 n h

set_option maxHeartbeats 1000000 in
theorem put_0 (n : Int) (f : Nat) (s : ByteArray) (w : World) :
    Calls Tryd.prog 29 #[.agg #[.int .i64 0, .int .i64 n, .float .f64 f, .string s]] w fun e w' => e = .returned (.string ⟨#[]⟩) ∧ Below w.heap.size w w' := by
  go_enter Tryd.func29, Tryd.ntmps29
  go_wp2_with fail
  go_ret
  exact ⟨rfl, Vl.bal (Below.refl _ _) _⟩

set_option maxHeartbeats 1000000 in
theorem put_1 (n : Int) (f : Nat) (s : ByteArray) (w : World) :
    Calls Tryd.prog 29 #[.agg #[.int .i64 1, .int .i64 n, .float .f64 f, .string s]] w fun e w' => e = .returned (.string ⟨(Vl.beL (Ky.uN n) 1).toArray⟩) ∧ Below w.heap.size w w' := by
  go_enter Tryd.func29, Tryd.ntmps29
  go_wp2_with fail
  rw [Ky.wrap_u64]
  refine (knumber_any _ 1 _ (by omega)).mono ?_
  rintro e w1 ⟨rfl, hb⟩
  go_wp2
  go_ret
  exact ⟨rfl, Vl.btr (Vl.bal (Below.refl _ _) _) hb⟩

set_option maxHeartbeats 1000000 in
theorem put_2 (n : Int) (f : Nat) (s : ByteArray) (w : World) :
    Calls Tryd.prog 29 #[.agg #[.int .i64 2, .int .i64 n, .float .f64 f, .string s]] w fun e w' => e = .returned (.string ⟨(Vl.beL (Ky.flipN (Ky.uN n)) 8).toArray⟩) ∧ Below w.heap.size w w' := by
  go_enter Tryd.func29, Tryd.ntmps29
  go_wp2_with fail
  rw [Ky.wrap_u64, Ky.flip_u64 _ (Ky.uN_lt n)]
  refine (knumber_any _ 8 _ (by omega)).mono ?_
  rintro e w1 ⟨rfl, hb⟩
  go_wp2
  go_ret
  exact ⟨rfl, Vl.btr (Vl.bal (Below.refl _ _) _) hb⟩

set_option maxHeartbeats 1000000 in
theorem put_3 (n : Int) (f : Nat) (s : ByteArray) (w : World) (hf : f < 18446744073709551616) :
    Calls Tryd.prog 29 #[.agg #[.int .i64 3, .int .i64 n, .float .f64 f, .string s]] w fun e w' => e = .returned (.string ⟨(Vl.beL (Fl.bitsN f) 8).toArray⟩) ∧ Below w.heap.size w w' := by
  go_enter Tryd.func29, Tryd.ntmps29
  go_wp2_with fail
  refine (bits_any _ _ hf).mono ?_
  rintro e w1 ⟨rfl, hq⟩
  obtain rfl := hq.symm
  go_wp2_with fail
  refine (knumber_any _ 8 _ (by omega)).mono ?_
  rintro e w1 ⟨rfl, hb⟩
  go_wp2
  go_ret
  exact ⟨rfl, Vl.btr (Vl.bal (Below.refl _ _) _) hb⟩

set_option maxHeartbeats 1000000 in
theorem put_4 (n : Int) (f : Nat) (s : ByteArray) (w : World) (hM : Ky.Mx w) (hs : s.size ≤ 256) :
    Calls Tryd.prog 29 #[.agg #[.int .i64 4, .int .i64 n, .float .f64 f, .string s]] w fun e w' => e = .returned (.string ⟨(Ky.esc s.data.toList ++ [0, 1]).toArray⟩) ∧ Below w.heap.size w w' := by
  have hsz : (⟨(Ky.esc s.data.toList).toArray⟩ : ByteArray).size ≤ 512 := by
    rw [Ky.size_list]; have := (Ky.esc_len s.data.toList).2; rw [← Ky.size_list] at this; show (Ky.esc s.data.toList).length ≤ _; omega
  have HM := Vl.hid (hM.below (Vl.bal (Below.refl _ _) (.cells #[.int .i64 4, .int .i64 n, .float .f64 f, .string s] 24)))
  clear hM
  go_enter Tryd.func29, Tryd.ntmps29
  go_wp2_with fail
  refine (kept_any s _ HM.out (by omega)).mono ?_
  rintro e w1 ⟨rfl, hb⟩
  have HB := Vl.hid (Vl.btr (Vl.bal (Below.refl _ _) _) hb)
  clear hb HM
  go_wp2_with fail
  refine (joined_new _ _ _ (by omega) (by decide)).mono ?_
  rintro e w2 ⟨rfl, hb2⟩
  have HB2 := Vl.hid (Vl.btr HB.out hb2)
  clear hb2
  go_wp2
  go_ret
  refine ⟨congrArg (fun x => Ending.returned (Value.string x)) (Ky.ext_list ?_), HB2.out⟩
  rw [Ky.append_list]

theorem put_any (v : Vl.V) (w : World) (hM : Ky.Mx w) (hv : Ky.GoodV v) :
    Calls Tryd.prog 29 #[.agg #[.int .i64 v.k, .int .i64 v.n, .float .f64 v.f, .string v.s]] w fun e w' => e = .returned (.string ⟨(Ky.bodyL v).toArray⟩) ∧ Below w.heap.size w w' := by
  rcases hv.cases with ⟨h1, h2, h3, h4⟩ | ⟨h1, h2, h3, h4⟩ | ⟨h1, h3, h4⟩ | ⟨h1, h2, h3, h4⟩ | ⟨h1, h2, h3, h4⟩
  · rw [Ky.body_0 h1, h1]; exact put_0 _ _ _ _
  · rw [Ky.body_1 h1, h1]; exact put_1 _ _ _ _
  · rw [Ky.body_2 h1, h1]; exact put_2 _ _ _ _
  · rw [Ky.body_3 h1, h1]; exact put_3 _ _ _ _ hv.f
  · rw [Ky.body_4 h1, h1]; exact put_4 _ _ _ _ hM h4

theorem Ky.body_len {v : Vl.V} (hv : Ky.GoodV v) : (Ky.bodyL v).length ≤ 514 := by
  rcases hv.cases with ⟨h1, h2, h3, h4⟩ | ⟨h1, h2, h3, h4⟩ | ⟨h1, h3, h4⟩ | ⟨h1, h2, h3, h4⟩ | ⟨h1, h2, h3, h4⟩
  · rw [Ky.body_0 h1]; simp
  · rw [Ky.body_1 h1, Vl.beL_length]; omega
  · rw [Ky.body_2 h1, Vl.beL_length]; omega
  · rw [Ky.body_3 h1, Vl.beL_length]; omega
  · rw [Ky.body_4 h1]; have := (Ky.esc_len v.s.data.toList).2; rw [← Ky.size_list] at this; simp; omega
/-- The key of a good value, as a string. -/
def Ky.keyB (v : Vl.V) : ByteArray := ⟨(Ky.keyL v).toArray⟩
theorem Ky.keyB_list (v : Vl.V) : (Ky.keyB v).data.toList = Ky.keyL v := rfl
theorem Ky.keyB_size {v : Vl.V} (hv : Ky.GoodV v) : (Ky.keyB v).size ≤ 515 := by
  rw [Ky.size_list, Ky.keyB_list]; have := Ky.body_len hv; unfold Ky.keyL; simp; omega

set_option maxRecDepth 100000 in
set_option maxHeartbeats 2000000 in
theorem of_no (v : Vl.V) (w : World) (hg : Vl.goodB v.k v.n v.f v.s = false) :
    Calls Tryd.prog 11 #[.agg #[.int .i64 v.k, .int .i64 v.n, .float .f64 v.f, .string v.s]] w fun e w' => e = .returned (.tuple #[.string ⟨#[]⟩, .int .i64 11]) ∧ Below w.heap.size w w' := by
  go_enter Tryd.func11, Tryd.ntmps11
  go_wp2_with fail
  refine (good_any _ _ _ _ _).mono ?_
  rintro e w1 ⟨rfl, hb⟩
  have HB := Vl.hid (Vl.btr (Vl.bal (Below.refl _ _) _) hb)
  clear hb
  go_wp2_with fail
  go_ret2
  exact ⟨rfl, HB.out⟩

theorem Ky.be1 {k : Int} (h0 : 0 ≤ k) (h4 : k ≤ 4) : Vl.beL (Ky.uN k) 1 = [k.toNat.toUInt8] := by
  have e : Ky.uN k = k.toNat := by unfold Ky.uN; omega
  rw [e]
  simp only [Vl.beL, List.range_succ, List.range_zero, List.nil_append, List.map_cons, List.map_nil]
  congr 1
  have : k.toNat / 256 ^ (1 - 1 - 0) % 256 = k.toNat := by simp; omega
  rw [this]

set_option maxRecDepth 100000 in
set_option maxHeartbeats 2000000 in
theorem of_yes (v : Vl.V) (w : World) (hM : Ky.Mx w) (hv : Ky.GoodV v) :
    Calls Tryd.prog 11 #[.agg #[.int .i64 v.k, .int .i64 v.n, .float .f64 v.f, .string v.s]] w fun e w' => e = .returned (.tuple #[.string (Ky.keyB v), .int .i64 0]) ∧ Below w.heap.size w w' := by
  have hg := hv.g
  have hl1 : (⟨(Vl.beL (Ky.uN v.k) 1).toArray⟩ : ByteArray).size ≤ 100000 := by rw [Ky.size_list]; show (Vl.beL _ _).length ≤ _; rw [Vl.beL_length]; omega
  have hl2 : (⟨(Ky.bodyL v).toArray⟩ : ByteArray).size ≤ 100000 := by rw [Ky.size_list]; have := Ky.body_len hv; show (Ky.bodyL v).length ≤ _; omega
  have HE : Hid ((⟨(Vl.beL (Ky.uN v.k) 1).toArray⟩ : ByteArray) ++ ⟨(Ky.bodyL v).toArray⟩ = Ky.keyB v) := Vl.hid (by
    apply Ky.ext_list
    rw [Ky.append_list, Ky.mk_list, Ky.mk_list, Ky.be1 hv.kind.1 hv.kind.2]; rfl)
  have HV := Vl.hid hv
  have HL1 := Vl.hid hl1
  have HL2 := Vl.hid hl2
  have HMw := Vl.hid hM
  clear hl1 hl2 hM hv
  go_enter Tryd.func11, Tryd.ntmps11
  go_wp2_with fail
  refine (good_any _ _ _ _ _).mono ?_
  rintro e w1 ⟨rfl, hb⟩
  have hm := Vl.bcell hb
  have K0 : w1.cell? ⟨w.heap.size, 0, none⟩ = some (.int .i64 v.k) := (hm.1 w.heap.size 0 (by simp)).trans (by simp [go_sem])
  have K1 : w1.cell? ⟨w.heap.size, 1, none⟩ = some (.int .i64 v.n) := (hm.1 w.heap.size 1 (by simp)).trans (by simp [go_sem])
  have K2 : w1.cell? ⟨w.heap.size, 2, none⟩ = some (.float .f64 v.f) := (hm.1 w.heap.size 2 (by simp)).trans (by simp [go_sem])
  have K3 : w1.cell? ⟨w.heap.size, 3, none⟩ = some (.string v.s) := (hm.1 w.heap.size 3 (by simp)).trans (by simp [go_sem])
  have HB := Vl.hid (Vl.btr (Vl.bal (Below.refl _ _) _) hb)
  have hw1 : w.heap.size < w1.heap.size := by have := hb.size; simp at this; omega
  clear hm hb
  have HM1 := Vl.hid (HMw.out.below HB.out)
  go_wp2_with fail
  go_region_with (first | (go_at_call 28; rw [Ky.wrap_u64]; refine (knumber_any _ 1 _ (by omega)).mono ?_; rintro e w2 ⟨rfl, hb2⟩; have C0 := (Ky.atc hb2 hw1).trans K0; have C1 := (Ky.atc hb2 hw1).trans K1; have C2 := (Ky.atc hb2 hw1).trans K2; have C3 := (Ky.atc hb2 hw1).trans K3; have HM2 := Vl.hid (Ky.mxb hb2 HM1.out); have HB2 := Vl.hid hb2; clear hb2) | (go_at_call 29; refine (put_any v _ HM2.out HV.out).mono ?_; rintro e w3 ⟨rfl, hb3⟩; have HB3 := Vl.hid hb3; clear hb3) | (go_at_call 27; refine (joined_new _ _ _ HL1.out HL2.out).mono ?_; rintro e w4 ⟨rfl, hb4⟩; have HB4 := Vl.hid hb4; clear hb4))
  all_goals
    go_wp2_with fail
    go_ret2
    exact ⟨by rw [← HE.out]; rfl, Vl.btr (Vl.btr (Vl.btr (Below.drew HB.out) HB2.out) HB3.out) HB4.out⟩

/-- What Of answers. -/
def Ky.ofB (v : Vl.V) : ByteArray := if Vl.goodB v.k v.n v.f v.s then Ky.keyB v else ⟨#[]⟩
def Ky.ofE (v : Vl.V) : Int := if Vl.goodB v.k v.n v.f v.s then 0 else 11
/-- A value's fields, as far as keys ask. -/
structure Ky.In (v : Vl.V) : Prop where
  n1 : -9223372036854775808 ≤ v.n
  n2 : v.n ≤ 9223372036854775807
  f : v.f < 18446744073709551616
theorem Ky.In.good {v : Vl.V} (h : Ky.In v) (hg : Vl.goodB v.k v.n v.f v.s = true) : Ky.GoodV v := ⟨hg, h.n1, h.n2, h.f⟩
theorem Ky.GoodV.inn {v : Vl.V} (h : Ky.GoodV v) : Ky.In v := ⟨h.n1, h.n2, h.f⟩
theorem of_any (v : Vl.V) (w : World) (hM : Ky.Mx w) (hv : Ky.In v) :
    Calls Tryd.prog 11 #[.agg #[.int .i64 v.k, .int .i64 v.n, .float .f64 v.f, .string v.s]] w fun e w' => e = .returned (.tuple #[.string (Ky.ofB v), .int .i64 (Ky.ofE v)]) ∧ Below w.heap.size w w' := by
  unfold Ky.ofB Ky.ofE
  cases hg : Vl.goodB v.k v.n v.f v.s
  · exact of_no v w hg
  · exact of_yes v w hM (hv.good hg)

/-- What Entry answers. -/
def Ky.entB (v : Vl.V) (n : Int) : ByteArray := if Vl.goodB v.k v.n v.f v.s then (if n < 0 ∨ 65535 < n then ⟨#[]⟩ else Ky.keyB v ++ ⟨(Vl.beL n.toNat 2).toArray⟩) else ⟨#[]⟩
def Ky.entE (v : Vl.V) (n : Int) : Int := if Vl.goodB v.k v.n v.f v.s then (if n < 0 ∨ 65535 < n then 1 else 0) else 11

set_option maxRecDepth 100000 in
set_option maxHeartbeats 2000000 in
theorem entry_any (v : Vl.V) (n : Int) (w : World) (hM : Ky.Mx w) (hv : Ky.In v) :
    Calls Tryd.prog 13 #[.agg #[.int .i64 v.k, .int .i64 v.n, .float .f64 v.f, .string v.s], .int .i64 n] w fun e w' => e = .returned (.tuple #[.string (Ky.entB v n), .int .i64 (Ky.entE v n)]) ∧ Below w.heap.size w w' := by
  have HM := Vl.hid (hM.below (Vl.bal (Below.refl _ _) (.cells #[.int .i64 v.k, .int .i64 v.n, .float .f64 v.f, .string v.s] 24)))
  clear hM
  have HO := Vl.hid (of_any v _ HM.out hv)
  cases hg : Vl.goodB v.k v.n v.f v.s
  · have e1 : Ky.ofB v = ⟨#[]⟩ := by unfold Ky.ofB; rw [hg]; rfl
    have e2 : Ky.ofE v = 11 := by unfold Ky.ofE; rw [hg]; rfl
    have e3 : Ky.entB v n = ⟨#[]⟩ := by unfold Ky.entB; rw [hg]; rfl
    have e4 : Ky.entE v n = 11 := by unfold Ky.entE; rw [hg]; rfl
    rw [e3, e4]
    have HE := Vl.hid (And.intro e1 e2)
    clear e1 e2 e3 e4 hg
    go_enter Tryd.func13, Tryd.ntmps13
    go_wp2_with fail
    refine HO.out.mono ?_
    rintro e w1 ⟨rfl, hb⟩
    rw [HE.out.1, HE.out.2]
    go_wp2_with fail
    go_ret2
    exact ⟨rfl, Vl.btr (Vl.bal (Below.refl _ _) _) hb⟩
  · have hgv := hv.good hg
    have hks := Ky.keyB_size hgv
    have e1 : Ky.ofB v = Ky.keyB v := by unfold Ky.ofB; rw [hg]; rfl
    have e2 : Ky.ofE v = 0 := by unfold Ky.ofE; rw [hg]; rfl
    by_cases hn : n < 0 ∨ 65535 < n
    · have e3 : Ky.entB v n = ⟨#[]⟩ := by unfold Ky.entB; rw [hg, if_pos rfl, if_pos hn]
      have e4 : Ky.entE v n = 1 := by unfold Ky.entE; rw [hg, if_pos rfl, if_pos hn]
      rw [e3, e4]
      have HE := Vl.hid (And.intro e1 e2)
      clear e1 e2 e3 e4 hg
      have hd : (decide (n < 0) = true) ∨ (decide (n < 0) = false ∧ decide (65535 < n) = true) := by
        by_cases h : n < 0
        · exact .inl (decide_eq_true h)
        · exact .inr ⟨decide_eq_false h, decide_eq_true (by omega)⟩
      clear hn
      rcases hd with hd | ⟨hd, hd2⟩
      all_goals
        go_enter Tryd.func13, Tryd.ntmps13
        go_wp2_with fail
        refine HO.out.mono ?_
        rintro e w1 ⟨rfl, hb⟩
        rw [HE.out.1, HE.out.2]
        go_wp2_with fail
        go_ret2
        exact ⟨rfl, Vl.btr (Vl.bal (Below.refl _ _) _) hb⟩
    · have e3 : Ky.entB v n = Ky.keyB v ++ ⟨(Vl.beL n.toNat 2).toArray⟩ := by unfold Ky.entB; rw [hg, if_pos rfl, if_neg hn]
      have e4 : Ky.entE v n = 0 := by unfold Ky.entE; rw [hg, if_pos rfl, if_neg hn]
      rw [e3, e4]
      have HE := Vl.hid (And.intro e1 e2)
      have hd : decide (n < 0) = false := decide_eq_false (by omega)
      have hd2 : decide (65535 < n) = false := decide_eq_false (by omega)
      have hw : IntKind.u64.wrap n = ((n.toNat : Nat) : Int) := by rw [IntKind.wrap_u64]; omega
      have HW := Vl.hid hw
      have hl1 : (⟨(Vl.beL n.toNat 2).toArray⟩ : ByteArray).size ≤ 100000 := by rw [Ky.size_list]; show (Vl.beL _ _).length ≤ _; rw [Vl.beL_length]; omega
      clear e1 e2 e3 e4 hg hw hn
      go_enter Tryd.func13, Tryd.ntmps13
      go_wp2_with fail
      refine HO.out.mono ?_
      rintro e w1 ⟨rfl, hb⟩
      rw [HE.out.1, HE.out.2]
      have HB := Vl.hid (Vl.btr (Vl.bal (Below.refl _ _) _) hb)
      clear hb HO HM
      go_wp2_with fail
      try rw [HW.out]
      refine (knumber_any n.toNat 2 _ (by omega)).mono ?_
      rintro e w2 ⟨rfl, hb2⟩
      have HB2 := Vl.hid (Vl.btr HB.out hb2)
      clear hb2 HB
      go_wp2_with fail
      refine (joined_new _ _ _ (by omega) hl1).mono ?_
      rintro e w3 ⟨rfl, hb3⟩
      go_wp2_with fail
      go_ret2
      exact ⟨rfl, Vl.btr HB2.out hb3⟩

set_option maxHeartbeats 1000000 in
theorem least_any (v : Vl.V) (w : World) (hM : Ky.Mx w) (hv : Ky.In v) :
    Calls Tryd.prog 15 #[.agg #[.int .i64 v.k, .int .i64 v.n, .float .f64 v.f, .string v.s]] w fun e w' => e = .returned (.tuple #[.string (Ky.entB v 0), .int .i64 (Ky.entE v 0)]) ∧ Below w.heap.size w w' := by
  have HM := Vl.hid (hM.below (Vl.bal (Below.refl _ _) (.cells #[.int .i64 v.k, .int .i64 v.n, .float .f64 v.f, .string v.s] 24)))
  clear hM
  have HO := Vl.hid (entry_any v 0 _ HM.out hv)
  clear HM
  go_enter Tryd.func15, Tryd.ntmps15
  go_wp2_with fail
  refine HO.out.mono ?_
  rintro e w1 ⟨rfl, hb⟩
  go_wp2_with fail
  go_ret2
  exact ⟨rfl, Vl.btr (Vl.bal (Below.refl _ _) _) hb⟩

/-- What After answers. -/
def Ky.aftB (v : Vl.V) : ByteArray := if Vl.goodB v.k v.n v.f v.s then Ky.entB v 65535 ++ ⟨#[0]⟩ else ⟨#[]⟩

set_option maxHeartbeats 1000000 in
theorem after_any (v : Vl.V) (w : World) (hM : Ky.Mx w) (hv : Ky.In v) :
    Calls Tryd.prog 17 #[.agg #[.int .i64 v.k, .int .i64 v.n, .float .f64 v.f, .string v.s]] w fun e w' => e = .returned (.tuple #[.string (Ky.aftB v), .int .i64 (Ky.ofE v)]) ∧ Below w.heap.size w w' := by
  have HM := Vl.hid (hM.below (Vl.bal (Below.refl _ _) (.cells #[.int .i64 v.k, .int .i64 v.n, .float .f64 v.f, .string v.s] 24)))
  clear hM
  have HO := Vl.hid (entry_any v 65535 _ HM.out hv)
  clear HM
  cases hg : Vl.goodB v.k v.n v.f v.s
  · have e1 : Ky.aftB v = ⟨#[]⟩ := by unfold Ky.aftB; rw [hg]; rfl
    have e2 : Ky.ofE v = 11 := by unfold Ky.ofE; rw [hg]; rfl
    have e3 : Ky.entE v 65535 = 11 := by unfold Ky.entE; rw [hg]; rfl
    rw [e1, e2]
    have HE := Vl.hid e3
    clear e1 e2 e3 hg
    go_enter Tryd.func17, Tryd.ntmps17
    go_wp2_with fail
    refine HO.out.mono ?_
    rintro e w1 ⟨rfl, hb⟩
    rw [HE.out]
    go_wp2_with fail
    go_ret2
    exact ⟨rfl, Vl.btr (Vl.bal (Below.refl _ _) _) hb⟩
  · have hks := Ky.keyB_size (hv.good hg)
    have e1 : Ky.aftB v = Ky.entB v 65535 ++ ⟨#[0]⟩ := by unfold Ky.aftB; rw [hg]; rfl
    have e2 : Ky.ofE v = 0 := by unfold Ky.ofE; rw [hg]; rfl
    have e3 : Ky.entE v 65535 = 0 := by unfold Ky.entE; rw [hg]; rfl
    have e4 : (Ky.entB v 65535).size ≤ 100000 := by
      unfold Ky.entB; rw [hg, if_pos rfl, if_neg (by omega), ByteArray.size_append]
      have : (⟨(Vl.beL (65535 : Int).toNat 2).toArray⟩ : ByteArray).size = 2 := by rw [Ky.size_list]; show (Vl.beL _ _).length = _; rw [Vl.beL_length]
      omega
    rw [e1, e2]
    have HE := Vl.hid e3
    have HL := Vl.hid e4
    clear e1 e2 e3 e4 hg hks
    go_enter Tryd.func17, Tryd.ntmps17
    go_wp2_with fail
    refine HO.out.mono ?_
    rintro e w1 ⟨rfl, hb⟩
    rw [HE.out]
    have HB := Vl.hid (Vl.btr (Vl.bal (Below.refl _ _) _) hb)
    clear hb HO
    go_wp2_with fail
    refine (joined_new _ _ _ HL.out (by decide)).mono ?_
    rintro e w2 ⟨rfl, hb2⟩
    go_wp2_with fail
    go_ret2
    exact ⟨rfl, Vl.btr HB.out hb2⟩

end Go.Proofs.YtlafccdaplgfoaaDoor
