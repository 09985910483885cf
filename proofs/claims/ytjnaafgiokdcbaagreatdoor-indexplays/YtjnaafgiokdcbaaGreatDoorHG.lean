/- Walks of put, Of, Entry, Least, After. -/
import Derived.Test.YtjnaafgiokdcbaaGreatDoorHF
import Derived.Test.YtjnaafgiokdcbaaGreatDoorHJ
import Derived.Deep.DeepCutAuto
namespace Go.Proofs.YtjnaafgiokdcbaaGreatDoor
open Go.RowKit
attribute [local go_sem] Fl.run_store_float
attribute [local go_sem ↓] Go.wp_at_zero Go.wp_at_succ

theorem Ky.mxb {w w1 : World} (hb : Below w.heap.size w w1) (h : Ky.Mx w) : Ky.Mx w1 := h.below hb
theorem Ky.atc {w w1 : World} (hb : Below w.heap.size w w1) {b o : Nat} (h : b < w.heap.size) : w1.cell? ⟨b, o, none⟩ = w.cell? ⟨b, o, none⟩ := (Vl.bcell hb).1 b o h
theorem Ky.wrap_u64 (n : Int) : IntKind.u64.wrap n = ((Ky.uN n : Nat) : Int) := by
  rw [IntKind.wrap_u64]; unfold Ky.uN; omega
theorem Ky.flip_u64 (n : Nat) (h : n < 18446744073709551616) : bits BinOp.xor IntKind.u64 (n : Int) 9223372036854775808 = ((Ky.flipN n : Nat) : Int) := Fl.flip_u64 n h

set_option maxHeartbeats 1000000 in
theorem put_0 (n : Int) (f : Nat) (s : ByteArray) (w : World) :
    Calls Tryz.prog 89 #[.agg #[.int .i64 0, .int .i64 n, .float .f64 f, .string s]] w fun e w' => e = .returned (.string ⟨#[]⟩) ∧ Below w.heap.size w w' := by
  go_enter Tryz.func89, Tryz.ntmps89
  go_wp2_with fail
  go_ret
  exact ⟨rfl, Vl.bal (Below.refl _ _) _⟩

set_option maxHeartbeats 1000000 in
theorem put_1 (n : Int) (f : Nat) (s : ByteArray) (w : World) :
    Calls Tryz.prog 89 #[.agg #[.int .i64 1, .int .i64 n, .float .f64 f, .string s]] w fun e w' => e = .returned (.string ⟨(Vl.beL (Ky.uN n) 1).toArray⟩) ∧ Below w.heap.size w w' := by
  go_enter Tryz.func89, Tryz.ntmps89
  go_wp2_with fail
  rw [Ky.wrap_u64]
  refine (knumber_any _ 1 _ (by omega)).mono ?_
  rintro e w1 ⟨rfl, hb⟩
  go_wp2
  go_ret
  exact ⟨rfl, Vl.btr (Vl.bal (Below.refl _ _) _) hb⟩

set_option maxHeartbeats 1000000 in
theorem put_2 (n : Int) (f : Nat) (s : ByteArray) (w : World) :
    Calls Tryz.prog 89 #[.agg #[.int .i64 2, .int .i64 n, .float .f64 f, .string s]] w fun e w' => e = .returned (.string ⟨(Vl.beL (Ky.flipN (Ky.uN n)) 8).toArray⟩) ∧ Below w.heap.size w w' := by
  go_enter Tryz.func89, Tryz.ntmps89
  go_wp2_with fail
  rw [Ky.wrap_u64, Ky.flip_u64 _ (Ky.uN_lt n)]
  refine (knumber_any _ 8 _ (by omega)).mono ?_
  rintro e w1 ⟨rfl, hb⟩
  go_wp2
  go_ret
  exact ⟨rfl, Vl.btr (Vl.bal (Below.refl _ _) _) hb⟩

set_option maxHeartbeats 1000000 in
theorem put_3 (n : Int) (f : Nat) (s : ByteArray) (w : World) (hf : f < 18446744073709551616) :
    Calls Tryz.prog 89 #[.agg #[.int .i64 3, .int .i64 n, .float .f64 f, .string s]] w fun e w' => e = .returned (.string ⟨(Vl.beL (Fl.bitsN f) 8).toArray⟩) ∧ Below w.heap.size w w' := by
  go_enter Tryz.func89, Tryz.ntmps89
  go_wp2_with fail
  refine (bits_any _ _ hf).mono ?_
  rintro e w1 ⟨rfl, hq⟩
  obtain rfl := hq.symm
  go_wp2_with fail
  refine (knumber_any _ 8 _ (by omega)).mono ?_
  rintro e w1 ⟨rfl, hb⟩
  go_wp2
  go_ret
  exact ⟨rfl, Vl.btr (Vl.bal (Below.refl _ _) _) hb⟩

set_option maxHeartbeats 1000000 in
theorem put_4 (n : Int) (f : Nat) (s : ByteArray) (w : World) (hM : Ky.Mx w) (hs : s.size ≤ 256) :
    Calls Tryz.prog 89 #[.agg #[.int .i64 4, .int .i64 n, .float .f64 f, .string s]] w fun e w' => e = .returned (.string ⟨(Ky.esc s.data.toList ++ [0, 1]).toArray⟩) ∧ Below w.heap.size w w' := by
  have hsz : (⟨(Ky.esc s.data.toList).toArray⟩ : ByteArray).size ≤ 512 := by
    rw [Ky.size_list]; have := (Ky.esc_len s.data.toList).2; rw [← Ky.size_list] at this; show (Ky.esc s.data.toList).length ≤ _; omega
  have HM := Vl.hid (hM.below (Vl.bal (Below.refl _ _) (.cells #[.int .i64 4, .int .i64 n, .float .f64 f, .string s] 34)))
  clear hM
  go_enter Tryz.func89, Tryz.ntmps89
  go_wp2_with fail
  refine (kept_any s _ HM.out (by omega)).mono ?_
  rintro e w1 ⟨rfl, hb⟩
  have HB := Vl.hid (Vl.btr (Vl.bal (Below.refl _ _) _) hb)
  clear hb HM
  go_wp2_with fail
  refine (joined_new _ _ _ (by omega) (by decide)).mono ?_
  rintro e w2 ⟨rfl, hb2⟩
  have HB2 := Vl.hid (Vl.btr HB.out hb2)
  clear hb2
  go_wp2
  go_ret
  refine ⟨congrArg (fun x => Ending.returned (Value.string x)) (Ky.ext_list ?_), HB2.out⟩
  rw [Ky.append_list]

theorem put_any (v : Vl.V) (w : World) (hM : Ky.Mx w) (hv : Ky.GoodV v) :
    Calls Tryz.prog 89 #[.agg #[.int .i64 v.k, .int .i64 v.n, .float .f64 v.f, .string v.s]] w fun e w' => e = .returned (.string ⟨(Ky.bodyL v).toArray⟩) ∧ Below w.heap.size w w' := by
  rcases hv.cases with ⟨h1, h2, h3, h4⟩ | ⟨h1, h2, h3, h4⟩ | ⟨h1, h3, h4⟩ | ⟨h1, h2, h3, h4⟩ | ⟨h1, h2, h3, h4⟩
  · rw [Ky.body_0 h1, h1]; exact put_0 _ _ _ _
  · rw [Ky.body_1 h1, h1]; exact put_1 _ _ _ _
  · rw [Ky.body_2 h1, h1]; exact put_2 _ _ _ _
  · rw [Ky.body_3 h1, h1]; exact put_3 _ _ _ _ hv.f
  · rw [Ky.body_4 h1, h1]; exact put_4 _ _ _ _ hM h4

theorem Ky.body_len {v : Vl.V} (hv : Ky.GoodV v) : (Ky.bodyL v).length ≤ 514 := by
  rcases hv.cases with ⟨h1, h2, h3, h4⟩ | ⟨h1, h2, h3, h4⟩ | ⟨h1, h3, h4⟩ | ⟨h1, h2, h3, h4⟩ | ⟨h1, h2, h3, h4⟩
  · rw [Ky.body_0 h1]; simp
  · rw [Ky.body_1 h1, Vl.beL_length]; omega
  · rw [Ky.body_2 h1, Vl.beL_length]; omega
  · rw [Ky.body_3 h1, Vl.beL_length]; omega
  · rw [Ky.body_4 h1]; have := (Ky.esc_len v.s.data.toList).2; rw [← Ky.size_list] at this; simp; omega
/-- The key of a good value, as a string. -/
def Ky.keyB (v : Vl.V) : ByteArray := ⟨(Ky.keyL v).toArray⟩
theorem Ky.keyB_list (v : Vl.V) : (Ky.keyB v).data.toList = Ky.keyL v := rfl
theorem Ky.keyB_size {v : Vl.V} (hv : Ky.GoodV v) : (Ky.keyB v).size ≤ 515 := by
  rw [Ky.size_list, Ky.keyB_list]; have := Ky.body_len hv; unfold Ky.keyL; simp; omega

set_option maxRecDepth 100000 in
set_option maxHeartbeats 2000000 in
theorem of_no (v : Vl.V) (w : World) (hg : Vl.goodB v.k v.n v.f v.s = false) :
    Calls Tryz.prog 69 #[.agg #[.int .i64 v.k, .int .i64 v.n, .float .f64 v.f, .string v.s]] w fun e w' => e = .returned (.tuple #[.string ⟨#[]⟩, .int .i64 11]) ∧ Below w.heap.size w w' := by
  go_enter Tryz.func69, Tryz.ntmps69
  go_wp2_with fail
  refine (good_any _ _ _ _ _).mono ?_
  rintro e w1 ⟨rfl, hb⟩
  have HB := Vl.hid (Vl.btr (Vl.bal (Below.refl _ _) _) hb)
  clear hb
  go_wp2_with fail
  go_ret2
  exact ⟨rfl, HB.out⟩

theorem Ky.be1 {k : Int} (h0 : 0 ≤ k) (h4 : k ≤ 4) : Vl.beL (Ky.uN k) 1 = [k.toNat.toUInt8] := by
  have e : Ky.uN k = k.toNat := by unfold Ky.uN; omega
  rw [e]
  simp only [Vl.beL, List.range_succ, List.range_zero, List.nil_append, List.map_cons, List.map_nil]
  congr 1
  have : k.toNat / 256 ^ (1 - 1 - 0) % 256 = k.toNat := by simp; omega
  rw [this]

set_option maxRecDepth 100000 in
set_option maxHeartbeats 2000000 in
theorem of_yes (v : Vl.V) (w : World) (hM : Ky.Mx w) (hv : Ky.GoodV v) :
    Calls Tryz.prog 69 #[.agg #[.int .i64 v.k, .int .i64 v.n, .float .f64 v.f, .string v.s]] w fun e w' => e = .returned (.tuple #[.string (Ky.keyB v), .int .i64 0]) ∧ Below w.heap.size w w' := by
  have hg := hv.g
  have hl1 : (⟨(Vl.beL (Ky.uN v.k) 1).toArray⟩ : ByteArray).size ≤ 100000 := by rw [Ky.size_list]; show (Vl.beL _ _).length ≤ _; rw [Vl.beL_length]; omega
  have hl2 : (⟨(Ky.bodyL v).toArray⟩ : ByteArray).size ≤ 100000 := by rw [Ky.size_list]; have := Ky.body_len hv; show (Ky.bodyL v).length ≤ _; omega
  have HE : Hid ((⟨(Vl.beL (Ky.uN v.k) 1).toArray⟩ : ByteArray) ++ ⟨(Ky.bodyL v).toArray⟩ = Ky.keyB v) := Vl.hid (by
    apply Ky.ext_list
    rw [Ky.append_list, Ky.mk_list, Ky.mk_list, Ky.be1 hv.kind.1 hv.kind.2]; rfl)
  have HV := Vl.hid hv
  have HL1 := Vl.hid hl1
  have HL2 := Vl.hid hl2
  have HMw := Vl.hid hM
  clear hl1 hl2 hM hv
  go_enter Tryz.func69, Tryz.ntmps69
  go_wp2_with fail
  refine (good_any _ _ _ _ _).mono ?_
  rintro e w1 ⟨rfl, hb⟩
  have hm := Vl.bcell hb
  have K0 : w1.cell? ⟨w.heap.size, 0, none⟩ = some (.int .i64 v.k) := (hm.1 w.heap.size 0 (by simp)).trans (by simp [go_sem])
  have K1 : w1.cell? ⟨w.heap.size, 1, none⟩ = some (.int .i64 v.n) := (hm.1 w.heap.size 1 (by simp)).trans (by simp [go_sem])
  have K2 : w1.cell? ⟨w.heap.size, 2, none⟩ = some (.float .f64 v.f) := (hm.1 w.heap.size 2 (by simp)).trans (by simp [go_sem])
  have K3 : w1.cell? ⟨w.heap.size, 3, none⟩ = some (.string v.s) := (hm.1 w.heap.size 3 (by simp)).trans (by simp [go_sem])
  have HB := Vl.hid (Vl.btr (Vl.bal (Below.refl _ _) _) hb)
  have hw1 : w.heap.size < w1.heap.size := by have := hb.size; simp at this; omega
  clear hm hb
  have HM1 := Vl.hid (HMw.out.below HB.out)
  go_wp2_with fail
  go_region_with (first | (go_at_call 70; rw [Ky.wrap_u64]; refine (knumber_any _ 1 _ (by omega)).mono ?_; rintro e w2 ⟨rfl, hb2⟩; have C0 := (Ky.atc hb2 hw1).trans K0; have C1 := (Ky.atc hb2 hw1).trans K1; have C2 := (Ky.atc hb2 hw1).trans K2; have C3 := (Ky.atc hb2 hw1).trans K3; have HM2 := Vl.hid (Ky.mxb hb2 HM1.out); have HB2 := Vl.hid hb2; clear hb2) | (go_at_call 89; refine (put_any v _ HM2.out HV.out).mono ?_; rintro e w3 ⟨rfl, hb3⟩; have HB3 := Vl.hid hb3; clear hb3) | (go_at_call 61; refine (joined_new _ _ _ HL1.out HL2.out).mono ?_; rintro e w4 ⟨rfl, hb4⟩; have HB4 := Vl.hid hb4; clear hb4))
  all_goals
    go_wp2_with fail
    go_ret2
    exact ⟨by rw [← HE.out]; rfl, Vl.btr (Vl.btr (Vl.btr (Below.drew HB.out) HB2.out) HB3.out) HB4.out⟩

/-- What Of answers. -/
def Ky.ofB (v : Vl.V) : ByteArray := if Vl.goodB v.k v.n v.f v.s then Ky.keyB v else ⟨#[]⟩
def Ky.ofE (v : Vl.V) : Int := if Vl.goodB v.k v.n v.f v.s then 0 else 11
/-- A value's fields, as far as keys ask. -/
structure Ky.In (v : Vl.V) : Prop where
  n1 : -9223372036854775808 ≤ v.n
  n2 : v.n ≤ 9223372036854775807
  f : v.f < 18446744073709551616
theorem Ky.In.good {v : Vl.V} (h : Ky.In v) (hg : Vl.goodB v.k v.n v.f v.s = true) : Ky.GoodV v := ⟨hg, h.n1, h.n2, h.f⟩
theorem Ky.GoodV.inn {v : Vl.V} (h : Ky.GoodV v) : Ky.In v := ⟨h.n1, h.n2, h.f⟩
theorem of_any (v : Vl.V) (w : World) (hM : Ky.Mx w) (hv : Ky.In v) :
    Calls Tryz.prog 69 #[.agg #[.int .i64 v.k, .int .i64 v.n, .float .f64 v.f, .string v.s]] w fun e w' => e = .returned (.tuple #[.string (Ky.ofB v), .int .i64 (Ky.ofE v)]) ∧ Below w.heap.size w w' := by
  unfold Ky.ofB Ky.ofE
  cases hg : Vl.goodB v.k v.n v.f v.s
  · exact of_no v w hg
  · exact of_yes v w hM (hv.good hg)

/-- What Entry answers. -/
def Ky.entB (v : Vl.V) (n : Int) : ByteArray := if Vl.goodB v.k v.n v.f v.s then (if n < 0 ∨ 65535 < n then ⟨#[]⟩ else Ky.keyB v ++ ⟨(Vl.beL n.toNat 2).toArray⟩) else ⟨#[]⟩
def Ky.entE (v : Vl.V) (n : Int) : Int := if Vl.goodB v.k v.n v.f v.s then (if n < 0 ∨ 65535 < n then 1 else 0) else 11

set_option maxRecDepth 100000 in
set_option maxHeartbeats 2000000 in
theorem entry_any (v : Vl.V) (n : Int) (w : World) (hM : Ky.Mx w) (hv : Ky.In v) :
    Calls Tryz.prog 51 #[.agg #[.int .i64 v.k, .int .i64 v.n, .float .f64 v.f, .string v.s], .int .i64 n] w fun e w' => e = .returned (.tuple #[.string (Ky.entB v n), .int .i64 (Ky.entE v n)]) ∧ Below w.heap.size w w' := by
  have HM := Vl.hid (hM.below (Vl.bal (Below.refl _ _) (.cells #[.int .i64 v.k, .int .i64 v.n, .float .f64 v.f, .string v.s] 34)))
  clear hM
  have HO := Vl.hid (of_any v _ HM.out hv)
  cases hg : Vl.goodB v.k v.n v.f v.s
  · have e1 : Ky.ofB v = ⟨#[]⟩ := by unfold Ky.ofB; rw [hg]; rfl
    have e2 : Ky.ofE v = 11 := by unfold Ky.ofE; rw [hg]; rfl
    have e3 : Ky.entB v n = ⟨#[]⟩ := by unfold Ky.entB; rw [hg]; rfl
    have e4 : Ky.entE v n = 11 := by unfold Ky.entE; rw [hg]; rfl
    rw [e3, e4]
    have HE := Vl.hid (And.intro e1 e2)
    clear e1 e2 e3 e4 hg
    go_enter Tryz.func51, Tryz.ntmps51
    go_wp2_with fail
    refine HO.out.mono ?_
    rintro e w1 ⟨rfl, hb⟩
    rw [HE.out.1, HE.out.2]
    go_wp2_with fail
    go_ret2
    exact ⟨rfl, Vl.btr (Vl.bal (Below.refl _ _) _) hb⟩
  · have hgv := hv.good hg
    have hks := Ky.keyB_size hgv
    have e1 : Ky.ofB v = Ky.keyB v := by unfold Ky.ofB; rw [hg]; rfl
    have e2 : Ky.ofE v = 0 := by unfold Ky.ofE; rw [hg]; rfl
    by_cases hn : n < 0 ∨ 65535 < n
    · have e3 : Ky.entB v n = ⟨#[]⟩ := by unfold Ky.entB; rw [hg, if_pos rfl, if_pos hn]
      have e4 : Ky.entE v n = 1 := by unfold Ky.entE; rw [hg, if_pos rfl, if_pos hn]
      rw [e3, e4]
      have HE := Vl.hid (And.intro e1 e2)
      clear e1 e2 e3 e4 hg
      have hd : (decide (n < 0) = true) ∨ (decide (n < 0) = false ∧ decide (65535 < n) = true) := by
        by_cases h : n < 0
        · exact .inl (decide_eq_true h)
        · exact .inr ⟨decide_eq_false h, decide_eq_true (by omega)⟩
      clear hn
      rcases hd with hd | ⟨hd, hd2⟩
      all_goals
        go_enter Tryz.func51, Tryz.ntmps51
        go_wp2_with fail
        refine HO.out.mono ?_
        rintro e w1 ⟨rfl, hb⟩
        rw [HE.out.1, HE.out.2]
        go_wp2_with fail
        go_ret2
        exact ⟨rfl, Vl.btr (Vl.bal (Below.refl _ _) _) hb⟩
    · have e3 : Ky.entB v n = Ky.keyB v ++ ⟨(Vl.beL n.toNat 2).toArray⟩ := by unfold Ky.entB; rw [hg, if_pos rfl, if_neg hn]
      have e4 : Ky.entE v n = 0 := by unfold Ky.entE; rw [hg, if_pos rfl, if_neg hn]
      rw [e3, e4]
      have HE := Vl.hid (And.intro e1 e2)
      have hd : decide (n < 0) = false := decide_eq_false (by omega)
      have hd2 : decide (65535 < n) = false := decide_eq_false (by omega)
      have hw : IntKind.u64.wrap n = ((n.toNat : Nat) : Int) := by rw [IntKind.wrap_u64]; omega
      have HW := Vl.hid hw
      have hl1 : (⟨(Vl.beL n.toNat 2).toArray⟩ : ByteArray).size ≤ 100000 := by rw [Ky.size_list]; show (Vl.beL _ _).length ≤ _; rw [Vl.beL_length]; omega
      clear e1 e2 e3 e4 hg hw hn
      go_enter Tryz.func51, Tryz.ntmps51
      go_wp2_with fail
      refine HO.out.mono ?_
      rintro e w1 ⟨rfl, hb⟩
      rw [HE.out.1, HE.out.2]
      have HB := Vl.hid (Vl.btr (Vl.bal (Below.refl _ _) _) hb)
      clear hb HO HM
      go_wp2_with fail
      try rw [HW.out]
      refine (knumber_any n.toNat 2 _ (by omega)).mono ?_
      rintro e w2 ⟨rfl, hb2⟩
      have HB2 := Vl.hid (Vl.btr HB.out hb2)
      clear hb2 HB
      go_wp2_with fail
      refine (joined_new _ _ _ (by omega) hl1).mono ?_
      rintro e w3 ⟨rfl, hb3⟩
      go_wp2_with fail
      go_ret2
      exact ⟨rfl, Vl.btr HB2.out hb3⟩

set_option maxHeartbeats 1000000 in
theorem least_any (v : Vl.V) (w : World) (hM : Ky.Mx w) (hv : Ky.In v) :
    Calls Tryz.prog 38 #[.agg #[.int .i64 v.k, .int .i64 v.n, .float .f64 v.f, .string v.s]] w fun e w' => e = .returned (.tuple #[.string (Ky.entB v 0), .int .i64 (Ky.entE v 0)]) ∧ Below w.heap.size w w' := by
  have HM := Vl.hid (hM.below (Vl.bal (Below.refl _ _) (.cells #[.int .i64 v.k, .int .i64 v.n, .float .f64 v.f, .string v.s] 34)))
  clear hM
  have HO := Vl.hid (entry_any v 0 _ HM.out hv)
  clear HM
  go_enter Tryz.func38, Tryz.ntmps38
  go_wp2_with fail
  refine HO.out.mono ?_
  rintro e w1 ⟨rfl, hb⟩
  go_wp2_with fail
  go_ret2
  exact ⟨rfl, Vl.btr (Vl.bal (Below.refl _ _) _) hb⟩

/-- What After answers. -/
def Ky.aftB (v : Vl.V) : ByteArray := if Vl.goodB v.k v.n v.f v.s then Ky.entB v 65535 ++ ⟨#[0]⟩ else ⟨#[]⟩

set_option maxHeartbeats 1000000 in
theorem after_any (v : Vl.V) (w : World) (hM : Ky.Mx w) (hv : Ky.In v) :
    Calls Tryz.prog 39 #[.agg #[.int .i64 v.k, .int .i64 v.n, .float .f64 v.f, .string v.s]] w fun e w' => e = .returned (.tuple #[.string (Ky.aftB v), .int .i64 (Ky.ofE v)]) ∧ Below w.heap.size w w' := by
  have HM := Vl.hid (hM.below (Vl.bal (Below.refl _ _) (.cells #[.int .i64 v.k, .int .i64 v.n, .float .f64 v.f, .string v.s] 34)))
  clear hM
  have HO := Vl.hid (entry_any v 65535 _ HM.out hv)
  clear HM
  cases hg : Vl.goodB v.k v.n v.f v.s
  · have e1 : Ky.aftB v = ⟨#[]⟩ := by unfold Ky.aftB; rw [hg]; rfl
    have e2 : Ky.ofE v = 11 := by unfold Ky.ofE; rw [hg]; rfl
    have e3 : Ky.entE v 65535 = 11 := by unfold Ky.entE; rw [hg]; rfl
    rw [e1, e2]
    have HE := Vl.hid e3
    clear e1 e2 e3 hg
    go_enter Tryz.func39, Tryz.ntmps39
    go_wp2_with fail
    refine HO.out.mono ?_
    rintro e w1 ⟨rfl, hb⟩
    rw [HE.out]
    go_wp2_with fail
    go_ret2
    exact ⟨rfl, Vl.btr (Vl.bal (Below.refl _ _) _) hb⟩
  · have hks := Ky.keyB_size (hv.good hg)
    have e1 : Ky.aftB v = Ky.entB v 65535 ++ ⟨#[0]⟩ := by unfold Ky.aftB; rw [hg]; rfl
    have e2 : Ky.ofE v = 0 := by unfold Ky.ofE; rw [hg]; rfl
    have e3 : Ky.entE v 65535 = 0 := by unfold Ky.entE; rw [hg]; rfl
    have e4 : (Ky.entB v 65535).size ≤ 100000 := by
      unfold Ky.entB; rw [hg, if_pos rfl, if_neg (by omega), ByteArray.size_append]
      have : (⟨(Vl.beL (65535 : Int).toNat 2).toArray⟩ : ByteArray).size = 2 := by rw [Ky.size_list]; show (Vl.beL _ _).length = _; rw [Vl.beL_length]
      omega
    rw [e1, e2]
    have HE := Vl.hid e3
    have HL := Vl.hid e4
    clear e1 e2 e3 e4 hg hks
    go_enter Tryz.func39, Tryz.ntmps39
    go_wp2_with fail
    refine HO.out.mono ?_
    rintro e w1 ⟨rfl, hb⟩
    rw [HE.out]
    have HB := Vl.hid (Vl.btr (Vl.bal (Below.refl _ _) _) hb)
    clear hb HO
    go_wp2_with fail
    refine (joined_new _ _ _ HL.out (by decide)).mono ?_
    rintro e w2 ⟨rfl, hb2⟩
    go_wp2_with fail
    go_ret2
    exact ⟨rfl, Vl.btr HB.out hb2⟩

end Go.Proofs.YtjnaafgiokdcbaaGreatDoor

/- Walks of take. -/
namespace Go.Proofs.YtjnaafgiokdcbaaGreatDoor
open Go.RowKit
attribute [local go_sem] Fl.run_store_float
attribute [local go_sem ↓] Go.wp_at_zero Go.wp_at_succ
namespace Ky
open Vl
theorem wrap_sN {u : Nat} (h : u < 18446744073709551616) : wrap64 (u : Int) = sN u := by
  unfold wrap64 sN; split <;> omega
/-- What take tells, held against the keys there are. -/
structure Took (c : UInt8) (l : List UInt8) (v : V) (ok : Bool) : Prop where
  s : v.s.size ≤ l.length
  i : In v
  yes : ok = true → goodB v.k v.n v.f v.s = true → keyL v = c :: l
  no : ok = false ∨ goodB v.k v.n v.f v.s = false → ∀ u, GoodV u → keyL u ≠ c :: l
theorem in0 (k : Int) (s : ByteArray) : In ⟨k, 0, 0, s⟩ := ⟨by simp, by simp, by simp⟩
theorem took_0 (l : List UInt8) (ok : Bool) (h : ok = true ↔ l = []) : Took 0 l ⟨0, 0, 0, ⟨#[]⟩⟩ ok := by
  refine ⟨Nat.zero_le _, in0 _ _, fun h1 _ => ?_, fun h1 u hu e => ?_⟩
  · rw [h.1 h1]; rfl
  · obtain ⟨e1, e2⟩ := key_cons hu e
    have e3 : u.k = 0 := by rw [e1]; rfl
    rw [body_0 e3] at e2
    rcases h1 with h1 | h1
    · rw [h.2 e2.symm] at h1; cases h1
    · rw [Ky.good_0.g] at h1; cases h1
theorem took_1 (l : List UInt8) (u : Nat) (hu : u < 18446744073709551616) (ok : Bool) (h : ok = true ↔ l.length = 1) (he : l.length = 1 → u = nvL l) : Took 1 l ⟨1, wrap64 (u : Int), 0, ⟨#[]⟩⟩ ok := by
  rw [wrap_sN hu]
  refine ⟨Nat.zero_le _, ⟨(sN_bd hu).1, (sN_bd hu).2, by simp⟩, fun h1 h2 => ?_, fun h1 v hv e => ?_⟩
  · have hl := h.1 h1
    show 1 :: bodyL _ = _
    rw [body_1 rfl, uN_sN hu, he hl, nvL_1 hl]
  · obtain ⟨e1, e2⟩ := key_cons hv e
    have e3 : v.k = 1 := by rw [e1]; rfl
    rw [body_1 e3] at e2
    have hl : l.length = 1 := by rw [← e2, beL_length]
    rcases h1 with h1 | h1
    · rw [h.2 hl] at h1; cases h1
    · have hn : v.n = 0 ∨ v.n = 1 := by rcases hv.cases with q | q | q | q | q <;> first | (exfalso; omega) | exact q.2.1
      have hun : u = uN v.n := by
        rw [he hl, ← e2, nvL_beL, Nat.mod_eq_of_lt (by unfold uN; omega)]
      have hs : sN u = v.n := by rw [hun, sN_uN hv.n1 hv.n2]
      rw [(Ky.good_1 (n := sN u) (by rw [hs]; exact hn)).g] at h1; cases h1
theorem took_2 (l : List UInt8) (u : Nat) (hu : u < 18446744073709551616) (ok : Bool) (h : ok = true ↔ l.length = 8) (he : l.length = 8 → u = nvL l) : Took 2 l ⟨2, wrap64 (flipN u : Int), 0, ⟨#[]⟩⟩ ok := by
  have hf := flipN_lt hu
  rw [wrap_sN hf]
  refine ⟨Nat.zero_le _, ⟨(sN_bd hf).1, (sN_bd hf).2, by simp⟩, fun h1 h2 => ?_, fun h1 v hv e => ?_⟩
  · have hl := h.1 h1
    show 2 :: bodyL _ = _
    rw [body_2 rfl, uN_sN hf, flip_flip hu, he hl, nvL_8 hl]
  · obtain ⟨e1, e2⟩ := key_cons hv e
    have e3 : v.k = 2 := by rw [e1]; rfl
    rw [body_2 e3] at e2
    have hl : l.length = 8 := by rw [← e2, beL_length]
    rcases h1 with h1 | h1
    · rw [h.2 hl] at h1; cases h1
    · rw [(Ky.good_2 (sN_bd hf).1 (sN_bd hf).2).g] at h1; cases h1
theorem unb_bits {x : Nat} (hx : x < 18446744073709551616) : Fl.unbN (Fl.bitsN x) = Fl.canonN x := by
  have := Fl.canonN_lt hx
  unfold Fl.bitsN Fl.unbN
  split <;> split <;> omega
theorem canon_of {x : Nat} (h : Fl.isB x = true) : Fl.canonN x = x := by
  unfold Fl.isB at h
  simp at h
  exact h.symm
theorem took_3 (l : List UInt8) (u : Nat) (hu : u < 18446744073709551616) (ok : Bool) (h : ok = true ↔ Fl.isB (Fl.unbN u) = true ∧ l.length = 8) (he : l.length = 8 → u = nvL l) : Took 3 l ⟨3, 0, Fl.gotN (Fl.unbN u), ⟨#[]⟩⟩ ok := by
  have hb := Fl.unbN_lt hu
  refine ⟨Nat.zero_le _, ⟨by simp, by simp, Fl.gotN_lt hb⟩, fun h1 h2 => ?_, fun h1 v hv e => ?_⟩
  · obtain ⟨hi, hl⟩ := h.1 h1
    show 3 :: bodyL _ = _
    have eg : Fl.gotN (Fl.unbN u) = Fl.unbN u := by unfold Fl.gotN; rw [if_pos hi]
    rw [body_3 rfl]
    show 3 :: beL (Fl.bitsN (Fl.gotN (Fl.unbN u))) 8 = _
    rw [eg, Fl.bits_unb hu hi, he hl, nvL_8 hl]
  · obtain ⟨e1, e2⟩ := key_cons hv e
    have e3 : v.k = 3 := by rw [e1]; rfl
    rw [body_3 e3] at e2
    have hl : l.length = 8 := by rw [← e2, beL_length]
    have hi : Fl.isB v.f = true := by rcases hv.cases with q | q | q | q | q <;> first | (exfalso; omega) | exact q.2.2.1
    have hun : u = Fl.bitsN v.f := by
      rw [he hl, ← e2, nvL_beL, Nat.mod_eq_of_lt (Fl.bitsN_lt hv.f)]
    have hx : Fl.unbN u = v.f := by rw [hun, unb_bits hv.f, canon_of hi]
    rcases h1 with h1 | h1
    · rw [h.2 ⟨by rw [hx]; exact hi, hl⟩] at h1; cases h1
    · have eg : Fl.gotN (Fl.unbN u) = v.f := by unfold Fl.gotN; rw [hx, if_pos hi]
      have := (Ky.good_3 hi hv.f).g
      simp only [eg] at h1
      rw [this] at h1; cases h1
theorem took_4 (l : List UInt8) (t : ByteArray) (ok : Bool) (hs : t.size ≤ l.length) (h1 : ok = true → l = esc t.data.toList ++ [0, 1]) (h2 : ok = false → ∀ b, l ≠ esc b ++ [0, 1]) : Took 4 l ⟨4, 0, 0, t⟩ ok := by
  refine ⟨hs, in0 _ _, fun h3 _ => ?_, fun h3 v hv e => ?_⟩
  · show 4 :: bodyL _ = _
    rw [body_4 rfl, h1 h3]
  · obtain ⟨e1, e2⟩ := key_cons hv e
    have e3 : v.k = 4 := by rw [e1]; rfl
    rw [body_4 e3] at e2
    cases ok with
    | false => exact h2 rfl _ e2.symm
    | true =>
      have h := h1 rfl
      rw [← e2] at h
      have h' := List.append_cancel_right h
      have h'' : v.s.data.toList = t.data.toList := by rw [← unesc_esc v.s.data.toList, h', unesc_esc]
      have hz : v.s.size ≤ 256 := by rcases hv.cases with q | q | q | q | q <;> first | (exfalso; omega) | exact q.2.2.2
      rcases h3 with h3 | h3
      · cases h3
      · rw [(Ky.good_4 (s := t) (by rw [size_list, ← h'', ← size_list]; exact hz)).g] at h3; cases h3
theorem took_5 (c : UInt8) (hc : 4 < c.toNat) (l : List UInt8) : Took c l ⟨0, 0, 0, ⟨#[]⟩⟩ false := by
  refine ⟨Nat.zero_le _, in0 _ _, (fun h => by cases h), fun _ v hv e => ?_⟩
  obtain ⟨e1, _⟩ := key_cons hv e
  have := hv.kind
  omega
end Ky

set_option maxRecDepth 100000 in
set_option maxHeartbeats 1000000 in
theorem take_0 (x : ByteArray) (w : World) :
    Calls Tryz.prog 110 #[.int .i64 0, .string x] w fun e w' => ∃ v ok, e = .returned (.tuple #[.agg #[.int .i64 v.k, .int .i64 v.n, .float .f64 v.f, .string v.s], .bool ok]) ∧ Ky.Took 0 x.data.toList v ok ∧ Below w.heap.size w w' := by
  go_enter Tryz.func110, Tryz.ntmps110
  go_wp2_with fail
  refine bodyPost_ret (v := .tuple #[.agg #[.int .i64 0, .int .i64 0, .float .f64 0, .string ⟨#[]⟩], .bool (x.toList == [])]) (by simp [results, Tryz.results110, go_sem]) rfl ⟨⟨0, 0, 0, ⟨#[]⟩⟩, _, rfl, Ky.took_0 _ _ (by rw [ByteArray.toList_eq, beq_iff_eq]), Vl.bal (Below.refl _ _) _⟩

set_option maxRecDepth 100000 in
set_option maxHeartbeats 1000000 in
theorem take_1 (x : ByteArray) (w : World) (hx : x.size ≤ 50000) :
    Calls Tryz.prog 110 #[.int .i64 1, .string x] w fun e w' => ∃ v ok, e = .returned (.tuple #[.agg #[.int .i64 v.k, .int .i64 v.n, .float .f64 v.f, .string v.s], .bool ok]) ∧ Ky.Took 1 x.data.toList v ok ∧ Below w.heap.size w w' := by
  go_enter Tryz.func110, Tryz.ntmps110
  go_wp2_with fail
  refine (told_any x _ (by omega)).mono ?_
  rintro e w1 ⟨u, hu, rfl, hn, hq⟩
  obtain rfl := hq.symm
  have HN := Vl.hid hn
  clear hn
  go_wp2_with fail
  refine bodyPost_ret (v := .tuple #[.agg #[.int .i64 1, .int .i64 (wrap64 (u : Int)), .float .f64 0, .string ⟨#[]⟩], .bool ((x.size : Int) == 1)]) (by simp [results, Tryz.results110, go_sem]) rfl ⟨⟨1, wrap64 (u : Int), 0, ⟨#[]⟩⟩, _, rfl, Ky.took_1 _ u hu _ (by rw [beq_iff_eq, ← Ky.size_list]; omega) (fun h => HN.out (by rw [Ky.size_list]; omega)), Vl.bal (Below.refl _ _) _⟩

set_option maxRecDepth 100000 in
set_option maxHeartbeats 1000000 in
theorem take_2 (x : ByteArray) (w : World) (hx : x.size ≤ 50000) :
    Calls Tryz.prog 110 #[.int .i64 2, .string x] w fun e w' => ∃ v ok, e = .returned (.tuple #[.agg #[.int .i64 v.k, .int .i64 v.n, .float .f64 v.f, .string v.s], .bool ok]) ∧ Ky.Took 2 x.data.toList v ok ∧ Below w.heap.size w w' := by
  go_enter Tryz.func110, Tryz.ntmps110
  go_wp2_with fail
  refine (told_any x _ (by omega)).mono ?_
  rintro e w1 ⟨u, hu, rfl, hn, hq⟩
  obtain rfl := hq.symm
  have HN := Vl.hid hn
  clear hn
  have hfl := Ky.flip_u64 u hu
  go_wp2_with fail
  refine bodyPost_ret (v := .tuple #[.agg #[.int .i64 2, .int .i64 (wrap64 (Ky.flipN u : Int)), .float .f64 0, .string ⟨#[]⟩], .bool ((x.size : Int) == 8)]) (by simp [results, Tryz.results110, go_sem]) rfl ⟨⟨2, wrap64 (Ky.flipN u : Int), 0, ⟨#[]⟩⟩, _, rfl, Ky.took_2 _ u hu _ (by rw [beq_iff_eq, ← Ky.size_list]; omega) (fun h => HN.out (by rw [Ky.size_list]; omega)), Vl.bal (Below.refl _ _) _⟩

set_option maxRecDepth 100000 in
set_option maxHeartbeats 1000000 in
theorem take_3 (x : ByteArray) (w : World) (hx : x.size ≤ 50000) :
    Calls Tryz.prog 110 #[.int .i64 3, .string x] w fun e w' => ∃ v ok, e = .returned (.tuple #[.agg #[.int .i64 v.k, .int .i64 v.n, .float .f64 v.f, .string v.s], .bool ok]) ∧ Ky.Took 3 x.data.toList v ok ∧ Below w.heap.size w w' := by
  go_enter Tryz.func110, Tryz.ntmps110
  go_wp2_with fail
  refine (told_any x _ (by omega)).mono ?_
  rintro e w1 ⟨u, hu, rfl, hn, hq⟩
  obtain rfl := hq.symm
  have HN := Vl.hid hn
  clear hn
  go_wp2_with fail
  refine (from_any u _ hu).mono ?_
  rintro e w1 ⟨rfl, hq⟩
  obtain rfl := hq.symm
  cases hi : Fl.isB (Fl.unbN u)
  · go_wp2_with fail
    refine bodyPost_ret (v := .tuple #[.agg #[.int .i64 3, .int .i64 0, .float .f64 (Fl.gotN (Fl.unbN u)), .string ⟨#[]⟩], .bool false]) (by simp [results, Tryz.results110, go_sem]) rfl ⟨⟨3, 0, Fl.gotN (Fl.unbN u), ⟨#[]⟩⟩, _, rfl, Ky.took_3 _ u hu _ (by rw [hi]; simp) (fun h => HN.out (by rw [Ky.size_list]; omega)), Vl.bal (Below.refl _ _) _⟩
  · go_wp2_with fail
    refine bodyPost_ret (v := .tuple #[.agg #[.int .i64 3, .int .i64 0, .float .f64 (Fl.gotN (Fl.unbN u)), .string ⟨#[]⟩], .bool ((x.size : Int) == 8)]) (by simp [results, Tryz.results110, go_sem]) rfl ⟨⟨3, 0, Fl.gotN (Fl.unbN u), ⟨#[]⟩⟩, _, rfl, Ky.took_3 _ u hu _ (by rw [hi, beq_iff_eq, ← Ky.size_list]; simp; omega) (fun h => HN.out (by rw [Ky.size_list]; omega)), Vl.bal (Below.refl _ _) _⟩

set_option maxRecDepth 100000 in
set_option maxHeartbeats 1000000 in
theorem take_4 (x : ByteArray) (w : World) (hM : Ky.Mx w) (hx : x.size ≤ 50000) :
    Calls Tryz.prog 110 #[.int .i64 4, .string x] w fun e w' => ∃ v ok, e = .returned (.tuple #[.agg #[.int .i64 v.k, .int .i64 v.n, .float .f64 v.f, .string v.s], .bool ok]) ∧ Ky.Took 4 x.data.toList v ok ∧ Below w.heap.size w w' := by
  have HM := Vl.hid (hM.below (Vl.bal (Below.refl _ _) (.cells #[.int .i64 0, .int .i64 0, .float .f64 0, .string ⟨#[]⟩] 34)))
  clear hM
  go_enter Tryz.func110, Tryz.ntmps110
  go_wp2_with fail
  refine (plain_key x _ HM.out hx).mono ?_
  rintro e w1 ⟨t, ok, rfl, hs, h1, h2, hb⟩
  have HT := Vl.hid (Ky.took_4 x.data.toList t ok (by rw [← Ky.size_list]; exact hs) h1 h2)
  obtain ⟨hc, hf⟩ := Vl.bcell hb
  have hz : w.heap.size < w1.heap.size := by have := hb.size; simp at this; omega
  have HB := Vl.hid (Vl.btr (Vl.bal (Below.refl _ _) _) hb)
  clear hb h1 h2
  go_wp2_with fail
  refine bodyPost_ret (v := .tuple #[.agg #[.int .i64 4, .int .i64 0, .float .f64 0, .string t], .bool ok]) (by simp [results, Tryz.results110, go_sem, hc]) rfl ⟨⟨4, 0, 0, t⟩, _, rfl, HT.out, ?_⟩
  exact (((HB.out.setCell (Nat.le_refl _) _).setCell (Nat.le_refl _) _).setCell (Nat.le_refl _) _).setCell (Nat.le_refl _) _

set_option maxRecDepth 100000 in
set_option maxHeartbeats 1000000 in
theorem take_5 (c : UInt8) (hc : 4 < c.toNat) (x : ByteArray) (w : World) :
    Calls Tryz.prog 110 #[.int .i64 (c.toNat : Int), .string x] w fun e w' => ∃ v ok, e = .returned (.tuple #[.agg #[.int .i64 v.k, .int .i64 v.n, .float .f64 v.f, .string v.s], .bool ok]) ∧ Ky.Took c x.data.toList v ok ∧ Below w.heap.size w w' := by
  have HT := Vl.hid (Ky.took_5 c hc x.data.toList)
  obtain ⟨k, hk⟩ : ∃ k : Int, k = (c.toNat : Int) := ⟨_, rfl⟩
  have b0 : (k == 0) = false := beq_eq_false_iff_ne.2 (by omega)
  have b1 : (k == 1) = false := beq_eq_false_iff_ne.2 (by omega)
  have b2 : (k == 2) = false := beq_eq_false_iff_ne.2 (by omega)
  have b3 : (k == 3) = false := beq_eq_false_iff_ne.2 (by omega)
  have b4 : (k == 4) = false := beq_eq_false_iff_ne.2 (by omega)
  rw [← hk]
  clear hk hc
  go_enter Tryz.func110, Tryz.ntmps110
  go_wp2_with fail
  exact bodyPost_ret (v := .tuple #[.agg #[.int .i64 0, .int .i64 0, .float .f64 0, .string ⟨#[]⟩], .bool false]) (by simp [results, Tryz.results110, go_sem]) rfl ⟨⟨0, 0, 0, ⟨#[]⟩⟩, _, rfl, HT.out, Vl.bal (Below.refl _ _) _⟩

theorem take_any (c : UInt8) (x : ByteArray) (w : World) (hM : Ky.Mx w) (hx : x.size ≤ 50000) :
    Calls Tryz.prog 110 #[.int .i64 (c.toNat : Int), .string x] w fun e w' => ∃ v ok, e = .returned (.tuple #[.agg #[.int .i64 v.k, .int .i64 v.n, .float .f64 v.f, .string v.s], .bool ok]) ∧ Ky.Took c x.data.toList v ok ∧ Below w.heap.size w w' := by
  by_cases h0 : c = 0
  · subst h0; exact take_0 x w
  by_cases h1 : c = 1
  · subst h1; exact take_1 x w hx
  by_cases h2 : c = 2
  · subst h2; exact take_2 x w hx
  by_cases h3 : c = 3
  · subst h3; exact take_3 x w hx
  by_cases h4 : c = 4
  · subst h4; exact take_4 x w hM hx
  refine take_5 c ?_ x w
  have e0 : c.toNat ≠ 0 := fun e => h0 (UInt8.toNat_inj.1 e)
  have e1 : c.toNat ≠ 1 := fun e => h1 (UInt8.toNat_inj.1 e)
  have e2 : c.toNat ≠ 2 := fun e => h2 (UInt8.toNat_inj.1 e)
  have e3 : c.toNat ≠ 3 := fun e => h3 (UInt8.toNat_inj.1 e)
  have e4 : c.toNat ≠ 4 := fun e => h4 (UInt8.toNat_inj.1 e)
  omega

end Go.Proofs.YtjnaafgiokdcbaaGreatDoor

/- Walks of Value and Split. -/
namespace Go.Proofs.YtjnaafgiokdcbaaGreatDoor
open Go.RowKit
attribute [local go_sem] Fl.run_store_float
attribute [local go_sem ↓] Go.wp_at_zero Go.wp_at_succ
namespace Ky
open Vl
theorem atf {w w1 : World} (hb : Below w.heap.size w w1) {b o : Nat} (h : b < w.heap.size) : w1.frozen? ⟨b, o, none⟩ = w.frozen? ⟨b, o, none⟩ := (Vl.bcell hb).2 b o h
/-- What Value answers. -/
def valT : Option V → Value
  | none => .tuple #[.agg #[.int .i64 0, .int .i64 0, .float .f64 0, .string ⟨#[]⟩], .int .i64 11]
  | some v => .tuple #[.agg #[.int .i64 v.k, .int .i64 v.n, .float .f64 v.f, .string v.s], .int .i64 0]
/-- Four cells in a block hold a value and may be written. -/
structure Cell4 (w : World) (b : Nat) (v : V) : Prop where
  c0 : w.cell? ⟨b, 0, none⟩ = some (.int .i64 v.k)
  c1 : w.cell? ⟨b, 1, none⟩ = some (.int .i64 v.n)
  c2 : w.cell? ⟨b, 2, none⟩ = some (.float .f64 v.f)
  c3 : w.cell? ⟨b, 3, none⟩ = some (.string v.s)
  f0 : w.frozen? ⟨b, 0, none⟩ = false
  f1 : w.frozen? ⟨b, 1, none⟩ = false
  f2 : w.frozen? ⟨b, 2, none⟩ = false
  f3 : w.frozen? ⟨b, 3, none⟩ = false
theorem Cell4.lt {w : World} {b : Nat} {v : V} (h : Cell4 w b v) : b < w.heap.size := World.block_lt_of_cell? _ _ h.c0
theorem Cell4.below {w w1 : World} {b : Nat} {v : V} (h : Cell4 w b v) (hb : Below w.heap.size w w1) : Cell4 w1 b v :=
  ⟨(atc hb h.lt).trans h.c0, (atc hb h.lt).trans h.c1, (atc hb h.lt).trans h.c2, (atc hb h.lt).trans h.c3, (atf hb h.lt).trans h.f0, (atf hb h.lt).trans h.f1, (atf hb h.lt).trans h.f2, (atf hb h.lt).trans h.f3⟩
theorem Cell4.made (w : World) (v : V) (t : TypeId) : Cell4 (w.alloc (.cells #[.int .i64 v.k, .int .i64 v.n, .float .f64 v.f, .string v.s] t)) w.heap.size v := by
  constructor <;> simp [go_sem]
theorem Cell4.made' {w : World} (v : V) (t : TypeId) {n : Nat} (h : n = w.heap.size) : Cell4 (w.alloc (.cells #[.int .i64 v.k, .int .i64 v.n, .float .f64 v.f, .string v.s] t)) n v := by
  subst h; exact Cell4.made w v t
theorem Cell4.drew {w : World} {b : Nat} {v : V} (h : Cell4 w b v) : Cell4 w.drew b v := ⟨h.c0, h.c1, h.c2, h.c3, h.f0, h.f1, h.f2, h.f3⟩
theorem Cell4.al {w : World} {b : Nat} {v : V} (h : Cell4 w b v) (o : Obj) : Cell4 (w.alloc o) b v := h.below (Vl.bal (Below.refl _ _) o)
theorem fz_set {w : World} {a b : Addr} {v : Value} : (w.setCell a v).frozen? b = w.frozen? b := World.frozen?_setCell _ _ _ _
theorem Cell4.set {w : World} {b : Nat} {u : V} (h : Cell4 w b u) (v : V) : Cell4 ((((w.setCell ⟨b, 0, none⟩ (.int .i64 v.k)).setCell ⟨b, 1, none⟩ (.int .i64 v.n)).setCell ⟨b, 2, none⟩ (.float .f64 v.f)).setCell ⟨b, 3, none⟩ (.string v.s)) b v := by
  have h0 := h.c0; have h1 := h.c1; have h2 := h.c2; have h3 := h.c3
  have f0 := h.f0; have f1 := h.f1; have f2 := h.f2; have f3 := h.f3
  constructor <;> simp [go_sem, h0, h1, h2, h3, f0, f1, f2, f3]
theorem Cell4.other {w : World} {b b' : Nat} {u : V} (h : Cell4 w b u) (hne : b' ≠ b) (x0 x1 x2 x3 : Value) : Cell4 ((((w.setCell ⟨b', 0, none⟩ x0).setCell ⟨b', 1, none⟩ x1).setCell ⟨b', 2, none⟩ x2).setCell ⟨b', 3, none⟩ x3) b u := by
  have h0 := h.c0; have h1 := h.c1; have h2 := h.c2; have h3 := h.c3
  have f0 := h.f0; have f1 := h.f1; have f2 := h.f2; have f3 := h.f3
  have hn := hne
  constructor <;> simp [go_sem, h0, h1, h2, h3, f0, f1, f2, f3]
theorem head_of {s : ByteArray} (h : 0 < s.size) : s.data.toList = s.data.toList.getD 0 0 :: (s.extract 1 s.size).data.toList := by
  rw [extract_list]
  cases hl : s.data.toList with
  | nil => rw [size_list, hl] at h; cases h
  | cons c x => rw [size_list, hl]; simp
theorem key_ne_nil (v : V) : keyL v ≠ [] := by unfold keyL; simp
end Ky

set_option maxRecDepth 100000 in
set_option maxHeartbeats 2000000 in
theorem value_empty (w : World) :
    Calls Tryz.prog 98 #[.string ⟨#[]⟩] w fun e w' => e = .returned (Ky.valT none) ∧ Below w.heap.size w w' := by
  go_enter Tryz.func98, Tryz.ntmps98
  have he : ((⟨#[]⟩ : ByteArray).toList == (⟨#[]⟩ : ByteArray).toList) = true := by simp
  go_wp2_with fail
  exact bodyPost_ret (v := .tuple #[.agg #[.int .i64 0, .int .i64 0, .float .f64 0, .string ⟨#[]⟩], .int .i64 11]) (by simp [results, Tryz.results98, go_sem]) rfl ⟨rfl, Vl.bal (Below.refl _ _) _⟩

set_option maxRecDepth 100000 in
set_option maxHeartbeats 1000000 in
theorem value_some (s : ByteArray) (w : World) (hM : Ky.Mx w) (hs : s.size ≤ 50000) (h0 : 0 < s.size) :
    Calls Tryz.prog 98 #[.string s] w fun e w' => ∃ o, e = .returned (Ky.valT o) ∧ Ky.KeyIs s.data.toList o ∧ Below w.heap.size w w' := by
  have he : (s.toList == []) = false := by
    rw [ByteArray.toList_eq, beq_eq_false_iff_ne]; intro e; rw [Ky.size_list, e] at h0; cases h0
  have hX0 : ∀ w, (Instr.index 9 (.string s) (.int .i64 0)).run Tryz.prog w = .ok (.int .u8 (Vl.cAt s 0 : Int)) w := fun w => Vl.idx_str 9 Tryz.underlying9 s 0 h0 w
  have HD := Vl.hid (Ky.head_of h0)
  have hc : Vl.cAt s 0 = (s.data.toList.getD 0 0).toNat := rfl
  generalize s.data.toList.getD 0 0 = c at hc HD
  have hc8 := UInt8.toNat_lt c
  rw [hc] at hX0
  clear hc
  have hwc : IntKind.i64.wrap (c.toNat : Int) = (c.toNat : Int) := by rw [IntKind.wrap_i64]; omega
  have hx : (s.extract 1 s.size).size ≤ 50000 := by rw [ByteArray.size_extract]; omega
  have h1 : (1 : Int) ≤ (s.size : Int) := by omega
  have HM := Vl.hid hM
  clear hM
  go_enter Tryz.func98, Tryz.ntmps98
  go_upto_region 3 with fail
  go_cut [4, 5] (fun p t wc => ∃ b v ok, p = .pointer (some ⟨b, 0, none⟩) ∧ t = .bool ok ∧ Hid (Ky.Cell4 wc b v) ∧ Hid (Ky.Cell4 wc w.heap.size ⟨0, 0, 0, ⟨#[]⟩⟩) ∧ Hid (Ky.Took c (s.extract 1 s.size).data.toList v ok) ∧ Hid (Below w.heap.size w wc))
  case first =>
    go_region_with (first | (go_at_call 110; refine (take_any c _ _ (Ky.mxb (by first | exact Below.drew (Vl.bal (Below.refl _ _) _) | exact Below.drew (Vl.bal (Vl.bal (Below.refl _ _) _) _)) HM.out) hx).mono ?_; rintro e w2 ⟨v, ok, rfl, ht, hb2⟩; obtain ⟨hc2, hf2⟩ := Vl.bcell hb2; have HT := Vl.hid ht; have HB2 := Vl.hid hb2; clear ht hb2))
    all_goals
      go_wp2_with fail
      go_meet
      case rel =>
        refine ⟨_, v, ok, rfl, rfl, ?_, ?_, HT, ?_⟩
        · first
          | exact Vl.hid (Ky.Cell4.made _ _ _)
          | exact Vl.hid (Ky.Cell4.set (Ky.Cell4.below (Ky.Cell4.drew (Ky.Cell4.made' ⟨0, 0, 0, ⟨#[]⟩⟩ _ (by simp))) HB2.out) v)
        · first
          | exact Vl.hid (Ky.Cell4.al (Ky.Cell4.below (Ky.Cell4.drew (Ky.Cell4.made _ ⟨0, 0, 0, ⟨#[]⟩⟩ _)) HB2.out) _)
          | exact Vl.hid (Ky.Cell4.other (Ky.Cell4.below (Ky.Cell4.drew (Ky.Cell4.al (Ky.Cell4.made _ ⟨0, 0, 0, ⟨#[]⟩⟩ _) _)) HB2.out) (by omega) _ _ _ _)
        · first
          | exact Vl.hid (Vl.bal (Vl.btr (Below.drew (Vl.bal (Below.refl _ _) _)) HB2.out) _)
          | exact Vl.hid (((((Vl.btr (Below.drew (Vl.bal (Vl.bal (Below.refl _ _) _) _)) HB2.out).setCell (Nat.le_succ _) _).setCell (Nat.le_succ _) _).setCell (Nat.le_succ _) _).setCell (Nat.le_succ _) _)
  case rest =>
    obtain ⟨b, v, ok, rfl, rfl, HV, HZ, HT, HB⟩ := hcut
    have hbl := HV.out.lt
    have hzl := HZ.out.lt
    obtain ⟨c0, c1, c2, c3, f0, f1, f2, f3⟩ := id HV.out
    obtain ⟨d0, d1, d2, d3, g0, g1, g2, g3⟩ := id HZ.out
    cases ok
    · have HN : Hid (∀ u, Ky.GoodV u → Ky.keyL u ≠ s.data.toList) := Vl.hid (fun u hu => by rw [HD.out]; exact HT.out.no (.inl rfl) u hu)
      go_wp2_with fail
      refine bodyPost_ret (v := .tuple #[.agg #[.int .i64 0, .int .i64 0, .float .f64 0, .string ⟨#[]⟩], .int .i64 11]) (by simp [results, Tryz.results98, go_sem, d0, d1, d2, d3]) rfl ⟨none, rfl, HN.out, ?_⟩
      first | exact HB.out | exact (((HB.out.setCell (Nat.le_refl _) _).setCell (Nat.le_refl _) _).setCell (Nat.le_refl _) _).setCell (Nat.le_refl _) _
    · have HS := Vl.hid HT.out.s
      go_wp2_with fail
      refine (good_any _ _ _ _ _).mono ?_
      rintro e w3 ⟨rfl, hb3⟩
      have HB3 := Vl.hid (Vl.btr HB.out hb3)
      have HV3 := Vl.hid (HV.out.below hb3)
      have HZ3 := Vl.hid (HZ.out.below hb3)
      clear hb3 c0 c1 c2 c3 f0 f1 f2 f3 d0 d1 d2 d3 g0 g1 g2 g3 HB HV HZ hbl hzl
      have hbl := HV3.out.lt
      have hzl := HZ3.out.lt
      obtain ⟨c0, c1, c2, c3, f0, f1, f2, f3⟩ := id HV3.out
      obtain ⟨d0, d1, d2, d3, g0, g1, g2, g3⟩ := id HZ3.out
      cases hg : Vl.goodB v.k v.n v.f v.s
      · have HN : Hid (∀ u, Ky.GoodV u → Ky.keyL u ≠ s.data.toList) := Vl.hid (fun u hu => by rw [HD.out]; exact HT.out.no (.inr hg) u hu)
        go_wp2_with fail
        refine bodyPost_ret (v := .tuple #[.agg #[.int .i64 0, .int .i64 0, .float .f64 0, .string ⟨#[]⟩], .int .i64 11]) (by simp [results, Tryz.results98, go_sem, d0, d1, d2, d3]) rfl ⟨none, rfl, HN.out, ?_⟩
        first | exact HB3.out | exact (((HB3.out.setCell (Nat.le_refl _) _).setCell (Nat.le_refl _) _).setCell (Nat.le_refl _) _).setCell (Nat.le_refl _) _
      · have HK : Hid (Ky.KeyIs s.data.toList (some v)) := Vl.hid ⟨HT.out.i.good hg, by rw [HD.out]; exact HT.out.yes rfl hg⟩
        go_wp2_with fail
        refine bodyPost_ret (v := .tuple #[.agg #[.int .i64 v.k, .int .i64 v.n, .float .f64 v.f, .string v.s], .int .i64 0]) (by simp [results, Tryz.results98, go_sem, d0, d1, d2, d3]) rfl ⟨some v, rfl, HK.out, ?_⟩
        first | exact HB3.out | exact (((HB3.out.setCell (Nat.le_refl _) _).setCell (Nat.le_refl _) _).setCell (Nat.le_refl _) _).setCell (Nat.le_refl _) _

theorem value_any (s : ByteArray) (w : World) (hM : Ky.Mx w) (hs : s.size ≤ 50000) :
    Calls Tryz.prog 98 #[.string s] w fun e w' => ∃ o, e = .returned (Ky.valT o) ∧ Ky.KeyIs s.data.toList o ∧ Below w.heap.size w w' := by
  by_cases h0 : 0 < s.size
  · exact value_some s w hM hs h0
  · obtain rfl : s = ⟨#[]⟩ := Ky.ext_list (by rw [Ky.size_list] at h0; show s.data.toList = []; exact List.length_eq_zero_iff.1 (by omega))
    exact (value_empty w).mono fun e w' ⟨h1, h2⟩ => ⟨none, h1, fun v _ => Ky.key_ne_nil v, h2⟩

end Go.Proofs.YtjnaafgiokdcbaaGreatDoor

/- Split. -/
namespace Go.Proofs.YtjnaafgiokdcbaaGreatDoor
open Go.RowKit
attribute [local go_sem] Fl.run_store_float
attribute [local go_sem ↓] Go.wp_at_zero Go.wp_at_succ
namespace Ky
open Vl
/-- What an entry's key is read as. -/
def EntIs (l : List UInt8) : Option (V × Nat) → Prop
  | none => ∀ v n, GoodV v → n < 65536 → keyL v ++ beL n 2 ≠ l
  | some p => GoodV p.1 ∧ p.2 < 65536 ∧ keyL p.1 ++ beL p.2 2 = l
theorem be2_inj {m n : Nat} (hm : m < 65536) (hn : n < 65536) (h : beL m 2 = beL n 2) : m = n := by
  have := congrArg nvL h
  rw [nvL_beL, nvL_beL] at this
  omega
theorem EntIs.one {l : List UInt8} {o p : Option (V × Nat)} (h : EntIs l o) (h' : EntIs l p) : o = p := by
  cases o with
  | none => cases p with
    | none => rfl
    | some v => exact absurd h'.2.2 (h v.1 v.2 h'.1 h'.2.1)
  | some u => cases p with
    | none => exact absurd h.2.2 (h' u.1 u.2 h.1 h.2.1)
    | some v =>
      obtain ⟨e1, e2⟩ := key_front h.1 h'.1 (h.2.2.trans h'.2.2.symm)
      have e3 := be2_inj h.2.1 h'.2.1 e2
      rw [show u = v from Prod.ext e1 e3]
/-- What Split answers. -/
def splT : Option (V × Nat) → Value
  | none => .tuple #[.agg #[.int .i64 0, .int .i64 0, .float .f64 0, .string ⟨#[]⟩], .int .i64 0, .int .i64 11]
  | some p => .tuple #[.agg #[.int .i64 p.1.k, .int .i64 p.1.n, .float .f64 p.1.f, .string p.1.s], .int .i64 (p.2 : Int), .int .i64 0]
theorem ent_short {l : List UInt8} (h : l.length < 2) : EntIs l none := fun v n _ _ e => by
  rw [← e, List.length_append, beL_length] at h; omega
theorem ent_of {s : ByteArray} {m : Nat} (hm : s.size = m + 2) {o : Option V} (h : KeyIs (s.extract 0 m).data.toList o) {n : Nat} (hn : n = nvL (s.extract m s.size).data.toList) :
    n < 65536 ∧ EntIs s.data.toList (o.map fun v => (v, n)) := by
  have e1 : (s.extract 0 m).data.toList = s.data.toList.take m := by rw [extract_list]; simp
  have e2 : (s.extract m s.size).data.toList = s.data.toList.drop m := by rw [extract_list, size_list, List.take_length]
  have hl : (s.extract m s.size).data.toList.length = 2 := by rw [← size_list, ByteArray.size_extract]; omega
  have hlt : n < 65536 := by rw [hn]; have := nvL_lt (s.extract m s.size).data.toList; rwa [hl] at this
  have hb : beL n 2 = s.data.toList.drop m := by rw [hn, ← e2]; have := beL_nvL (s.extract m s.size).data.toList; rwa [hl] at this
  have hsp := List.take_append_drop m s.data.toList
  refine ⟨hlt, ?_⟩
  cases o with
  | none =>
    intro v n' hv hn' e
    refine h v hv ?_
    rw [e1, ← e]
    have hk : (keyL v).length = m := by
      have := congrArg List.length e
      rw [List.length_append, beL_length, ← size_list] at this; omega
    rw [← hk, List.take_left]
  | some v => exact ⟨h.1, hlt, by rw [h.2, hb, e1, hsp]⟩
end Ky

set_option maxRecDepth 100000 in
set_option maxHeartbeats 1000000 in
theorem split_short (s : ByteArray) (w : World) (h : s.size < 2) :
    Calls Tryz.prog 84 #[.string s] w fun e w' => ∃ o, e = .returned (Ky.splT o) ∧ Ky.EntIs s.data.toList o ∧ Below w.heap.size w w' := by
  have HE := Vl.hid (Ky.ent_short (l := s.data.toList) (by rw [← Ky.size_list]; exact h))
  have h2 : decide ((s.size : Int) - 2 < 0) = true := decide_eq_true (by omega)
  have hb : (s.size : Int) < 2 := by omega
  clear h
  go_enter Tryz.func84, Tryz.ntmps84
  go_wp2_with fail
  exact bodyPost_ret (v := .tuple #[.agg #[.int .i64 0, .int .i64 0, .float .f64 0, .string ⟨#[]⟩], .int .i64 0, .int .i64 11]) (by simp [results, Tryz.results84, go_sem]) rfl ⟨none, rfl, HE.out, Vl.bal (Below.refl _ _) _⟩

set_option maxRecDepth 100000 in
set_option maxHeartbeats 1000000 in
theorem split_long (s : ByteArray) (w : World) (m : Nat) (hM : Ky.Mx w) (hs : s.size ≤ 50000) (h : s.size = m + 2) :
    Calls Tryz.prog 84 #[.string s] w fun e w' => ∃ o, e = .returned (Ky.splT o) ∧ Ky.EntIs s.data.toList o ∧ Below w.heap.size w w' := by
  have h2 : (s.size : Int) - 2 = (m : Int) := by omega
  have h3 : (m : Int) ≤ (s.size : Int) := by omega
  have hm5 : m ≤ 50000 := by omega
  have HH := Vl.hid h
  have HM := Vl.hid (hM.below (Vl.bal (Below.refl _ _) (.cells #[.int .i64 0, .int .i64 0, .float .f64 0, .string ⟨#[]⟩] 34)))
  clear hM h
  go_enter Tryz.func84, Tryz.ntmps84
  go_wp2_with fail
  refine (value_any (s.extract 0 m) _ HM.out (by rw [ByteArray.size_extract]; omega)).mono ?_
  rintro e w1 ⟨o, rfl, hk, hb⟩
  have HZ := Vl.hid ((Ky.Cell4.made w ⟨0, 0, 0, ⟨#[]⟩⟩ 34).below hb)
  have HB := Vl.hid (Vl.btr (Vl.bal (Below.refl _ _) _) hb)
  have HK := Vl.hid hk
  clear hb hk HM
  have hzl := HZ.out.lt
  obtain ⟨d0, d1, d2, d3, g0, g1, g2, g3⟩ := id HZ.out
  cases o with
  | none =>
    have HE := Vl.hid (Ky.ent_of HH.out HK.out rfl).2
    unfold Ky.valT
    go_upto_region 5 with fail
    obtain ⟨W, hW, hC, hB⟩ : ∃ W, ((((w1.setCell ⟨w.heap.size, 0, none⟩ (.int .i64 0)).setCell ⟨w.heap.size, 1, none⟩ (.int .i64 0)).setCell ⟨w.heap.size, 2, none⟩ (.float .f64 0)).setCell ⟨w.heap.size, 3, none⟩ (.string ⟨#[]⟩)) = W ∧ Ky.Cell4 W w.heap.size ⟨0, 0, 0, ⟨#[]⟩⟩ ∧ Below w.heap.size w W := ⟨_, rfl, HZ.out.set ⟨0, 0, 0, ⟨#[]⟩⟩, (((HB.out.setCell (Nat.le_refl _) _).setCell (Nat.le_refl _) _).setCell (Nat.le_refl _) _).setCell (Nat.le_refl _) _⟩
    rw [hW]
    have HBW := Vl.hid hB
    have hzl := hC.lt
    clear hW hB HB HZ d0 d1 d2 d3 g0 g1 g2 g3
    obtain ⟨d0, d1, d2, d3, g0, g1, g2, g3⟩ := hC
    go_wp2_with fail
    refine bodyPost_ret (v := .tuple #[.agg #[.int .i64 0, .int .i64 0, .float .f64 0, .string ⟨#[]⟩], .int .i64 0, .int .i64 11]) (by simp [results, Tryz.results84, go_sem, d0, d1, d2, d3]) rfl ⟨none, rfl, HE.out, ?_⟩
    exact (((HBW.out.setCell (Nat.le_refl _) _).setCell (Nat.le_refl _) _).setCell (Nat.le_refl _) _).setCell (Nat.le_refl _) _
  | some v =>
    obtain ⟨hn1, hn2⟩ := Ky.ent_of HH.out HK.out (n := Ky.nvL (s.extract m s.size).data.toList) rfl
    generalize hnn : Ky.nvL (s.extract m s.size).data.toList = n at hn1 hn2
    have HNN := Vl.hid hnn
    have HE := Vl.hid hn2
    have hwn : IntKind.i64.wrap (n : Int) = (n : Int) := by rw [IntKind.wrap_i64]; omega
    have HTo : Hid (∀ W, Calls Tryz.prog 99 #[.string (s.extract m s.size)] W fun e w' => e = .returned (.int .u64 (n : Int)) ∧ w' = W) := Vl.hid (fun W =>
      (told_any (s.extract m s.size) W (by rw [ByteArray.size_extract]; omega)).mono fun e w' ⟨u, _, h1, h2, h3⟩ => ⟨by
        have hh := HH.out
        rw [h1, h2 (by rw [ByteArray.size_extract]; omega), HNN.out], h3⟩)
    clear hnn hn2
    unfold Ky.valT
    go_upto_region 5 with fail
    obtain ⟨W, hW, hC, hB⟩ : ∃ W, ((((w1.setCell ⟨w.heap.size, 0, none⟩ (.int .i64 v.k)).setCell ⟨w.heap.size, 1, none⟩ (.int .i64 v.n)).setCell ⟨w.heap.size, 2, none⟩ (.float .f64 v.f)).setCell ⟨w.heap.size, 3, none⟩ (.string v.s)) = W ∧ Ky.Cell4 W w.heap.size v ∧ Below w.heap.size w W := ⟨_, rfl, HZ.out.set v, (((HB.out.setCell (Nat.le_refl _) _).setCell (Nat.le_refl _) _).setCell (Nat.le_refl _) _).setCell (Nat.le_refl _) _⟩
    rw [hW]
    have HBW := Vl.hid hB
    have hzl := hC.lt
    clear hW hB HB HZ d0 d1 d2 d3 g0 g1 g2 g3
    obtain ⟨d0, d1, d2, d3, g0, g1, g2, g3⟩ := hC
    go_wp2_with fail
    go_region_with (first | (go_at_call 99; refine (HTo.out _).mono ?_; rintro e w3 ⟨rfl, hq⟩; obtain rfl := hq.symm))
    all_goals
      go_wp2_with fail
      refine bodyPost_ret (v := .tuple #[.agg #[.int .i64 v.k, .int .i64 v.n, .float .f64 v.f, .string v.s], .int .i64 (n : Int), .int .i64 0]) (by simp [results, Tryz.results84, go_sem, d0, d1, d2, d3]) rfl ⟨some (v, n), rfl, HE.out, ?_⟩
      exact ((((Below.drew HBW.out).setCell (Nat.le_refl _) _).setCell (Nat.le_refl _) _).setCell (Nat.le_refl _) _).setCell (Nat.le_refl _) _

theorem split_any (s : ByteArray) (w : World) (hM : Ky.Mx w) (hs : s.size ≤ 50000) :
    Calls Tryz.prog 84 #[.string s] w fun e w' => ∃ o, e = .returned (Ky.splT o) ∧ Ky.EntIs s.data.toList o ∧ Below w.heap.size w w' := by
  by_cases h : s.size < 2
  · exact split_short s w h
  · exact split_long s w (s.size - 2) hM hs (by omega)

end Go.Proofs.YtjnaafgiokdcbaaGreatDoor
