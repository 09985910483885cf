/- KeyBack: the walk. -/
import Derived.Test.YtlafccdaplgfoaaDoorS8
namespace Go.Proofs.YtlafccdaplgfoaaDoor
open Go.RowKit
attribute [local go_sem] Fl.run_store_float Vl.str_lss Vl.str_eql
attribute [local go_sem ↓] Go.wp_at_zero Go.wp_at_succ

namespace Ky
open Vl
/-- One box lies where it was laid. -/
structure St1 (w0 : World) (a : V) (p : Nat) (w : World) : Prop where
  a : Cell4 w p a
  m : Mx w
  l : Below w0.heap.size w0 w
theorem St1.step {w0 w w1 : World} {a : V} {p : Nat} (h : St1 w0 a p w) (hb : Below w.heap.size w w1) : St1 w0 a p w1 := ⟨h.a.below hb, h.m.below hb, Vl.btr h.l hb⟩
theorem St1.drew {w0 w : World} {a : V} {p : Nat} (h : St1 w0 a p w) : St1 w0 a p w.drew := ⟨h.a.drew, h.m, Below.drew h.l⟩
theorem St1.al {w0 w : World} {a : V} {p : Nat} (h : St1 w0 a p w) (o : Obj) : St1 w0 a p (w.alloc o) := h.step (Vl.bal (Below.refl _ _) _)
theorem St1.start (w0 : World) (a : V) (hM : Mx w0) : St1 w0 a w0.heap.size (w0.alloc (.cells #[.int .i64 a.k, .int .i64 a.n, .float .f64 a.f, .string a.s] 24)) :=
  ⟨Cell4.made w0 a _, hM.below (Vl.bal (Below.refl _ _) _), Vl.bal (Below.refl _ _) _⟩
theorem entB_size {v : V} (hv : GoodV v) {n : Nat} (hn : n < 65536) : (entB v (n : Int)).size ≤ 50000 := by
  have h := keyB_size hv
  rw [size_list, keyB_list] at h
  rw [size_list, entB_good hv hn, List.length_append, beL_length]
  omega
end Ky

set_option maxRecDepth 100000 in
set_option maxHeartbeats 4000000 in
theorem keyBack_large (v : Vl.V) (n : Nat) (k : ByteArray) (w : World) (hM : Ky.Mx w) (h : decide ((2000 : Int) < (v.s.size : Int)) = true ∨ (decide ((2000 : Int) < (v.s.size : Int)) = false ∧ decide ((4000 : Int) < (k.size : Int)) = true)) :
    Calls Tryd.prog 7 #[.agg #[.int .i64 v.k, .int .i64 v.n, .float .f64 v.f, .string v.s], .int .u16 (n : Int), .string k] w fun e w' => e = .returned (.bool true) ∧ Below w.heap.size w w' := by
  have HS0 := Vl.hid (Ky.St1.start w v hM)
  clear hM
  rcases h with h | ⟨h, h2⟩
  all_goals
    obtain ⟨p0, p1, p2, p3⟩ := HS0.out.a.four
    go_enter Tryd.func7, Tryd.ntmps7
    go_wp2_with fail
    refine (largeValue_any v _).mono ?_
    rintro e w1 ⟨rfl, hq⟩
    have HS1 := Vl.hid (HS0.out.step (Ky.bone hq))
    clear hq HS0 p0 p1 p2 p3
    go_wp2_with fail
    refine (wakes_any _ HS1.out.m).mono ?_
    rintro e w' ⟨rfl, hb⟩
    go_wp2_with fail
    go_ret
    exact ⟨rfl, Vl.btr HS1.out.l hb⟩

set_option maxRecDepth 100000 in
set_option maxHeartbeats 4000000 in
theorem keyBack_good (v : Vl.V) (n : Nat) (k : ByteArray) (w : World) (hM : Ky.Mx w) (hv : Ky.GoodV v) (hn : n < 65536) (h : decide ((2000 : Int) < (v.s.size : Int)) = false) (hk : k.size ≤ 4000) :
    Calls Tryd.prog 7 #[.agg #[.int .i64 v.k, .int .i64 v.n, .float .f64 v.f, .string v.s], .int .u16 (n : Int), .string k] w fun e w' => e = .returned (.bool true) ∧ Below w.heap.size w w' := by
  have h2 : decide ((4000 : Int) < (k.size : Int)) = false := decide_eq_false (by omega)
  have HS0 := Vl.hid (Ky.St1.start w v hM)
  have HV := Vl.hid hv
  have HE := Vl.hid (Ky.entE_good hv hn)
  have HL := Vl.hid (Ky.entB_good hv hn)
  have hwn : IntKind.i64.wrap (n : Int) = (n : Int) := by rw [IntKind.wrap_i64]; omega
  clear hM hv
  obtain ⟨p0, p1, p2, p3⟩ := HS0.out.a.four
  go_enter Tryd.func7, Tryd.ntmps7
  go_wp2_with fail
  refine (largeValue_any v _).mono ?_
  rintro e w1 ⟨rfl, hq⟩
  have HS1 := Vl.hid (HS0.out.step (Ky.bone hq))
  clear hq HS0 p0 p1 p2 p3
  obtain ⟨p0, p1, p2, p3⟩ := HS1.out.a.four
  go_wp2_with fail
  refine (entry_any v (n : Int) _ HS1.out.m HV.out.inn).mono ?_
  rintro e w2 ⟨rfl, hb⟩
  rw [HE.out]
  have HS2 := Vl.hid (HS1.out.step hb)
  clear hb HS1 p0 p1 p2 p3
  obtain ⟨p0, p1, p2, p3⟩ := HS2.out.a.four
  have HT : Hid ((Ky.entB v (n : Int)).size ≤ 50000) := Vl.hid (Ky.entB_size HV.out hn)
  go_wp2_with fail
  refine (split_any _ _ HS2.out.m HT.out).mono ?_
  rintro e w3 ⟨o, rfl, ho, hb⟩
  obtain rfl : o = some (v, n) := Ky.EntIs.one ho (by rw [HL.out]; exact ⟨HV.out, hn, rfl⟩)
  have HS3 := Vl.hid (HS2.out.step hb)
  clear hb ho HS2 p0 p1 p2 p3
  obtain ⟨p0, p1, p2, p3⟩ := HS3.out.a.four
  have z3 := HS3.out.a.lt
  unfold Ky.splT
  go_wp2_with fail
  refine (keepValue_same v _).mono ?_
  rintro e w4 ⟨rfl, hb⟩
  have HS4 := Vl.hid ((HS3.out.al _).step hb)
  clear hb HS3 p0 p1 p2 p3 z3
  obtain ⟨p0, p1, p2, p3⟩ := HS4.out.a.four
  go_wp2_with fail
  refine (value_any k _ HS4.out.m (by omega)).mono ?_
  rintro e w5 ⟨o, rfl, ho, hb⟩
  have HS5 := Vl.hid (HS4.out.step hb)
  clear hb HS4 p0 p1 p2 p3
  obtain ⟨p0, p1, p2, p3⟩ := HS5.out.a.four
  cases o with
  | none =>
    unfold Ky.valT
    go_wp2_with fail
    refine (wakes_any _ (HS5.out.al _).m).mono ?_
    rintro e w' ⟨rfl, hb⟩
    go_wp2_with fail
    go_ret
    exact ⟨rfl, Vl.btr (HS5.out.al _).l hb⟩
  | some u =>
    have HU := Vl.hid ho
    clear ho
    have hc : Vl.cmpS (Ky.keyB u) k = 0 := (Vl.cmpS_eq _ _).2 (Ky.ext_list (by rw [Ky.keyB_list]; exact HU.out.2))
    unfold Ky.valT
    go_wp2_with fail
    refine (of_yes u _ (HS5.out.al _).m HU.out.1).mono ?_
    rintro e w6 ⟨rfl, hb⟩
    have HS6 := Vl.hid ((HS5.out.al _).step hb)
    clear hb HS5 p0 p1 p2 p3
    go_wp2_with fail
    refine (wakes_any _ HS6.out.m).mono ?_
    rintro e w' ⟨rfl, hb⟩
    go_wp2_with fail
    go_ret
    exact ⟨rfl, Vl.btr HS6.out.l hb⟩

set_option maxRecDepth 100000 in
set_option maxHeartbeats 4000000 in
theorem keyBack_no (v : Vl.V) (n : Nat) (k : ByteArray) (w : World) (hM : Ky.Mx w) (hv : Ky.In v) (hg : Vl.goodB v.k v.n v.f v.s = false) (hn : n < 65536) (h : decide ((2000 : Int) < (v.s.size : Int)) = false) (hk : k.size ≤ 4000) :
    Calls Tryd.prog 7 #[.agg #[.int .i64 v.k, .int .i64 v.n, .float .f64 v.f, .string v.s], .int .u16 (n : Int), .string k] w fun e w' => e = .returned (.bool true) ∧ Below w.heap.size w w' := by
  have h2 : decide ((4000 : Int) < (k.size : Int)) = false := decide_eq_false (by omega)
  have HS0 := Vl.hid (Ky.St1.start w v hM)
  have HV := Vl.hid hv
  have HE : Hid (Ky.entE v (n : Int) = 11) := Vl.hid (by unfold Ky.entE; rw [hg]; rfl)
  have hwn : IntKind.i64.wrap (n : Int) = (n : Int) := by rw [IntKind.wrap_i64]; omega
  clear hM hv hg
  obtain ⟨p0, p1, p2, p3⟩ := HS0.out.a.four
  go_enter Tryd.func7, Tryd.ntmps7
  go_wp2_with fail
  refine (largeValue_any v _).mono ?_
  rintro e w1 ⟨rfl, hq⟩
  have HS1 := Vl.hid (HS0.out.step (Ky.bone hq))
  clear hq HS0 p0 p1 p2 p3
  obtain ⟨p0, p1, p2, p3⟩ := HS1.out.a.four
  go_wp2_with fail
  refine (entry_any v (n : Int) _ HS1.out.m HV.out).mono ?_
  rintro e w2 ⟨rfl, hb⟩
  rw [HE.out]
  have HS2 := Vl.hid (HS1.out.step hb)
  clear hb HS1 p0 p1 p2 p3
  obtain ⟨p0, p1, p2, p3⟩ := HS2.out.a.four
  go_wp2_with fail
  refine (value_any k _ HS2.out.m (by omega)).mono ?_
  rintro e w5 ⟨o, rfl, ho, hb⟩
  have HS5 := Vl.hid (HS2.out.step hb)
  clear hb HS2 p0 p1 p2 p3
  obtain ⟨p0, p1, p2, p3⟩ := HS5.out.a.four
  cases o with
  | none =>
    unfold Ky.valT
    go_wp2_with fail
    refine (wakes_any _ (HS5.out.al _).m).mono ?_
    rintro e w' ⟨rfl, hb⟩
    go_wp2_with fail
    go_ret
    exact ⟨rfl, Vl.btr (HS5.out.al _).l hb⟩
  | some u =>
    have HU := Vl.hid ho
    clear ho
    have hc : Vl.cmpS (Ky.keyB u) k = 0 := (Vl.cmpS_eq _ _).2 (Ky.ext_list (by rw [Ky.keyB_list]; exact HU.out.2))
    unfold Ky.valT
    go_wp2_with fail
    refine (of_yes u _ (HS5.out.al _).m HU.out.1).mono ?_
    rintro e w6 ⟨rfl, hb⟩
    have HS6 := Vl.hid ((HS5.out.al _).step hb)
    clear hb HS5 p0 p1 p2 p3
    go_wp2_with fail
    refine (wakes_any _ HS6.out.m).mono ?_
    rintro e w' ⟨rfl, hb⟩
    go_wp2_with fail
    go_ret
    exact ⟨rfl, Vl.btr HS6.out.l hb⟩

theorem keyBack_any (v : Vl.V) (n : Nat) (k : ByteArray) (w : World) (hM : Ky.Mx w) (hv : Ky.In v) (hn : n < 65536) (_hk : k.size ≤ maxLen) :
    Calls Tryd.prog 7 #[.agg #[.int .i64 v.k, .int .i64 v.n, .float .f64 v.f, .string v.s], .int .u16 (n : Int), .string k] w fun e w' => e = .returned (.bool true) ∧ Below w.heap.size w w' := by
  by_cases h : 2000 < v.s.size
  · exact keyBack_large v n k w hM (.inl (decide_eq_true (by omega)))
  have hd : decide ((2000 : Int) < (v.s.size : Int)) = false := decide_eq_false (by omega)
  by_cases hk : 4000 < k.size
  · exact keyBack_large v n k w hM (.inr ⟨hd, decide_eq_true (by omega)⟩)
  cases hg : Vl.goodB v.k v.n v.f v.s
  · exact keyBack_no v n k w hM hv hg hn hd (by omega)
  · exact keyBack_good v n k w hM (hv.good hg) hn hd (by omega)

end Go.Proofs.YtlafccdaplgfoaaDoor
