/- wakes. -/
import Derived.Test.YtjnaafgiokdcbaaGreatDoorHG
import Derived.Test.YtjnaafgiokdcbaaGreatDoorHL
import Derived.Deep.RegionHeld3
namespace Go.Proofs.YtjnaafgiokdcbaaGreatDoor
open Go.RowKit
attribute [local go_sem] Fl.run_store_float
namespace Ky
open Vl
theorem wk_g : GoodV ⟨2, 1, 0, ⟨#[]⟩⟩ := good_2 (by omega) (by omega)
theorem wk_h : GoodV ⟨4, 0, 0, ⟨#[97]⟩⟩ := good_4 (by decide)
theorem wk_1 : keyB ⟨2, 1, 0, ⟨#[]⟩⟩ = ⟨#[2, 128, 0, 0, 0, 0, 0, 0, 1]⟩ := by decide +kernel
theorem wk_2 : entB ⟨4, 0, 0, ⟨#[97]⟩⟩ 258 = ⟨#[4, 97, 0, 1, 1, 2]⟩ := by decide +kernel
theorem wk_3 : entE ⟨4, 0, 0, ⟨#[97]⟩⟩ 258 = 0 := by decide +kernel
theorem wk_4 : EntIs (⟨#[4, 97, 0, 1, 1, 2]⟩ : ByteArray).data.toList (some (⟨4, 0, 0, ⟨#[97]⟩⟩, 258)) := ⟨wk_h, by decide, by decide +kernel⟩
end Ky

end Go.Proofs.YtjnaafgiokdcbaaGreatDoor

/- What the walks of the laws share. -/
namespace Go.Proofs.YtjnaafgiokdcbaaGreatDoor
open Go.RowKit
namespace Ky
open Vl
theorem btwo {w w' : World} {o p : Obj} (h : w' = (w.alloc o).alloc p) : Below w.heap.size w w' := by rw [h]; exact Vl.bal (Vl.bal (Below.refl _ _) _) _
theorem bone {w w' : World} {o : Obj} (h : w' = w.alloc o) : Below w.heap.size w w' := by rw [h]; exact Vl.bal (Below.refl _ _) _
theorem Cell4.four {w : World} {b : Nat} {v : V} (h : Cell4 w b v) : w.cell? ⟨b, 0, none⟩ = some (.int .i64 v.k) ∧ w.cell? ⟨b, 1, none⟩ = some (.int .i64 v.n) ∧ w.cell? ⟨b, 2, none⟩ = some (.float .f64 v.f) ∧ w.cell? ⟨b, 3, none⟩ = some (.string v.s) := ⟨h.c0, h.c1, h.c2, h.c3⟩
/-- Two boxes lie where they were laid. -/
structure St2 (w0 : World) (a b : V) (p q : Nat) (w : World) : Prop where
  a : Cell4 w p a
  b : Cell4 w q b
  m : Mx w
  l : Below w0.heap.size w0 w
theorem St2.step {w0 w w1 : World} {a b : V} {p q : Nat} (h : St2 w0 a b p q w) (hb : Below w.heap.size w w1) : St2 w0 a b p q w1 :=
  ⟨h.a.below hb, h.b.below hb, h.m.below hb, Vl.btr h.l hb⟩
theorem St2.drew {w0 w : World} {a b : V} {p q : Nat} (h : St2 w0 a b p q w) : St2 w0 a b p q w.drew := ⟨h.a.drew, h.b.drew, h.m, Below.drew h.l⟩
theorem St2.start (w0 : World) (a b : V) (hM : Mx w0) : St2 w0 a b w0.heap.size (w0.heap.size + 1) ((w0.alloc (.cells #[.int .i64 a.k, .int .i64 a.n, .float .f64 a.f, .string a.s] 34)).alloc (.cells #[.int .i64 b.k, .int .i64 b.n, .float .f64 b.f, .string b.s] 34)) :=
  ⟨(Cell4.made w0 a _).al _, Cell4.made' b _ (by simp), (hM.below (Vl.bal (Below.refl _ _) _)).below (Vl.bal (Below.refl _ _) _), Vl.bal (Vl.bal (Below.refl _ _) _) _⟩

/-- One place in the order of keys. -/
theorem cmpS_key {a b : V} (ha : GoodV a) (hb : GoodV b) : cmpS (keyB a) (keyB b) = cmpV a b := by
  have h := key_cmp ha hb [] []
  rw [List.append_nil, List.append_nil] at h
  unfold cmpS
  rw [keyB_list, keyB_list, h]
  by_cases hc : cmpV a b = 0
  · rw [if_pos hc, hc]; rfl
  · rw [if_neg hc]
theorem entB_good {a : V} (ha : GoodV a) {m : Nat} (hm : m < 65536) : (entB a (m : Int)).data.toList = keyL a ++ beL m 2 := by
  unfold entB
  rw [if_pos ha.g, if_neg (by omega), append_list, Int.toNat_natCast]
  rfl
theorem entE_good {a : V} (ha : GoodV a) {m : Nat} (hm : m < 65536) : entE a (m : Int) = 0 := by
  unfold entE
  rw [if_pos ha.g, if_neg (by omega)]
theorem cmpS_ent {a b : V} (ha : GoodV a) (hb : GoodV b) {m n : Nat} (hm : m < 65536) (hn : n < 65536) : cmpS (entB a (m : Int)) (entB b (n : Int)) = if cmpV a b = 0 then cmpZ (m : Int) (n : Int) else cmpV a b := by
  unfold cmpS
  rw [entB_good ha hm, entB_good hb hn, key_cmp ha hb, cmp_be 2 m n hm hn]
theorem cmpV_bd {a b : V} (ha : GoodV a) (hb : GoodV b) : cmpV a b = -1 ∨ cmpV a b = 0 ∨ cmpV a b = 1 := by
  rw [← cmpS_key ha hb]; exact cmpS_bd _ _
theorem ofB_good {a : V} (ha : GoodV a) : ofB a = keyB a := by unfold ofB; rw [if_pos ha.g]
theorem ofE_good {a : V} (ha : GoodV a) : ofE a = 0 := by unfold ofE; rw [if_pos ha.g]
theorem aft_good {a : V} (ha : GoodV a) : (aftB a).data.toList = keyL a ++ [255, 255, 0] := by
  have e : (65535 : Int) = ((65535 : Nat) : Int) := rfl
  unfold aftB
  rw [if_pos ha.g, append_list, e, entB_good ha (by omega), List.append_assoc]
  rfl
end Ky

end Go.Proofs.YtjnaafgiokdcbaaGreatDoor

/- KeyBack: the walk. -/
namespace Go.Proofs.YtjnaafgiokdcbaaGreatDoor
open Go.RowKit
attribute [local go_sem] Fl.run_store_float Vl.str_lss Vl.str_eql
attribute [local go_sem ↓] Go.wp_at_zero Go.wp_at_succ

namespace Ky
open Vl
/-- One box lies where it was laid. -/
structure St1 (w0 : World) (a : V) (p : Nat) (w : World) : Prop where
  a : Cell4 w p a
  m : Mx w
  l : Below w0.heap.size w0 w
theorem St1.step {w0 w w1 : World} {a : V} {p : Nat} (h : St1 w0 a p w) (hb : Below w.heap.size w w1) : St1 w0 a p w1 := ⟨h.a.below hb, h.m.below hb, Vl.btr h.l hb⟩
theorem St1.drew {w0 w : World} {a : V} {p : Nat} (h : St1 w0 a p w) : St1 w0 a p w.drew := ⟨h.a.drew, h.m, Below.drew h.l⟩
theorem St1.al {w0 w : World} {a : V} {p : Nat} (h : St1 w0 a p w) (o : Obj) : St1 w0 a p (w.alloc o) := h.step (Vl.bal (Below.refl _ _) _)
theorem St1.start (w0 : World) (a : V) (hM : Mx w0) : St1 w0 a w0.heap.size (w0.alloc (.cells #[.int .i64 a.k, .int .i64 a.n, .float .f64 a.f, .string a.s] 34)) :=
  ⟨Cell4.made w0 a _, hM.below (Vl.bal (Below.refl _ _) _), Vl.bal (Below.refl _ _) _⟩
theorem entB_size {v : V} (hv : GoodV v) {n : Nat} (hn : n < 65536) : (entB v (n : Int)).size ≤ 50000 := by
  have h := keyB_size hv
  rw [size_list, keyB_list] at h
  rw [size_list, entB_good hv hn, List.length_append, beL_length]
  omega
end Ky

end Go.Proofs.YtjnaafgiokdcbaaGreatDoor
