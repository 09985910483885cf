/- leave walked, of who does not wait. -/
import Derived.Test.YthaenobciefjiaaDoorA17
namespace Go.Proofs.YthaenobciefjiaaDoor
open Go.RowKit Go.Maps Go.ChangeMaps Go.MapKept Go.Sort Go.Shelf

namespace Lk
variable {w : World} {tag : Nat → Option Lb} {p N : Nat} {s : St} {bs bw bq : Nat} {bi : Int → Nat} {sl : Bytes → Value}
/-- A holder gone. -/
def leaveS (s : St) (x : Int) : St := { set := fun y k => if y = x then 0 else s.set y k, hol := fun y => if y = x then false else s.hol y, want := fun y => if y = x then none else s.want y, q := fun k => if (s.want x).map (·.1) = some k then (s.q k).erase x else s.q k }
theorem leaveS_none {x : Int} (h : s.want x = none) : leaveS s x = { s with hol := fun y => if y = x then false else s.hol y, set := fun y k => if y = x then 0 else s.set y k } := by
  unfold leaveS
  have e1 : (fun y => if y = x then none else s.want y) = s.want := by
    funext y
    by_cases e : y = x
    · rw [if_pos e, e, h]
    · rw [if_neg e]
  have e2 : (fun k => if (s.want x).map (·.1) = some k then (s.q k).erase x else s.q k) = s.q := by
    funext k
    rw [h]; simp
  rw [e1, e2]
/-- What leave comes to. -/
def LeaveE (w w' : World) (tag : Nat → Option Lb) (p N : Nat) (s : St) (bs bw bq : Nat) (x : Int) (v : Value) (L : List Bytes) : Prop :=
  ∃ tag' bi' sl', Tb w' tag' p (N + 1) (leaveS s x) bs bw bq bi' sl' ∧ Ev tag tag' w w' ∧ w'.ownsRow w.heap.size 9 1 v L.length (L.map encStr) ∧ (∀ g, v.ownBlock = some g → tag' g = none) ∧ Rs.Up (· ≤ ·) L ∧ (∀ n, n ∈ L ↔ n.length ≤ maxLen ∧ (s.set x n ≠ 0 ∨ (s.want x).map (·.1) = some n)) ∧ L.length ≤ N + 1
theorem Tb.lookO0 (h : Tb w tag p N s bs bw bq bi sl) {x : Int} (hx : wfI x) (hw : s.want x = none) : (Instr.lookup 58 (.map (some bw)) (.int .i64 x) true).run Tryd.prog w = .ok (.tuple #[.agg #[.string ⟨#[]⟩, .int .i64 0], .bool false]) w := by
  rw [h.lookW hx, hw]; rfl
end Lk

set_option maxRecDepth 100000 in
set_option maxHeartbeats 2000000 in
theorem leave_none (w : World) (tag : Nat → Option Lk.Lb) (p N : Nat) (s : Lk.St) (bs bw bq : Nat) (bi : Int → Nat) (sl : Lk.Bytes → Value) (x : Int) (hT : Hid (Lk.Tb w tag p N s bs bw bq bi sl)) (hx : Lk.wfI x) (hw : Hid (s.want x = none)) (hN : Hid (N < 90000)) :
    Calls Tryd.prog 36 #[.pointer (some ⟨p, 0, none⟩), .int .i64 x] w fun e w' => ∃ v L, e = .returned v ∧ Lk.LeaveE w w' tag p N s bs bw bq x v L := by
  have c0 := hT.out.c0
  have hS := hT.out.lookS hx
  cases hh : s.hol x
  · rw [hh] at hS
    simp only [Bool.false_eq_true, if_false] at hS
    have HH := Mp.hid hh
    clear hh
    go_enter Tryd.func36, Tryd.ntmps36
    go_wp2_with fail
    refine (Lk.keysI_any _ _).mono ?_
    rintro e w0 ⟨rfl, rfl⟩
    go_wp2_with fail
    refine (collN_any w).mono ?_
    rintro e w1 ⟨rfl, hb⟩
    have HT1 := Mp.hid (hT.out.below hb)
    have HB1 := Mp.hid hb
    clear hb c0 hS
    have c0 := HT1.out.c0
    go_wp2_with (first | (at_delete; refine Mp.wpList_drop _ rfl _ _ 57 3 rfl 75 Lk.iK_inj Lk.keyI Tryd.underlying57 bs N _ rfl HT1.out.sets (.int .i64 x) x rfl (Lk.key_i hx) ?_; intro W2 hF2 hM2; have HT2 := Mp.hid (HT1.out.dropHol hM2 hF2); have HE2 := Mp.hid ((Lk.Ev.below HB1.out).trans (Lk.Ev.turned hM2 HT1.out.ts)); have c1 := HT2.out.c1; have hO := HT2.out.lookO0 hx hw.out))
    have HT3 := Mp.hid (HT2.out.alloc (.cells #[.string ⟨#[]⟩, .int .i64 0] 64))
    have HE3 := Mp.hid (HE2.out.trans (Lk.Ev.below ((Below.refl _ W2).alloc (Nat.le_refl _) (.cells #[.string ⟨#[]⟩, .int .i64 0] 64))))
    clear hF2 hM2 c1 hO c0 HT2 HE2
    generalize W2.alloc (.cells #[.string ⟨#[]⟩, .int .i64 0] 64) = W3 at HT3 HE3 ⊢
    refine (risingS_any W3 w.heap.size (.slice none 0 0) [] (Mp.hid ⟨rfl, Or.inl ⟨rfl, rfl⟩⟩) (Mp.hid (by simp))).mono ?_
    rintro e w4 ⟨v', rfl, hrow, hbl, hgr, hnil⟩
    have H4 := Mp.hid (And.intro hrow (And.intro hbl hgr))
    clear hrow hbl hgr hnil
    go_wp2
    go_ret
    refine ⟨v', Rs.texts [], rfl, tag, bi, sl, ?_, HE3.out.grow H4.out.2.2 (fun k e => nomatch e), H4.out.1, (fun g hg => by rw [H4.out.2.1] at hg; cases hg), (Rs.texts_spec []).1, fun n => ?_, ?_⟩
    · rw [Lk.leaveS_none hw.out]
      exact (HT3.out.kept H4.out.2.2.size (fun b hb _ => H4.out.2.2.block b hb (fun e => nomatch e))).mono (by omega)
    · rw [Rs.texts_nil, hw.out, hT.out.nh x n HH.out]; simp
    · rw [Rs.texts_nil]; simp
  · rw [hh] at hS
    simp only [if_true] at hS
    go_enter Tryd.func36, Tryd.ntmps36
    go_wp2_with fail
    refine (Lk.keysI_any _ _).mono ?_
    rintro e w0 ⟨rfl, rfl⟩
    go_wp2_with fail
    refine (collI_any w tag p N s bs bw bq bi sl x hT hh (Mp.hid (by have := hN.out; omega))).mono ?_
    rintro e w1 ⟨v, ss, rfl, hrow, hmem, hlen, hb⟩
    have HT1 := Mp.hid (hT.out.below hb)
    have HB1 := Mp.hid hb
    have HMEM := Mp.hid hmem
    have HROW := Mp.hid hrow
    have HLEN := Mp.hid hlen
    clear hb c0 hS hmem hrow hlen hh
    have c0 := HT1.out.c0
    have HFR : Hid (∀ g, v.ownBlock = some g → tag g = none) := Mp.hid (fun g hg => hT.out.top g (Lk.row_lo HROW.out hg))
    go_wp2_with (first | (at_delete; refine Mp.wpList_drop _ rfl _ _ 57 3 rfl 75 Lk.iK_inj Lk.keyI Tryd.underlying57 bs N _ rfl HT1.out.sets (.int .i64 x) x rfl (Lk.key_i hx) ?_; intro W2 hF2 hM2; have HT2 := Mp.hid (HT1.out.dropHol hM2 hF2); have HE12 := Mp.hid (Lk.Ev.turned hM2 HT1.out.ts); have c1 := HT2.out.c1; have hO := HT2.out.lookO0 hx hw.out))
    have HT3 := Mp.hid (HT2.out.alloc (.cells #[.string ⟨#[]⟩, .int .i64 0] 64))
    have HE13 := Mp.hid (HE12.out.trans (Lk.Ev.below ((Below.refl _ W2).alloc (Nat.le_refl _) (.cells #[.string ⟨#[]⟩, .int .i64 0] 64))))
    clear hF2 hM2 c1 hO c0 HT2 HE12
    generalize W2.alloc (.cells #[.string ⟨#[]⟩, .int .i64 0] 64) = W3 at HT3 HE13 ⊢
    have HROW3 := Mp.hid (Lk.row_keep HROW.out (fun g hg hlt => HE13.out.block g hlt (HFR.out g hg)))
    refine (risingS_any W3 w.heap.size v ss HROW3 (Mp.hid (by have := HLEN.out; have := hN.out; omega))).mono ?_
    rintro e w4 ⟨v', rfl, hrow, hbl, hgr, hnil⟩
    have H4 := Mp.hid (And.intro hrow (And.intro hbl hgr))
    clear hrow hbl hgr hnil
    go_wp2
    go_ret
    refine ⟨v', Rs.texts ss, rfl, tag, bi, sl, ?_, ((Lk.Ev.below HB1.out).trans HE13.out).grow H4.out.2.2 (fun k e => Lk.row_lo HROW.out e), H4.out.1, (fun g hg => HFR.out g (by rw [← H4.out.2.1]; exact hg)), (Rs.texts_spec ss).1, fun n => ?_, ?_⟩
    · rw [Lk.leaveS_none hw.out]
      exact (HT3.out.kept H4.out.2.2.size (fun b hb hne => H4.out.2.2.block b hb (fun e => hne (HFR.out b e.symm)))).mono (by omega)
    · rw [(Rs.texts_spec ss).2, HMEM.out, hw.out]; simp
    · have := Rs.texts_len ss
      have := HLEN.out
      omega

end Go.Proofs.YthaenobciefjiaaDoor
