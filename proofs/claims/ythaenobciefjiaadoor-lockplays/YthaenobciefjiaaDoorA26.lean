/- leave walked, of who waits. -/
import Derived.Test.YthaenobciefjiaaDoorA25
namespace Go.Proofs.YthaenobciefjiaaDoor
open Go.RowKit Go.Maps Go.ChangeMaps Go.MapKept Go.Sort Go.Shelf

namespace Lk
variable {w : World} {tag : Nat → Option Lb} {p N : Nat} {s : St} {bs bw bq : Nat} {bi : Int → Nat} {sl : Bytes → Value}
theorem Tb.lookO1 (h : Tb w tag p N s bs bw bq bi sl) {x : Int} (hx : wfI x) {nm : Bytes} {m : Int} (hw : s.want x = some (nm, m)) : (Instr.lookup 58 (.map (some bw)) (.int .i64 x) true).run Tryd.prog w = .ok (.tuple #[.agg #[str nm, .int .i64 m], .bool true]) w := by
  rw [h.lookW hx, hw]; rfl
/-- The block of what a holder has. -/
def mbO (s : St) (bi : Int → Nat) (x : Int) : Option Nat := if s.hol x then some (bi x) else none
theorem Tb.lookM (h : Tb w tag p N s bs bw bq bi sl) {x : Int} (hx : wfI x) : (Instr.lookup 57 (.map (some bs)) (.int .i64 x) false).run Tryd.prog w = .ok (.map (mbO s bi x)) w := by
  rw [h.lookS hx]; unfold mbO; cases s.hol x <;> rfl
def s1 (s : St) (x : Int) : St := { s with hol := fun y => if y = x then false else s.hol y, set := fun y k => if y = x then 0 else s.set y k }
theorem leave_eq {x : Int} {nm : Bytes} {m : Int} (hw : s.want x = some (nm, m)) : ({ eraseS (s1 s x) nm x with want := fun y => if y = x then none else (eraseS (s1 s x) nm x).want y } : St) = leaveS s x := by
  unfold leaveS eraseS s1
  have e : (fun k => if k = nm then (s.q nm).erase x else s.q k) = (fun k => if (s.want x).map (·.1) = some k then (s.q k).erase x else s.q k) := by
    funext k
    rw [hw]
    by_cases e : k = nm
    · subst e; simp
    · have : ¬ nm = k := fun h => e h.symm
      simp [e, this]
  rw [← e]
end Lk

set_option maxHeartbeats 1000000 in
theorem collA_any (w : World) (tag : Nat → Option Lk.Lb) (p N : Nat) (s : Lk.St) (bs bw bq : Nat) (bi : Int → Nat) (sl : Lk.Bytes → Value) (x : Int) (hT : Hid (Lk.Tb w tag p N s bs bw bq bi sl)) (hN : Hid (N < 100000)) :
    Calls Tryd.prog 40 #[.func (.func 55) #[] #[.pointer (some ⟨w.heap.size, 0, none⟩)]] (w.alloc (.cells #[.map (Lk.mbO s bi x)] 75)) fun e w' => ∃ (v : Value) (ss : List Lk.Bytes), e = .returned v ∧ w'.ownsRow w.heap.size 9 1 v ss.length (ss.map encStr) ∧ (∀ n, n ∈ ss ↔ (n.length ≤ maxLen ∧ s.set x n ≠ 0)) ∧ ss.length ≤ N ∧ Below w.heap.size w w' := by
  unfold Lk.mbO
  cases hh : s.hol x
  · refine (collN_any w).mono ?_
    rintro e w' ⟨rfl, hb⟩
    exact ⟨_, [], rfl, ⟨rfl, Or.inl ⟨rfl, rfl⟩⟩, fun n => by rw [hT.out.nh x n hh]; simp, Nat.zero_le _, hb⟩
  · exact collI_any w tag p N s bs bw bq bi sl x hT hh hN

set_option maxRecDepth 100000 in
set_option maxHeartbeats 2000000 in
theorem leave_some (w : World) (tag : Nat → Option Lk.Lb) (p N : Nat) (s : Lk.St) (bs bw bq : Nat) (bi : Int → Nat) (sl : Lk.Bytes → Value) (x : Int) (nm : Lk.Bytes) (m : Int) (hT : Hid (Lk.Tb w tag p N s bs bw bq bi sl)) (hx : Lk.wfI x) (hw : Hid (s.want x = some (nm, m))) (hl : nm.length ≤ maxLen) (hxq : Hid (x ∈ s.q nm)) (hN : Hid (N < 90000)) :
    Calls Tryd.prog 36 #[.pointer (some ⟨p, 0, none⟩), .int .i64 x] w fun e w' => ∃ v L, e = .returned v ∧ Lk.LeaveE w w' tag p N s bs bw bq x v L := by
  obtain ⟨i0, hi, hz0, hz1, hz2⟩ : ∃ i, Tryd.prog.info? 9 = some i ∧ i.zero = some (.string ⟨#[]⟩) ∧ i.size = 1 ∧ i.bytes = 16 := ⟨_, Tryd.type9, rfl, rfl, rfl⟩
  have c0 := hT.out.c0
  have hS := hT.out.lookM hx
  go_enter Tryd.func36, Tryd.ntmps36
  go_wp2_with fail
  refine (Lk.keysI_any _ _).mono ?_
  rintro e w0 ⟨rfl, rfl⟩
  go_wp2_with fail
  refine (collA_any w tag p N s bs bw bq bi sl x hT (Mp.hid (by have := hN.out; omega))).mono ?_
  rintro e w1 ⟨v, ss, rfl, hrow, hmem, hlen, hb⟩
  have HT1 := Mp.hid (hT.out.below hb)
  have HB1 := Mp.hid hb
  have HMEM := Mp.hid hmem
  have HROW := Mp.hid hrow
  have HLEN := Mp.hid hlen
  clear hb c0 hS hmem hrow hlen
  have c0 := HT1.out.c0
  have HFR : Hid (∀ g, v.ownBlock = some g → tag g = none) := Mp.hid (fun g hg => hT.out.top g (Lk.row_lo HROW.out hg))
  go_wp2_with (first
    | (at_delete; refine Mp.wpList_drop _ rfl _ _ 57 3 rfl 75 Lk.iK_inj Lk.keyI Tryd.underlying57 bs N _ rfl HT1.out.sets (.int .i64 x) x rfl (Lk.key_i hx) ?_; intro W2 hF2 hM2
       have HT2 : Hid (Lk.Tb W2 tag p N (Lk.s1 s x) bs bw bq bi sl) := Mp.hid (HT1.out.dropHol hM2 hF2)
       have HE12 := Mp.hid (Lk.Ev.turned hM2 HT1.out.ts)
       have HSZ : Hid (W2.heap.size = w1.heap.size) := Mp.hid (Mp.turned_block hM2).1
       have c1 := HT2.out.c1
       have hO := HT2.out.lookO1 hx hw.out
       have b0 := (Lk.box_new W2 (Lk.str nm) (.int .i64 m) 64).1
       have HROW2 := Mp.hid (Lk.row_keep HROW.out (fun g hg hlt => HE12.out.block g hlt (HFR.out g hg)))
       have HCN : Hid (∀ j u, ([Lk.str nm] : List Value)[j]? = some u → ((W2.alloc (.cells #[Lk.str nm, .int .i64 m] 64)).alloc (.cells #[Lk.str nm] 9)).cell? ((⟨W2.heap.size + 1, 0, none⟩ : Addr).add j) = some u) := Mp.hid (by
         have h1 := cell_one_new (W2.alloc (.cells #[Lk.str nm, .int .i64 m] 64)) (Lk.str nm) 9
         rw [World.size_alloc] at h1
         exact h1)
       have HLW : Hid (w.heap.size ≤ W2.heap.size ∧ ss.length ≤ 90000) := Mp.hid ⟨by rw [HSZ.out]; exact HB1.out.size, by have := HLEN.out; have := hN.out; omega⟩)
    | (at_builtin; refine wpList_append_own_at _ rfl _ _ 46 rfl w.heap.size 9 i0 (.string ⟨#[]⟩) 1 16 Tryd.underlying46 hi hz0 hz1 hz2 rfl (by decide) _ _ _ rfl ((HROW2.out.alloc _).alloc _) ⟨W2.heap.size + 1, 0, none⟩ 1 1 [Lk.str nm] rfl rfl HCN.out (by simp [Value.oneCell']) (by have := HLW.out; unfold maxLen; omega) (by have := HLW.out; omega) (by have := HLW.out; simp; omega) ?_; intro v' w4 hown' hgrow hnil hloc
       have HR4 : Hid (w4.ownsRow w.heap.size 9 1 v' (ss ++ [nm]).length ((ss ++ [nm]).map encStr)) := Mp.hid (by simpa [encStr] using hown')
       have hgr4 : (W2.alloc (.cells #[Lk.str nm, .int .i64 m] 64)).grownBy w4 v.ownBlock := Lk.alloc_then hgrow
       have hb4 : w4.heap[W2.heap.size]? = some (.cells #[Lk.str nm, .int .i64 m] 64 (0, 0)) := (hgr4.block _ (by simp) (fun e => by have := Lk.row_lt HROW2.out e.symm; omega)).trans (MapKept.heap_alloc W2 _).1
       have b0' := Lk.Box.b0 hb4
       have HG4 := Mp.hid hgr4
       have HL4 : Hid (∀ g, v'.ownBlock = some g → v.ownBlock = some g ∨ w1.heap.size ≤ g) := Mp.hid (fun g hg => by
         rcases hloc with e | e
         · have e' : v'.ownBlock = v.ownBlock := e
           exact Or.inl (e'.symm.trans hg)
         · rw [e] at hg; injection hg with hg; simp at hg; have := HSZ.out; exact Or.inr (by omega))
       clear hown' hgrow hnil hloc hgr4 hb4))
  have HFR4 : Hid (∀ g, v'.ownBlock = some g → tag g = none) := Mp.hid (fun g hg => by
    rcases HL4.out g hg with e | e
    · exact HFR.out g e
    · exact HT1.out.top g e)
  have HT4 : Hid (Lk.Tb w4 tag p N (Lk.s1 s x) bs bw bq bi sl) := Mp.hid ((HT2.out.alloc _).kept HG4.out.size (fun b hb1 hb2 => HG4.out.block b hb1 (fun e => hb2 (HFR.out b e.symm))))
  have HE4 : Hid (Lk.Ev tag tag w w4) := Mp.hid ((((Lk.Ev.below HB1.out).trans HE12.out).trans (Lk.Ev.below ((Below.refl _ W2).alloc (Nat.le_refl _) (.cells #[Lk.str nm, .int .i64 m] 64)))).grow HG4.out (fun g hg => Lk.row_lo HROW.out hg))
  clear hF2 hM2 c0 c1 hO b0 b0' HT1 HT2 HROW2 HCN HG4 HROW
  refine (unqueue_any w4 tag p N (Lk.s1 s x) bs bw bq bi sl x nm HT4 hl hxq hN).mono ?_
  rintro e w5 ⟨rfl, ⟨sl5, hT5⟩, hE5⟩
  have HT5 := Mp.hid hT5
  have HE5 := Mp.hid (HE4.out.trans hE5)
  have HR5 := Mp.hid (Lk.row_keep HR4.out (fun g hg hlt => hE5.block g hlt (HFR4.out g hg)))
  clear hT5 hE5 HT4 HE4 HR4
  have c1 := HT5.out.c1
  go_wp2_with (first
    | (at_delete; refine Mp.wpList_drop _ rfl _ _ 58 3 rfl 64 Lk.iK_inj Lk.keyI Tryd.underlying58 bw (N + 1) _ rfl HT5.out.wants (.int .i64 x) x rfl (Lk.key_i hx) ?_; intro w6 hF6 hM6))
  have HT6 := Mp.hid (HT5.out.dropWant hM6 hF6)
  have HE56 := Mp.hid (Lk.Ev.turned hM6 HT5.out.tw)
  have HR6 := Mp.hid (Lk.row_keep HR5.out (fun g hg hlt => HE56.out.block g hlt (HFR4.out g hg)))
  have HE6 := Mp.hid (HE5.out.trans HE56.out)
  clear hF6 hM6 c1 HT5 HE5 HE56
  refine (risingS_any w6 w.heap.size v' (ss ++ [nm]) HR6 (Mp.hid (by have := HLW.out; simp; omega))).mono ?_
  rintro e w7 ⟨v7, rfl, hrow, hbl, hgr, hnil⟩
  have H7 := Mp.hid (And.intro hrow (And.intro hbl hgr))
  clear hrow hbl hgr hnil
  go_wp2
  go_ret
  refine ⟨v7, Rs.texts (ss ++ [nm]), rfl, tag, bi, sl5, ?_, HE6.out.grow H7.out.2.2 (fun k e => Lk.row_lo HR6.out e), H7.out.1, (fun g hg => HFR4.out g (by rw [← H7.out.2.1]; exact hg)), (Rs.texts_spec _).1, fun n => ?_, ?_⟩
  · rw [← Lk.leave_eq hw.out]
    exact HT6.out.kept H7.out.2.2.size (fun b hb hne => H7.out.2.2.block b hb (fun e => hne (HFR4.out b e.symm)))
  · rw [(Rs.texts_spec _).2, List.mem_append, HMEM.out, hw.out, List.mem_singleton]
    simp only [Option.map_some, Option.some.injEq]
    constructor
    · rintro (⟨h1, h2⟩ | rfl)
      · exact ⟨h1, Or.inl h2⟩
      · exact ⟨hl, Or.inr rfl⟩
    · rintro ⟨h1, h2 | h2⟩
      · exact Or.inl ⟨h1, h2⟩
      · exact Or.inr h2.symm
  · have h1 := Rs.texts_len (ss ++ [nm])
    have h2 := HLEN.out
    rw [List.length_append, List.length_singleton] at h1
    omega

end Go.Proofs.YthaenobciefjiaaDoor
