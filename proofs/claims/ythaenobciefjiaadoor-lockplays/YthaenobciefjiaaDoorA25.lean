/- unqueue. -/
import Derived.Test.YthaenobciefjiaaDoorA24
namespace Go.Proofs.YthaenobciefjiaaDoor
open Go.RowKit Go.Maps Go.ChangeMaps Go.MapKept Go.Sort Go.Shelf

namespace Lk
variable {w : World} {tag : Nat → Option Lb} {p N : Nat} {s : St} {bs bw bq : Nat} {bi : Int → Nat} {sl : Bytes → Value}
theorem Tb.dropQueue2 (h : Tb w tag p N s bs bw bq bi sl) {w' : World} {nm : Bytes} (hz : w.heap.size ≤ w'.heap.size) (k0 : ∀ b l, tag b = some l → l ≠ .q → l ≠ .g nm → w'.heap[b]? = w.heap[b]?) (hf : Mp.Fn w' Tryd.prog 9 sK bq (N + 1) (Mp.up (fun k => if s.q k = [] then none else some (sl k)) nm none)) :
    Tb w' tag p (N + 1) { s with q := fun k => if k = nm then [] else s.q k } bs bw bq bi sl := by
  have k : ∀ b l, tag b = some l → l ≠ .q → (∀ n, l ≠ .g n) → w'.heap[b]? = w.heap[b]? := fun b l e hl hg => k0 b l e hl (hg nm)
  refine ⟨(k p _ h.tp (by simp) (by simp)).trans h.cell, h.tp, h.ts, h.tw, h.tq, h.ti, fun b hb => h.top b (by omega), (h.sets.kept (k _ _ h.ts (by simp) (by simp))).mono (Nat.le_succ _), fun y hy => ((h.inner y hy).kept (k _ _ (h.ti y hy) (by simp) (by simp))).mono (Nat.le_succ _), (h.wants.kept (k _ _ h.tw (by simp) (by simp))).mono (Nat.le_succ _), hf.ext (fun n _ => ?_), fun n hn => ?_, h.lo, h.nh, fun n => ?_, h.hw, fun n o ho => ?_⟩
  · by_cases e : n = nm
    · subst e; simp [Mp.up]
    · simp [Mp.up, e]
  · have hn2 : (if n = nm then [] else s.q n) ≠ [] := hn
    by_cases e : n = nm
    · rw [if_pos e] at hn2; exact absurd rfl hn2
    · rw [if_neg e] at hn2
      obtain ⟨r1, r2⟩ := h.rows n hn2
      simp only [e, if_false]
      exact ⟨row_kept r1 (fun g hg => k0 g _ (r2 g hg) (by simp) (fun e2 => e (by injection e2))), r2⟩
  · show (if n = nm then [] else s.q n).length ≤ N + 1
    by_cases e : n = nm
    · rw [if_pos e]; exact Nat.zero_le _
    · rw [if_neg e]; exact Nat.le_succ_of_le (h.qn n)
  · have ho' : o ∈ (if n = nm then [] else s.q n) := ho
    by_cases e : n = nm
    · rw [if_pos e] at ho'; cases ho'
    · rw [if_neg e] at ho'; exact h.qw n o ho'
def eraseS (s : St) (nm : Bytes) (x : Int) : St := { s with q := fun k => if k = nm then (s.q nm).erase x else s.q k }
/-- Where it stands. -/
theorem idx_from {x : Int} : ∀ {l : List Int} (k : Nat), x ∈ l → ∃ i : Nat, Lib.idxFrom l x k = ((k + i : Nat) : Int) ∧ i < l.length ∧ l.take i ++ l.drop (i + 1) = l.erase x
  | [], _, h => nomatch h
  | a :: l, k, h => by
    by_cases e : a = x
    · subst e
      exact ⟨0, by simp [Lib.idxFrom], by simp, by simp⟩
    · obtain ⟨i, h1, h2, h3⟩ := idx_from (l := l) (k + 1) (by
        rcases List.mem_cons.1 h with h | h
        · exact absurd h.symm e
        · exact h)
      refine ⟨i + 1, ?_, by simp; omega, ?_⟩
      · unfold Lib.idxFrom
        rw [if_neg (by simpa using e), h1]
        congr 1; omega
      · rw [List.take_succ_cons, List.drop_succ_cons, List.cons_append, h3, List.erase_cons_tail (by simpa using e)]
theorem idx_of {l : List Int} {x : Int} (h : x ∈ l) : ∃ i : Nat, Lib.idxOf l x = (i : Int) ∧ i < l.length ∧ l.take i ++ l.drop (i + 1) = l.erase x := by
  obtain ⟨i, h1, h2⟩ := idx_from 0 h
  exact ⟨i, by unfold Lib.idxOf; rw [h1, Nat.zero_add], h2⟩
end Lk

set_option maxRecDepth 100000 in
set_option maxHeartbeats 2000000 in
theorem unqueue_any (w : World) (tag : Nat → Option Lk.Lb) (p N : Nat) (s : Lk.St) (bs bw bq : Nat) (bi : Int → Nat) (sl : Lk.Bytes → Value) (x : Int) (nm : Lk.Bytes) (hT : Hid (Lk.Tb w tag p N s bs bw bq bi sl)) (hl : nm.length ≤ maxLen) (hx : Hid (x ∈ s.q nm)) (hN : Hid (N < 90000)) :
    Calls Tryd.prog 49 #[.pointer (some ⟨p, 0, none⟩), .int .i64 x, Lk.str nm] w fun e w' => e = .returned (.tuple #[]) ∧ (∃ sl', Lk.Tb w' tag p (N + 1) (Lk.eraseS s nm x) bs bw bq bi sl') ∧ Lk.Ev tag tag w w' := by
  have c2 := hT.out.c2
  have hQ := hT.out.lookQ hl
  have hq : s.q nm ≠ [] := fun e => by have := hx.out; rw [e] at this; cases this
  rw [if_neg hq] at hQ
  obtain ⟨hrow, htg⟩ := hT.out.rows nm hq
  rcases hrow.2 with ⟨_, h0⟩ | ⟨g, cap, cur, esl, _, hgb, q1, q2, q3, q4⟩
  · exact absurd (List.length_eq_zero_iff.1 h0) hq
  rw [esl] at hQ
  obtain ⟨i, hi1, hi2, hi3⟩ := Lk.idx_of hx.out
  simp only [Nat.mul_one] at q4
  have hH : Holds (Value.int .i64) w g 0 (s.q nm).toArray := holds_of_blockI hgb q4
  have htag : tag g = some (.g nm) := htg g (by rw [esl]; rfl)
  have hcell : ∀ j, j < (s.q nm).length → w.cell? ⟨g, 0 + j, none⟩ = some (.int .i64 ((s.q nm).getD j 0)) := fun j hj => by
    have := (hH j (by simpa using hj)).1
    rw [this]
    simp [List.getD_eq_getElem?_getD, List.getElem?_eq_getElem hj]
  have cI := Any.slices_Index_int Tryd.lays108 g 0 (s.q nm).length cap (s.q nm) x w (Nat.le_refl _) (by have := hT.out.qn nm; have := hN.out; omega) hcell
  rw [List.take_length, hi1] at cI
  have hml : cap ≤ 9223372036854775807 := Nat.le_trans q2 (by unfold maxLen; omega)
  have cD := Any.slices_Delete_int Tryd.lays2n23 g 0 cap i (i + 1) (s.q nm) w.drew (holds_of_blockI hgb q4) q1 hml (Nat.le_succ _) hi2
  have hlen1 : (s.q nm).length - (i + 1 - i) = ((s.q nm).erase x).length := by rw [List.length_erase_of_mem hx.out]; omega
  have hrep : List.replicate (i + 1 - i) (0 : Int) = [0] := by rw [Nat.add_sub_cancel_left]; rfl
  rw [hlen1, hi3, hrep, show ((i + 1 : Nat) : Int) = (i : Int) + 1 by omega] at cD
  obtain ⟨er, her⟩ : ∃ er, er = (s.q nm).erase x := ⟨_, rfl⟩
  have hel : er.length + 1 = (s.q nm).length := by rw [her, List.length_erase_of_mem hx.out]; omega
  rw [← her] at cD
  obtain ⟨n, hn⟩ : ∃ n, n = (s.q nm).length := ⟨_, rfl⟩
  have HCD : Hid (∀ w1, (∃ q, w1 = putRow (Value.int .i64) (Sort.ahead w.drew q) g 0 (er ++ [0]).toArray) → w1.ownsRow 0 3 1 (.slice (some ⟨g, 0, none⟩) er.length cap) er.length (er.map (Value.int .i64)) ∧ w.grownBy w1 (some g)) := Mp.hid (fun w1 ⟨q, hq1⟩ => by
    have e1 : w1 = grow (putRow (Value.int .i64) (Sort.ahead w.drew q) g 0 (er ++ [0]).toArray) #[] := by rw [hq1, Rs.grow_none]
    have h1 := ownsRow_sortedI (w := w.drew) (base := 0) (n := q) (os := #[]) (ss := s.q nm) (ts := er ++ [0]) (by simp; omega) (Nat.zero_le _) hgb q1 q2 q3
    have h2 := grownBy_sortedI (w := w.drew) (g := g) (n := q) (os := #[]) (er ++ [0]).toArray
    rw [← e1] at h1 h2
    have h3 := Rs.row_take h1 er.length (by omega)
    have h4 : ((er ++ [0]).map (Value.int .i64)).take er.length = er.map (Value.int .i64) := by rw [List.map_append, List.take_left' (by simp)]
    rw [h4] at h3
    exact ⟨h3, h2.os, h2.tape, h2.output, h2.size, h2.block⟩)
  have HER := Mp.hid her
  have HTG := Mp.hid htag
  have HLE := Mp.hid hel
  rw [← hn] at cI cD hQ
  have hi2' : i < n := by rw [hn]; exact hi2
  have hn1 : n ≤ 90000 := by rw [hn]; have := hT.out.qn nm; have := hN.out; omega
  clear hrow htg hgb q1 q2 q3 q4 hH hcell htag esl hi1 hi2 hi3 hml hlen1 hrep her hel hn hq cur
  have HCI := Mp.hid cI
  have HWR : Hid (IntKind.i64.wrap ((i : Int) + 1) = (i : Int) + 1) := Mp.hid (by rw [IntKind.wrap_i64]; omega)
  have HCD2 : Hid (Calls Tryd.prog 60 #[.slice (some ⟨g, 0, none⟩) n cap, .int .i64 (i : Int), .int .i64 ((i : Int) + 1)] w.drew fun e w' => e = .returned (.slice (some ⟨g, 0, none⟩) er.length cap) ∧ ∃ q, w' = putRow (Value.int .i64) (Sort.ahead w.drew q) g 0 (er ++ [0]).toArray) := Mp.hid cD
  clear cI cD
  go_enter Tryd.func49, Tryd.ntmps49
  go_wp2_with fail
  refine HCI.out.mono ?_
  rintro e w' ⟨rfl, hq'⟩
  obtain rfl := hq'.symm
  have HS0 : Hid (w.drew.cell? ⟨p, 2, none⟩ = some (.map (some bq))) := Mp.hid c2
  clear hQ c2
  go_wp2_with fail
  go_region_held3 (fun w' => w'.cell? ⟨p, 2, none⟩ = some (.map (some bq))) (first | (with_reducible exact HS0.out) | (with_reducible exact HS1.out) | (with_reducible exact HS2.out) | fail)
    ((go_at_call 60
      rw [HWR.out]
      with_reducible refine HCD2.out.mono ?_
      rintro e w1 ⟨rfl, hq1⟩
      obtain ⟨hrow1, hgr1⟩ := HCD.out w1 hq1
      have hkb : ∀ b l, tag b = some l → l ≠ .g nm → w1.heap[b]? = w.heap[b]? := fun b l e hne => hgr1.block b (Nat.lt_of_not_le (fun h => by rw [hT.out.top b h] at e; cases e)) (fun e2 => by injection e2 with e2; rw [e2, HTG.out] at e; injection e with e; exact hne e.symm)
      have HKB := Mp.hid hkb
      have HR1 := Mp.hid (And.intro hrow1 hgr1)
      have hFq := hT.out.queues.kept (w' := w1) (hkb bq _ hT.out.tq (by simp))
      obtain ⟨w2, hr2, hF2, hM2⟩ := hFq.store Lk.sK_inj Lk.keyS Tryd.underlying59 (by have := hN.out; unfold maxLen; omega) (Lk.key_s hl) (.slice (some ⟨g, 0, none⟩) er.length cap)
      have HF2 := Mp.hid (And.intro hF2 hM2)
      have HS1 : Hid (w1.cell? ⟨p, 2, none⟩ = some (.map (some bq))) := Mp.hid ((World.cell?_of_block (a := ⟨p, 2, none⟩) (hkb p _ hT.out.tp (by simp))).trans hT.out.c2)
      have HS2 : Hid (w2.cell? ⟨p, 2, none⟩ = some (.map (some bq))) := Mp.hid ((World.cell?_of_block (a := ⟨p, 2, none⟩) ((Mp.turned_block hM2).2.1 p (Lk.apart hT.out.tp hT.out.tq (by simp)))).trans HS1.out)
      clear hq1 hrow1 hgr1 hkb hFq hF2 hM2))
  have c2 := HS2.out
  have hL2 : (Instr.lookup 59 (.map (some bq)) (Lk.str nm) false).run Tryd.prog w2 = .ok (.slice (some ⟨g, 0, none⟩) er.length cap) w2 := by
    have := HF2.out.1.look false Lk.keyS Tryd.underlying59 (z := .slice none 0 0) (by kernel_rfl) (Lk.key_s hl)
    rw [this]; simp [Mp.up]
  have HSZ : Hid (w.heap.size ≤ w1.heap.size ∧ w2.heap.size = w1.heap.size) := Mp.hid ⟨HR1.out.2.size, (Mp.turned_block HF2.out.2).1⟩
  have HE2 : Hid (Lk.Ev tag tag w w2) := Mp.hid (by
    obtain ⟨m1, m2, m3, m4, m5⟩ := Mp.turned_block HF2.out.2
    exact ⟨m3.trans HR1.out.2.os, m4.trans HR1.out.2.tape, m5.trans HR1.out.2.output, by rw [m1]; exact HR1.out.2.size, fun b hb ht => (m2 b (fun e => by rw [e, hT.out.tq] at ht; cases ht)).trans (HR1.out.2.block b hb (fun e => by injection e with e; rw [e, HTG.out] at ht; cases ht)), fun _ _ h => h⟩)
  clear hr2
  by_cases hz : er = []
  · have HZ := Mp.hid hz
    have hlz : er.length = 0 := by rw [hz]; rfl
    rw [hlz] at hL2
    clear hz
    go_wp2_with (first | (at_delete; refine Mp.wpList_drop _ rfl _ _ 59 9 rfl 37 Lk.sK_inj Lk.keyS Tryd.underlying59 bq (N + 1) _ rfl HF2.out.1 (Lk.str nm) nm rfl (Lk.key_s hl) ?_; intro w3 hF3 hM3))
    have HF3 := Mp.hid (And.intro hF3 hM3)
    clear hF3 hM3
    go_end0
    have hst : Lk.eraseS s nm x = { s with q := fun k => if k = nm then [] else s.q k } := by
      unfold Lk.eraseS
      rw [← HER.out, HZ.out]
    refine ⟨rfl, ⟨sl, ?_⟩, HE2.out.trans (Lk.Ev.turned HF3.out.2 hT.out.tq)⟩
    rw [hst]
    obtain ⟨m1, m2, -⟩ := Mp.turned_block HF3.out.2
    refine hT.out.dropQueue2 (by rw [m1, HSZ.out.2]; exact HSZ.out.1) (fun b l e h1 h2 => (m2 b (Lk.apart e hT.out.tq h1)).trans (((Mp.turned_block HF2.out.2).2.1 b (Lk.apart e hT.out.tq h1)).trans (HKB.out b l e h2))) (HF3.out.1.ext (fun n _ => ?_))
    by_cases e : n = nm
    · simp [Mp.up, e]
    · simp [Mp.up, e]
  · have hlz : ((er.length : Int) == 0) = false := by
      have : er.length ≠ 0 := fun h => hz (List.length_eq_zero_iff.1 h)
      simp; exact hz
    have HZ := Mp.hid hz
    clear hz
    go_wp2
    go_end0
    have hst : Lk.eraseS s nm x = { s with q := fun k => if k = nm then er else s.q k } := by
      unfold Lk.eraseS
      rw [← HER.out]
    refine ⟨rfl, ⟨fun k => if k = nm then .slice (some ⟨g, 0, none⟩) er.length cap else sl k, ?_⟩, HE2.out⟩
    rw [hst]
    exact hT.out.putQueue (w1 := w1) (tag' := tag) (fun b hb h1 h2 => by
      rcases ht : tag b with _ | l
      · exact absurd ht h2
      · exact HKB.out b l ht (fun e => h1 (by rw [ht, e]))) (fun _ _ => rfl) (fun b hb => hT.out.top b (Nat.le_trans HSZ.out.1 hb)) HZ.out HR1.out.1 (fun k hk => by injection hk with hk; rw [← hk]; exact HTG.out) (by have := HLE.out; have := hT.out.qn nm; omega) (fun o ho => hT.out.qw nm o (List.mem_of_mem_erase (by rw [← HER.out]; exact ho))) HF2.out.2 HF2.out.1

end Go.Proofs.YthaenobciefjiaaDoor
