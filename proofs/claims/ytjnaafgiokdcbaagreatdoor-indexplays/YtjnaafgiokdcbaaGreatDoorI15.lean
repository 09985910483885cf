/- The program's index and the reference's in one world. -/
import Derived.Test.YtjnaafgiokdcbaaGreatDoorI14
import Derived.Test.YtjnaafgiokdcbaaGreatDoorI10
namespace Go.Proofs.YtjnaafgiokdcbaaGreatDoor
open Go.RowKit

namespace Ix
open Vl Ky
theorem AddR.det {s s1 s2 : Lf.S} {v : V} {n : Int} {l1 f1 t1 e1 l2 f2 t2 e2 : Nat} (h1 : AddR s v n s1 l1 f1 t1 e1) (h2 : AddR s v n s2 l2 f2 t2 e2) : s1 = s2 ∧ l1 = l2 ∧ f1 = f2 ∧ t1 = t2 ∧ e1 = e2 := by
  rcases h1 with ⟨a0, a1, a2, a3, a4, a5⟩ | ⟨a0, a1⟩ <;> rcases h2 with ⟨b0, b1, b2, b3, b4, b5⟩ | ⟨b0, b1⟩
  · exact ⟨a1.trans b1.symm, a2.trans b2.symm, a3.trans b3.symm, a4.trans b4.symm, Int.ofNat.inj (a5.trans b5.symm)⟩
  · exact absurd b0 a0
  · exact absurd a0 b0
  · exact a1.det b1
theorem DropR.det {s s1 s2 : Lf.S} {v : V} {n : Int} {l1 f1 t1 e1 l2 f2 t2 e2 : Nat} (h1 : DropR s v n s1 l1 f1 t1 e1) (h2 : DropR s v n s2 l2 f2 t2 e2) : s1 = s2 ∧ l1 = l2 ∧ f1 = f2 ∧ t1 = t2 ∧ e1 = e2 := by
  rcases h1 with ⟨a0, a1, a2, a3, a4, a5⟩ | ⟨a0, a1⟩ <;> rcases h2 with ⟨b0, b1, b2, b3, b4, b5⟩ | ⟨b0, b1⟩
  · exact ⟨a1.trans b1.symm, a2.trans b2.symm, a3.trans b3.symm, a4.trans b4.symm, Int.ofNat.inj (a5.trans b5.symm)⟩
  · exact absurd b0 a0
  · exact absurd a0 b0
  · exact a1.det b1
structure Jx (w0 w : World) (tag : Nat → Option Lf.Tg) (pb p : Nat) (s : Lf.S) (N base qb pr r c : Nat) (kf : Nat → Value) (s2 : Lf.S) : Prop where
  j : Lf.Jt w0 w tag p s N base pr r c kf s2
  b1 : w.heap[pb]? = some (.cells #[.pointer (some ⟨p, 0, none⟩)] 72 (0, 0))
  t1 : tag pb = none
  b2 : w.heap[qb]? = some (.cells #[.pointer (some ⟨pr, 0, none⟩)] 57 (0, 0))
  t2 : tag qb = none
variable {w0 w w' : World} {tag tag' : Nat → Option Lf.Tg} {pb p N N' base qb pr r c : Nat} {s s' s2 s2' : Lf.S} {kf : Nat → Value}
theorem Jx.iq (H : Jx w0 w tag pb p s N base qb pr r c kf s2) : Iq w0.heap.size w tag pb p s N := ⟨H.j.q, H.b1, H.t1⟩
theorem Jx.rx (H : Jx w0 w tag pb p s N base qb pr r c kf s2) : Rx w qb pr r c kf s2 := ⟨H.j.m.rd, H.b2⟩
theorem Jx.below (H : Jx w0 w tag pb p s N base qb pr r c kf s2) (hb : Below w.heap.size w w') : Jx w0 w' tag pb p s N base qb pr r c kf s2 :=
  ⟨H.j.below hb, (hb.block _ (Mm.heapLt H.b1)).trans H.b1, H.t1, (hb.block _ (Mm.heapLt H.b2)).trans H.b2, H.t2⟩
theorem Jx.le (H : Jx w0 w tag pb p s N base qb pr r c kf s2) (h : N ≤ N') : Jx w0 w tag pb p s N' base qb pr r c kf s2 := ⟨H.j.le h, H.b1, H.t1, H.b2, H.t2⟩
theorem Jx.prog (H : Jx w0 w tag pb p s N base qb pr r c kf s2) (hq : Iq w0.heap.size w' tag' pb p s' N') (hE : Lf.Ev tag tag' w w') : Jx w0 w' tag' pb p s' N' base qb pr r c kf s2 :=
  ⟨H.j.prog hq.q hE, hq.bx, hq.t, (hE.block _ (Mm.heapLt H.b2) H.t2).trans H.b2, hE.tags _ (Mm.heapLt H.b2) H.t2⟩
theorem box_ne {b : Nat} {cs : Array Value} {t : TypeId} (H : Lf.Rm w base pr r c kf s2) (h : w.heap[b]? = some (.cells cs t (0, 0))) (h1 : t ≠ 91) (h2 : t ≠ 88) : b ≠ pr ∧ b ≠ r := by
  constructor
  · intro e
    have h3 := H.head
    rw [← e, h] at h3
    injection h3 with h3
    injection h3 with _ h3 _
    exact h2 h3
  · intro e
    obtain ⟨cur, h3, _⟩ := H.cells
    rw [← e, h] at h3
    injection h3 with h3
    injection h3 with _ h3 _
    exact h1 h3
theorem Jx.ref (H : Jx w0 w tag pb p s N base qb pr r c kf s2) (hO : Lf.Out w base pr r kf s2 w' s2') : (∃ r' c' kf', Jx w0 w' tag pb p s N base qb pr r' c' kf' s2') ∧ Lf.Tc pr r w w' := by
  obtain ⟨⟨r', c', kf', h⟩, ht⟩ := H.j.ref hO
  have n1 := box_ne H.j.m H.b1 (by decide) (by decide)
  have n2 := box_ne H.j.m H.b2 (by decide) (by decide)
  exact ⟨⟨r', c', kf', h, (ht.block _ (Mm.heapLt H.b1) n1.1 n1.2).trans H.b1, H.t1, (ht.block _ (Mm.heapLt H.b2) n2.1 n2.2).trans H.b2, H.t2⟩, ht⟩
theorem bx_tc {b : Nat} {cs : Array Value} {t : TypeId} {r0 : Nat} (H : Lf.Rm w base pr r c kf s2) (hB : Bx w tag b (.cells cs t (0, 0))) (ht : Lf.Tc pr r w w') (h1 : t ≠ 91) (h2 : t ≠ 88) (_ : r0 = r) : Bx w' tag b (.cells cs t (0, 0)) := by
  have n := box_ne H hB.at_ h1 h2
  exact ⟨(ht.block _ hB.lt n.1 n.2).trans hB.at_, hB.t⟩
theorem Tw.sh {w w' : World} {v1 v2 : Value} {a b : List Nat} (h : Tw w w' v1 v2 a b) : ∃ p1 c1 p2 c2, v1 = .slice p1 (a.map (fun n : Nat => (n : Int))).length c1 ∧ v2 = .slice p2 (b.map (fun n : Nat => (n : Int))).length c2 ∧ Mm.IIn w' p1 (a.map (fun n : Nat => (n : Int))) ∧ Mm.IIn w' p2 (b.map (fun n : Nat => (n : Int))) := by
  obtain ⟨p1, c1, e1, i1⟩ := h.o1.nin
  obtain ⟨p2, c2, e2, i2⟩ := h.o2.nin
  exact ⟨p1, c1, p2, c2, e1, e2, i1, i2⟩
theorem Tw.ln {w w' : World} {p1 p2 : Option Addr} {n1 c1 n2 c2 : Nat} {a b : List Nat} (h : Tw w w' (.slice p1 n1 c1) (.slice p2 n2 c2) a b) : (n1 = (a.map (fun n : Nat => (n : Int))).length ∧ Mm.IIn w' p1 (a.map (fun n : Nat => (n : Int)))) ∧ (n2 = (b.map (fun n : Nat => (n : Int))).length ∧ Mm.IIn w' p2 (b.map (fun n : Nat => (n : Int)))) := by
  obtain ⟨q1, d1, q2, d2, e1, e2, i1, i2⟩ := h.sh
  injection e1 with a1 a2 a3
  injection e2 with b1 b2 b3
  subst a1 b1
  exact ⟨⟨a2, i1⟩, ⟨b2, i2⟩⟩
theorem sz_of {s : Lf.S} (hI : Lf.Inv s) (h1 : s.last ≤ 1000) (h2 : s.count ≤ 1000) : Sz s :=
  ⟨by have := hI.ln; omega, fun P hP => by have := (hI.ks P hP).2.2; have := hI.f2; omega, by rw [Lf.flat_cnt hI]; omega, hI⟩
theorem spanL_cnt {s : Lf.S} (hI : Lf.Inv s) (frm tto : ByteArray) : (Lf.spanL s frm tto).length ≤ s.last := Nat.le_trans (Lf.spanL_len hI frm tto) hI.ln
theorem lens {s : Lf.S} (hI : Lf.Inv s) (h1 : s.last ≤ 1000) (h2 : s.count ≤ 1000) (v x : V) : ((findT s v).map (fun n : Nat => (n : Int))).length ≤ 1000000 ∧ ((findL s v).map (fun n : Nat => (n : Int))).length ≤ 1000000 ∧ ((rangeT s v x).map (fun n : Nat => (n : Int))).length ≤ 1000000 ∧ ((rangeL s v x).map (fun n : Nat => (n : Int))).length ≤ 1000000 := by
  have a := fun f t => spanK_cnt hI f t
  have b := fun f t => spanL_cnt hI f t
  refine ⟨?_, ?_, ?_, ?_⟩
  · rw [List.length_map]; unfold findT; split
    · rw [List.length_map]; have := a (entB v 0) (aftB v); omega
    · exact Nat.zero_le _
  · rw [List.length_map]; unfold findL; split
    · have := b (entB v 0) (aftB v); omega
    · exact Nat.zero_le _
  · rw [List.length_map]; unfold rangeT; split
    · rw [List.length_map]; have := a (entB v 0) (entB x 0); omega
    · exact Nat.zero_le _
  · rw [List.length_map]; unfold rangeL; split
    · have := b (entB v 0) (entB x 0); omega
    · exact Nat.zero_le _
end Ix
end Go.Proofs.YtjnaafgiokdcbaaGreatDoor
