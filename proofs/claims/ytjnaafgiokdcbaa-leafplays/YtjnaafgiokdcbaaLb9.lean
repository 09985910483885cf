/- Leaves as the laws use them. -/
import Derived.Test.YtjnaafgiokdcbaaLb6
import Derived.Test.YtjnaafgiokdcbaaLb8
namespace Go.Proofs.Ytjnaafgiokdcbaa
open Go.RowKit

namespace Lf
def Lq (h : Nat) (w : World) (tag : Nat → Option Tg) (p : Nat) (s : S) (N : Nat) : Prop := (∃ bl kv rv, Mem h w tag p s bl kv rv) ∧ Inv s ∧ s.last ≤ N + 1 ∧ s.count ≤ N
theorem Lq.below {h : Nat} {w w' : World} {tag : Nat → Option Tg} {p : Nat} {s : S} {N : Nat} (H : Lq h w tag p s N) (hb : Below w.heap.size w w') : Lq h w' tag p s N := by
  obtain ⟨⟨bl, kv, rv, hM⟩, h2⟩ := H
  exact ⟨⟨bl, kv, rv, hM.below hb⟩, h2⟩
theorem Lq.drew {h : Nat} {w : World} {tag : Nat → Option Tg} {p : Nat} {s : S} {N : Nat} (H : Lq h w tag p s N) : Lq h w.drew tag p s N := by
  obtain ⟨⟨bl, kv, rv, hM⟩, h2⟩ := H
  exact ⟨⟨bl, kv, rv, hM.drew⟩, h2⟩
theorem Lq.keep {h : Nat} {w w' : World} {tag : Nat → Option Tg} {p : Nat} {s : S} {N : Nat} (H : Lq h w tag p s N) (hz : w.heap.size ≤ w'.heap.size) (hk : ∀ b l, tag b = some l → w'.heap[b]? = w.heap[b]?) : Lq h w' tag p s N := by
  obtain ⟨⟨bl, kv, rv, hM⟩, h2⟩ := H
  exact ⟨⟨bl, kv, rv, hM.keep hz hk⟩, h2⟩
theorem Lq.sm {h : Nat} {w : World} {tag : Nat → Option Tg} {p : Nat} {s : S} {N : Nat} (H : Lq h w tag p s N) (hN : N ≤ 4900) : Sm s := sm_of H.2.1 (by have := H.2.2.1; omega) (by have := H.2.2.2; omega)
theorem Lq.top {h : Nat} {w : World} {tag : Nat → Option Tg} {p : Nat} {s : S} {N : Nat} (H : Lq h w tag p s N) : ∀ b, w.heap.size ≤ b → tag b = none := by obtain ⟨⟨bl, kv, rv, hM⟩, _⟩ := H; exact hM.top
theorem Lq.bot {h : Nat} {w : World} {tag : Nat → Option Tg} {p : Nat} {s : S} {N : Nat} (H : Lq h w tag p s N) : ∀ b, b < h → tag b = none := by obtain ⟨⟨bl, kv, rv, hM⟩, _⟩ := H; exact hM.bot
theorem Lq.ne {h : Nat} {w : World} {tag : Nat → Option Tg} {p : Nat} {s : S} {N : Nat} (H : Lq h w tag p s N) : s.pgs ≠ [] := by obtain ⟨P, r, e, _⟩ := H.2.1.h0; rw [e]; simp
/-- What Insert, what Remove tells, and what is left. -/
inductive InsR (s : S) (k : ByteArray) : S → Nat → Nat → Nat → Nat → Prop
  | long : 1024 < k.size → InsR s k s 0 0 0 2
  | twice {L R P A B} : Spl s k L P R → Kp P.ks k A B → B.head? = some k → k.size ≤ 1024 → InsR s k s 0 0 0 62
  | ok {L R P A B L' P' R'} : Spl s k L P R → Kp P.ks k A B → B.head? ≠ some k → k.size ≤ 1024 → Spl (insS s L P R (A ++ k :: B)) k L' P' R' → InsR s k (insS s L P R (A ++ k :: B)) P'.n (partM s (withKs P (A ++ k :: B))).1 (partM s (withKs P (A ++ k :: B))).2 0
inductive RemR (s : S) (k : ByteArray) : S → Nat → Nat → Nat → Nat → Prop
  | none {L R P A B} : Spl s k L P R → Kp P.ks k A B → B.head? ≠ some k → RemR s k s 0 0 0 60
  | ok {L R P A B} : Spl s k L P R → Kp P.ks k A (k :: B) → RemR s k (remS s L P R (A ++ B)) P.n (joinM L (withKs P (A ++ B)) R).1 (joinM L (withKs P (A ++ B)) R).2 0
def leafOf (s : S) (k : ByteArray) : Pg := ((s.pgs.filter (fun P => !lt k P.b)).getLast?).getD ⟨0, ⟨#[]⟩, []⟩
theorem leaf_spl {s : S} {k : ByteArray} {L R : List Pg} {P : Pg} (h : Spl s k L P R) : leafOf s k = P := by
  unfold leafOf
  have e1 : (L.filter (fun P => !lt k P.b)) = L := List.filter_eq_self.2 (fun Q hQ => by simp [h.lo Q hQ])
  have e2 : (R.filter (fun P => !lt k P.b)) = [] := List.filter_eq_nil_iff.2 (fun Q hQ => by simp [h.hi Q hQ])
  rw [h.e, List.filter_append, List.filter_cons, e1, e2]
  simp [h.at_]
def inKs (ks : List ByteArray) (k : ByteArray) : Bool := ks.any (fun x => decide (x = k))
theorem inKs_iff {ks : List ByteArray} {k : ByteArray} : inKs ks k = true ↔ k ∈ ks := by
  unfold inKs
  rw [List.any_eq_true]
  constructor
  · rintro ⟨x, hx, e⟩; rw [← of_decide_eq_true e]; exact hx
  · intro hk; exact ⟨k, hk, decide_eq_true rfl⟩
end Lf

variable {h : Nat} {w : World} {tag : Nat → Option Lf.Tg} {p : Nat} {s : Lf.S} {N : Nat}
theorem insert_q (H : Hid (Lf.Lq h w tag p s N)) (hN : N ≤ 4000) (hh : h ≤ w.heap.size) (k : ByteArray) :
    Calls Try.prog 8 #[.pointer (some ⟨p, 0, none⟩), .string k] w fun e w' => ∃ s' l f t er, e = .returned (.tuple #[.int .i64 ((l : Nat) : Int), .agg #[.int .i64 ((f : Nat) : Int), .int .i64 ((t : Nat) : Int)], .int .i64 ((er : Nat) : Int)]) ∧ Lf.InsR s k s' l f t er ∧ ∃ tag', Lf.Lq h w' tag' p s' (N + 1) ∧ Lf.Ev tag tag' w w' := by
  obtain ⟨⟨bl, kv, rv, hM⟩, hI, h1, h2⟩ := H.out
  have hS := Lf.sm_of hI (by omega) (by omega)
  rcases Nat.lt_or_ge 1024 k.size with hk | hk
  · refine (insert_long p k hk w).mono ?_
    rintro e w' ⟨rfl, hb⟩
    exact ⟨s, 0, 0, 0, 2, rfl, .long hk, tag, ⟨⟨bl, kv, rv, hM.below hb⟩, hI, by omega, by omega⟩, Lf.Ev.below hb⟩
  · obtain ⟨L, P, R, hs⟩ := Lf.spl_ex hI k
    obtain ⟨A, B, hp⟩ := Lf.kp_ex (hI.ks P hs.mem).1 k
    by_cases hb : B.head? = some k
    · refine (insert_twice (Mm.hid hM) (Mm.hid hs) (Mm.hid hS) (Mm.hid hp) (Mm.hid hb) hk).mono ?_
      rintro e w' ⟨rfl, hbl⟩
      exact ⟨s, 0, 0, 0, 62, rfl, .twice hs hp hb hk, tag, ⟨⟨bl, kv, rv, hM.below hbl⟩, hI, by omega, by omega⟩, Lf.Ev.below hbl⟩
    · have hI2 := Lf.ins_inv hI hs hp hb hk
      obtain ⟨l1, l2, _⟩ := Lf.ins_last s L P R (A ++ k :: B)
      obtain ⟨L', P', R', hs2⟩ := Lf.spl_ex hI2 k
      refine (insert_any (Mm.hid hM) hh (Mm.hid hs) (Mm.hid hS) (Mm.hid hI) (Mm.hid hp) (Mm.hid hb) hk (Mm.hid (Lf.sm_insP hI hs hp (by omega) (by omega))) (Mm.hid (Lf.sm_of hI2 (by omega) (by omega))) (Mm.hid hs2)).mono ?_
      rintro e w' ⟨rfl, tag', bl', kv', rv', hM', hE⟩
      exact ⟨_, _, _, _, 0, rfl, .ok hs hp hb hk hs2, tag', ⟨⟨bl', kv', rv', hM'⟩, hI2, by omega, by omega⟩, hE⟩
theorem remove_q (H : Hid (Lf.Lq h w tag p s N)) (hN : N ≤ 4000) (k : ByteArray) :
    Calls Try.prog 10 #[.pointer (some ⟨p, 0, none⟩), .string k] w fun e w' => ∃ s' l f t er, e = .returned (.tuple #[.int .i64 ((l : Nat) : Int), .agg #[.int .i64 ((f : Nat) : Int), .int .i64 ((t : Nat) : Int)], .int .i64 ((er : Nat) : Int)]) ∧ Lf.RemR s k s' l f t er ∧ ∃ tag', Lf.Lq h w' tag' p s' (N + 1) ∧ Lf.Ev tag tag' w w' := by
  obtain ⟨⟨bl, kv, rv, hM⟩, hI, h1, h2⟩ := H.out
  have hS := Lf.sm_of hI (by omega) (by omega)
  obtain ⟨L, P, R, hs⟩ := Lf.spl_ex hI k
  obtain ⟨A, B, hp⟩ := Lf.kp_ex (hI.ks P hs.mem).1 k
  by_cases hb : B.head? = some k
  · cases B with
    | nil => cases hb
    | cons b B =>
      simp at hb; subst hb
      have hI2 := Lf.rem_inv hI hs hp
      obtain ⟨l1, l2, _⟩ := Lf.rem_last s L P R (A ++ B)
      refine (remove_any (Mm.hid hM) (Mm.hid hs) (Mm.hid hS) (Mm.hid hI) (Mm.hid hp) (Mm.hid (Lf.sm_remP hI hs hp (by omega) (by omega)))).mono ?_
      rintro e w' ⟨rfl, tag', bl', kv', rv', hM', hE⟩
      exact ⟨_, _, _, _, 0, rfl, .ok hs hp, tag', ⟨⟨bl', kv', rv', hM'⟩, hI2, by omega, by omega⟩, hE⟩
  · refine (remove_none (Mm.hid hM) (Mm.hid hs) (Mm.hid hS) (Mm.hid hp) (Mm.hid hb)).mono ?_
    rintro e w' ⟨rfl, hbl⟩
    exact ⟨s, 0, 0, 0, 60, rfl, .none hs hp hb, tag, ⟨⟨bl, kv, rv, hM.below hbl⟩, hI, by omega, by omega⟩, Lf.Ev.below hbl⟩
theorem of_q (H : Hid (Lf.Lq h w tag p s N)) (hN : N ≤ 4900) (k : ByteArray) :
    Calls Try.prog 18 #[.pointer (some ⟨p, 0, none⟩), .string k] w fun e w' => e = .returned (.int .i64 ((Lf.leafOf s k).n : Int)) ∧ Below w.heap.size w w' := by
  obtain ⟨L, P, R, hs⟩ := Lf.spl_ex H.out.2.1 k
  rw [Lf.leaf_spl hs]
  obtain ⟨⟨bl, kv, rv, hM⟩, hI, h1, h2⟩ := H.out
  exact of_any (Mm.hid hM) (Mm.hid hs) (Mm.hid (H.out.sm hN))
theorem has_q (H : Hid (Lf.Lq h w tag p s N)) (hN : N ≤ 4900) (k : ByteArray) :
    Calls Try.prog 16 #[.pointer (some ⟨p, 0, none⟩), .string k] w fun e w' => e = .returned (.bool (Lf.inKs (Lf.leafOf s k).ks k)) ∧ Below w.heap.size w w' := by
  obtain ⟨L, P, R, hs⟩ := Lf.spl_ex H.out.2.1 k
  rw [Lf.leaf_spl hs]
  obtain ⟨⟨bl, kv, rv, hM⟩, hI, h1, h2⟩ := H.out
  obtain ⟨A, B, hp⟩ := Lf.kp_ex (hI.ks P hs.mem).1 k
  have e : Lf.inKs P.ks k = decide (B.head? = some k) := by
    rw [Bool.eq_iff_iff, Lf.inKs_iff, decide_eq_true_iff]
    exact hp.mem (hI.ks P hs.mem).1
  rw [e]
  exact has_any (Mm.hid hM) (Mm.hid hs) (Mm.hid (H.out.sm hN)) (Mm.hid hp)
theorem len_q (H : Hid (Lf.Lq h w tag p s N)) :
    Calls Try.prog 22 #[.pointer (some ⟨p, 0, none⟩)] w fun e w' => e = .returned (.int .i64 (s.count : Int)) ∧ Below w.heap.size w w' := by
  obtain ⟨⟨bl, kv, rv, hM⟩, _⟩ := H.out
  exact len_any (Mm.hid hM)
theorem all_q (H : Hid (Lf.Lq h w tag p s N)) (hN : N ≤ 4900) :
    Calls Try.prog 20 #[.pointer (some ⟨p, 0, none⟩)] w fun e w' => ∃ v, e = .returned v ∧ Mm.Own w' w.heap.size 3 v (Mm.nts (Lf.nums s.pgs)) ∧ Below w.heap.size w w' := by
  obtain ⟨⟨bl, kv, rv, hM⟩, _⟩ := H.out
  exact all_any (Mm.hid hM) (Mm.hid (H.out.sm hN)) H.out.ne
theorem keys_q (H : Hid (Lf.Lq h w tag p s N)) (hN : N ≤ 4900) (m : Int) :
    Calls Try.prog 24 #[.pointer (some ⟨p, 0, none⟩), .int .i64 m] w fun e w' => ∃ v, e = .returned v ∧ Mm.Own w' w.heap.size 9 v (Lf.strs (Lf.ksOf s.pgs m)) ∧ Below w.heap.size w w' := by
  obtain ⟨⟨bl, kv, rv, hM⟩, _⟩ := H.out
  exact keys_any (Mm.hid hM) (Mm.hid (H.out.sm hN)) H.out.ne m
/-- What Range tells. -/
def Lf.spanK (s : Lf.S) (frm to : ByteArray) : List ByteArray := if to ≠ ⟨#[]⟩ ∧ Lf.lt frm to = false then [] else Lf.rngK frm to (s.pgs.dropWhile (fun P => !decide (P.n = (Lf.leafOf s frm).n)))
def Lf.spanL (s : Lf.S) (frm to : ByteArray) : List Nat := if to ≠ ⟨#[]⟩ ∧ Lf.lt frm to = false then [] else Lf.rngL to (s.pgs.dropWhile (fun P => !decide (P.n = (Lf.leafOf s frm).n)))
theorem Lf.drop_spl {s : Lf.S} {k : ByteArray} {L R : List Lf.Pg} {P : Lf.Pg} (hI : Lf.Inv s) (hs : Lf.Spl s k L P R) : s.pgs.dropWhile (fun P => !decide (P.n = (Lf.leafOf s k).n)) = P :: R := by
  rw [Lf.leaf_spl hs]
  have hd := hI.nd
  rw [hs.e] at hd
  obtain ⟨n1, _⟩ := Lf.nd_mid hd
  rw [hs.e]
  clear hd hs
  induction L with
  | nil => simp
  | cons X L ih =>
    rw [List.cons_append, List.dropWhile_cons_of_pos (by simp [n1 X (by simp)])]
    exact ih (fun Q hQ => n1 Q (by simp [hQ]))
theorem range_q (H : Hid (Lf.Lq h w tag p s N)) (hN : N ≤ 4900) (frm to : ByteArray) :
    Calls Try.prog 12 #[.pointer (some ⟨p, 0, none⟩), .string frm, .string to] w fun e w' => ∃ v1 v2, e = .returned (.tuple #[v1, v2]) ∧ Lf.Two w w' v1 v2 (Lf.spanK s frm to) (Lf.spanL s frm to) := by
  obtain ⟨L, P, R, hs⟩ := Lf.spl_ex H.out.2.1 frm
  have hI := H.out.2.1
  unfold Lf.spanK Lf.spanL
  rw [Lf.drop_spl hI hs]
  obtain ⟨⟨bl, kv, rv, hM⟩, _⟩ := H.out
  by_cases hto : to = ⟨#[]⟩
  · subst hto
    rw [if_neg (fun h => h.1 rfl), if_neg (fun h => h.1 rfl)]
    exact rangeE_any (Mm.hid hM) (Mm.hid hs) (Mm.hid (H.out.sm hN))
  · cases hlt : Lf.lt frm to with
    | true =>
      rw [if_neg (fun h => by cases h.2), if_neg (fun h => by cases h.2)]
      exact rangeT_any (Mm.hid hM) (Mm.hid hs) (Mm.hid (H.out.sm hN)) (Mm.hid hI) hto (Mm.hid hlt)
    | false =>
      rw [if_pos ⟨hto, rfl⟩, if_pos ⟨hto, rfl⟩]
      refine (range_none p frm to hto hlt w).mono ?_
      rintro e w' ⟨rfl, hb⟩
      exact ⟨_, _, rfl, Mm.Own.nil _ _ _, Mm.Own.nil _ _ _, (fun _ e => nomatch e), hb⟩
end Go.Proofs.Ytjnaafgiokdcbaa
