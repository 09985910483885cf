/- Leaves, plain: their state, the leaf of a key, where it stands. -/
import Derived.Test.YtjnaafgiokdcbaaLa0
namespace Go.Proofs.Ytjnaafgiokdcbaa
namespace Lf
structure Pg where
  n : Nat
  b : ByteArray
  ks : List ByteArray
structure S where
  fan : Nat
  last : Nat
  pgs : List Pg
  count : Nat
def Up (l : List ByteArray) : Prop := l.Pairwise (fun a b => lt a b = true)
structure Inv (s : S) : Prop where
  f1 : 2 ≤ s.fan
  f2 : s.fan ≤ 64
  nd : s.pgs.Pairwise (fun P Q => P.n ≠ Q.n)
  nr : ∀ P ∈ s.pgs, 1 ≤ P.n ∧ P.n ≤ s.last
  h0 : ∃ P r, s.pgs = P :: r ∧ P.b = ⟨#[]⟩
  bd : s.pgs.Pairwise (fun P Q => lt P.b Q.b = true ∧ ∀ k ∈ P.ks, lt k Q.b = true)
  ks : ∀ P ∈ s.pgs, Up P.ks ∧ (∀ k ∈ P.ks, lt k P.b = false ∧ k.size ≤ 1024) ∧ P.ks.length ≤ s.fan
  full : ∀ P ∈ s.pgs, P.ks = [] → s.pgs.length = 1
  cnt : s.count = (s.pgs.map (fun P => P.ks.length)).sum
  ln : s.pgs.length ≤ s.last
/-- A key's leaf among all. -/
structure Spl (s : S) (k : ByteArray) (L : List Pg) (P : Pg) (R : List Pg) : Prop where
  e : s.pgs = L ++ P :: R
  lo : ∀ Q ∈ L, lt k Q.b = false
  at_ : lt k P.b = false
  hi : ∀ Q ∈ R, lt k Q.b = true
theorem spl_list (k : ByteArray) : ∀ (P : Pg) (r : List Pg), lt k P.b = false → (P :: r).Pairwise (fun P Q => lt P.b Q.b = true) → ∃ L P' R, P :: r = L ++ P' :: R ∧ (∀ Q ∈ L, lt k Q.b = false) ∧ lt k P'.b = false ∧ ∀ Q ∈ R, lt k Q.b = true
  | P, [], h, _ => ⟨[], P, [], rfl, (fun _ h => nomatch h), h, (fun _ h => nomatch h)⟩
  | P, Q :: r, h, hp => by
    cases hq : lt k Q.b with
    | true =>
      refine ⟨[], P, Q :: r, rfl, (fun _ h => nomatch h), h, fun X hX => ?_⟩
      rcases List.mem_cons.1 hX with e | hX
      · rw [e]; exact hq
      · exact lt_tr hq ((List.pairwise_cons.1 (List.pairwise_cons.1 hp).2).1 X hX)
    | false =>
      obtain ⟨L, P', R, e, h1, h2, h3⟩ := spl_list k Q r hq (List.pairwise_cons.1 hp).2
      refine ⟨P :: L, P', R, by rw [e]; rfl, fun X hX => ?_, h2, h3⟩
      rcases List.mem_cons.1 hX with e | hX
      · rw [e]; exact h
      · exact h1 X hX
theorem spl_ex {s : S} (hI : Inv s) (k : ByteArray) : ∃ L P R, Spl s k L P R := by
  obtain ⟨P, r, e, hb⟩ := hI.h0
  have hp := hI.bd
  rw [e] at hp
  obtain ⟨L, P', R, e2, h1, h2, h3⟩ := spl_list k P r (by rw [hb]; exact lt_emp k) (hp.imp (fun h => h.1))
  exact ⟨L, P', R, e.trans e2, h1, h2, h3⟩
theorem Spl.uniq {s : S} {k : ByteArray} {L L' R R' : List Pg} {P P' : Pg} (h : Spl s k L P R) (h' : Spl s k L' P' R') : L = L' ∧ P = P' ∧ R = R' := by
  have e := h.e.symm.trans h'.e
  rcases List.append_eq_append_iff.1 e with ⟨a, e1, e2⟩ | ⟨a, e1, e2⟩
  · cases a with
    | nil => simp at e1 e2; exact ⟨e1.symm, e2.1, e2.2⟩
    | cons x a =>
      simp at e2
      have hm : P' ∈ R := by rw [e2.2]; simp
      have := h.hi P' hm
      rw [h'.at_] at this; cases this
  · cases a with
    | nil => simp at e1 e2; exact ⟨e1, e2.1.symm, e2.2.symm⟩
    | cons x a =>
      simp at e2
      have hm : P ∈ R' := by rw [e2.2]; simp
      have := h'.hi P hm
      rw [h.at_] at this; cases this
theorem Spl.mem {s : S} {k : ByteArray} {L R : List Pg} {P : Pg} (h : Spl s k L P R) : P ∈ s.pgs := by rw [h.e]; simp
/-- Where a key stands, or would. -/
structure Kp (ks : List ByteArray) (k : ByteArray) (A B : List ByteArray) : Prop where
  e : ks = A ++ B
  lo : ∀ a ∈ A, lt a k = true
  hi : ∀ b ∈ B, lt b k = false
theorem kp_ex : ∀ {ks : List ByteArray} (_ : Up ks) (k : ByteArray), ∃ A B, Kp ks k A B
  | [], _, k => ⟨[], [], rfl, (fun _ h => nomatch h), (fun _ h => nomatch h)⟩
  | a :: r, hu, k => by
    cases ha : lt a k with
    | true =>
      obtain ⟨A, B, h⟩ := kp_ex (ks := r) (List.pairwise_cons.1 hu).2 k
      refine ⟨a :: A, B, by rw [h.e]; rfl, fun x hx => ?_, h.hi⟩
      rcases List.mem_cons.1 hx with e | hx
      · rw [e]; exact ha
      · exact h.lo x hx
    | false =>
      refine ⟨[], a :: r, rfl, (fun _ h => nomatch h), fun x hx => ?_⟩
      rcases List.mem_cons.1 hx with e | hx
      · rw [e]; exact ha
      · cases hh : lt x k with
        | false => rfl
        | true => rw [lt_tr ((List.pairwise_cons.1 hu).1 x hx) hh] at ha; cases ha
theorem Kp.mem {ks A B : List ByteArray} {k : ByteArray} (h : Kp ks k A B) (hu : Up ks) : k ∈ ks ↔ B.head? = some k := by
  rw [h.e, List.mem_append]
  constructor
  · rintro (hm | hm)
    · have := h.lo k hm; rw [lt_irr] at this; cases this
    · cases B with
      | nil => cases hm
      | cons b r =>
        rcases List.mem_cons.1 hm with e | hm
        · rw [e]; rfl
        · have hp := hu
          unfold Up at hp
          rw [h.e] at hp
          have h2 := (List.pairwise_cons.1 (List.pairwise_append.1 hp).2.1).1 k hm
          rw [h.hi b (by simp)] at h2; cases h2
  · intro hb
    cases B with
    | nil => cases hb
    | cons b r => simp at hb; subst hb; exact Or.inr (by simp)
theorem Kp.uniq {ks A B A' B' : List ByteArray} {k : ByteArray} (h : Kp ks k A B) (h' : Kp ks k A' B') : A = A' ∧ B = B' := by
  have e := h.e.symm.trans h'.e
  rcases List.append_eq_append_iff.1 e with ⟨a, e1, e2⟩ | ⟨a, e1, e2⟩
  · cases a with
    | nil => simp at e1 e2; exact ⟨e1.symm, e2⟩
    | cons x a =>
      have h1 := h.hi x (by rw [e2]; simp)
      have h2 := h'.lo x (by rw [e1]; simp)
      rw [h1] at h2; cases h2
  · cases a with
    | nil => simp at e1 e2; exact ⟨e1, e2.symm⟩
    | cons x a =>
      have h1 := h'.hi x (by rw [e2]; simp)
      have h2 := h.lo x (by rw [e1]; simp)
      rw [h1] at h2; cases h2
def half (l : List ByteArray) : Nat := (l.length + 1) / 2
def lower (P : Pg) : Pg := { P with ks := P.ks.take (half P.ks) }
def upper (s : S) (P : Pg) : Pg := ⟨s.last + 1, P.ks.getD (half P.ks) ⟨#[]⟩, P.ks.drop (half P.ks)⟩
def partS (s : S) (L : List Pg) (P : Pg) (R : List Pg) : S := if P.ks.length ≤ s.fan then s else { s with last := s.last + 1, pgs := L ++ lower P :: upper s P :: R }
def partM (s : S) (P : Pg) : Nat × Nat := if P.ks.length ≤ s.fan then (0, 0) else (P.n, s.last + 1)
def open1 : List Pg → List Pg
  | [] => []
  | Q :: r => { Q with b := ⟨#[]⟩ } :: r
def joinS (s : S) (L : List Pg) (P : Pg) (R : List Pg) : S := if P.ks ≠ [] ∨ L ++ R = [] then s else { s with pgs := open1 (L ++ R) }
/-- The leaf beside. -/
def beside (L R : List Pg) : Nat := match L.getLast?, R with
  | some Q, _ => Q.n
  | none, Q :: _ => Q.n
  | none, [] => 0
def joinM (L : List Pg) (P : Pg) (R : List Pg) : Nat × Nat := if P.ks ≠ [] ∨ L ++ R = [] then (0, 0) else (P.n, beside L R)
/-- A leaf's keys anew. -/
def withKs (P : Pg) (ks : List ByteArray) : Pg := { P with ks := ks }
def insP (s : S) (L : List Pg) (P : Pg) (R : List Pg) (ks : List ByteArray) : S := { s with pgs := L ++ withKs P ks :: R, count := s.count + 1 }
def remP (s : S) (L : List Pg) (P : Pg) (R : List Pg) (ks : List ByteArray) : S := { s with pgs := L ++ withKs P ks :: R, count := s.count - 1 }
def insS (s : S) (L : List Pg) (P : Pg) (R : List Pg) (ks : List ByteArray) : S := partS (insP s L P R ks) L (withKs P ks) R
def remS (s : S) (L : List Pg) (P : Pg) (R : List Pg) (ks : List ByteArray) : S := joinS (remP s L P R ks) L (withKs P ks) R
end Lf
end Go.Proofs.Ytjnaafgiokdcbaa
