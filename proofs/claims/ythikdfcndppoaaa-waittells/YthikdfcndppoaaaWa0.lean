/- Knots, plain: what is reached; Tarjan's walk by its invariants; the answer is one. -/
import Derived.Test.YthikdfcndppoaaaRows
namespace Go.Proofs.Ythikdfcndppoaaa
/-- reached by one edge or more -/
inductive Rch {α : Type} (R : α → α → Prop) : α → α → Prop
  | one {a b : α} : R a b → Rch R a b
  | step {a b c : α} : R a b → Rch R b c → Rch R a c

namespace Rch
variable {α : Type} {R : α → α → Prop}
theorem trans {a b c : α} (h : Rch R a b) (k : Rch R b c) : Rch R a c := by
  induction h with
  | one e => exact .step e k
  | step e _ ih => exact .step e (ih k)
theorem snoc {a b c : α} (h : Rch R a b) (e : R b c) : Rch R a c := h.trans (.one e)
/-- What is closed under edges is closed under reaching. -/
theorem closed {P : α → Prop} (hP : ∀ a b, P a → R a b → P b) {a b : α} (h : Rch R a b) (ha : P a) : P b := by
  induction h with
  | one e => exact hP _ _ ha e
  | step e _ ih => exact ih (hP _ _ ha e)
theorem mono {S : α → α → Prop} (hS : ∀ a b, R a b → S a b) {a b : α} (h : Rch R a b) : Rch S a b := by
  induction h with
  | one e => exact .one (hS _ _ e)
  | step e _ ih => exact .step (hS _ _ e) ih
theorem first {a b : α} (h : Rch R a b) : ∃ c, R a c ∧ (c = b ∨ Rch R c b) := by
  cases h with
  | one e => exact ⟨_, e, .inl rfl⟩
  | step e k => exact ⟨_, e, .inr k⟩
theorem last {a b : α} (h : Rch R a b) : ∃ c, R c b := by
  induction h with
  | one e => exact ⟨_, e⟩
  | step _ _ ih => exact ih
end Rch

namespace Tj
/-- closed: beyond all numbers -/
def CL : Nat := 9223372036854775807

structure S where
  num : Nat → Nat
  low : Nat → Nat
  gone : Nat → Nat
  met : Nat
  path : List Nat
  opn : List Nat
  done : List (List Nat)

def upd (f : Nat → Nat) (a v : Nat) : Nat → Nat := fun x => if x = a then v else f x
theorem upd_same (f : Nat → Nat) (a v : Nat) : upd f a v a = v := by simp [upd]
theorem upd_other (f : Nat → Nat) {a x : Nat} (v : Nat) (h : x ≠ a) : upd f a v x = f x := by simp [upd, h]

def meet (s : S) (p : Nat) : S := { s with num := upd s.num p (s.met + 1), low := upd s.low p (s.met + 1), met := s.met + 1, path := s.path ++ [p], opn := s.opn ++ [p] }
def inc (s : S) (a : Nat) : S := { s with gone := upd s.gone a (s.gone a + 1) }
def edge (s : S) (a t : Nat) : S := { inc s a with low := upd s.low a (min (s.low a) (s.num t)) }
def closeN (num : Nat → Nat) (M : List Nat) : Nat → Nat := fun v => if v ∈ M then CL else num v

variable (E : Nat → List Nat) (n : Nat)
def Ed (a b : Nat) : Prop := b ∈ E a
def Str (a b : Nat) : Prop := a = b ∨ Rch (Ed E) a b

theorem Str.trans {a b c : Nat} (h : Str E a b) (k : Str E b c) : Str E a c := by
  rcases h with rfl | h
  · exact k
  · rcases k with rfl | k
    · exact .inr h
    · exact .inr (h.trans k)
theorem Str.then {a b c : Nat} (h : Rch (Ed E) a b) (k : Str E b c) : Rch (Ed E) a c := by
  rcases k with rfl | k
  · exact h
  · exact h.trans k
theorem Str.ahead {a b c : Nat} (h : Str E a b) (k : Rch (Ed E) b c) : Rch (Ed E) a c := by
  rcases h with rfl | h
  · exact k
  · exact h.trans k

/-- A knot of places. -/
def Knot (m : List Nat) : Prop := m ≠ [] ∧ m.Nodup ∧ ∀ x ∈ m, ∀ y, y ∈ m ↔ (Rch (Ed E) x y ∧ Rch (Ed E) y x)

structure Inv (s : S) : Prop where
  ord : ∃ o : List Nat, o.Nodup ∧ o.length = s.met ∧ ∀ v, v ∈ o ↔ s.num v ≠ 0
  small : s.met < CL
  inn : ∀ v, s.num v ≠ 0 → v < n
  a1 : ∀ v, v ∈ s.opn ↔ (s.num v ≠ 0 ∧ s.num v ≠ CL)
  a2 : s.opn.Pairwise (fun a b => s.num a < s.num b)
  a3 : ∀ v ∈ s.opn, s.num v ≤ s.met
  a4 : ∀ v ∈ s.path, v ∈ s.opn
  a5 : s.path.Pairwise (fun a b => s.num a < s.num b ∧ Rch (Ed E) a b)
  a6 : ∀ v, s.num v = CL → ∀ w ∈ E v, s.num w = CL
  a7 : ∀ v ∈ s.opn, v ∉ s.path → s.gone v = (E v).length
  a7' : ∀ v, s.num v = 0 → s.gone v = 0
  a7'' : ∀ v, s.gone v ≤ (E v).length
  a8 : ∀ v ∈ s.opn, ∀ w ∈ (E v).take (s.gone v), s.num w ≠ 0
  a9 : ∀ v ∈ s.opn, s.low v ≤ s.num v ∧ ∃ u ∈ s.opn, s.num u = s.low v ∧ Str E v u
  a10 : ∀ v ∈ s.opn, v ∉ s.path → s.low v < s.num v
  a11 : ∀ v ∈ s.opn, ∃ p ∈ s.path, s.num p ≤ s.num v ∧ Str E p v ∧ (∀ q ∈ s.path, s.num q ≤ s.num v → s.num q ≤ s.num p) ∧ ∀ w ∈ (E v).take (s.gone v), w ∈ s.opn → s.low p ≤ s.num w
  k1 : ∀ m ∈ s.done, Knot E m ∧ ∀ x ∈ m, s.num x = CL
  k2 : ∀ v, s.num v = CL → Rch (Ed E) v v → ∃ m ∈ s.done, v ∈ m
  k3 : s.done.Pairwise (fun a b => ∀ x ∈ a, x ∉ b)

def start : S := ⟨fun _ => 0, fun _ => 0, fun _ => 0, 0, [], [], []⟩
theorem Inv.start : Inv E n start where
  ord := ⟨[], by simp, rfl, by simp [Tj.start]⟩
  small := by decide
  inn v h := absurd rfl h
  a1 v := by simp [Tj.start]
  a2 := .nil
  a3 v h := by simp [Tj.start] at h
  a4 v h := by simp [Tj.start] at h
  a5 := .nil
  a6 v h := by simp [Tj.start, CL] at h
  a7 v h := by simp [Tj.start] at h
  a7' v _ := rfl
  a7'' v := Nat.zero_le _
  a8 v h := by simp [Tj.start] at h
  a9 v h := by simp [Tj.start] at h
  a10 v h := by simp [Tj.start] at h
  a11 v h := by simp [Tj.start] at h
  k1 m h := by simp [Tj.start] at h
  k2 v h := by simp [Tj.start, CL] at h
  k3 := .nil

variable {E n} {s : S}

theorem pairwise_inj {l : List Nat} {f : Nat → Nat} (h : l.Pairwise (fun a b => f a < f b)) {a b : Nat} (ha : a ∈ l) (hb : b ∈ l) (e : f a = f b) : a = b := by
  induction h with
  | nil => cases ha
  | @cons x l hx _ ih =>
    rcases List.mem_cons.1 ha with ea | ha'
    · rcases List.mem_cons.1 hb with eb | hb'
      · rw [ea, eb]
      · have := hx b hb'; rw [← ea] at this; omega
    · rcases List.mem_cons.1 hb with eb | hb'
      · have := hx a ha'; rw [← eb] at this; omega
      · exact ih ha' hb'

theorem Inv.inj (h : Inv E n s) {a b : Nat} (ha : a ∈ s.opn) (hb : b ∈ s.opn) (e : s.num a = s.num b) : a = b := pairwise_inj h.a2 ha hb e

theorem nodup_le : ∀ (n : Nat) (o : List Nat), o.Nodup → (∀ v ∈ o, v < n) → o.length ≤ n
  | 0, o, _, h => by
    cases o with
    | nil => simp
    | cons x l => exact absurd (h x (by simp)) (by omega)
  | n + 1, o, hd, h => by
    have h1 := nodup_le n (o.erase n) (hd.erase n) (fun v hv => by
      have h2 := h v (List.mem_of_mem_erase hv)
      have : v ≠ n := fun e => by subst e; exact (hd.not_mem_erase) hv
      omega)
    by_cases c : n ∈ o
    · rw [List.length_erase_of_mem c] at h1; omega
    · rw [List.erase_of_not_mem c] at h1; omega

theorem Inv.met_le (h : Inv E n s) : s.met ≤ n := by
  obtain ⟨o, h1, h2, h3⟩ := h.ord
  rw [← h2]
  exact nodup_le n o h1 (fun v hv => h.inn v ((h3 v).1 hv))

theorem Inv.met_lt (h : Inv E n s) {p : Nat} (hp : p < n) (h0 : s.num p = 0) : s.met < n := by
  obtain ⟨o, h1, h2, h3⟩ := h.ord
  have hnp : p ∉ o := fun hm => (h3 p).1 hm h0
  have := nodup_le n (p :: o) (List.nodup_cons.2 ⟨hnp, h1⟩) (fun v hv => by
    rcases List.mem_cons.1 hv with rfl | hv
    · exact hp
    · exact h.inn v ((h3 v).1 hv))
  simp only [List.length_cons] at this
  omega

theorem Inv.num_le (h : Inv E n s) {v : Nat} (hv : v ∈ s.opn) : s.num v < CL := Nat.lt_of_le_of_lt (h.a3 v hv) h.small

theorem Inv.not_opn (h : Inv E n s) {v : Nat} (h0 : s.num v = 0) : v ∉ s.opn := fun hv => ((h.a1 v).1 hv).1 h0

theorem take_succ_mem {l : List Nat} {k : Nat} {t : Nat} (ht : l[k]? = some t) {w : Nat} : w ∈ l.take (k + 1) ↔ (w ∈ l.take k ∨ w = t) := by
  rw [List.take_add_one, ht]; simp

/-- meets: the root, or along an edge of the path's end. -/
theorem Inv.meetC (h : Inv E n s) {p : Nat} (hp : p < n) (hn : n + 1 < CL) (h0 : s.num p = 0) (g : Nat → Nat)
    (hg : ∀ v, v ∉ s.path → g v = s.gone v) (hg2 : ∀ v, g v ≤ (E v).length) (hg3 : ∀ v ∈ s.path, ∀ w ∈ (E v).take (g v), w ∈ (E v).take (s.gone v) ∨ (w = p))
    (hr : ∀ v ∈ s.path, Rch (Ed E) v p) : Inv E n (meet { s with gone := g } p) := by
  have hlt := h.met_lt hp h0
  have hpo : p ∉ s.opn := h.not_opn h0
  have hpp : p ∉ s.path := fun c => hpo (h.a4 p c)
  have hne : ∀ v ∈ s.opn, v ≠ p := fun v hv e => hpo (e ▸ hv)
  have hnum : ∀ v, v ≠ p → upd s.num p (s.met + 1) v = s.num v := fun v e => upd_other _ _ e
  have hlow : ∀ v, v ≠ p → upd s.low p (s.met + 1) v = s.low v := fun v e => upd_other _ _ e
  have hnp : upd s.num p (s.met + 1) p = s.met + 1 := upd_same _ _ _
  have hlp : upd s.low p (s.met + 1) p = s.met + 1 := upd_same _ _ _
  have hsm := h.small
  have gtake : ∀ v ∈ s.opn, ∀ w ∈ (E v).take (g v), w ∈ (E v).take (s.gone v) ∨ (w = p ∧ v ∈ s.path) := fun v hv w hw => by
    by_cases c : v ∈ s.path
    · rcases hg3 v c w hw with k | k
      · exact .inl k
      · exact .inr ⟨k, c⟩
    · rw [hg v c] at hw; exact .inl hw
  refine ⟨?_, ?_, ?_, ?_, ?_, ?_, ?_, ?_, ?_, ?_, ?_, ?_, ?_, ?_, ?_, ?_, ?_, ?_, ?_⟩
  · obtain ⟨o, h1, h2, h3⟩ := h.ord
    refine ⟨p :: o, List.nodup_cons.2 ⟨fun hm => (h3 p).1 hm h0, h1⟩, by simp [meet, h2], fun v => ?_⟩
    show v ∈ p :: o ↔ upd s.num p (s.met + 1) v ≠ 0
    by_cases e : v = p
    · subst e; rw [hnp]; simp
    · rw [hnum v e, ← h3 v]; simp [e]
  · show s.met + 1 < CL; omega
  · intro v hv
    by_cases e : v = p
    · rw [e]; exact hp
    · exact h.inn v (by rw [← hnum v e]; exact hv)
  · intro v
    show v ∈ s.opn ++ [p] ↔ _ ∧ _
    by_cases e : v = p
    · subst e
      show _ ↔ upd s.num v (s.met + 1) v ≠ 0 ∧ upd s.num v (s.met + 1) v ≠ CL
      rw [hnp]; simp; omega
    · show _ ↔ upd s.num p (s.met + 1) v ≠ 0 ∧ upd s.num p (s.met + 1) v ≠ CL
      rw [hnum v e, ← h.a1 v]; simp [e]
  · show (s.opn ++ [p]).Pairwise _
    rw [List.pairwise_append]
    refine ⟨h.a2.imp_of_mem (fun {a b} ha hb hab => ?_), by simp, fun a ha b hb => ?_⟩
    · show upd s.num p (s.met + 1) a < upd s.num p (s.met + 1) b
      rw [hnum a (hne a ha), hnum b (hne b hb)]; exact hab
    · rcases List.mem_singleton.1 hb with rfl
      show upd s.num b (s.met + 1) a < upd s.num b (s.met + 1) b
      rw [hnum a (hne a ha), hnp]; have := h.a3 a ha; omega
  · intro v hv
    show upd s.num p (s.met + 1) v ≤ s.met + 1
    rcases List.mem_append.1 hv with hv | hv
    · rw [hnum v (hne v hv)]; have := h.a3 v hv; omega
    · rcases List.mem_singleton.1 hv with rfl; rw [hnp]; exact Nat.le_refl _
  · intro v hv
    rcases List.mem_append.1 hv with hv | hv
    · exact List.mem_append_left _ (h.a4 v hv)
    · exact List.mem_append_right _ hv
  · show (s.path ++ [p]).Pairwise _
    rw [List.pairwise_append]
    refine ⟨h.a5.imp_of_mem (fun {a b} ha hb hab => ?_), by simp, fun a ha b hb => ?_⟩
    · show upd s.num p (s.met + 1) a < upd s.num p (s.met + 1) b ∧ _
      rw [hnum a (hne a (h.a4 a ha)), hnum b (hne b (h.a4 b hb))]; exact hab
    · rcases List.mem_singleton.1 hb with rfl
      show upd s.num b (s.met + 1) a < upd s.num b (s.met + 1) b ∧ _
      rw [hnum a (hne a (h.a4 a ha)), hnp]; have := h.a3 a (h.a4 a ha); exact ⟨by omega, hr a ha⟩
  · intro v hv w hw
    have e : v ≠ p := fun e => by
      have : upd s.num p (s.met + 1) v = CL := hv
      rw [e, hnp] at this; omega
    have hv' : s.num v = CL := by rw [← hnum v e]; exact hv
    have hw' := h.a6 v hv' w hw
    have e2 : w ≠ p := fun e => by rw [e, h0] at hw'; simp [CL] at hw'
    show upd s.num p (s.met + 1) w = CL
    rw [hnum w e2]; exact hw'
  · intro v hv hvp
    show g v = _
    rcases List.mem_append.1 hv with hv | hv
    · have : v ∉ s.path := fun c => hvp (List.mem_append_left _ c)
      rw [hg v this]; exact h.a7 v hv this
    · exact absurd (List.mem_append_right _ hv) hvp
  · intro v hv
    show g v = 0
    by_cases e : v = p
    · rw [e, hg p hpp]; exact h.a7' p h0
    · have hv' : s.num v = 0 := by rw [← hnum v e]; exact hv
      rw [hg v (fun c => h.not_opn hv' (h.a4 v c))]; exact h.a7' v hv'
  · exact hg2
  · intro v hv w hw
    have hw2 : w ∈ (E v).take (g v) := hw
    show upd s.num p (s.met + 1) w ≠ 0
    by_cases e2 : w = p
    · rw [e2, hnp]; omega
    · rw [hnum w e2]
      rcases List.mem_append.1 hv with hv | hv
      · rcases gtake v hv w hw2 with k | k
        · exact h.a8 v hv w k
        · exact absurd k.1 e2
      · have e := List.mem_singleton.1 hv
        rw [e, hg p hpp, h.a7' p h0] at hw2
        simp at hw2
  · intro v hv
    show upd s.low p (s.met + 1) v ≤ upd s.num p (s.met + 1) v ∧ ∃ u ∈ s.opn ++ [p], upd s.num p (s.met + 1) u = upd s.low p (s.met + 1) v ∧ Str E v u
    rcases List.mem_append.1 hv with hv | hv
    · rw [hnum v (hne v hv), hlow v (hne v hv)]
      obtain ⟨h1, u, hu, h2, h3⟩ := h.a9 v hv
      exact ⟨h1, u, List.mem_append_left _ hu, by rw [hnum u (hne u hu)]; exact h2, h3⟩
    · rcases List.mem_singleton.1 hv with rfl
      rw [hnp, hlp]
      exact ⟨Nat.le_refl _, v, List.mem_append_right _ hv, hnp, .inl rfl⟩
  · intro v hv hvp
    show upd s.low p (s.met + 1) v < upd s.num p (s.met + 1) v
    rcases List.mem_append.1 hv with hv | hv
    · rw [hnum v (hne v hv), hlow v (hne v hv)]
      exact h.a10 v hv (fun c => hvp (List.mem_append_left _ c))
    · exact absurd (List.mem_append_right _ hv) hvp
  · intro v hv
    show ∃ q ∈ s.path ++ [p], upd s.num p (s.met + 1) q ≤ upd s.num p (s.met + 1) v ∧ Str E q v ∧ (∀ r ∈ s.path ++ [p], upd s.num p (s.met + 1) r ≤ upd s.num p (s.met + 1) v → upd s.num p (s.met + 1) r ≤ upd s.num p (s.met + 1) q) ∧ ∀ w ∈ (E v).take (g v), w ∈ s.opn ++ [p] → upd s.low p (s.met + 1) q ≤ upd s.num p (s.met + 1) w
    rcases List.mem_append.1 hv with hv | hv
    · obtain ⟨q, hq, h1, h2, h3, h4⟩ := h.a11 v hv
      have hqp := hne q (h.a4 q hq)
      refine ⟨q, List.mem_append_left _ hq, by rw [hnum q hqp, hnum v (hne v hv)]; exact h1, h2, fun r hr2 hle => ?_, fun w hw hwo => ?_⟩
      · rw [hnum v (hne v hv)] at hle
        rw [hnum q hqp]
        rcases List.mem_append.1 hr2 with hr2 | hr2
        · rw [hnum r (hne r (h.a4 r hr2))] at hle ⊢; exact h3 r hr2 hle
        · rcases List.mem_singleton.1 hr2 with rfl
          rw [hnp] at hle
          have := h.a3 v ‹v ∈ s.opn›; omega
      · rw [hlow q hqp]
        have hql := (h.a9 q (h.a4 q hq)).1
        have hqm := h.a3 q (h.a4 q hq)
        by_cases e2 : w = p
        · rw [e2, hnp]; omega
        · rw [hnum w e2]
          rcases gtake v hv w hw with k | k
          · refine h4 w k ?_
            rcases List.mem_append.1 hwo with hwo | hwo
            · exact hwo
            · exact absurd (List.mem_singleton.1 hwo) e2
          · exact absurd k.1 e2
    · rcases List.mem_singleton.1 hv with rfl
      refine ⟨v, List.mem_append_right _ hv, Nat.le_refl _, .inl rfl, fun _ _ k => k, fun w hw _ => ?_⟩
      rw [hg v hpp, h.a7' v h0] at hw
      simp at hw
  · intro m hm
    obtain ⟨h1, h2⟩ := h.k1 m hm
    refine ⟨h1, fun x hx => ?_⟩
    show upd s.num p (s.met + 1) x = CL
    have := h2 x hx
    rw [hnum x (fun e => by rw [e, h0] at this; simp [CL] at this)]; exact this
  · intro v hv hr2
    have e : v ≠ p := fun e => by
      have : upd s.num p (s.met + 1) v = CL := hv
      rw [e, hnp] at this; omega
    exact h.k2 v (by rw [← hnum v e]; exact hv) hr2
  · exact h.k3

/-- Whoever stands at the path's end is the last of the path. -/
theorem Inv.last_le (h : Inv E n s) {P : List Nat} {a : Nat} (hp : s.path = P ++ [a]) {q : Nat} (hq : q ∈ s.path) : s.num q ≤ s.num a ∧ Str E q a := by
  have h5 := h.a5
  rw [hp, List.pairwise_append] at h5
  rw [hp] at hq
  rcases List.mem_append.1 hq with hq | hq
  · obtain ⟨h6, h7⟩ := h5.2.2 q hq a (by simp)
    exact ⟨by omega, .inr h7⟩
  · rcases List.mem_singleton.1 hq with rfl; exact ⟨Nat.le_refl _, .inl rfl⟩

theorem Inv.root (h : Inv E n s) {p : Nat} (hp : p < n) (hn : n + 1 < CL) (h0 : s.num p = 0) (hpath : s.path = []) : Inv E n (meet s p) :=
  h.meetC (p := p) hp hn h0 s.gone (fun _ _ => rfl) h.a7'' (fun v hv => by rw [hpath] at hv; cases hv) (fun v hv => by rw [hpath] at hv; cases hv)

theorem Inv.tree (h : Inv E n s) {P : List Nat} {a t : Nat} (hp : s.path = P ++ [a]) (ht : (E a)[s.gone a]? = some t) (htn : t < n) (hn : n + 1 < CL) (h0 : s.num t = 0) : Inv E n (meet (inc s a) t) := by
  have ha : a ∈ s.path := by rw [hp]; simp
  have hlt : s.gone a < (E a).length := (List.getElem?_eq_some_iff.1 ht).1
  have hte : Ed E a t := List.mem_of_getElem? ht
  refine h.meetC htn hn h0 _ (fun v hv => upd_other _ _ (fun e => hv (e ▸ ha))) (fun v => ?_) (fun v hv w hw => ?_) (fun v hv => Str.ahead E (h.last_le hp hv).2 (.one hte))
  · by_cases e : v = a
    · subst e; rw [upd_same]; omega
    · rw [upd_other _ _ e]; exact h.a7'' v
  · by_cases e : v = a
    · subst e
      rw [upd_same] at hw
      exact (take_succ_mem ht).1 hw
    · rw [upd_other _ _ e] at hw; exact .inl hw

theorem Inv.back (h : Inv E n s) {P : List Nat} {a t : Nat} (hp : s.path = P ++ [a]) (ht : (E a)[s.gone a]? = some t) (h0 : s.num t ≠ 0) : Inv E n (edge s a t) := by
  have ha : a ∈ s.path := by rw [hp]; simp
  have hao := h.a4 a ha
  have hlt : s.gone a < (E a).length := (List.getElem?_eq_some_iff.1 ht).1
  have hte : Ed E a t := List.mem_of_getElem? ht
  have hg : ∀ v, v ≠ a → upd s.gone a (s.gone a + 1) v = s.gone v := fun v e => upd_other _ _ e
  have hl : ∀ v, v ≠ a → upd s.low a (min (s.low a) (s.num t)) v = s.low v := fun v e => upd_other _ _ e
  have hla : upd s.low a (min (s.low a) (s.num t)) a = min (s.low a) (s.num t) := upd_same _ _ _
  have hll : ∀ v, upd s.low a (min (s.low a) (s.num t)) v ≤ s.low v := fun v => by
    by_cases e : v = a
    · subst e; rw [hla]; exact Nat.min_le_left _ _
    · rw [hl v e]; exact Nat.le_refl _
  have gtake : ∀ v, ∀ w ∈ (E v).take (upd s.gone a (s.gone a + 1) v), w ∈ (E v).take (s.gone v) ∨ (v = a ∧ w = t) := fun v w hw => by
    by_cases e : v = a
    · subst e
      rw [upd_same] at hw
      rcases (take_succ_mem ht).1 hw with k | k
      · exact .inl k
      · exact .inr ⟨rfl, k⟩
    · rw [hg v e] at hw; exact .inl hw
  refine ⟨h.ord, h.small, h.inn, h.a1, h.a2, h.a3, h.a4, h.a5, h.a6, ?_, ?_, ?_, ?_, ?_, ?_, ?_, h.k1, h.k2, h.k3⟩
  · intro v hv hvp
    show upd s.gone a (s.gone a + 1) v = _
    rw [hg v (fun e => hvp (e ▸ ha))]; exact h.a7 v hv hvp
  · intro v hv
    show upd s.gone a (s.gone a + 1) v = 0
    rw [hg v (fun e => ((h.a1 a).1 hao).1 (e ▸ hv))]; exact h.a7' v hv
  · intro v
    show upd s.gone a (s.gone a + 1) v ≤ _
    by_cases e : v = a
    · subst e; rw [upd_same]; omega
    · rw [hg v e]; exact h.a7'' v
  · intro v hv w hw
    rcases gtake v w hw with k | k
    · exact h.a8 v hv w k
    · show s.num w ≠ 0
      rw [k.2]; exact h0
  · intro v hv
    show upd s.low a (min (s.low a) (s.num t)) v ≤ s.num v ∧ ∃ u ∈ s.opn, s.num u = upd s.low a (min (s.low a) (s.num t)) v ∧ Str E v u
    obtain ⟨h1, u, hu, h2, h3⟩ := h.a9 v hv
    refine ⟨Nat.le_trans (hll v) h1, ?_⟩
    by_cases e : v = a
    · subst e
      rw [hla]
      rcases Nat.le_total (s.low v) (s.num t) with c | c
      · exact ⟨u, hu, by rw [Nat.min_eq_left c]; exact h2, h3⟩
      · rw [Nat.min_eq_right c]
        refine ⟨t, (h.a1 t).2 ⟨h0, fun e => ?_⟩, rfl, .inr (.one hte)⟩
        have := h.num_le hv; omega
    · rw [hl v e]; exact ⟨u, hu, h2, h3⟩
  · intro v hv hvp
    exact Nat.lt_of_le_of_lt (hll v) (h.a10 v hv hvp)
  · intro v hv
    obtain ⟨p, hp1, h1, h2, h3, h4⟩ := h.a11 v hv
    refine ⟨p, hp1, h1, h2, h3, fun w hw hwo => ?_⟩
    rcases gtake v w hw with k | k
    · exact Nat.le_trans (hll p) (h4 w k hwo)
    · obtain ⟨rfl, rfl⟩ := k
      have h5 := h3 v ha (Nat.le_refl _)
      obtain rfl : p = v := h.inj (h.a4 p hp1) hao (by omega)
      show upd s.low p (min (s.low p) (s.num w)) p ≤ s.num w
      rw [hla]; exact Nat.min_le_right _ _

/-- No open place has a lesser number than the first one of the path: there is one ahead. -/
theorem Inv.before (h : Inv E n s) {P : List Nat} {a : Nat} (hp : s.path = P ++ [a]) (hlow : s.low a ≠ s.num a) : ∃ Q b, P = Q ++ [b] := by
  have ha : a ∈ s.path := by rw [hp]; simp
  obtain ⟨h1, u, hu, h2, _⟩ := h.a9 a (h.a4 a ha)
  obtain ⟨p, hp1, h3, _⟩ := h.a11 u hu
  have hpa : p ≠ a := fun e => by subst e; omega
  rw [hp] at hp1
  rcases List.mem_append.1 hp1 with c | c
  · cases hP : P.reverse with
    | nil =>
      have : P = [] := by simpa using hP
      rw [this] at c; cases c
    | cons b Q => exact ⟨Q.reverse, b, by rw [← List.reverse_reverse P, hP]; simp⟩
  · exact absurd (List.mem_singleton.1 c) hpa

def goBack (s : S) (P : List Nat) (a b : Nat) : S := { s with path := P, low := upd s.low b (min (s.low b) (s.low a)) }

theorem Inv.goBack (h : Inv E n s) {Q : List Nat} {a b : Nat} (hp : s.path = (Q ++ [b]) ++ [a]) (hgone : s.gone a = (E a).length) (hlow : s.low a ≠ s.num a) : Inv E n (goBack s (Q ++ [b]) a b) := by
  have ha : a ∈ s.path := by rw [hp]; simp
  have hb : b ∈ s.path := by rw [hp]; simp
  have hao := h.a4 a ha
  have hbo := h.a4 b hb
  have hsub : ∀ v ∈ Q ++ [b], v ∈ s.path := fun v hv => by rw [hp]; exact List.mem_append_left _ hv
  have h5 := h.a5
  rw [hp, List.pairwise_append] at h5
  obtain ⟨hba, hRba⟩ := h5.2.2 b (by simp) a (by simp)
  have h5' := List.pairwise_append.1 h5.1
  have hqb : ∀ q ∈ Q ++ [b], s.num q ≤ s.num b := fun q hq => by
    rcases List.mem_append.1 hq with hq | hq
    · have := (h5'.2.2 q hq b (by simp)).1; omega
    · rcases List.mem_singleton.1 hq with rfl; exact Nat.le_refl _
  have hl : ∀ v, v ≠ b → upd s.low b (min (s.low b) (s.low a)) v = s.low v := fun v e => upd_other _ _ e
  have hlb : upd s.low b (min (s.low b) (s.low a)) b = min (s.low b) (s.low a) := upd_same _ _ _
  have hll : ∀ v, upd s.low b (min (s.low b) (s.low a)) v ≤ s.low v := fun v => by
    by_cases e : v = b
    · subst e; rw [hlb]; exact Nat.min_le_left _ _
    · rw [hl v e]; exact Nat.le_refl _
  have hba' : a ≠ b := fun e => by subst e; omega
  have hanot : ∀ v ∈ Q ++ [b], v ≠ a := fun v hv e => by have := hqb v hv; rw [e] at this; omega
  have hcases : ∀ v, v ∉ Q ++ [b] → v ∉ s.path ∨ v = a := fun v hv => by
    by_cases e : v = a
    · exact .inr e
    · refine .inl (fun c => ?_)
      rw [hp] at c
      rcases List.mem_append.1 c with c | c
      · exact hv c
      · exact e (List.mem_singleton.1 c)
  obtain ⟨l1, u, hu, l2, l3⟩ := h.a9 a hao
  refine ⟨h.ord, h.small, h.inn, h.a1, h.a2, h.a3, fun v hv => h.a4 v (hsub v hv), h5.1, h.a6, ?_, h.a7', h.a7'', h.a8, ?_, ?_, ?_, h.k1, h.k2, h.k3⟩
  · intro v hv hvp
    rcases hcases v hvp with c | c
    · exact h.a7 v hv c
    · rw [c]; exact hgone
  · intro v hv
    show upd s.low b (min (s.low b) (s.low a)) v ≤ s.num v ∧ ∃ u ∈ s.opn, s.num u = upd s.low b (min (s.low b) (s.low a)) v ∧ Str E v u
    obtain ⟨k1, x, hx, k2, k3⟩ := h.a9 v hv
    refine ⟨Nat.le_trans (hll v) k1, ?_⟩
    by_cases e : v = b
    · subst e
      rw [hlb]
      rcases Nat.le_total (s.low v) (s.low a) with c | c
      · exact ⟨x, hx, by rw [Nat.min_eq_left c]; exact k2, k3⟩
      · exact ⟨u, hu, by rw [Nat.min_eq_right c]; exact l2, .inr (Str.then E hRba l3)⟩
    · rw [hl v e]; exact ⟨x, hx, k2, k3⟩
  · intro v hv hvp
    show upd s.low b (min (s.low b) (s.low a)) v < s.num v
    refine Nat.lt_of_le_of_lt (hll v) ?_
    rcases hcases v hvp with c | c
    · exact h.a10 v hv c
    · subst c; omega
  · intro v hv
    obtain ⟨p, hp1, g1, g2, g3, g4⟩ := h.a11 v hv
    by_cases e : p = a
    · subst e
      refine ⟨b, by simp [Tj.goBack], by show s.num b ≤ s.num v; omega, Str.trans E (Or.inr hRba) g2, fun q hq _ => hqb q hq, fun w hw hwo => ?_⟩
      show upd s.low b (min (s.low b) (s.low p)) b ≤ s.num w
      rw [hlb]
      exact Nat.le_trans (Nat.min_le_right _ _) (g4 w hw hwo)
    · refine ⟨p, ?_, g1, g2, fun q hq hle => g3 q (hsub q hq) hle, fun w hw hwo => Nat.le_trans (hll p) (g4 w hw hwo)⟩
      rw [hp] at hp1
      rcases List.mem_append.1 hp1 with c | c
      · exact c
      · exact absurd (List.mem_singleton.1 c) e

def close (s : S) (P pre M : List Nat) (k : Bool) : S := { s with path := P, opn := pre, num := closeN s.num M, done := if k then s.done ++ [M] else s.done }

theorem Inv.split (h : Inv E n s) {a : Nat} (ha : a ∈ s.opn) : ∃ pre rest, s.opn = pre ++ a :: rest ∧ a ∉ pre := by
  obtain ⟨pre, rest, h1⟩ := List.append_of_mem ha
  refine ⟨pre, rest, h1, fun c => ?_⟩
  have h2 := h.a2
  rw [h1, List.pairwise_append] at h2
  have := h2.2.2 a c a (by simp)
  omega

theorem Inv.close (h : Inv E n s) {P pre rest : List Nat} {a : Nat} (hp : s.path = P ++ [a]) (hgone : s.gone a = (E a).length) (hlow : s.low a = s.num a) (ho : s.opn = pre ++ a :: rest) :
    Inv E n (close s P pre (a :: rest) (decide (1 < (a :: rest).length) || (E a).contains a)) := by
  have ha : a ∈ s.path := by rw [hp]; simp
  have hao := h.a4 a ha
  have hsub : ∀ v ∈ P, v ∈ s.path := fun v hv => by rw [hp]; exact List.mem_append_left _ hv
  have h2 := h.a2
  rw [ho, List.pairwise_append] at h2
  have hpre : ∀ v ∈ pre, s.num v < s.num a := fun v hv => h2.2.2 v hv a (by simp)
  have hrest : ∀ v ∈ rest, s.num a < s.num v := fun v hv => (List.pairwise_cons.1 h2.2.1).1 v hv
  obtain ⟨M, hM⟩ : ∃ M, M = a :: rest := ⟨_, rfl⟩
  have hMle : ∀ v ∈ M, s.num a ≤ s.num v := fun v hv => by
    rw [hM] at hv
    rcases List.mem_cons.1 hv with rfl | hv
    · exact Nat.le_refl _
    · have := hrest v hv; omega
  have hMo : ∀ v ∈ M, v ∈ s.opn := fun v hv => by rw [ho, ← hM]; exact List.mem_append_right _ hv
  have hpo : ∀ v ∈ pre, v ∈ s.opn := fun v hv => by rw [ho]; exact List.mem_append_left _ hv
  have hpM : ∀ v ∈ pre, v ∉ M := fun v hv c => by have := hpre v hv; have := hMle v c; omega
  have hoM : ∀ v ∈ s.opn, s.num a ≤ s.num v → v ∈ M := fun v hv hle => by
    rw [ho, ← hM] at hv
    rcases List.mem_append.1 hv with hv | hv
    · have := hpre v hv; omega
    · exact hv
  have hpa : ∀ v ∈ P, s.num v < s.num a := fun v hv => by
    have h5 := h.a5
    rw [hp, List.pairwise_append] at h5
    exact (h5.2.2 v hv a (by simp)).1
  have hPM : ∀ v ∈ P, v ∉ M := fun v hv c => by have := hpa v hv; have := hMle v c; omega
  -- whose edges are all behind
  have hall : ∀ v ∈ M, s.gone v = (E v).length := fun v hv => by
    by_cases e : v = a
    · rw [e]; exact hgone
    · refine h.a7 v (hMo v hv) (fun c => ?_)
      have h6 := (h.last_le hp c).1
      exact e (h.inj (hMo v hv) hao (by have := hMle v hv; omega))
  have hpv : ∀ v ∈ M, ∃ _ : Str E a v, ∀ w ∈ (E v).take (s.gone v), w ∈ s.opn → s.low a ≤ s.num w := fun v hv => by
    obtain ⟨p, hp1, g1, g2, g3, g4⟩ := h.a11 v (hMo v hv)
    have g5 := g3 a ha (hMle v hv)
    have g6 := (h.last_le hp hp1).1
    obtain rfl : p = a := h.inj (h.a4 p hp1) hao (by omega)
    exact ⟨g2, g4⟩
  have hclos : ∀ v w, (v ∈ M ∨ s.num v = CL) → Ed E v w → (w ∈ M ∨ s.num w = CL) := fun v w hv hw => by
    rcases hv with hv | hv
    · obtain ⟨_, g⟩ := hpv v hv
      rw [hall v hv, List.take_length] at g
      have h8 := h.a8 v (hMo v hv) w (by rw [hall v hv, List.take_length]; exact hw)
      by_cases c : s.num w = CL
      · exact .inr c
      · have hwo := (h.a1 w).2 ⟨h8, c⟩
        have := g w hw hwo
        exact .inl (hoM w hwo (by omega))
    · exact .inr (h.a6 v hv w hw)
  have hrc : ∀ v w, v ∈ M → Rch (Ed E) v w → (w ∈ M ∨ s.num w = CL) := fun v w hv hr => Rch.closed (P := fun x => x ∈ M ∨ s.num x = CL) hclos hr (.inl hv)
  have hMnc : ∀ v ∈ M, s.num v ≠ CL := fun v hv => ((h.a1 v).1 (hMo v hv)).2
  have hcc : ∀ v w, s.num v = CL → Rch (Ed E) v w → s.num w = CL := fun v w hv hr => Rch.closed (P := fun x => s.num x = CL) (fun x y hx hy => h.a6 x hx y hy) hr hv
  have haM : a ∈ M := by rw [hM]; simp
  -- each leads to the first one
  have hto : ∀ k, ∀ v, s.num v ≤ k → v ∈ M → Str E v a := by
    intro k
    induction k with
    | zero => intro v hk hv; exact absurd (by omega) ((h.a1 v).1 (hMo v hv)).1
    | succ k ih =>
      intro v hk hv
      by_cases e : v = a
      · exact .inl e
      · have hvp : v ∉ s.path := fun c => by
          have h6 := (h.last_le hp c).1
          exact e (h.inj (hMo v hv) hao (by have := hMle v hv; omega))
        have h10 := h.a10 v (hMo v hv) hvp
        obtain ⟨_, u, hu, g2, g3⟩ := h.a9 v (hMo v hv)
        have huM : u ∈ M := by
          rcases g3 with rfl | g3
          · exact hv
          · rcases hrc v u hv g3 with c | c
            · exact c
            · exact absurd c ((h.a1 u).1 hu).2
        exact g3.trans E (ih u (by omega) huM)
  have hscc : ∀ x ∈ M, ∀ y, Rch (Ed E) x y → Rch (Ed E) y x → y ∈ M := fun x hx y h1 h2 => by
    rcases hrc x y hx h1 with c | c
    · exact c
    · exact absurd (hcc y x c h2) (hMnc x hx)
  have hstr : ∀ x ∈ M, ∀ y ∈ M, Str E x y := fun x hx y hy => by
    obtain ⟨g, _⟩ := hpv y hy
    exact (hto _ x (Nat.le_refl _) hx).trans E g
  have hNd : M.Nodup := by
    rw [hM]
    exact (h2.2.1).imp (fun {x y} hxy e => by subst e; omega)
  obtain ⟨kb, hkb⟩ : ∃ kb, kb = (decide (1 < (a :: rest).length) || (E a).contains a) := ⟨_, rfl⟩
  have hknot : kb = true → Knot E M := fun hk => by
    refine ⟨(fun e => by rw [e] at haM; cases haM), hNd, fun x hx y => ⟨fun hy => ?_, fun hy => hscc x hx y hy.1 hy.2⟩⟩
    have hself : ∀ x ∈ M, Rch (Ed E) x x := fun x hx => by
      have : (∃ z ∈ M, z ≠ x) ∨ (M = [a] ∧ Ed E a a) := by
        rw [hkb, Bool.or_eq_true, decide_eq_true_iff, List.contains_iff_mem] at hk
        cases hrr : rest with
        | nil =>
          rw [hrr] at hk hM
          rcases hk with hk | hk
          · simp at hk
          · exact .inr ⟨hM, hk⟩
        | cons z r =>
          have hzM : z ∈ M := by rw [hM, hrr]; simp
          have hza : z ≠ a := fun e => by have := hrest z (by rw [hrr]; simp); rw [e] at this; omega
          by_cases e : x = a
          · exact .inl ⟨z, hzM, fun e2 => hza (e2.trans e)⟩
          · exact .inl ⟨a, haM, fun e2 => e e2.symm⟩
      rcases this with ⟨z, hz, hne⟩ | ⟨hMa, hE⟩
      · rcases hstr x hx z hz with e | r1
        · exact absurd e.symm hne
        · exact Str.then E r1 (hstr z hz x hx)
      · rw [hMa] at hx
        rcases List.mem_singleton.1 hx with rfl
        exact .one hE
    refine ⟨?_, ?_⟩
    · rcases hstr x hx y hy with e | r
      · rw [← e]; exact hself x hx
      · exact r
    · rcases hstr y hy x hx with e | r
      · rw [e]; exact hself x hx
      · exact r
  have hnoknot : kb = false → ∀ x ∈ M, ¬ Rch (Ed E) x x := fun hk x hx hr => by
    have hx' := hx
    rw [hkb, Bool.or_eq_false_iff, decide_eq_false_iff_not] at hk
    have hMa : M = [a] := by
      rw [hM]
      cases hrr : rest with
      | nil => rfl
      | cons z r => rw [hrr] at hk; simp at hk
    rw [hMa] at hx
    rcases List.mem_singleton.1 hx with rfl
    have hnE : ¬ Ed E x x := fun c => by
      have : (E x).contains x = true := List.contains_iff_mem.2 c
      rw [this] at hk; simp at hk
    obtain ⟨c, h1, h3⟩ := hr.first
    have hcx : Rch (Ed E) c x := by
      rcases h3 with rfl | h3
      · exact absurd h1 hnE
      · exact h3
    have := hscc x hx' c (.one h1) hcx
    rw [hMa] at this
    rcases List.mem_singleton.1 this with rfl
    exact hnE h1
  rw [← hkb, ← hM]
  rw [← hM] at ho
  have hcn : ∀ v, v ∈ M → closeN s.num M v = CL := fun v hv => by simp [closeN, hv]
  have hcn' : ∀ v, v ∉ M → closeN s.num M v = s.num v := fun v hv => by simp [closeN, hv]
  refine ⟨?_, h.small, ?_, ?_, ?_, ?_, ?_, ?_, ?_, ?_, ?_, h.a7'', ?_, ?_, ?_, ?_, ?_, ?_, ?_⟩
  · obtain ⟨o, h1, h2, h3⟩ := h.ord
    refine ⟨o, h1, h2, fun v => (h3 v).trans ?_⟩
    show s.num v ≠ 0 ↔ closeN s.num M v ≠ 0
    by_cases c : v ∈ M
    · rw [hcn v c]; exact ⟨fun _ => by simp [CL], fun _ => ((h.a1 v).1 (hMo v c)).1⟩
    · rw [hcn' v c]
  · intro v hv
    by_cases c : v ∈ M
    · exact h.inn v ((h.a1 v).1 (hMo v c)).1
    · exact h.inn v (by rw [← hcn' v c]; exact hv)
  · intro v
    show v ∈ pre ↔ closeN s.num M v ≠ 0 ∧ closeN s.num M v ≠ CL
    by_cases c : v ∈ M
    · rw [hcn v c]; exact ⟨fun k => absurd c (hpM v k), fun k => absurd rfl k.2⟩
    · rw [hcn' v c, ← h.a1 v]
      refine ⟨hpo v, fun k => ?_⟩
      rw [ho] at k
      rcases List.mem_append.1 k with k | k
      · exact k
      · exact absurd k c
  · refine h2.1.imp_of_mem (fun {x y} hx hy hxy => ?_)
    show closeN s.num M x < closeN s.num M y
    rw [hcn' x (hpM x hx), hcn' y (hpM y hy)]; exact hxy
  · intro v hv
    show closeN s.num M v ≤ s.met
    rw [hcn' v (hpM v hv)]; exact h.a3 v (hpo v hv)
  · intro v hv
    have h1 := h.a4 v (hsub v hv)
    rw [ho] at h1
    rcases List.mem_append.1 h1 with k | k
    · exact k
    · exact absurd k (hPM v hv)
  · have h5 := h.a5
    rw [hp, List.pairwise_append] at h5
    refine h5.1.imp_of_mem (fun {x y} hx hy hxy => ?_)
    show closeN s.num M x < closeN s.num M y ∧ _
    rw [hcn' x (hPM x hx), hcn' y (hPM y hy)]; exact hxy
  · intro v hv w hw
    have hv' : v ∈ M ∨ s.num v = CL := by
      by_cases c : v ∈ M
      · exact .inl c
      · exact .inr (by rw [← hcn' v c]; exact hv)
    show closeN s.num M w = CL
    by_cases c : w ∈ M
    · exact hcn w c
    · rw [hcn' w c]
      rcases hclos v w hv' hw with k | k
      · exact absurd k c
      · exact k
  · intro v hv hvp
    refine h.a7 v (hpo v hv) (fun c => ?_)
    rw [hp] at c
    rcases List.mem_append.1 c with c | c
    · exact hvp c
    · rcases List.mem_singleton.1 c with rfl
      have := hpre v hv; omega
  · intro v hv
    have c : v ∉ M := fun c => by
      have : closeN s.num M v = 0 := hv
      rw [hcn v c] at this; simp [CL] at this
    exact h.a7' v (by rw [← hcn' v c]; exact hv)
  · intro v hv w hw
    show closeN s.num M w ≠ 0
    by_cases c : w ∈ M
    · rw [hcn w c]; simp [CL]
    · rw [hcn' w c]; exact h.a8 v (hpo v hv) w hw
  · intro v hv
    show s.low v ≤ closeN s.num M v ∧ ∃ u ∈ pre, closeN s.num M u = s.low v ∧ Str E v u
    rw [hcn' v (hpM v hv)]
    obtain ⟨h1, u, hu, h3, h4⟩ := h.a9 v (hpo v hv)
    have := hpre v hv
    have hup : u ∈ pre := by
      rw [ho] at hu
      rcases List.mem_append.1 hu with k | k
      · exact k
      · have := hMle u k; omega
    exact ⟨h1, u, hup, by rw [hcn' u (hpM u hup)]; exact h3, h4⟩
  · intro v hv hvp
    show s.low v < closeN s.num M v
    rw [hcn' v (hpM v hv)]
    refine h.a10 v (hpo v hv) (fun c => ?_)
    rw [hp] at c
    rcases List.mem_append.1 c with c | c
    · exact hvp c
    · rcases List.mem_singleton.1 c with rfl
      have := hpre v hv; omega
  · intro v hv
    obtain ⟨p, hp1, g1, g2, g3, g4⟩ := h.a11 v (hpo v hv)
    have hva := hpre v hv
    have hpP : p ∈ P := by
      rw [hp] at hp1
      rcases List.mem_append.1 hp1 with c | c
      · exact c
      · rcases List.mem_singleton.1 c with rfl
        omega
    refine ⟨p, hpP, ?_, g2, fun q hq hle => ?_, fun w hw hwo => ?_⟩
    · show closeN s.num M p ≤ closeN s.num M v
      rw [hcn' p (hPM p hpP), hcn' v (hpM v hv)]; exact g1
    · have hle' : closeN s.num M q ≤ closeN s.num M v := hle
      show closeN s.num M q ≤ closeN s.num M p
      rw [hcn' q (hPM q hq), hcn' v (hpM v hv)] at hle'
      rw [hcn' q (hPM q hq), hcn' p (hPM p hpP)]
      exact g3 q (hsub q hq) hle'
    · show s.low p ≤ closeN s.num M w
      rw [hcn' w (hpM w hwo)]
      exact g4 w hw (hpo w hwo)
  · intro m hm
    have hold : ∀ m ∈ s.done, Knot E m ∧ ∀ x ∈ m, closeN s.num M x = CL := fun m hm => by
      obtain ⟨h1, h3⟩ := h.k1 m hm
      refine ⟨h1, fun x hx => ?_⟩
      by_cases c : x ∈ M
      · exact hcn x c
      · rw [hcn' x c]; exact h3 x hx
    cases hk : kb with
    | false =>
      rw [hk] at hm
      exact hold m hm
    | true =>
      rw [hk] at hm
      have hm' : m ∈ s.done ++ [M] := hm
      rcases List.mem_append.1 hm' with hm' | hm'
      · exact hold m hm'
      · rcases List.mem_singleton.1 hm' with rfl
        exact ⟨hknot hk, fun x hx => hcn x hx⟩
  · intro v hv hr
    by_cases c : v ∈ M
    · cases hk : kb with
      | false => exact absurd hr (hnoknot hk v c)
      | true => exact ⟨M, by simp [Tj.close], c⟩
    · obtain ⟨m, hm, hv2⟩ := h.k2 v (by rw [← hcn' v c]; exact hv) hr
      refine ⟨m, ?_, hv2⟩
      cases kb with
      | false => exact hm
      | true => exact List.mem_append_left _ hm
  · cases hk : kb with
    | false => exact h.k3
    | true =>
      show (s.done ++ [M]).Pairwise _
      rw [List.pairwise_append]
      refine ⟨h.k3, by simp, fun m hm b hb x hx hxb => ?_⟩
      rcases List.mem_singleton.1 hb with rfl
      exact hMnc x hxb ((h.k1 m hm).2 x hx)

/-- With no path nothing is open. -/
theorem Inv.none_open (h : Inv E n s) (hp : s.path = []) : s.opn = [] := by
  cases ho : s.opn with
  | nil => rfl
  | cons v l =>
    obtain ⟨p, hp1, _⟩ := h.a11 v (by rw [ho]; simp)
    rw [hp] at hp1; cases hp1

/-- All met, none on the path: just the knots were kept. -/
theorem Inv.ends (h : Inv E n s) (hp : s.path = []) (hall : ∀ v, v < n → s.num v ≠ 0) : (∀ m ∈ s.done, Knot E m) ∧ (∀ v, v < n → Rch (Ed E) v v → ∃ m ∈ s.done, v ∈ m) ∧ s.done.Pairwise (fun a b => ∀ x ∈ a, x ∉ b) ∧ ∀ m ∈ s.done, ∀ x ∈ m, x < n := by
  have ho := h.none_open hp
  refine ⟨fun m hm => (h.k1 m hm).1, fun v hv hr => h.k2 v ?_ hr, h.k3, fun m hm x hx => h.inn x (by rw [(h.k1 m hm).2 x hx]; simp [CL])⟩
  by_cases c : s.num v = CL
  · exact c
  · have := (h.a1 v).2 ⟨hall v hv, c⟩
    rw [ho] at this; cases this
end Tj
namespace Kn
/-- An edge leads from a to b. -/
abbrev El := List (Int × Int)
def R (l : El) (a b : Int) : Prop := (a, b) ∈ l
def Rising (k : List Int) : Prop := k.Pairwise (· < ·)

/-- The knots of edges, by their least nodes. -/
structure Knots (l : El) (K : List (List Int)) : Prop where
  ne : ∀ k ∈ K, k ≠ []
  up : ∀ k ∈ K, Rising k
  scc : ∀ k ∈ K, ∀ x ∈ k, ∀ y, y ∈ k ↔ (Rch (R l) x y ∧ Rch (R l) y x)
  all : ∀ x, Rch (R l) x x → ∃ k ∈ K, x ∈ k
  ord : K.Pairwise (fun a b => a.headD 0 < b.headD 0)

theorem sorted_ext : ∀ {l m : List Int}, Rising l → Rising m → (∀ x, x ∈ l ↔ x ∈ m) → l = m
  | [], [], _, _, _ => rfl
  | [], b :: m, _, _, h => absurd ((h b).2 (List.mem_cons_self ..)) (by simp)
  | a :: l, [], _, _, h => absurd ((h a).1 (List.mem_cons_self ..)) (by simp)
  | a :: l, b :: m, hl, hm, h => by
    obtain ⟨h1, h2⟩ := List.pairwise_cons.1 hl
    obtain ⟨h3, h4⟩ := List.pairwise_cons.1 hm
    have hab : a = b := by
      rcases List.mem_cons.1 ((h a).1 (List.mem_cons_self ..)) with e | e
      · exact e
      · rcases List.mem_cons.1 ((h b).2 (List.mem_cons_self ..)) with e' | e'
        · exact e'.symm
        · have := h1 b e'; have := h3 a e; omega
    subst hab
    rw [sorted_ext h2 h4 (fun x => ⟨fun hx => by
      rcases List.mem_cons.1 ((h x).1 (List.mem_cons_of_mem _ hx)) with e | e
      · have := h1 x hx; omega
      · exact e, fun hx => by
      rcases List.mem_cons.1 ((h x).2 (List.mem_cons_of_mem _ hx)) with e | e
      · have := h3 x hx; omega
      · exact e⟩)]

theorem heads_ext : ∀ {l m : List (List Int)}, l.Pairwise (fun a b => a.headD 0 < b.headD 0) → m.Pairwise (fun a b => a.headD 0 < b.headD 0) → (∀ x, x ∈ l ↔ x ∈ m) → l = m
  | [], [], _, _, _ => rfl
  | [], b :: m, _, _, h => absurd ((h b).2 (List.mem_cons_self ..)) (by simp)
  | a :: l, [], _, _, h => absurd ((h a).1 (List.mem_cons_self ..)) (by simp)
  | a :: l, b :: m, hl, hm, h => by
    obtain ⟨h1, h2⟩ := List.pairwise_cons.1 hl
    obtain ⟨h3, h4⟩ := List.pairwise_cons.1 hm
    have hab : a = b := by
      rcases List.mem_cons.1 ((h a).1 (List.mem_cons_self ..)) with e | e
      · exact e
      · rcases List.mem_cons.1 ((h b).2 (List.mem_cons_self ..)) with e' | e'
        · exact e'.symm
        · have := h1 b e'; have := h3 a e; omega
    subst hab
    rw [heads_ext h2 h4 (fun x => ⟨fun hx => by
      rcases List.mem_cons.1 ((h x).1 (List.mem_cons_of_mem _ hx)) with e | e
      · have := h1 x hx; rw [e] at this; omega
      · exact e, fun hx => by
      rcases List.mem_cons.1 ((h x).2 (List.mem_cons_of_mem _ hx)) with e | e
      · have := h3 x hx; rw [e] at this; omega
      · exact e⟩)]

theorem Knots.sub {l m : El} {K J : List (List Int)} (h : Knots l K) (j : Knots m J) (hlm : ∀ a b, R l a b ↔ R m a b) : ∀ k ∈ K, k ∈ J := fun k hk => by
  have hR : ∀ a b, Rch (R l) a b ↔ Rch (R m) a b := fun a b => ⟨fun h => h.mono (fun x y => (hlm x y).1), fun h => h.mono (fun x y => (hlm x y).2)⟩
  obtain ⟨x, hx⟩ : ∃ x, x ∈ k := by
    cases hkk : k with
    | nil => exact absurd hkk (h.ne k hk)
    | cons x _ => exact ⟨x, by simp⟩
  obtain ⟨k', hk', hx'⟩ := j.all x ((hR _ _).1 ((h.scc k hk x hx x).1 hx).1)
  have : k = k' := sorted_ext (h.up k hk) (j.up k' hk') (fun y => by rw [h.scc k hk x hx y, j.scc k' hk' x hx' y, hR, hR])
  rw [this]; exact hk'

/-- There is but one answer; it hangs on which edges there are alone. -/
theorem Knots.one {l m : El} {K J : List (List Int)} (h : Knots l K) (j : Knots m J) (hlm : ∀ a b, R l a b ↔ R m a b) : K = J :=
  heads_ext h.ord j.ord (fun k => ⟨h.sub j hlm k, j.sub h (fun a b => (hlm a b).symm) k⟩)

theorem Knots.node {l : El} {K : List (List Int)} (h : Knots l K) {k : List Int} (hk : k ∈ K) {x : Int} (hx : x ∈ k) : Rch (R l) x x := ((h.scc k hk x hx x).1 hx).1

/-- Whoever is in a knot has an edge. -/
theorem Knots.leads {l : El} {K : List (List Int)} (h : Knots l K) {k : List Int} (hk : k ∈ K) {x : Int} (hx : x ∈ k) : ∃ e ∈ l, e.1 = x := by
  obtain ⟨c, hc, _⟩ := (h.node hk hx).first
  exact ⟨_, hc, rfl⟩

/-- The victim. -/
def IsVictim (K : List (List Int)) (v : Int) (ok : Bool) : Prop :=
  if K = [] then v = 0 ∧ ok = false else ok = true ∧ (∃ k ∈ K, v ∈ k) ∧ ∀ k ∈ K, ∀ x ∈ k, x ≤ v
theorem IsVictim.one {K : List (List Int)} {v w : Int} {a b : Bool} (h : IsVictim K v a) (k : IsVictim K w b) : v = w ∧ a = b := by
  unfold IsVictim at h k
  by_cases e : K = []
  · rw [if_pos e] at h k; exact ⟨by rw [h.1, k.1], by rw [h.2, k.2]⟩
  · rw [if_neg e] at h k
    obtain ⟨h1, ⟨k1, hk1, hv1⟩, h3⟩ := h
    obtain ⟨g1, ⟨k2, hk2, hv2⟩, g3⟩ := k
    have := h3 k2 hk2 w hv2
    have := g3 k1 hk1 v hv1
    exact ⟨by omega, by rw [h1, g1]⟩

/-- A node of edges. -/
def Nd (l : El) (x : Int) : Prop := ∃ e ∈ l, e.1 = x ∨ e.2 = x
/-- Free nodes, rising. -/
structure IsFree (l : El) (f : List Int) : Prop where
  up : Rising f
  mem : ∀ x, x ∈ f ↔ (Nd l x ∧ ∀ e ∈ l, e.1 ≠ x)
theorem IsFree.one {l : El} {f g : List Int} (h : IsFree l f) (k : IsFree l g) : f = g := sorted_ext h.up k.up (fun x => by rw [h.mem, k.mem])

theorem ne_nil_iff {α : Type} {l : List α} : l ≠ [] ↔ ∃ x, x ∈ l := by
  cases l with
  | nil => simp
  | cons x l => exact ⟨fun _ => ⟨x, by simp⟩, fun _ => by simp⟩

/-- Of nodes without a circle one leads to no other. -/
theorem top (l : El) (hac : ∀ x, ¬ Rch (R l) x x) : ∀ (s : List Int), s ≠ [] → ∃ m ∈ s, ∀ y ∈ s, ¬ Rch (R l) m y
  | [], h => absurd rfl h
  | [x], _ => ⟨x, by simp, fun y hy => by rcases List.mem_singleton.1 hy with rfl; exact hac y⟩
  | x :: y :: s, _ => by
    obtain ⟨m, hm, h⟩ := top l hac (y :: s) (by simp)
    by_cases c : Rch (R l) m x
    · refine ⟨x, by simp, fun z hz hr => ?_⟩
      rcases List.mem_cons.1 hz with rfl | hz
      · exact hac z hr
      · exact h z hz (c.trans hr)
    · refine ⟨m, List.mem_cons_of_mem _ hm, fun z hz hr => ?_⟩
      rcases List.mem_cons.1 hz with rfl | hz
      · exact c hr
      · exact h z hz hr

/-- Where there is no knot and an edge, somebody is free. -/
theorem free_of_none {l : El} {f : List Int} (h : Knots l []) (hf : IsFree l f) : l = [] ↔ f = [] := by
  constructor
  · rintro rfl
    cases hff : f with
    | nil => rfl
    | cons x t =>
      obtain ⟨⟨e, he, _⟩, _⟩ := (hf.mem x).1 (by rw [hff]; simp)
      cases he
  · intro hff
    cases hl : l with
    | nil => rfl
    | cons e t =>
      exfalso
      have hac : ∀ x, ¬ Rch (R l) x x := fun x hr => by
        obtain ⟨k, hk, _⟩ := h.all x hr; cases hk
      obtain ⟨m, hm, hm2⟩ := top l hac (l.map (·.2)) (by rw [hl]; simp)
      obtain ⟨e', he', e2⟩ := List.mem_map.1 hm
      have : m ∈ f := (hf.mem m).2 ⟨⟨e', he', .inr e2⟩, fun x hx hxm => hm2 x.2 (List.mem_map.2 ⟨x, hx, rfl⟩) (.one (show (m, x.2) ∈ l by rw [← hxm]; exact hx))⟩
      rw [hff] at this; cases this
end Kn

namespace Kn
/-- Edges laid out: nodes ns, rising; by place the places to which edges lead. -/
structure Grf (l : El) (ns : List Int) (E : Nat → List Nat) : Prop where
  up : Rising ns
  mem : ∀ x, x ∈ ns ↔ Nd l x
  out : ∀ v, ∀ w ∈ E v, v < ns.length ∧ w < ns.length
  edge : ∀ v w (hv : v < ns.length) (hw : w < ns.length), w ∈ E v ↔ R l ns[v] ns[w]

variable {l : El} {ns : List Int} {E : Nat → List Nat}

theorem Grf.inj (h : Grf l ns E) {v w : Nat} (hv : v < ns.length) (hw : w < ns.length) (e : ns[v] = ns[w]) : v = w := by
  have h1 := List.pairwise_iff_getElem.1 h.up
  rcases Nat.lt_trichotomy v w with c | c | c
  · have := h1 v w hv hw c; omega
  · exact c
  · have := h1 w v hw hv c; omega

theorem Grf.to (h : Grf l ns E) {v w : Nat} (hr : Rch (Tj.Ed E) v w) : ∃ (hv : v < ns.length) (hw : w < ns.length), Rch (R l) ns[v] ns[w] := by
  induction hr with
  | one e => obtain ⟨h1, h2⟩ := h.out _ _ e; exact ⟨h1, h2, .one ((h.edge _ _ h1 h2).1 e)⟩
  | step e _ ih =>
    obtain ⟨h1, h2⟩ := h.out _ _ e
    obtain ⟨h3, h4, h5⟩ := ih
    exact ⟨h1, h4, .step ((h.edge _ _ h1 h2).1 e) h5⟩

theorem Grf.from (h : Grf l ns E) {x y : Int} (hr : Rch (R l) x y) : ∃ (v w : Nat) (hv : v < ns.length) (hw : w < ns.length), ns[v] = x ∧ ns[w] = y ∧ Rch (Tj.Ed E) v w := by
  have nd : ∀ {x y : Int}, R l x y → ∃ (v w : Nat) (hv : v < ns.length) (hw : w < ns.length), ns[v] = x ∧ ns[w] = y ∧ w ∈ E v := fun {x y} hxy => by
    obtain ⟨v, hv, e1⟩ := List.mem_iff_getElem.1 ((h.mem x).2 ⟨_, hxy, .inl rfl⟩)
    obtain ⟨w, hw, e2⟩ := List.mem_iff_getElem.1 ((h.mem y).2 ⟨_, hxy, .inr rfl⟩)
    exact ⟨v, w, hv, hw, e1, e2, (h.edge v w hv hw).2 (by rw [e1, e2]; exact hxy)⟩
  induction hr with
  | one e =>
    obtain ⟨v, w, hv, hw, e1, e2, e3⟩ := nd e
    exact ⟨v, w, hv, hw, e1, e2, .one e3⟩
  | step e _ ih =>
    obtain ⟨v, w, hv, hw, e1, e2, e3⟩ := nd e
    obtain ⟨w', z, hw', hz, f1, f2, f3⟩ := ih
    obtain rfl : w = w' := h.inj hw hw' (by rw [e2, f1])
    exact ⟨v, z, hv, hz, e1, f2, .step e3 f3⟩

theorem Grf.iff (h : Grf l ns E) {v w : Nat} (hv : v < ns.length) (hw : w < ns.length) : Rch (R l) ns[v] ns[w] ↔ Rch (Tj.Ed E) v w := by
  constructor
  · intro hr
    obtain ⟨a, b, ha, hb, e1, e2, e3⟩ := h.from hr
    obtain rfl := h.inj ha hv e1
    obtain rfl := h.inj hb hw e2
    exact e3
  · intro hr
    obtain ⟨_, _, h3⟩ := h.to hr
    exact h3

/-- Places as nodes, in order. -/
def nodesOf (ns : List Int) (m : List Nat) : List Int := (m.map (fun p => ns.getD p 0)).mergeSort (fun x y => decide (x ≤ y))

theorem mergeSort_le (l : List Int) : (l.mergeSort (fun x y => decide (x ≤ y))).Pairwise (· ≤ ·) := by
  have := List.pairwise_mergeSort (le := fun x y : Int => decide (x ≤ y)) (fun a b c h1 h2 => by simp only [decide_eq_true_iff] at *; omega) (fun a b => by simp only [Bool.or_eq_true, decide_eq_true_iff]; omega) l
  exact this.imp (fun h => by simpa using h)

theorem nodesOf_mem (m : List Nat) (x : Int) : x ∈ nodesOf ns m ↔ ∃ p ∈ m, ns.getD p 0 = x := by
  unfold nodesOf
  rw [List.mem_mergeSort, List.mem_map]

theorem le_nodup_lt {l : List Int} (h : l.Pairwise (· ≤ ·)) (hn : l.Nodup) : Rising l := by
  refine (List.pairwise_and_iff.2 ⟨h, hn⟩).imp (fun {a b} ⟨h1, h2⟩ => ?_)
  have : a ≠ b := h2
  omega

theorem nodesOf_up (h : Grf l ns E) {m : List Nat} (hm : m.Nodup) (hlt : ∀ p ∈ m, p < ns.length) : Rising (nodesOf ns m) := by
  refine le_nodup_lt (mergeSort_le _) ?_
  refine (List.mergeSort_perm _ _).nodup_iff.2 ?_
  refine List.pairwise_map.2 (hm.imp_of_mem (fun {a b} ha hb hab e => ?_))
  have h1 := hlt a ha
  have h2 := hlt b hb
  simp only [List.getD_eq_getElem?_getD, List.getElem?_eq_getElem h1, List.getElem?_eq_getElem h2, Option.getD_some] at e
  exact hab (h.inj h1 h2 e)

theorem head_mem {k : List Int} (h : k ≠ []) : k.headD 0 ∈ k := by
  cases k with
  | nil => exact absurd rfl h
  | cons x t => simp

/-- What was kept, in the order of the first ones, is the knots. -/
theorem knots_of (h : Grf l ns E) {D : List (List Nat)} {J : List (List Int)} (hk : ∀ m ∈ D, Tj.Knot E m) (hall : ∀ v, v < ns.length → Rch (Tj.Ed E) v v → ∃ m ∈ D, v ∈ m) (hd : D.Pairwise (fun a b => ∀ x ∈ a, x ∉ b)) (hlt : ∀ m ∈ D, ∀ x ∈ m, x < ns.length)
    (hp : J.Perm (D.map (nodesOf ns))) (hs : J.Pairwise (fun a b => a.headD 0 ≤ b.headD 0)) : Knots l J := by
  have hJ : ∀ k, k ∈ J ↔ ∃ m ∈ D, nodesOf ns m = k := fun k => by rw [hp.mem_iff, List.mem_map]
  have gd : ∀ p, (hp : p < ns.length) → ns.getD p 0 = ns[p] := fun p hp => by simp [List.getD_eq_getElem?_getD, List.getElem?_eq_getElem hp]
  have hne : ∀ m ∈ D, nodesOf ns m ≠ [] := fun m hm e => by
    obtain ⟨x, hx⟩ := ne_nil_iff.1 (hk m hm).1
    have : ns.getD x 0 ∈ nodesOf ns m := (nodesOf_mem m _).2 ⟨x, hx, rfl⟩
    rw [e] at this; cases this
  have hscc : ∀ m ∈ D, ∀ x ∈ nodesOf ns m, ∀ y, y ∈ nodesOf ns m ↔ (Rch (R l) x y ∧ Rch (R l) y x) := fun m hm x hx y => by
    obtain ⟨p, hp1, hp2⟩ := (nodesOf_mem m x).1 hx
    have hpl := hlt m hm p hp1
    rw [gd p hpl] at hp2
    rw [nodesOf_mem]
    constructor
    · rintro ⟨q, hq1, hq2⟩
      have hql := hlt m hm q hq1
      rw [gd q hql] at hq2
      rw [← hp2, ← hq2, h.iff hpl hql, h.iff hql hpl]
      exact ((hk m hm).2.2 p hp1 q).1 hq1
    · rintro ⟨h1, h2⟩
      obtain ⟨a, b, ha, hb, e1, e2, e3⟩ := h.from h1
      obtain rfl := h.inj ha hpl (by rw [e1, hp2])
      refine ⟨b, ((hk m hm).2.2 a hp1 b).2 ⟨e3, ?_⟩, by rw [gd b hb, e2]⟩
      rw [← h.iff hb hpl, e2, hp2]; exact h2
  refine ⟨fun k hkJ => ?_, fun k hkJ => ?_, fun k hkJ => ?_, fun x hx => ?_, ?_⟩
  · obtain ⟨m, hm, rfl⟩ := (hJ k).1 hkJ; exact hne m hm
  · obtain ⟨m, hm, rfl⟩ := (hJ k).1 hkJ; exact nodesOf_up h (hk m hm).2.1 (hlt m hm)
  · obtain ⟨m, hm, rfl⟩ := (hJ k).1 hkJ; exact hscc m hm
  · obtain ⟨a, b, ha, hb, e1, e2, e3⟩ := h.from hx
    obtain rfl := h.inj ha hb (by rw [e1, e2])
    obtain ⟨m, hm, ham⟩ := hall a ha e3
    exact ⟨_, (hJ _).2 ⟨m, hm, rfl⟩, (nodesOf_mem m x).2 ⟨a, ham, by rw [gd a ha, e1]⟩⟩
  · -- the first ones differ
    have hdis : J.Pairwise (fun a b => a.headD 0 ≠ b.headD 0) := by
      have h1 : (D.map (nodesOf ns)).Pairwise (fun a b => a.headD 0 ≠ b.headD 0) := by
        refine List.pairwise_map.2 (hd.imp_of_mem (fun {a b} ha hb hab e => ?_))
        have h2 := head_mem (hne a ha)
        have h3 := head_mem (hne b hb)
        rw [e] at h2
        obtain ⟨p, hp1, hp2⟩ := (nodesOf_mem a _).1 h2
        obtain ⟨q, hq1, hq2⟩ := (nodesOf_mem b _).1 h3
        have hpl := hlt a ha p hp1
        have hql := hlt b hb q hq1
        rw [gd p hpl] at hp2
        rw [gd q hql] at hq2
        obtain rfl := h.inj hpl hql (by rw [hp2, hq2])
        exact hab p hp1 hq1
      exact (List.Perm.pairwise_iff (fun {a b} hab => fun e => hab e.symm) hp).2 h1
    refine (List.pairwise_and_iff.2 ⟨hs, hdis⟩).imp (fun {a b} ⟨h1, h2⟩ => ?_)
    have : a.headD 0 ≠ b.headD 0 := h2
    omega
end Kn
end Go.Proofs.Ythikdfcndppoaaa
