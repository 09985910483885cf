/- What is rising, each once. -/
import Derived.Test.YthikdfcndppoaaaRows
import Derived.Lib.SlicesCompact
namespace Go.Proofs.Ythikdfcndppoaaa

namespace Rs
variable {α : Type} [DecidableEq α] [Inhabited α]
/-- Rising, each once. -/
def Up (le : α → α → Prop) (l : List α) : Prop := l.Pairwise (fun a b => le a b ∧ a ≠ b)

omit [DecidableEq α] [Inhabited α] in
theorem one {le : α → α → Prop} (ha : ∀ a b, le a b → le b a → a = b) : ∀ {l m : List α}, Up le l → Up le m → (∀ x, x ∈ l ↔ x ∈ m) → l = m
  | [], [], _, _, _ => rfl
  | [], b :: m, _, _, h => absurd ((h b).2 (List.mem_cons_self ..)) (by simp)
  | a :: l, [], _, _, h => absurd ((h a).1 (List.mem_cons_self ..)) (by simp)
  | a :: l, b :: m, hl, hm, h => by
    obtain ⟨h1, h2⟩ := List.pairwise_cons.1 hl
    obtain ⟨h3, h4⟩ := List.pairwise_cons.1 hm
    have hab : a = b := by
      rcases List.mem_cons.1 ((h a).1 (List.mem_cons_self ..)) with e | e
      · exact e
      · rcases List.mem_cons.1 ((h b).2 (List.mem_cons_self ..)) with e' | e'
        · exact e'.symm
        · exact ha a b (h1 b e').1 (h3 a e).1
    subst hab
    have : l = m := one ha h2 h4 (fun x => ⟨fun hx => by
      rcases List.mem_cons.1 ((h x).1 (List.mem_cons_of_mem _ hx)) with e | e
      · exact absurd e.symm (h1 x hx).2
      · exact e, fun hx => by
      rcases List.mem_cons.1 ((h x).2 (List.mem_cons_of_mem _ hx)) with e | e
      · exact absurd e.symm (h3 x hx).2
      · exact e⟩)
    rw [this]

theorem upTo_succ (d : Array α) (m : Nat) : Lib.compactUpTo d (m + 1) = Lib.compactUpTo d m ++ (if Lib.keeps d m then [d[m]!] else []) := by
  unfold Lib.compactUpTo
  rw [List.range_succ, List.filter_append, List.map_append]
  by_cases h : Lib.keeps d m = true <;> simp [h]

theorem upTo {le : α → α → Prop} (ht : ∀ a b c, le a b → le b c → le a c) (hr : ∀ a, le a a) (ha : ∀ a b, le a b → le b a → a = b) (d : Array α) (hd : ∀ i j, i ≤ j → j < d.size → le d[i]! d[j]!) :
    ∀ m, m ≤ d.size → Up le (Lib.compactUpTo d m) ∧ ∀ x, x ∈ Lib.compactUpTo d m ↔ ∃ j, j < m ∧ d[j]! = x
  | 0, _ => ⟨List.Pairwise.nil, fun x => by simp [Lib.compactUpTo]⟩
  | m + 1, hm => by
    obtain ⟨h1, h2⟩ := upTo ht hr ha d hd m (by omega)
    rw [upTo_succ]
    by_cases hk : Lib.keeps d m = true
    · rw [if_pos hk]
      refine ⟨List.pairwise_append.2 ⟨h1, List.pairwise_singleton _ _, fun a ha' b hb => ?_⟩, fun x => ?_⟩
      · obtain ⟨j, hj, rfl⟩ := (h2 a).1 ha'
        obtain rfl := List.mem_singleton.1 hb
        refine ⟨hd j m (by omega) (by omega), fun e => ?_⟩
        have h3 : d[m]! = d[m - 1]! := ha _ _ (e ▸ hd j (m - 1) (by omega) (by omega)) (hd (m - 1) m (by omega) (by omega))
        have hm0 : m ≠ 0 := by omega
        simp [Lib.keeps, hm0, h3] at hk
      · rw [List.mem_append, h2 x, List.mem_singleton]
        constructor
        · rintro (⟨j, hj, e⟩ | e)
          · exact ⟨j, by omega, e⟩
          · exact ⟨m, by omega, e.symm⟩
        · rintro ⟨j, hj, e⟩
          by_cases h : j = m
          · exact Or.inr (by rw [← e, h])
          · exact Or.inl ⟨j, by omega, e⟩
    · rw [if_neg hk, List.append_nil]
      refine ⟨h1, fun x => ?_⟩
      rw [h2 x]
      constructor
      · rintro ⟨j, hj, e⟩; exact ⟨j, by omega, e⟩
      · rintro ⟨j, hj, e⟩
        by_cases h : j = m
        · subst h
          have hj0 : j ≠ 0 := fun h0 => hk (by simp [Lib.keeps, h0])
          have h3 : d[j]! = d[j - 1]! := by
            have : Lib.keeps d j = false := by simpa using hk
            simpa [Lib.keeps, hj0] using this
          exact ⟨j - 1, by omega, by rw [← h3, e]⟩
        · exact ⟨j, by omega, e⟩

theorem compact {le : α → α → Prop} (ht : ∀ a b c, le a b → le b c → le a c) (hr : ∀ a, le a a) (ha : ∀ a b, le a b → le b a → a = b) (l : List α) (hl : l.Pairwise le) :
    Up le (Lib.compact l) ∧ ∀ x, x ∈ Lib.compact l ↔ x ∈ l := by
  have hd : ∀ i j, i ≤ j → j < l.toArray.size → le l.toArray[i]! l.toArray[j]! := fun i j hij hj => by
    have hj' : j < l.length := by simpa using hj
    have hi' : i < l.length := by omega
    rw [getElem!_pos l.toArray i (by simpa using hi'), getElem!_pos l.toArray j hj]
    by_cases h : i = j
    · subst h; exact hr _
    · exact List.pairwise_iff_getElem.1 hl i j hi' hj' (by omega)
  obtain ⟨h1, h2⟩ := upTo ht hr ha l.toArray hd l.length (by simp)
  refine ⟨h1, fun x => (h2 x).trans ?_⟩
  rw [List.mem_iff_getElem]
  constructor
  · rintro ⟨j, hj, e⟩; exact ⟨j, hj, by rw [← e, getElem!_pos l.toArray j (by simpa using hj)]; rfl⟩
  · rintro ⟨j, hj, e⟩; exact ⟨j, hj, by rw [← e, getElem!_pos l.toArray j (by simpa using hj)]; rfl⟩

/-- The numbers of a list, rising, each once. -/
def ints (l : List Int) : List Int := Lib.compact (l.mergeSort fun x y => decide (x ≤ y))
theorem ints_spec (l : List Int) : Up (· ≤ ·) (ints l) ∧ ∀ x, x ∈ ints l ↔ x ∈ l := by
  have hs : (l.mergeSort fun x y => decide (x ≤ y)).Pairwise (· ≤ ·) := by
    have := List.pairwise_mergeSort (le := fun x y : Int => decide (x ≤ y)) (fun a b c => by simp; omega) (fun a b => by simp; omega) l
    simpa using this
  obtain ⟨h1, h2⟩ := compact (le := fun a b : Int => a ≤ b) (fun _ _ _ => Int.le_trans) Int.le_refl (fun _ _ => Int.le_antisymm) _ hs
  exact ⟨h1, fun x => (h2 x).trans (List.mergeSort_perm l _).mem_iff⟩
theorem ints_nil : ints [] = [] := by
  have h := (ints_spec []).2
  match e : ints [] with
  | [] => rfl
  | a :: _ => exact absurd ((h a).1 (by rw [e]; exact List.mem_cons_self ..)) (by simp)
theorem ints_eq {l m : List Int} (h : ∀ x, x ∈ l ↔ x ∈ m) : ints l = ints m :=
  one (fun _ _ => Int.le_antisymm) (ints_spec l).1 (ints_spec m).1 (fun x => ((ints_spec l).2 x).trans ((h x).trans ((ints_spec m).2 x).symm))
theorem ints_of {l m : List Int} (hl : Up (· ≤ ·) l) (h : ∀ x, x ∈ l ↔ x ∈ m) : l = ints m :=
  one (fun _ _ => Int.le_antisymm) hl (ints_spec m).1 (fun x => (h x).trans ((ints_spec m).2 x).symm)

/-- The texts of a list, rising, each once. -/
def texts (l : List (List UInt8)) : List (List UInt8) := Lib.compact (l.mergeSort fun x y => decide (x ≤ y))
theorem le_tr : ∀ a b c : List UInt8, a ≤ b → b ≤ c → a ≤ c := fun _ _ _ => List.le_trans
theorem le_to : ∀ a b : List UInt8, a ≤ b ∨ b ≤ a := List.le_total
theorem le_an : ∀ a b : List UInt8, a ≤ b → b ≤ a → a = b := fun _ _ => List.le_antisymm
theorem texts_spec (l : List (List UInt8)) : Up (· ≤ ·) (texts l) ∧ ∀ x, x ∈ texts l ↔ x ∈ l := by
  have hs : (l.mergeSort fun x y => decide (x ≤ y)).Pairwise (· ≤ ·) := by
    have := List.pairwise_mergeSort (le := fun x y : List UInt8 => decide (x ≤ y)) (fun a b c => by simpa using le_tr a b c) (fun a b => by simpa using le_to a b) l
    simpa using this
  obtain ⟨h1, h2⟩ := compact (le := fun a b : List UInt8 => a ≤ b) le_tr (fun a => List.le_refl a) le_an _ hs
  exact ⟨h1, fun x => (h2 x).trans (List.mergeSort_perm l _).mem_iff⟩
theorem texts_of {l m : List (List UInt8)} (hl : Up (· ≤ ·) l) (h : ∀ x, x ∈ l ↔ x ∈ m) : l = texts m :=
  one le_an hl (texts_spec m).1 (fun x => (h x).trans ((texts_spec m).2 x).symm)
theorem texts_nil : texts [] = [] := by
  have h := (texts_spec []).2
  match e : texts [] with
  | [] => rfl
  | a :: _ => exact absurd ((h a).1 (by rw [e]; exact List.mem_cons_self ..)) (by simp)
end Rs

end Go.Proofs.Ythikdfcndppoaaa
