/- Names: its parts. -/
import Derived.Test.YthaenobciefjiaaDoorA22
namespace Go.Proofs.YthaenobciefjiaaDoor
open Go.RowKit Go.Maps Go.ChangeMaps Go.MapKept Go.Sort Go.Shelf

namespace Lk
theorem keysQ_any (mb : Option Nat) (W : World) : Calls Tryd.prog 41 #[.map mb] W fun e w' => e = .returned (.func (.func 54) #[] #[.pointer (some ⟨W.heap.size, 0, none⟩)]) ∧ w' = W.alloc (.cells #[.map mb] 59) :=
  (callsIn_wide (n := 5)).1 (AnyZ.keys_in Tryd.keysQ Fence.wide 5 trivial rfl mb W)
end Lk

set_option maxHeartbeats 1000000 in
/-- slices.Collect of the queues' names. -/
theorem collQ_any (w : World) (tag : Nat → Option Lk.Lb) (p N : Nat) (s : Lk.St) (bs bw bq : Nat) (bi : Int → Nat) (sl : Lk.Bytes → Value) (hT : Hid (Lk.Tb w tag p N s bs bw bq bi sl)) (hN : Hid (N < 100000)) :
    Calls Tryd.prog 40 #[.func (.func 54) #[] #[.pointer (some ⟨w.heap.size, 0, none⟩)]] (w.alloc (.cells #[.map (some bq)] 59)) fun e w' => ∃ (v : Value) (ss : List Lk.Bytes), e = .returned v ∧ w'.ownsRow w.heap.size 9 1 v ss.length (ss.map encStr) ∧ (∀ n, n ∈ ss ↔ (n.length ≤ maxLen ∧ s.q n ≠ [])) ∧ ss.length ≤ N ∧ Below w.heap.size w w' := by
  obtain ⟨D, hD, hf⟩ := (hT.out.alloc (.cells #[.map (some bq)] 59)).queues
  have hle := hD.size_le
  have hseq : SeqGives Fence.wide (5 - 1 - 1) Tryd.prog 54 #[.pointer (some ⟨w.heap.size, 0, none⟩)] encStr (fun ss => ss.Perm (strKeys D)) (Maps.size D) (w.alloc (.cells #[.map (some bq)] 59)) :=
    AnyZ.keys_gives (ρ := Tryd.keysQ_ren) { Tryd.keysQ with } Fence.wide _ trivial rfl (by omega) w.heap.size bq N D _ (by simp) (by simp) hD
  have cS := AnyZ.collect_in Tryd.coll Fence.wide 5 trivial trivial rfl (by omega) 54 #[.pointer (some ⟨w.heap.size, 0, none⟩)] trivial (enters_of Tryd.func54 (by kernel_rfl) rfl) _ (Maps.size D) (by have := hN.out; unfold maxLen; omega) (by have := hN.out; omega) _ hseq
  refine ((callsIn_wide (n := 5)).1 cS).mono ?_
  rintro e w' ⟨v, ss, rfl, hS, hrow, _, hb⟩
  refine ⟨v, ss, rfl, ownsRow_base_a hrow (by simp), fun n => ?_, ?_, ((Below.refl _ w).alloc (Nat.le_refl _) _).trans (hb.mono (by simp))⟩
  · rw [hS.mem_iff, Lk.mem_keys Tryd.underlying9 hD]
    by_cases hl : n.length ≤ maxLen
    · have := Mp.Fn.has hD Lk.keyS hf (a := n) ⟨_, Lk.key_s hl⟩
      rw [show (Lit.string n) = Lk.sK n from rfl, this]
      by_cases e : s.q n = []
      · simp [e]
      · simp [e, hl]
    · simp only [hl, false_and, iff_false]
      intro e
      exact hl (strKeys_le hD Tryd.underlying9 n ((Lk.mem_keys Tryd.underlying9 hD n).2 e))
  · rw [hS.length_eq]
    obtain ⟨es, rfl, _⟩ := hD.keysOf
    have : (strKeys (DataW.map es)).length = es.length := List.length_map ..
    rw [this]
    exact Nat.le_trans (Nat.le_refl _) hle

set_option maxHeartbeats 1000000 in
/-- slices.AppendSeq of what a holder has. -/
theorem appI_any (w : World) (tag : Nat → Option Lk.Lb) (p N : Nat) (s : Lk.St) (bs bw bq : Nat) (bi : Int → Nat) (sl : Lk.Bytes → Value) (x : Int) (hT : Hid (Lk.Tb w tag p N s bs bw bq bi sl)) (hh : s.hol x = true) (hN : Hid (N < 100000)) (base : Nat) (hbase : base ≤ w.heap.size) (v0 : Value) (l0 : List Lk.Bytes) (hrow : Hid (w.ownsRow base 9 1 v0 l0.length (l0.map encStr))) (hlen : Hid (l0.length ≤ 100000000000)) :
    Calls Tryd.prog 42 #[v0, .func (.func 55) #[] #[.pointer (some ⟨w.heap.size, 0, none⟩)]] (w.alloc (.cells #[.map (some (bi x))] 75)) fun e w' => ∃ (v : Value) (ss : List Lk.Bytes), e = .returned v ∧ w'.ownsRow base 9 1 v (l0 ++ ss).length ((l0 ++ ss).map encStr) ∧ (∀ n, n ∈ ss ↔ (n.length ≤ maxLen ∧ s.set x n ≠ 0)) ∧ ss.length ≤ N ∧ (∀ k, v.ownBlock = some k → v0.ownBlock = some k ∨ w.heap.size ≤ k) ∧ w.grownBy w' v0.ownBlock := by
  obtain ⟨D, hD, hf⟩ := (hT.out.alloc (.cells #[.map (some (bi x))] 75)).inner x hh
  have hle := hD.size_le
  have hseq : SeqGives Fence.wide (5 - 1) Tryd.prog 55 #[.pointer (some ⟨w.heap.size, 0, none⟩)] encStr (fun ss => ss.Perm (strKeys D)) (Maps.size D) (w.alloc (.cells #[.map (some (bi x))] 75)) :=
    AnyZ.keys_gives (ρ := Tryd.keysI_ren) { Tryd.keysI with } Fence.wide _ trivial rfl (by omega) w.heap.size (bi x) N D _ (by simp) (by simp) hD
  have cS := Aq.appendSeq_in (ρ := Tryd.coll_ren) { Tryd.coll with } Fence.wide 5 trivial rfl (by omega) 55 #[.pointer (some ⟨w.heap.size, 0, none⟩)] trivial (enters_of Tryd.func55 (by kernel_rfl) rfl) _ (Maps.size D) _ hseq base (by simp; omega) v0 l0 (hrow.out.alloc _) (by have := hN.out; have := hlen.out; unfold maxLen; omega) (by have := hN.out; have := hlen.out; omega)
  refine ((callsIn_wide (n := 5)).1 cS).mono ?_
  rintro e w' ⟨v, ss, rfl, hS, hr, hl, hg⟩
  refine ⟨v, ss, rfl, hr, fun n => ?_, ?_, fun k hk => ?_, Lk.alloc_then hg⟩
  · rw [hS.mem_iff, Lk.mem_keys Tryd.underlying9 hD]
    by_cases hl : n.length ≤ maxLen
    · have := Mp.Fn.has hD Lk.keyS hf (a := n) ⟨_, Lk.key_s hl⟩
      rw [show (Lit.string n) = Lk.sK n from rfl, this]
      by_cases e : s.set x n = 0
      · simp [e]
      · simp [e, hl]
    · simp only [hl, false_and, iff_false]
      intro e
      exact hl (strKeys_le hD Tryd.underlying9 n ((Lk.mem_keys Tryd.underlying9 hD n).2 e))
  · rw [hS.length_eq]
    obtain ⟨es, rfl, _⟩ := hD.keysOf
    have : (strKeys (DataW.map es)).length = es.length := List.length_map ..
    rw [this]
    exact Nat.le_trans (Nat.le_refl _) hle
  · rcases hl k hk with e | e
    · exact Or.inl e
    · exact Or.inr (by simp at e; omega)

namespace Lk
/-- Under way through the sets. -/
structure Nl (w W : World) (N bs r : Nat) (s : St) (D : DataW Value) (left : Lit → Bool) (cnt : Nat) (v : Value) (l : List Bytes) : Prop where
  bel : Below w.heap.size w W
  rg : W.ranges Tryd.prog 3 Mp.Rv bs r N D left cnt
  row : W.ownsRow w.heap.size 9 1 v l.length (l.map encStr)
  mem : ∀ n, n ∈ l ↔ n.length ≤ maxLen ∧ (s.q n ≠ [] ∨ ∃ h, left (iK h) = false ∧ s.hol h = true ∧ s.set h n ≠ 0)
  len : l.length + cnt * N ≤ N + N * N
  rlo : w.heap.size ≤ r
theorem walk_ne {W : World} {base n r : Nat} {e : TypeId} {v : Value} {xs : List Value} (h : W.ownsRow base e 1 v n xs) {o : Obj} (ho : W.heap[r]? = some o) (hw : o.isWalk = true) : v.ownBlock ≠ some r := fun e1 => by
  have := ownsRow_not_walk_a h r o e1 ho
  rw [hw] at this; cases this
/-- One more holder. -/
theorem Nl.step {w W W1 W3 : World} {N bs r : Nat} {s : St} {D : DataW Value} {left : Lit → Bool} {cnt cnt' : Nat} {v v' : Value} {l ss : List Bytes} (h : Nl w W N bs r s D left cnt v l) {o : Int} (hg : W.grownBy W1 (some r))
    (hr : W1.ranges Tryd.prog 3 Mp.Rv bs r N D (fun z => left z && !z.sameKey (iK o)) cnt') (hlt : cnt' < cnt) (ho : s.hol o = true)
    (hrow : W3.ownsRow w.heap.size 9 1 v' (l ++ ss).length ((l ++ ss).map encStr)) (hss : ∀ n, n ∈ ss ↔ (n.length ≤ maxLen ∧ s.set o n ≠ 0)) (hsl : ss.length ≤ N) (hgr : W1.grownBy W3 v.ownBlock) : Nl w W3 N bs r s D (fun z => left z && !z.sameKey (iK o)) cnt' v' (l ++ ss) := by
  have hlo : ∀ k, v.ownBlock = some k → w.heap.size ≤ k := fun k hk => row_lo h.row hk
  obtain ⟨oi, hoi, hwi⟩ := h.rg.iter_walk
  have hb1 : Below w.heap.size w W1 := h.bel.grown hg h.bel.size (fun k e => by injection e with e; have := h.rlo; omega)
  have hrow1 : W1.ownsRow w.heap.size 9 1 v l.length (l.map encStr) := h.row.kept hg (Or.inr (walk_ne h.row hoi hwi))
  obtain ⟨oi1, hoi1, hwi1⟩ := hr.iter_walk
  refine ⟨hb1.grown hgr hb1.size hlo, hr.kept hgr (fun e => ?_) (fun e => walk_ne hrow1 hoi1 hwi1 e.symm), hrow, fun n => ?_, ?_, h.rlo⟩
  · obtain ⟨es, c, h3, _⟩ := hr.owns
    exact walk_ne hrow1 h3 rfl e.symm
  · rw [List.mem_append, h.mem n, hss n]
    constructor
    · rintro (⟨h1, h2⟩ | ⟨h1, h2⟩)
      · refine ⟨h1, ?_⟩
        rcases h2 with h2 | ⟨y, h3, h4, h5⟩
        · exact Or.inl h2
        · exact Or.inr ⟨y, by rw [h3]; rfl, h4, h5⟩
      · exact ⟨h1, Or.inr ⟨o, by simp [iK, Lit.sameKey], ho, h2⟩⟩
    · rintro ⟨h1, h2⟩
      rcases h2 with h2 | ⟨y, h3, h4, h5⟩
      · exact Or.inl ⟨h1, Or.inl h2⟩
      · by_cases e : y = o
        · subst e; exact Or.inr ⟨h1, h5⟩
        · have : (iK y).sameKey (iK o) = false := by simp [iK, Lit.sameKey, e]
          rw [this] at h3
          exact Or.inl ⟨h1, Or.inr ⟨y, by simpa using h3, h4, h5⟩⟩
  · have h1 := h.len
    have h2 : (cnt' + 1) * N ≤ cnt * N := Nat.mul_le_mul_right N hlt
    rw [Nat.add_mul, Nat.one_mul] at h2
    rw [List.length_append]
    omega
end Lk

end Go.Proofs.YthaenobciefjiaaDoor
