/- LockTurns: the walk. -/
import Derived.Test.YthaenobciefjiaaDoorZ6
import Derived.Test.YthaenobciefjiaaDoorA24
import Derived.Test.YthaenobciefjiaaDoorOpenS
namespace Go.Proofs.YthaenobciefjiaaDoor
open Go.RowKit Go.Maps Go.ChangeMaps Go.MapKept Go.Sort Go.Shelf

set_option maxHeartbeats 400000 in
theorem namesO_any (F : Nat → Prop) (w W : World) (p N : Nat) (s : Lk.St) (bs bw bq : Nat) (hO : Hid (Lk.Own F w W p N s bs bw bq)) (hN : Hid (N < 90000)) :
    Calls Tryd.prog 24 #[.pointer (some ⟨p, 0, none⟩)] W fun e w' => ∃ (v : Value) (L : List Lk.Bytes), e = .returned v ∧ w'.ownsRow W.heap.size 9 1 v L.length (L.map encStr) ∧ Rs.Up (· ≤ ·) L ∧ (∀ n, n ∈ L ↔ n.length ≤ maxLen ∧ (s.q n ≠ [] ∨ ∃ h, s.hol h = true ∧ s.set h n ≠ 0)) ∧ L.length ≤ N + N * N ∧ Below W.heap.size W w' := by
  obtain ⟨tag, bi, sl, hT, ht⟩ := hO.out.tb
  exact names_any W tag p N s bs bw bq bi sl (Mp.hid hT) (Mp.hid (by have := hN.out; omega))

namespace Lk
/-- A table, a row of numbers and an array of marks beside it. -/
structure Tm (w W : World) (A p N : Nat) (bs bw bq : Nat) (s : St) (v : Value) (l la : List Int) : Prop where
  own : ∃ F, Own F w W p N s bs bw bq ∧ F A ∧ ∀ g, v.ownBlock = some g → F g
  row : W.ownsRow w.heap.size 3 1 v l.length (l.map (Value.int .i64))
  arr : ∀ h : Nat, h < 20 → W.cell? ⟨A, h, none⟩ = some (.bool (decide ((1 + (h : Int)) ∈ la))) ∧ W.frozen? ⟨A, h, none⟩ = false
  vA : v.ownBlock ≠ some A
  lo : w.heap.size ≤ A ∧ A < W.heap.size
variable {w W : World} {A p N bs bw bq : Nat} {s : St} {v : Value} {l la : List Int}
theorem Tm.bel (h : Tm w W A p N bs bw bq s v l la) : Below w.heap.size w W := by
  obtain ⟨F, hO, -⟩ := h.own
  exact hO.bel
theorem Tm.go {F : Nat → Prop} {W' : World} {s' : St} {M : Nat} (h : Tm w W A p N bs bw bq s v l la) (hA : F A) (hv : ∀ g, v.ownBlock = some g → F g) (hO : Own F w W' p M s' bs bw bq) (hk : ∀ b, F b → W'.heap[b]? = W.heap[b]?) : Tm w W' A p M bs bw bq s' v l la :=
  ⟨⟨F, hO, hA, hv⟩, row_keep h.row (fun g hg _ => hk g (hv g hg)), fun i hi => ⟨(World.cell?_of_block (a := ⟨A, i, none⟩) (hk A hA)).trans (h.arr i hi).1, (World.frozen?_of_block (a := ⟨A, i, none⟩) (hk A hA)).trans (h.arr i hi).2⟩, h.vA, h.lo.1, hO.lt A hA⟩
theorem Tm.below {W' : World} (h : Tm w W A p N bs bw bq s v l la) (hb : Below W.heap.size W W') : Tm w W' A p N bs bw bq s v l la := by
  obtain ⟨F, hO, hA, hv⟩ := h.own
  exact h.go hA hv (hO.same hb) (fun b hf => hb.block b (hO.lt b hf))
theorem Tm.mono (h : Tm w W A p N bs bw bq s v l la) {M : Nat} (hm : N ≤ M) : Tm w W A p M bs bw bq s v l la := by
  obtain ⟨F, hO, hA, hv⟩ := h.own
  exact ⟨⟨F, hO.mono hm, hA, hv⟩, h.row, h.arr, h.vA, h.lo⟩
theorem Tm.mark (h : Tm w W A p N bs bw bq s v l la) {k : Nat} (hk : k < 20) : Tm w (W.setCell ⟨A, k, none⟩ (.bool true)) A p N bs bw bq s v l (la ++ [1 + (k : Int)]) := by
  obtain ⟨F, hO, hA, hv⟩ := h.own
  have hsz : (W.setCell ⟨A, k, none⟩ (.bool true)).heap.size = W.heap.size := by show (W.heap.modify _ _).size = _; rw [Array.size_modify]
  have hbl : ∀ b, b ≠ A → (W.setCell ⟨A, k, none⟩ (.bool true)).heap[b]? = W.heap[b]? := fun b hb => Below.heap_setCell W ⟨A, k, none⟩ _ b hb
  have hO' : Own F w (W.setCell ⟨A, k, none⟩ (.bool true)) p N s bs bw bq := (hO.kept (Nat.le_of_eq hsz.symm) (fun b _ hf => hbl b (fun e => hf (by rw [e]; exact hA))) (hO.bel.setCell h.lo.1 _)).less (fun _ h => Or.inl h) hO.old
  refine ⟨⟨F, hO', hA, hv⟩, row_keep h.row (fun g hg _ => hbl g (fun e => h.vA (by rw [← e]; exact hg))), fun i hi => ⟨?_, ?_⟩, h.vA, h.lo.1, by rw [hsz]; exact h.lo.2⟩
  · by_cases e : i = k
    · subst e
      rw [World.cell?_setCell_same (h := (h.arr i hi).1)]
      simp
    · rw [World.cell?_setCell_other (h := fun e2 => by injection e2 with _ e2; exact e e2.symm), (h.arr i hi).1]
      have : ¬ (1 + (i : Int) = 1 + (k : Int)) := by omega
      simp [this]
  · rw [World.frozen?_setCell]; exact (h.arr i hi).2
theorem Tm.app {W1 W2 : World} {v' : Value} {x : Int} (h : Tm w W A p N bs bw bq s v l la) (hb : Below W.heap.size W W1) (hrow : W2.ownsRow w.heap.size 3 1 v' (l.length + 1) (l.map (Value.int .i64) ++ [.int .i64 x])) (hgr : W1.grownBy W2 v.ownBlock) (hloc : ∀ g, v'.ownBlock = some g → v.ownBlock = some g ∨ (W.heap.size ≤ g)) :
    Tm w W2 A p N bs bw bq s v' (l ++ [x]) la := by
  obtain ⟨F, hO, hA, hv⟩ := h.own
  have hlt : ∀ g, v'.ownBlock = some g → g < W2.heap.size := fun g hg => row_lt hrow hg
  have hsz : W.heap.size ≤ W2.heap.size := Nat.le_trans hb.size hgr.size
  have hk : ∀ b, b < W.heap.size → v.ownBlock ≠ some b → W2.heap[b]? = W.heap[b]? := fun b hb1 hne => (hgr.block b (Nat.lt_of_lt_of_le hb1 hb.size) (fun e => hne e.symm)).trans (hb.block b hb1)
  have hO2 := hO.kept (W' := W2) hsz (fun b hb1 hf => hk b hb1 (fun e => hf (hv b e))) ((hO.bel.trans (hb.mono hO.bel.size)).grown hgr (Nat.le_trans hO.bel.size hb.size) (fun g hg => row_lo h.row hg))
  refine ⟨⟨_, hO2, Or.inl hA, fun g hg => ?_⟩, by simpa using hrow, fun i hi => ⟨(World.cell?_of_block (a := ⟨A, i, none⟩) (hk A h.lo.2 h.vA)).trans (h.arr i hi).1, (World.frozen?_of_block (a := ⟨A, i, none⟩) (hk A h.lo.2 h.vA)).trans (h.arr i hi).2⟩, fun e => ?_, h.lo.1, Nat.lt_of_lt_of_le h.lo.2 hsz⟩
  · rcases hloc g hg with e | e
    · exact Or.inl (hv g e)
    · exact Or.inr ⟨e, hlt g hg⟩
  · rcases hloc A e with e | e
    · exact h.vA e
    · have := h.lo.2; omega
end Lk

set_option maxHeartbeats 400000 in
theorem takeT_any (w W : World) (A p N : Nat) (bs bw bq : Nat) (s : Lk.St) (v : Value) (l la : List Int) (x : Int) (m : Int) (hO : Hid (Lk.Tm w W A p N bs bw bq s v l la)) (hM : Hid (Md.Tab w)) (hx : Lk.wfI x) (hN : Hid (N < 90000)) :
    Calls Tryd.prog 12 #[.pointer (some ⟨p, 0, none⟩), .int .i64 x, Lk.str Lk.T, .int .i64 m] W fun e w' => ∃ E s', e = .returned (.int .i64 E) ∧ Lk.TakeR s x Lk.T m E s' ∧ Lk.Tm w w' A p (N + 2) bs bw bq s' v l la := by
  obtain ⟨F, hF, hA, hv⟩ := hO.out.own
  refine (takeO_any F w W p N s bs bw bq x Lk.T m (Mp.hid hF) hM hx Lk.T_len hN).mono ?_
  rintro e w' ⟨E, s', rfl, hR, hO', hk⟩
  exact ⟨E, s', rfl, hR, hO.out.go hA hv hO' hk⟩

set_option maxHeartbeats 400000 in
theorem releaseT_any (w W0 W : World) (A p N : Nat) (bs bw bq : Nat) (s : Lk.St) (v : Value) (l la : List Int) (a : Int) (l2 : List Int) (hO : Hid (Lk.Tm w W0 A p N bs bw bq s v l la)) (hb : Hid (Below W0.heap.size W0 W)) (hQ : Hid (Lk.Qs s a 256 l2)) (ha : Hid (a ∉ l2 ∧ l2.Nodup ∧ l2.length ≤ 60)) (hM : Hid (Md.Tab w)) (hx : Lk.wfI a) (hN : Hid (N < 80000)) :
    Calls Tryd.prog 15 #[.pointer (some ⟨p, 0, none⟩), .int .i64 a] W fun e w' => ∃ (v' : Value) (out : List Int) (s' : Lk.St), e = .returned v' ∧ Lk.Rel (Lk.leaveS s a) [Lk.T] s' out ∧ w'.ownsRow W.heap.size 3 1 v' out.length (out.map (Value.int .i64)) ∧ Lk.Tm w w' A p (N + 121) bs bw bq s' v l la ∧ ∀ b, W0.heap.size ≤ b → b < W.heap.size → w'.heap[b]? = W.heap[b]? := by
  obtain ⟨F, hF, hA, hv⟩ := hO.out.own
  have ht := fun L hL => hQ.out.tot ha.out.1 L hL
  refine (releaseN_any _ w W p N s bs bw bq a (Mp.hid (hF.below hb.out)) hM hx (Mp.hid (by rw [hQ.out.want, if_neg ha.out.1])) (Mp.hid (hQ.out.wq ha.out.1 ha.out.2.1)) (Mp.hid (fun L hL => by have := ht L hL; have := ha.out.2.2; have := hN.out; omega))).mono ?_
  rintro e w' ⟨v', out, s', L, rfl, hR, hU, hm, hrow, hO', hk, -, -⟩
  obtain rfl := hQ.out.names (by decide) ha.out.1 hU hm
  exact ⟨v', out, s', rfl, hR, hrow, ((hO.out.below hb.out).go (Or.inl hA) (fun g hg => Or.inl (hv g hg)) hO' hk).mono (by have := ht [Lk.T] (List.nodup_cons.2 ⟨by simp, List.nodup_nil⟩); have := ha.out.2.2; omega), fun b h1 h2 => hk b (Or.inr ⟨h1, h2⟩)⟩

set_option maxHeartbeats 400000 in
theorem modesT_any (w W : World) (A p N : Nat) (bs bw bq : Nat) (s : Lk.St) (v : Value) (l la : List Int) (x : Int) (hO : Hid (Lk.Tm w W A p N bs bw bq s v l la)) (hx : Lk.wfI x) :
    Calls Tryd.prog 19 #[.pointer (some ⟨p, 0, none⟩), .int .i64 x, Lk.str Lk.T] W fun e w' => e = .returned (.int .i64 (s.set x Lk.T)) ∧ w' = W := by
  obtain ⟨F, hF, -, -⟩ := hO.out.own
  exact modesO_any F w W p N s bs bw bq x Lk.T (Mp.hid hF) hx Lk.T_len

set_option maxHeartbeats 400000 in
theorem namesT_any (w W : World) (A p N : Nat) (bs bw bq : Nat) (s : Lk.St) (v : Value) (l la : List Int) (hO : Hid (Lk.Tm w W A p N bs bw bq s v l la)) (hN : Hid (N < 90000)) (hs : Hid ((∀ y n, s.set y n = 0) ∧ ∀ n, s.q n = [])) :
    Calls Tryd.prog 24 #[.pointer (some ⟨p, 0, none⟩)] W fun e w' => ∃ p' c', e = .returned (.slice p' 0 c') ∧ Below W.heap.size W w' := by
  obtain ⟨F, hF, -, -⟩ := hO.out.own
  refine (namesO_any F w W p N s bs bw bq (Mp.hid hF) hN).mono ?_
  rintro e w' ⟨v, L, rfl, hrow, -, hm, -, hb⟩
  have hL : L = [] := Lk.up_none (fun n hn => by
    obtain ⟨_, h2⟩ := (hm n).1 hn
    rcases h2 with h2 | ⟨y, _, h2⟩
    · exact h2 (hs.out.2 n)
    · exact h2 (hs.out.1 y n))
  subst hL
  obtain ⟨p', c', rfl⟩ := Lk.row_shape hrow
  exact ⟨p', c', rfl, hb⟩

theorem Lk.built {W w' : World} {y : Int} (h : ∀ b, W.heap.size ≤ b → b < (W.alloc (.cells #[.int .i64 y] 3)).drew.heap.size → w'.heap[b]? = (W.alloc (.cells #[.int .i64 y] 3)).drew.heap[b]?) : Md.Row w' (some ⟨W.heap.size, 0, none⟩) [y] :=
  Md.Row.keep (W := (W.alloc (.cells #[.int .i64 y] 3)).drew) (Md.row_new W [y] 3) (fun b e => by
    injection e with e
    injection e with e
    exact h b (by omega) (by rw [← e]; show W.heap.size < (W.alloc _).heap.size; simp))

end Go.Proofs.YthaenobciefjiaaDoor
