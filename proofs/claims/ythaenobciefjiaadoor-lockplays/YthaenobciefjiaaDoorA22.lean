/- slices.AppendSeq onto a row of one's own. -/
import Derived.Test.YthaenobciefjiaaDoorA21
import Derived.Maps.OwnIn
namespace Go.Proofs.YthaenobciefjiaaDoor
open Go.RowKit Go.Maps Go.ChangeMaps Go.MapKept Go.Sort Go.Shelf

namespace Aq
variable {P : Program} {ρ : Ren}
theorem gtrans {a b c : World} {r r' : Option Nat} (h : a.grownBy b r) (k : b.grownBy c r') (hr : ∀ i, r' = some i → r = some i ∨ a.heap.size ≤ i) : a.grownBy c r :=
  ⟨k.os.trans h.os, k.tape.trans h.tape, k.output.trans h.output, Nat.le_trans h.size k.size, fun i hi hne => (k.block i (Nat.lt_of_lt_of_le hi h.size) (fun e => by
    rcases hr i e.symm with e1 | e1
    · exact hne e1.symm
    · omega)).trans (h.block i hi hne)⟩
def rec1 (ρ : Ren) (fn : FuncId) (v0 sv : Value) (Bs D : Nat) (st : LoopState) (pend : Option Code) : Loop :=
  { state := st, pending := pend, fn, tmps := #[v0, sv, .pointer (some ⟨Bs, 0, none⟩), undef, .slice none 0 0, undef, sv, undef, undef, undef, undef, undef, undef], params := #[7], assign := AnyZ.apAssign ρ, body := AnyZ.apBody ρ, defers := D }
/-- Between two rounds. -/
structure At (ρ : Ren) (base : Nat) (w0 : World) (fn : FuncId) (v0 sv : Value) (Bs l D : Nat) (l0 ss : List (List UInt8)) (W : World) : Prop where
  box : ∃ v, W.heap[Bs]? = some (.cells #[v] (ρ.t 24) (0, 0)) ∧ W.ownsRow base (ρ.t 26) 1 v (l0 ++ ss).length ((l0 ++ ss).map encStr) ∧ ∀ g, v.ownBlock = some g → v0.ownBlock = some g ∨ w0.heap.size ≤ g
  L : W.heap[l]? = some (.loop (rec1 ρ fn v0 sv Bs D .ready none))
  K : W.heap[D]? = some (.deferred (some []))
  gr : w0.grownBy W v0.ownBlock
theorem abides (ρ : Ren) (base : Nat) (w0 : World) (fn : FuncId) (v0 sv : Value) (Bs l D B : Nat) (l0 : List (List UInt8)) (hB : w0.heap.size ≤ B) : AbidesFrom B (At ρ base w0 fn v0 sv Bs l D l0) := fun s W W' row h hg hrow => by
  have hrow' : ∀ r, row = some r → ∃ o : Obj, W.heap[r]? = some o ∧ o.isWalk = true := fun r e => (hrow r e).2
  obtain ⟨v, hv, hr, hn⟩ := h.box
  exact ⟨⟨v, (grownBy_keeps hg hrow' hv rfl).trans hv, ownsRow_abides_a hr hg hrow', hn⟩, (grownBy_keeps hg hrow' h.L rfl).trans h.L, (grownBy_keeps hg hrow' h.K rfl).trans h.K,
    gtrans h.gr hg (fun i e => Or.inr (Nat.le_trans hB (hrow i e).1))⟩

set_option maxRecDepth 100000 in
set_option maxHeartbeats 2000000 in
theorem yield (L : SlLaysZ.n11 P ρ) (F : Fence) (m base : Nat) (w0 : World) (fn : FuncId) (hfn : F.fn fn) (v0 sv : Value) (Bs l D : Nat) (hBl : Bs ≠ l) (hDl : D ≠ l) (hDB : D ≠ Bs) (h0B : w0.heap.size ≤ Bs) (h0l : w0.heap.size ≤ l) (hbase : base ≤ w0.heap.size)
    (N : Nat) (hN : N ≤ maxLen) (hNb : N * 16 ≤ 140737488355328) (l0 ss : List (List UInt8)) (x : List UInt8) (W : World) (h : At ρ base w0 fn v0 sv Bs l D l0 ss W) (hlen : (l0 ++ ss).length < N) :
    YieldAt F m P l #[encStr x] W fun e W' => e = .returned (.bool true) ∧ At ρ base w0 fn v0 sv Bs l D l0 (ss ++ [x]) W' ∧ KeepsWalks W W' := by
  have mixed := L.mixed; have t0 := L.t0; have a0 := L.a0; have z0 := L.z0; have v00 := L.v0; have t24 := L.t24; have a24 := L.a24; have z24 := L.z24; have v24 := L.v24; have t26 := L.t26; have a26 := L.a26; have z26 := L.z26; have v26 := L.v26; have t28 := L.t28; have a28 := L.a28; have z28 := L.z28; have v28 := L.v28
  have hne : ρ.t 24 ≠ ρ.t 26 := fun e => by have h := L.t24; rw [e, L.t26] at h; cases h
  have u0 := run_underlying L.t0; have u24 := run_underlying L.t24; have u26 := run_underlying L.t26; have u28 := run_underlying L.t28
  obtain ⟨i0, hi, hz0, hz1, hz2⟩ := info_parts L.i26
  obtain ⟨v, hv, hrow, hvl⟩ := h.box
  have hgr0 := h.gr
  refine ⟨fn, #[v0, sv, .pointer (some ⟨Bs, 0, none⟩), undef, .slice none 0 0, undef, sv, encStr x, undef, undef, undef, undef, undef], AnyZ.apAssign ρ, AnyZ.apBody ρ, by simpa [rec1] using run_yield (P := P) (args := #[encStr x]) h.L rfl, roundIn_of_wpIn hfn ?_⟩
  have hl : l < W.heap.size := (Array.getElem?_eq_some_iff.1 h.L).1
  have hbr := run_beginRound (P := P) h.L rfl
  obtain ⟨W2, hW2⟩ : ∃ W2, W.putObj l (.loop { rec1 ρ fn v0 sv Bs D .ready none with state := .busy }) = W2 := ⟨_, rfl⟩
  rw [hW2] at hbr
  have hg2 : W.grownBy W2 (some l) := by rw [← hW2]; exact grownBy_putObj_a _ _ _
  have hk2 : KeepsWalks W W2 := by rw [← hW2]; exact KeepsWalks.putObj _ h.L rfl
  have hv2 : W2.heap[Bs]? = some (.cells #[v] (ρ.t 24) (0, 0)) := by rw [← hW2]; exact (World.putObj_heap_other hBl).trans hv
  have hK2 : W2.heap[D]? = some (.deferred (some [])) := by rw [← hW2]; exact (World.putObj_heap_other hDl).trans h.K
  have hL2 : W2.heap[l]? = some (.loop { rec1 ρ fn v0 sv Bs D .ready none with state := .busy }) := by rw [← hW2]; exact World.putObj_heap_same hl
  have hrow2 : W2.ownsRow base (ρ.t 26) 1 v (l0 ++ ss).length ((l0 ++ ss).map encStr) := hrow.kept hg2 (ownsRow_ne_a hrow h.L (fun cur e => by cases e))
  have hgr2 : w0.grownBy W2 v0.ownBlock := gtrans hgr0 hg2 (fun i e => by injection e with e; exact Or.inr (by omega))
  obtain ⟨hc2, hf2⟩ := cell_of_box_a hv2
  have hBlt : Bs < W2.heap.size := (Array.getElem?_eq_some_iff.1 hv2).1
  have hl2 : l < W2.heap.size := (Array.getElem?_eq_some_iff.1 hL2).1
  have hDlt : D < W2.heap.size := (Array.getElem?_eq_some_iff.1 hK2).1
  have ne_of : ∀ {j : Nat} {o : Obj}, W2.heap[j]? = some o → (∀ cur, o ≠ .cells cur (ρ.t 26) (0, 0)) → some j ≠ v.ownBlock := fun hj hno => by
    rcases ownsRow_ne_a hrow2 hj hno with e | e
    · rw [e]; simp
    · exact fun e' => e e'.symm
  obtain ⟨n0, hn0⟩ : ∃ n0, (l0 ++ ss).length = n0 := ⟨_, rfl⟩
  obtain ⟨xs0, hxs0⟩ : ∃ xs0, (l0 ++ ss).map encStr = xs0 := ⟨_, rfl⟩
  rw [hn0, hxs0] at hrow2
  rw [hn0] at hlen
  clear hW2 hrow
  unfold AnyZ.apAssign
  gi_wp2_with gi_round_op_a
  unfold AnyZ.apBody
  gi_wp2_with (first
    | (gi_at_builtin; refine wpListIn_append_own_at _ rfl _ _ (ρ.t 24) rfl base (ρ.t 26) i0 (.string ⟨#[]⟩) 1 16 L.t24 hi hz0 hz1 hz2 rfl (by decide) _ _ _ rfl (hrow2.alloc _) ⟨W2.heap.size, 0, none⟩ 1 1 [encStr x] rfl rfl (cell_one_new _ _ _) (by simp [Value.oneCell', encStr]) (by omega) (by omega) (by have := hgr2.size; simp; omega) ?_; intro v' w3 hown' hg3 hnil3 hloc3
       have hv3 : w3.heap[Bs]? = some (.cells #[v] (ρ.t 24) (0, 0)) := (hg3.block Bs (by simp; omega) (ne_of hv2 (fun cur e => hne (Obj.cells.inj e).2.1))).trans ((Below.heap_alloc _ _ Bs hBlt).trans hv2)
       obtain ⟨hc3, hf3⟩ := cell_of_box_a hv3
       obtain ⟨g', cap', cur', rfl, hbase', hgb', hr1, hr2, hr3, hr4⟩ : ∃ g' cap' cur', v' = .slice (some ⟨g', 0, none⟩) (n0 + 1) cap' ∧ base ≤ g' ∧ w3.heap[g']? = some (.cells cur' (ρ.t 26) (0, 0)) ∧ n0 + 1 ≤ cap' ∧ cap' ≤ maxLen ∧ cur'.size = cap' * 1 ∧ cur'.toList.take ((n0 + 1) * 1) = xs0 ++ [encStr x] := by
         rcases hown'.2 with ⟨_, h0⟩ | h'
         · exact absurd h0 (by omega)
         · exact h'
       go_frame)
    | gi_round_op_a)
  have hg3' : (W2.alloc (.cells #[encStr x] (ρ.t 26))).grownBy w3 v.ownBlock := hg3
  have hL3 : w3.heap[l]? = some (.loop { rec1 ρ fn v0 sv Bs D .ready none with state := .busy }) := (hg3'.block l (by simp; omega) (ne_of hL2 (fun cur e => by cases e))).trans ((Below.heap_alloc _ _ l hl2).trans hL2)
  have hK3 : w3.heap[D]? = some (.deferred (some [])) := (hg3'.block D (by simp; omega) (ne_of hK2 (fun cur e => by cases e))).trans ((Below.heap_alloc _ _ D hDlt).trans hK2)
  have hgr3 : w0.grownBy w3 v0.ownBlock := gtrans (gtrans hgr2 (World.grownBy_alloc W2 (.cells #[encStr x] (ρ.t 26)) none) (fun i e => nomatch e)) hg3' hvl
  have hvl' : ∀ g, (Value.slice (some ⟨g', 0, none⟩) (n0 + 1) cap').ownBlock = some g → v0.ownBlock = some g ∨ w0.heap.size ≤ g := fun g hg => by
    rcases hloc3 with e | e
    · have e' : (Value.slice (some ⟨g', 0, none⟩) (n0 + 1) cap').ownBlock = v.ownBlock := e
      exact hvl g (e'.symm.trans hg)
    · rw [e] at hg; injection hg with hg; have := hgr2.size; simp at hg; exact Or.inr (by omega)
  obtain ⟨w4, hw4⟩ : ∃ w4, w3.setCell ⟨Bs, 0, none⟩ (.slice (some ⟨g', 0, none⟩) (n0 + 1) cap') = w4 := ⟨_, rfl⟩
  rw [hw4]
  have hg4 : w3.grownBy w4 (some Bs) := by rw [← hw4]; exact grownBy_setCell0_a _ _ _
  have hv4 : w4.heap[Bs]? = some (.cells #[.slice (some ⟨g', 0, none⟩) (n0 + 1) cap'] (ρ.t 24) (0, 0)) := by rw [← hw4]; exact heap_setCell_box_a _ hv3
  have hL4 : w4.heap[l]? = some (.loop { rec1 ρ fn v0 sv Bs D .ready none with state := .busy }) := (hg4.block l (Array.getElem?_eq_some_iff.1 hL3).1 (fun e => hBl (by cases e; rfl))).trans hL3
  have hK4 : w4.heap[D]? = some (.deferred (some [])) := (hg4.block D (Array.getElem?_eq_some_iff.1 hK3).1 (fun e => hDB (by cases e; rfl))).trans hK3
  have hrow4 := hown'.kept hg4 (ownsRow_ne_a hown' hv3 (fun cur e => hne (Obj.cells.inj e).2.1))
  have hl4 : l < w4.heap.size := (Array.getElem?_eq_some_iff.1 hL4).1
  have hgr4 : w0.grownBy w4 v0.ownBlock := gtrans hgr3 hg4 (fun i e => by injection e with e; exact Or.inr (by omega))
  have hk4 : KeepsWalks W w4 := ((hk2.trans (KeepsWalks.alloc _ _)).trans (KeepsWalks.of_grownBy hg3' (ownsRow_not_walk_a (hrow2.alloc _)))).trans (by rw [← hw4]; exact KeepsWalks.setCell _ _ _)
  clear hw4
  refine ⟨_, _, run_endRound none hL4, rfl, ⟨⟨_, (World.putObj_heap_other hBl).trans hv4, ?_, hvl'⟩, World.putObj_heap_same hl4, (World.putObj_heap_other hDl).trans hK4, gtrans hgr4 (grownBy_putObj_a _ _ _) (fun i e => by injection e with e; exact Or.inr (by omega))⟩, hk4.trans (KeepsWalks.putObj _ hL4 rfl)⟩
  have := hrow4.kept (grownBy_putObj_a w4 l (.loop { { rec1 ρ fn v0 sv Bs D .ready none with state := .busy } with state := if (none : Option Code).isNone then .ready else .done, pending := none })) (ownsRow_ne_a hrow4 hL4 (fun cur e => by cases e))
  have e1 : (l0 ++ (ss ++ [x])).length = n0 + 1 := by rw [← List.append_assoc, List.length_append, hn0]; rfl
  have e2 : (l0 ++ (ss ++ [x])).map encStr = xs0 ++ [encStr x] := by rw [← List.append_assoc, List.map_append, hxs0]; rfl
  rw [e1, e2]
  exact this

set_option maxRecDepth 100000 in
set_option maxHeartbeats 2000000 in
/-- slices.AppendSeq(v0, seq): v0's row, and behind it what the iterator gives. -/
theorem appendSeq_in (L : SlLaysZ.n11 P ρ) (F : Fence) (n : Nat) (h11 : F.fn (ρ.f 11)) (hro : F.round = none) (hn : 2 ≤ n) (g : Nat) (lb : Array Value) (hFg : F.fn g) (eg : ∀ args w, (callFunc g args).run P w = .ok (.enter g args) w)
    (S : List (List UInt8) → Prop) (N : Nat) (w : World) (hseq : SeqGives F (n - 1) P g lb encStr S N w) (base : Nat) (hbase : base ≤ w.heap.size) (v0 : Value) (l0 : List (List UInt8)) (hrow : w.ownsRow base (ρ.t 26) 1 v0 l0.length (l0.map encStr)) (hN : l0.length + N ≤ maxLen) (hNb : (l0.length + N) * 16 ≤ 140737488355328) :
    CallsIn F n P (ρ.f 11) #[v0, .func (.func g) #[] lb] w fun e w' => ∃ (v : Value) (ss : List (List UInt8)), e = .returned v ∧ S ss ∧ w'.ownsRow base (ρ.t 26) 1 v (l0 ++ ss).length ((l0 ++ ss).map encStr) ∧ (∀ k, v.ownBlock = some k → v0.ownBlock = some k ∨ w.heap.size ≤ k) ∧ w.grownBy w' v0.ownBlock := by
  have h1 : 1 ≤ n := by omega
  have mixed := L.mixed; have t0 := L.t0; have a0 := L.a0; have z0 := L.z0; have v00 := L.v0; have t24 := L.t24; have a24 := L.a24; have z24 := L.z24; have v24 := L.v24; have t26 := L.t26; have a26 := L.a26; have z26 := L.z26; have v26 := L.v26; have t28 := L.t28; have a28 := L.a28; have z28 := L.z28; have v28 := L.v28
  have hne : ρ.t 24 ≠ ρ.t 26 := fun e => by have h := L.t24; rw [e, L.t26] at h; cases h
  have u0 := run_underlying L.t0; have u24 := run_underlying L.t24; have u26 := run_underlying L.t26; have u28 := run_underlying L.t28
  obtain ⟨_, _, FG⟩ := L.f11
  obtain ⟨p0, c0, hv0⟩ := Lk.row_shape hrow
  have hvl0 : ∀ k, v0.ownBlock = some k → k < w.heap.size := fun k hk => Lk.row_lt hrow hk
  obtain ⟨ln, hln⟩ : ∃ ln, l0.length = ln := ⟨_, rfl⟩
  rw [hln] at hv0
  subst hv0
  refine callsIn_of_wp_marks FG rfl h11 ?_ hro
  simp only [SlBodyZ.n11_ntmps ρ, List.size_toArray, List.length_cons, List.length_nil, Nat.reduceAdd, Nat.reduceSub, Array.replicate_succ, Array.replicate_zero, List.push_toArray, List.append_toArray, List.nil_append, List.cons_append]
  gi_wp2
  refine wpIn_rangeFunc ?_
  intro fn hfn
  rw [hro]
  obtain ⟨v0, hv0⟩ : ∃ v0, Value.slice p0 ln c0 = v0 := ⟨_, rfl⟩
  rw [hv0] at hrow hvl0 ⊢
  obtain ⟨W0, hW0⟩ : ∃ W0, w.alloc (.cells #[v0] (ρ.t 24)) = W0 := ⟨_, rfl⟩
  have hs0 : W0.heap.size = w.heap.size + 1 := by rw [← hW0]; simp
  have hb0 : W0.heap[w.heap.size]? = some (.cells #[v0] (ρ.t 24) (0, 0)) := by rw [← hW0]; exact World.alloc_heap_new w _
  have hbl0 : Below w.heap.size w W0 := by rw [← hW0]; exact (Below.refl _ w).alloc (Nat.le_refl _) _
  rw [hW0]
  obtain ⟨W1, hW1⟩ : ∃ W1, (W0.alloc (.deferred (some []))).alloc (.loop (rec1 ρ fn v0 (.func (.func g) #[] lb) w.heap.size W0.heap.size .ready none)) = W1 := ⟨_, rfl⟩
  have hold : ∀ k, k < W0.heap.size → W1.heap[k]? = W0.heap[k]? := fun k hk => by
    rw [← hW1]; exact (Below.heap_alloc _ _ k (by simp; omega)).trans (Below.heap_alloc _ _ k hk)
  have hb1 : Below w.heap.size w W1 := by rw [← hW1]; exact (hbl0.alloc hbl0.size _).alloc (by have := hbl0.size; simp; omega) _
  have hs1 : W1.heap.size = W0.heap.size + 2 := by rw [← hW1]; simp
  have hM : At ρ base w fn v0 (.func (.func g) #[] lb) w.heap.size (W0.heap.size + 1) W0.heap.size l0 [] W1 :=
    ⟨⟨_, (hold w.heap.size (by omega)).trans hb0, by rw [List.append_nil]; exact Lk.row_keep hrow (fun k _ hk => hb1.block k hk), fun k hk => Or.inl hk⟩,
     by rw [← hW1]; have := World.alloc_heap_new (W0.alloc (.deferred (some []))) (.loop (rec1 ρ fn v0 (.func (.func g) #[] lb) w.heap.size W0.heap.size .ready none)); rwa [World.size_alloc] at this,
     by rw [← hW1]; exact (Below.heap_alloc _ _ _ (by simp)).trans (World.alloc_heap_new W0 _), ⟨hb1.os, hb1.tape, hb1.output, hb1.size, fun k hk _ => hb1.block k hk⟩⟩
  refine ⟨W0.heap.size + 1, [{ target := .collected W0.heap.size, args := #[] }], W1, { target := .fn (.func g) lb, args := #[.func (.yield (W0.heap.size + 1)) #[] #[]] }, W1, g,
    #[.func (.yield (W0.heap.size + 1)) #[] #[]] ++ lb, W1, ?_, ?_, ?_, ?_, fun _ => h1, ?_⟩
  · rw [← hW1]; exact run_enterLoop_outer _ _ _ _ _
  · simp [resolve, go_sem]
  · intro f' hf'; simp [Target.leads] at hf'; subst hf'; exact hFg
  · simp [invoke, go_sem, eg]
  · refine (hseq (W0.heap.size + 1) (At ρ base w fn v0 (.func (.func g) #[] lb) w.heap.size (W0.heap.size + 1) W0.heap.size l0) W1 hb1 (abides ρ _ _ _ _ _ _ _ _ _ _ hb1.size)
      (fun pre x W hJ hl => yield { L with } F (n - 1 - 1) base w fn hfn v0 _ w.heap.size (W0.heap.size + 1) W0.heap.size (by omega) (by omega) (by omega) (Nat.le_refl _) (by omega) hbase (l0.length + N) hN hNb l0 pre x W hJ (by rw [List.length_append]; omega)) hM).mono ?_
    rintro e W2 ⟨⟨vx, rfl⟩, ss, hS, h2⟩
    obtain ⟨v, hv, hrow2, hvl⟩ := h2.box
    have hend := run_endLoop (P := P) h2.L (by simp [rec1])
    obtain ⟨W3, hW3⟩ : ∃ W3, W2.putObj (W0.heap.size + 1) (.loop { rec1 ρ fn v0 (.func (.func g) #[] lb) w.heap.size W0.heap.size .ready none with state := .exhausted }) = W3 := ⟨_, rfl⟩
    rw [hW3] at hend
    have hg3 : W2.grownBy W3 (some (W0.heap.size + 1)) := by rw [← hW3]; exact grownBy_putObj_a _ _ _
    have hv3 : W3.heap[w.heap.size]? = some (.cells #[v] (ρ.t 24) (0, 0)) := by rw [← hW3]; exact (World.putObj_heap_other (by omega)).trans hv
    have hK3 : W3.heap[W0.heap.size]? = some (.deferred (some [])) := by rw [← hW3]; exact (World.putObj_heap_other (by omega)).trans h2.K
    have hrow3 := hrow2.kept hg3 (ownsRow_ne_a hrow2 h2.L (fun cur e => by cases e))
    have hgr3 : w.grownBy W3 v0.ownBlock := gtrans h2.gr hg3 (fun i e => by injection e with e; exact Or.inr (by omega))
    obtain ⟨hc3, hf3⟩ := cell_of_box_a hv3
    clear hW3
    refine ⟨none, W3, hend, ?_⟩
    gi_wp2
    rw [← hs0]
    refine ⟨by simp, .inl ⟨_, _, rfl, run_takeDeferred hK3, ?_⟩⟩
    subst hv0
    exact ⟨_, results_tmp rfl _ _ _, v, ss, rfl, hS, hrow3.kept (grownBy_putObj_a _ _ _) (ownsRow_ne_a hrow3 hK3 (fun cur e => by cases e)), hvl, gtrans hgr3 (grownBy_putObj_a _ _ _) (fun i e => by injection e with e; exact Or.inr (by omega))⟩
end Aq

end Go.Proofs.YthaenobciefjiaaDoor
