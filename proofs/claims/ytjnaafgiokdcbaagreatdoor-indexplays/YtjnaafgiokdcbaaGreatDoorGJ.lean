/- The reference's New. -/
import Derived.Test.YtjnaafgiokdcbaaGreatDoorGH
namespace Go.Proofs.YtjnaafgiokdcbaaGreatDoor
open Go.RowKit
namespace Lf
def RW (w : World) (fan : Nat) : World := (w.alloc (.cells #[.int .i64 1, .bool true, .string ⟨#[]⟩, .slice none 0 0] 91)).alloc (.cells #[.slice (some ⟨w.heap.size, 0, none⟩) 1 1, .int .i64 (fan : Int), .int .i64 2] 88)
theorem rw_head (w : World) (fan : Nat) : (RW w fan).heap[w.heap.size + 1]? = some (.cells #[.slice (some ⟨w.heap.size, 0, none⟩) 1 1, .int .i64 (fan : Int), .int .i64 2] 88 (0, 0)) := Mm.newAt _ _ (by simp)
theorem rw_row (w : World) (fan : Nat) : (RW w fan).heap[w.heap.size]? = some (.cells #[.int .i64 1, .bool true, .string ⟨#[]⟩, .slice none 0 0] 91 (0, 0)) := (Mm.oldAt _ _ (by simp)).trans (Mm.newAt _ _ rfl)
theorem rw_bel (w : World) (fan : Nat) : Below w.heap.size w (RW w fan) := ((Below.refl _ _).alloc (Nat.le_refl _) _).alloc (by simp) _
theorem rd0 (w : World) (fan : Nat) : Rd (RW w fan) (w.heap.size + 1) w.heap.size 1 (fun _ => .slice none 0 0) (S0 fan) :=
  ⟨Mm.cellOf (rw_head w fan) rfl, Mm.cellOf (rw_head w fan) rfl, Mm.cellOf (rw_head w fan) rfl, Mm.heapLt (rw_head w fan), Mm.heapLt (rw_row w fan), (by
    intro i P hP
    match i, hP with
    | 0, hP =>
      simp [S0] at hP
      subst hP
      exact ⟨Mm.cellOf (rw_row w fan) rfl, Mm.cellOf (rw_row w fan) rfl, Mm.cellOf (rw_row w fan) rfl, Mm.cellOf (rw_row w fan) rfl⟩
    | i + 1, hP => simp [S0] at hP), (by
    intro P hP
    have e : P = ⟨1, ⟨#[]⟩, []⟩ := List.mem_singleton.1 hP
    subst e
    exact ⟨none, 0, rfl, fun j x hx => by simp at hx⟩)⟩
end Lf

set_option maxRecDepth 100000 in
set_option maxHeartbeats 2000000 in
theorem refNew_any (fan : Nat) (h1 : 2 ≤ fan) (h2 : fan ≤ 64) (w : World) :
    Calls Tryz.prog 31 #[.int .i64 (fan : Int)] w fun e w' => e = .returned (.tuple #[.pointer (some ⟨w.heap.size + 1, 0, none⟩), .int .i64 0]) ∧ w' = Lf.RW w fan := by
  have g1 : ¬ ((fan : Int) < 2) := by omega
  have g2 : ¬ ((64 : Int) < (fan : Int)) := by omega
  go_enter Tryz.func31, Tryz.ntmps31
  go_wp2_with fail
  go_ret2
  exact ⟨rfl, rfl⟩

set_option maxRecDepth 100000 in
set_option maxHeartbeats 2000000 in
theorem refNew_err (fan : Int) (h : fan < 2 ∨ 64 < fan) (w : World) :
    Calls Tryz.prog 31 #[.int .i64 fan] w fun e w' => e = .returned (.tuple #[.pointer none, .int .i64 1]) ∧ w' = w := by
  by_cases h2 : fan < 2
  · clear h
    go_enter Tryz.func31, Tryz.ntmps31
    go_wp2_with fail
    go_ret2
    exact ⟨rfl, rfl⟩
  · have h3 : 64 < fan := h.resolve_left h2
    clear h
    go_enter Tryz.func31, Tryz.ntmps31
    go_wp2_with fail
    go_ret2
    exact ⟨rfl, rfl⟩

end Go.Proofs.YtjnaafgiokdcbaaGreatDoor

/- The reference's leaves, for changes: a row of structs of four cells; append of one leaf. -/
namespace Go.Proofs.YtjnaafgiokdcbaaGreatDoor
open Go.RowKit
namespace Lf
def leafC (kf : Nat → Value) (P : Pg) : List Value := [.int .i64 (P.n : Int), .bool (decide (P.b = ⟨#[]⟩)), .string P.b, kf P.n]
def cellsL (kf : Nat → Value) : List Pg → List Value
  | [] => []
  | P :: l => leafC kf P ++ cellsL kf l
theorem cellsL_length (kf : Nat → Value) : ∀ l, (cellsL kf l).length = l.length * 4
  | [] => rfl
  | _ :: l => by simp [cellsL, leafC, cellsL_length kf l]; omega
theorem cellsL_app (kf : Nat → Value) : ∀ (a b : List Pg), cellsL kf (a ++ b) = cellsL kf a ++ cellsL kf b
  | [], _ => rfl
  | x :: a, b => by simp [cellsL, cellsL_app kf a b]
theorem cellsL_at (kf : Nat → Value) : ∀ (l : List Pg) (j : Nat) (P : Pg), l[j]? = some P → (cellsL kf l)[j * 4]? = some (.int .i64 (P.n : Int)) ∧ (cellsL kf l)[j * 4 + 1]? = some (.bool (decide (P.b = ⟨#[]⟩))) ∧ (cellsL kf l)[j * 4 + 2]? = some (.string P.b) ∧ (cellsL kf l)[j * 4 + 3]? = some (kf P.n)
  | [], j, P, h => by simp at h
  | x :: l, 0, P, h => by simp at h; subst h; simp [cellsL, leafC]
  | x :: l, j + 1, P, h => by
    have ih := cellsL_at kf l j P (by simpa using h)
    rw [show (j + 1) * 4 = j * 4 + 4 from by omega, show j * 4 + 4 + 1 = (j * 4 + 1) + 4 from by omega, show j * 4 + 4 + 2 = (j * 4 + 2) + 4 from by omega, show j * 4 + 4 + 3 = (j * 4 + 3) + 4 from by omega]
    simpa [cellsL, leafC] using ih
set_option maxRecDepth 100000 in
theorem leafInfo : ∃ i, Tryz.prog.info? 91 = some i ∧ i.zero = some (.agg #[.int .i64 0, .bool false, .string ⟨#[]⟩, .slice none 0 0]) ∧ i.size = 4 ∧ i.bytes = 56 := ⟨_, Tryz.type91, rfl, rfl, rfl⟩
theorem leaf_one (kf : Nat → Value) (P : Pg) (h : ∃ q m c, kf P.n = .slice q m c) : ∀ u ∈ leafC kf P, u.oneCell' = true := fun u hu => by
  obtain ⟨q, m, c, e⟩ := h
  simp only [leafC, List.mem_cons, List.not_mem_nil, or_false] at hu
  rcases hu with rfl | rfl | rfl | rfl
  · rfl
  · rfl
  · rfl
  · rw [e]; rfl
/-- append of one leaf. -/
theorem appL {ops : Array Oper} {rest : List Oper} {o : Oper} {a : Act} {Q : Exit → Act → World → Prop} {w : World} (hgd : o.guard = none) (s x : Operand)
    (ho : o.op = .call { callee := .builtin .append, args := #[s, x], argTypes := #[86, 86] }) (base : Nat) (v : Value) (n : Nat) (xs : List Value) (kf : Nat → Value) (P : Pg) (hkf : ∃ q m c, kf P.n = .slice q m c) (hs : a.eval s = v) (hown : w.ownsRow base 91 4 v n xs) (B : Nat) (hx : a.eval x = .slice (some ⟨B, 0, none⟩) 1 1) (hc : ∀ (j : Nat) (u : Value), (leafC kf P)[j]? = some u → w.cell? ⟨B, j, none⟩ = some u) (hlen : n < 1000000) (hbase : base ≤ w.heap.size)
    (h : ∀ v' w', w'.ownsRow base 91 4 v' (n + 1) (xs ++ leafC kf P) → w.grownBy w' v.ownBlock → (v'.ownBlock = v.ownBlock ∨ ∀ g, v'.ownBlock = some g → w.heap.size ≤ g) → wpList Tryz.prog ops Q rest (a.put o.dst v') w') : wpList Tryz.prog ops Q (o :: rest) a w := by
  obtain ⟨i, h1, h2, h3, h4⟩ := leafInfo
  refine wpList_append_own_at _ hgd s x 86 ho base 91 i _ 4 56 Tryz.underlying86 h1 h2 h3 h4 rfl (by decide) v n xs hs hown ⟨B, 0, none⟩ 1 1 (leafC kf P) hx rfl (fun j u hj => by rw [Mm.addPlain, Nat.zero_add]; exact hc j u hj) (leaf_one kf P hkf) (by unfold maxLen; omega) (by omega) hbase (fun v' w' h1 h2 _ h4 => h v' w' h1 h2 ?_)
  rcases h4 with h4 | h4
  · exact Or.inl h4
  · exact Or.inr (fun g hg => by rw [h4] at hg; injection hg with hg; omega)
end Lf

end Go.Proofs.YtjnaafgiokdcbaaGreatDoor

/- The reference's leaves in memory, for changes. -/
namespace Go.Proofs.YtjnaafgiokdcbaaGreatDoor
open Go.RowKit
namespace Lf
/-- Head at p, row of one's own at r, keys anywhere but there. -/
structure Rm (w : World) (base p r c : Nat) (kf : Nat → Value) (s : S) : Prop where
  head : w.heap[p]? = some (.cells #[.slice (some ⟨r, 0, none⟩) s.pgs.length c, .int .i64 (s.fan : Int), .int .i64 ((s.last : Int) + 1)] 88 (0, 0))
  own : w.ownsRow base 91 4 (.slice (some ⟨r, 0, none⟩) s.pgs.length c) s.pgs.length (cellsL kf s.pgs)
  pr : p ≠ r
  lo : base ≤ p
  ks : ∀ P ∈ s.pgs, Mm.Own w base 9 (kf P.n) (strs P.ks) ∧ ∀ g, (kf P.n).ownBlock = some g → g ≠ p ∧ g ≠ r
/-- The blocks that are the reference's. -/
def Rb (p r : Nat) (kf : Nat → Value) (s : S) (b : Nat) : Prop := b = p ∨ b = r ∨ ∃ P ∈ s.pgs, (kf P.n).ownBlock = some b
/-- From world to world: nothing old has turned but two blocks. -/
structure Tc (p r : Nat) (w w' : World) : Prop where
  os : w'.os = w.os
  tape : w'.tape = w.tape
  output : w'.output = w.output
  size : w.heap.size ≤ w'.heap.size
  block : ∀ g, g < w.heap.size → g ≠ p → g ≠ r → w'.heap[g]? = w.heap[g]?
theorem Tc.of {p r : Nat} {w w' : World} (h : Below w.heap.size w w') : Tc p r w w' := ⟨h.os, h.tape, h.output, h.size, fun g hg _ _ => h.block g hg⟩
theorem Tc.below {p r : Nat} {w w1 w2 : World} (h : Below w.heap.size w w1) (k : Tc p r w1 w2) : Tc p r w w2 := ⟨k.os.trans h.os, k.tape.trans h.tape, k.output.trans h.output, Nat.le_trans h.size k.size, fun g hg h1 h2 => (k.block g (Nat.lt_of_lt_of_le hg h.size) h1 h2).trans (h.block g hg)⟩
theorem Tc.set {p r : Nat} {w w' : World} (H : Tc p r w w') {b : Nat} (hb : b = p ∨ b = r ∨ w.heap.size ≤ b) (i : Nat) (u : Value) : Tc p r w (w'.setCell ⟨b, i, none⟩ u) :=
  ⟨H.os, H.tape, H.output, by simpa using H.size, fun g hg h1 h2 => (heap_setCell_other w' _ g _ (by rcases hb with e | e | e <;> simp <;> omega)).trans (H.block g hg h1 h2)⟩
theorem Tc.drew {p r : Nat} {w w' : World} (H : Tc p r w w') : Tc p r w w'.drew := ⟨H.os, H.tape, H.output, H.size, H.block⟩
/-- All below what is the reference's stays. -/
theorem Tc.bel {p r h : Nat} {w w' : World} (H : Tc p r w w') (hp : h ≤ p) (hr : h ≤ r) (hh : h ≤ w.heap.size) : Below h w w' := ⟨H.os, H.tape, H.output, H.size, fun k hk => H.block k (by omega) (by omega) (by omega)⟩
theorem Rm.cells {w : World} {base p r c : Nat} {kf : Nat → Value} {s : S} (H : Rm w base p r c kf s) : ∃ cur, w.heap[r]? = some (.cells cur 91 (0, 0)) ∧ cur.size = c * 4 ∧ ∀ (j : Nat) v, (cellsL kf s.pgs)[j]? = some v → cur[j]? = some v := by
  obtain ⟨_, ⟨h1, _⟩ | ⟨g, cap, cur, e1, _, e3, _, _, e6, e7⟩⟩ := H.own
  · cases h1
  · injection e1 with e1 _ e2
    injection e1 with e1
    injection e1 with e1
    subst e1 e2
    refine ⟨cur, e3, e6, fun j v hj => ?_⟩
    rw [← e7, List.getElem?_take] at hj
    split at hj
    · rw [← hj, Array.getElem?_toList]
    · cases hj
theorem Rm.rd {w : World} {base p r c : Nat} {kf : Nat → Value} {s : S} (H : Rm w base p r c kf s) : Rd w p r c kf s := by
  obtain ⟨cur, h1, _, h2⟩ := H.cells
  refine ⟨Mm.cellOf H.head rfl, Mm.cellOf H.head rfl, Mm.cellOf H.head rfl, Mm.heapLt H.head, Mm.heapLt h1, fun i P hP => ?_, fun P hP => ?_⟩
  · obtain ⟨a0, a1, a2, a3⟩ := cellsL_at kf s.pgs i P hP
    exact ⟨Mm.cellOf h1 (h2 _ _ a0), Mm.cellOf h1 (h2 _ _ a1), Mm.cellOf h1 (h2 _ _ a2), Mm.cellOf h1 (h2 _ _ a3)⟩
  · obtain ⟨q, cq, e, _, h⟩ := own_sin (H.ks P hP).1
    exact ⟨q, cq, e, h⟩
theorem Rm.keep {w w' : World} {base p r c : Nat} {kf : Nat → Value} {s : S} (H : Rm w base p r c kf s) (hk : ∀ b, b < w.heap.size → Rb p r kf s b → w'.heap[b]? = w.heap[b]?) : Rm w' base p r c kf s := by
  obtain ⟨cur, h1, _, _⟩ := H.cells
  refine ⟨(hk p (Mm.heapLt H.head) (Or.inl rfl)).trans H.head, ?_, H.pr, H.lo, fun P hP => ⟨(H.ks P hP).1.keep (fun g hg => hk g ((H.ks P hP).1.lt hg).1 (Or.inr (Or.inr ⟨P, hP, hg⟩))), (H.ks P hP).2⟩⟩
  obtain ⟨h0, ⟨e1, _⟩ | ⟨g, cap, cur', e1, e2, e3, e4⟩⟩ := H.own
  · cases e1
  · refine ⟨h0, Or.inr ⟨g, cap, cur', e1, e2, (hk g (Mm.heapLt e3) (Or.inr (Or.inl ?_))).trans e3, e4⟩⟩
    injection e1 with e1
    injection e1 with e1
    injection e1 with e1
    exact e1.symm
theorem Rm.below {w w' : World} {base p r c : Nat} {kf : Nat → Value} {s : S} (H : Rm w base p r c kf s) (hb : Below w.heap.size w w') : Rm w' base p r c kf s := H.keep (fun b hlt _ => hb.block b hlt)
theorem Rm.row {w : World} {base p r c : Nat} {kf : Nat → Value} {s : S} (H : Rm w base p r c kf s) : r < w.heap.size ∧ base ≤ r := by
  obtain ⟨h0, ⟨e1, _⟩ | ⟨g, cap, cur', e1, e2, e3, e4⟩⟩ := H.own
  · cases e1
  · injection e1 with e1
    injection e1 with e1
    injection e1 with e1
    subst e1
    exact ⟨Mm.heapLt e3, e2⟩
theorem rm0 (w : World) (fan : Nat) : Rm (RW w fan) w.heap.size (w.heap.size + 1) w.heap.size 1 (fun _ => .slice none 0 0) (S0 fan) := by
  refine ⟨rw_head w fan, ?_, Nat.succ_ne_self _, Nat.le_succ _, ?_⟩
  · refine ⟨rfl, Or.inr ⟨w.heap.size, 1, _, rfl, Nat.le_refl _, rw_row w fan, Nat.le_refl _, by decide, rfl, by simp [cellsL, leafC, S0]⟩⟩
  · intro P hP
    have e : P = ⟨1, ⟨#[]⟩, []⟩ := List.mem_singleton.1 hP
    subst e
    exact ⟨Mm.Own.nil _ _ _, fun g h => nomatch h⟩
end Lf

end Go.Proofs.YtjnaafgiokdcbaaGreatDoor

/- A leaf's keys anew, in the reference's row. -/
namespace Go.Proofs.YtjnaafgiokdcbaaGreatDoor
open Go.RowKit
namespace Lf
theorem cellsL_congr {kf kf' : Nat → Value} : ∀ {l : List Pg}, (∀ Q ∈ l, kf Q.n = kf' Q.n) → cellsL kf l = cellsL kf' l
  | [], _ => rfl
  | Q :: r, h => by
    rw [cellsL, cellsL, cellsL_congr (fun X hX => h X (by simp [hX]))]
    unfold leafC
    rw [h Q (by simp)]
theorem cellsL_setK {kf : Nat → Value} {L R : List Pg} {P : Pg} (hn : ∀ Q, Q ∈ L ∨ Q ∈ R → Q.n ≠ P.n) (v : Value) (ks : List ByteArray) : (cellsL kf (L ++ P :: R)).set (L.length * 4 + 3) v = cellsL (upd kf P.n v) (L ++ withKs P ks :: R) := by
  rw [cellsL_app, cellsL_app, List.set_append_right _ _ (by rw [cellsL_length]; omega), cellsL_length, show L.length * 4 + 3 - L.length * 4 = 3 by omega]
  congr 1
  · exact cellsL_congr (fun Q hQ => (upd_other _ _ (hn Q (Or.inl hQ))).symm)
  · rw [cellsL, cellsL, cellsL_congr (l := R) (kf := kf) (kf' := upd kf P.n v) (fun Q hQ => (upd_other _ _ (hn Q (Or.inr hQ))).symm)]
    have e : leafC (upd kf P.n v) (withKs P ks) = [.int .i64 (P.n : Int), .bool (decide (P.b = ⟨#[]⟩)), .string P.b, v] := by
      show [_, _, _, upd kf P.n v P.n] = _
      rw [upd_same]
      rfl
    rw [e]
    rfl
theorem SIn.keep {w w' : World} {q : Option Addr} {l : List ByteArray} (h : SIn w q l) (hz : w.heap.size ≤ w'.heap.size) (hk : ∀ ad, q = some ad → w'.heap[ad.block]? = w.heap[ad.block]?) : SIn w' q l := fun j x hx => by
  obtain ⟨b, o, h1, h2, h3⟩ := h j x hx
  exact ⟨b, o, h1, Nat.lt_of_lt_of_le h2 hz, (World.cell?_of_block (a := ⟨b, o + j, none⟩) (show w'.heap[b]? = w.heap[b]? from hk _ h1)).trans h3⟩
theorem Rm.setK {w : World} {base p r c : Nat} {kf : Nat → Value} {s s' : S} (H : Rm w base p r c kf s) {L R : List Pg} {P : Pg} (he : s.pgs = L ++ P :: R) (hn : ∀ Q, Q ∈ L ∨ Q ∈ R → Q.n ≠ P.n) {ks : List ByteArray} (e1 : s'.fan = s.fan) (e2 : s'.last = s.last) (e3 : s'.pgs = L ++ withKs P ks :: R) {v : Value} (hv : Mm.Own w base 9 v (strs ks)) (hv2 : ∀ g, v.ownBlock = some g → g ≠ p ∧ g ≠ r) :
    Rm (w.setCell ⟨r, L.length * 4 + 3, none⟩ v) base p r c (upd kf P.n v) s' := by
  have hlen : s'.pgs.length = s.pgs.length := by rw [e3, he]; simp
  have oth : ∀ g, g ≠ r → (w.setCell ⟨r, L.length * 4 + 3, none⟩ v).heap[g]? = w.heap[g]? := fun g hg => heap_setCell_other _ _ _ _ (by simpa using hg)
  refine ⟨?_, ?_, H.pr, H.lo, fun Q hQ => ?_⟩
  · rw [oth p H.pr, hlen, e1, e2]; exact H.head
  · obtain ⟨h0, ⟨k1, _⟩ | ⟨g, cap, cur, k1, k2, k3, k4, k5, k6, k7⟩⟩ := H.own
    · cases k1
    · injection k1 with k1 _ k9
      injection k1 with k1
      injection k1 with k1
      subst k1 k9
      refine ⟨by rw [cellsL_length], Or.inr ⟨r, c, cur.setIfInBounds (L.length * 4 + 3) v, by rw [hlen], k2, heap_setCell_same w r _ cur _ v k3, by rw [hlen]; exact k4, k5, by simpa using k6, ?_⟩⟩
      rw [hlen, e3, ← cellsL_setK hn v ks, ← he, ← k7, Array.toList_setIfInBounds, List.take_set]
  · rw [e3] at hQ
    have keep : ∀ Q' : Pg, (Mm.Own w base 9 (kf Q'.n) (strs Q'.ks) ∧ ∀ g, (kf Q'.n).ownBlock = some g → g ≠ p ∧ g ≠ r) → Q'.n ≠ P.n → Mm.Own (w.setCell ⟨r, L.length * 4 + 3, none⟩ v) base 9 (upd kf P.n v Q'.n) (strs Q'.ks) ∧ ∀ g, (upd kf P.n v Q'.n).ownBlock = some g → g ≠ p ∧ g ≠ r := fun Q' h hne => by
      rw [upd_other _ _ hne]
      exact ⟨h.1.keep (fun g hg => oth _ (h.2 g hg).2), h.2⟩
    rcases List.mem_append.1 hQ with h | h
    · exact keep Q (H.ks Q (by rw [he]; simp [h])) (hn Q (Or.inl h))
    · rcases List.mem_cons.1 h with h | h
      · subst h
        show Mm.Own _ _ _ (upd kf P.n v P.n) _ ∧ ∀ g, (upd kf P.n v P.n).ownBlock = some g → _
        rw [upd_same]
        exact ⟨hv.keep (fun g hg => oth _ (hv2 g hg).2), hv2⟩
      · exact keep Q (H.ks Q (by rw [he]; simp [h])) (hn Q (Or.inr h))
/-- Blocks, behind a leaf's keys anew. -/
theorem Rb.setK {p r : Nat} {kf : Nat → Value} {s s' : S} {L R : List Pg} {P : Pg} (he : s.pgs = L ++ P :: R) {ks : List ByteArray} (e3 : s'.pgs = L ++ withKs P ks :: R) (hn : ∀ Q, Q ∈ L ∨ Q ∈ R → Q.n ≠ P.n) {v : Value} {b : Nat} (h : Rb p r (upd kf P.n v) s' b) : Rb p r kf s b ∨ v.ownBlock = some b := by
  rcases h with h | h | ⟨Q, hQ, h⟩
  · exact Or.inl (Or.inl h)
  · exact Or.inl (Or.inr (Or.inl h))
  · rw [e3] at hQ
    rcases List.mem_append.1 hQ with hm | hm
    · rw [upd_other _ _ (hn Q (Or.inl hm))] at h
      exact Or.inl (Or.inr (Or.inr ⟨Q, by rw [he]; simp [hm], h⟩))
    · rcases List.mem_cons.1 hm with hm | hm
      · subst hm
        rw [show (withKs P ks).n = P.n from rfl, upd_same] at h
        exact Or.inr h
      · rw [upd_other _ _ (hn Q (Or.inr hm))] at h
        exact Or.inl (Or.inr (Or.inr ⟨Q, by rw [he]; simp [hm], h⟩))
/-- The row put anew: the head alone turns. -/
theorem Rm.putRow {w : World} {base p r c r' c' n : Nat} {kf kf' : Nat → Value} {s s' : S} (H : Rm w base p r c kf s) (e1 : s'.fan = s.fan) {d : Int} (e2 : (s'.last : Int) + 1 = d) {w1 : World} {h0 : Value} (hh : w1.heap[p]? = some (.cells #[h0, .int .i64 (s.fan : Int), .int .i64 d] 88 (0, 0))) (hn : n = s'.pgs.length)
    (ho : w1.ownsRow base 91 4 (.slice (some ⟨r', 0, none⟩) n c') n (cellsL kf' s'.pgs)) (hpr : p ≠ r') (hks : ∀ P ∈ s'.pgs, Mm.Own w1 base 9 (kf' P.n) (strs P.ks) ∧ ∀ g, (kf' P.n).ownBlock = some g → g ≠ p ∧ g ≠ r') :
    Rm (w1.setCell ⟨p, 0, none⟩ (.slice (some ⟨r', 0, none⟩) n c')) base p r' c' kf' s' := by
  subst hn
  have oth : ∀ g, g ≠ p → (w1.setCell ⟨p, 0, none⟩ (.slice (some ⟨r', 0, none⟩) s'.pgs.length c')).heap[g]? = w1.heap[g]? := fun g hg => heap_setCell_other _ _ _ _ (by simpa using hg)
  refine ⟨?_, ?_, hpr, H.lo, fun Q hQ => ⟨(hks Q hQ).1.keep (fun g hg => oth g ((hks Q hQ).2 g hg).1), (hks Q hQ).2⟩⟩
  · have h9 := heap_setCell_same w1 p 0 _ _ (.slice (some ⟨r', 0, none⟩) s'.pgs.length c') hh
    rw [h9, e1, e2]
    rfl
  · obtain ⟨h0, ⟨k1, _⟩ | ⟨g, cap, cur, k1, k2, k3, k4⟩⟩ := ho
    · cases k1
    · refine ⟨h0, Or.inr ⟨g, cap, cur, k1, k2, (oth g ?_).trans k3, k4⟩⟩
      injection k1 with k1
      injection k1 with k1
      injection k1 with k1
      exact fun e => hpr (by rw [← e, ← k1])
end Lf

end Go.Proofs.YtjnaafgiokdcbaaGreatDoor

/- Which leaf a new key stands on, plain. -/
namespace Go.Proofs.YtjnaafgiokdcbaaGreatDoor
namespace Lf
theorem ins_stay {s : S} {k : ByteArray} {L R : List Pg} {P : Pg} {A B : List ByteArray} (hs : Spl s k L P R) (hf : (A ++ k :: B).length ≤ s.fan) :
    insS s L P R (A ++ k :: B) = insP s L P R (A ++ k :: B) ∧ partM s (withKs P (A ++ k :: B)) = (0, 0) ∧ Spl (insS s L P R (A ++ k :: B)) k L (withKs P (A ++ k :: B)) R := by
  have e : insS s L P R (A ++ k :: B) = insP s L P R (A ++ k :: B) := by
    unfold insS partS
    rw [if_pos (show (withKs P (A ++ k :: B)).ks.length ≤ (insP s L P R (A ++ k :: B)).fan from hf)]
  refine ⟨e, ?_, ?_⟩
  · unfold partM
    rw [if_pos (show (withKs P (A ++ k :: B)).ks.length ≤ s.fan from hf)]
  · rw [e]
    exact ⟨rfl, hs.lo, hs.at_, hs.hi⟩
theorem ins_part {s : S} {k : ByteArray} {L R : List Pg} {P : Pg} {A B : List ByteArray} (hI : Inv s) (hs : Spl s k L P R) (hk : Kp P.ks k A B) (hn : B.head? ≠ some k) (hf : ¬ (A ++ k :: B).length ≤ s.fan) {m : ByteArray} (hm : (A ++ k :: B)[half (A ++ k :: B)]? = some m) :
    insS s L P R (A ++ k :: B) = { insP s L P R (A ++ k :: B) with last := s.last + 1, pgs := L ++ withKs P ((A ++ k :: B).take (half (A ++ k :: B))) :: ⟨s.last + 1, m, (A ++ k :: B).drop (half (A ++ k :: B))⟩ :: R } ∧ partM s (withKs P (A ++ k :: B)) = (P.n, s.last + 1) ∧
    (half (A ++ k :: B) ≤ A.length → Spl (insS s L P R (A ++ k :: B)) k (L ++ [withKs P ((A ++ k :: B).take (half (A ++ k :: B)))]) ⟨s.last + 1, m, (A ++ k :: B).drop (half (A ++ k :: B))⟩ R) ∧
    (A.length < half (A ++ k :: B) → Spl (insS s L P R (A ++ k :: B)) k L (withKs P ((A ++ k :: B).take (half (A ++ k :: B)))) (⟨s.last + 1, m, (A ++ k :: B).drop (half (A ++ k :: B))⟩ :: R)) := by
  obtain ⟨w1, w2, w3, w4⟩ := insP_weak hI hs hk hn
  have eu : upper (insP s L P R (A ++ k :: B)) (withKs P (A ++ k :: B)) = ⟨s.last + 1, m, (A ++ k :: B).drop (half (A ++ k :: B))⟩ := by
    unfold upper
    show (⟨s.last + 1, (A ++ k :: B).getD (half (A ++ k :: B)) ⟨#[]⟩, (A ++ k :: B).drop (half (A ++ k :: B))⟩ : Pg) = _
    rw [List.getD_eq_getElem?_getD, hm]; rfl
  have e : insS s L P R (A ++ k :: B) = { insP s L P R (A ++ k :: B) with last := s.last + 1, pgs := L ++ withKs P ((A ++ k :: B).take (half (A ++ k :: B))) :: ⟨s.last + 1, m, (A ++ k :: B).drop (half (A ++ k :: B))⟩ :: R } := by
    unfold insS partS
    rw [if_neg (show ¬ (withKs P (A ++ k :: B)).ks.length ≤ (insP s L P R (A ++ k :: B)).fan from hf), eu]
    rfl
  refine ⟨e, ?_, fun hh => ?_, fun hh => ?_⟩
  · unfold partM
    rw [if_neg (show ¬ (withKs P (A ++ k :: B)).ks.length ≤ s.fan from hf)]
    rfl
  · have hkm : lt k m = false := by
      have hkk : (A ++ k :: B)[A.length]? = some k := by simp
      rcases Nat.lt_or_ge (half (A ++ k :: B)) A.length with h | h
      · exact lt_as (up_at w3 h hm hkk)
      · have : half (A ++ k :: B) = A.length := by omega
        rw [this, hkk] at hm
        injection hm with hm
        rw [← hm]; exact lt_irr _
    rw [e]
    refine ⟨by simp, fun Q hQ => ?_, hkm, hs.hi⟩
    rcases List.mem_append.1 hQ with h | h
    · exact hs.lo Q h
    · rw [List.mem_singleton.1 h]; exact hs.at_
  · have hkm : lt k m = true := up_at w3 hh (by simp) hm
    rw [e]
    refine ⟨rfl, hs.lo, hs.at_, fun Q hQ => ?_⟩
    rcases List.mem_cons.1 hQ with h | h
    · rw [h]; exact hkm
    · exact hs.hi Q h
end Lf

end Go.Proofs.YtjnaafgiokdcbaaGreatDoor
