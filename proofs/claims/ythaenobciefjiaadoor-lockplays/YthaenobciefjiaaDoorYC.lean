/- LockPlays: the reference's Release: what it goes through. -/
import Derived.Test.YthaenobciefjiaaDoorYB
import Derived.Test.YthaenobciefjiaaDoorA8
namespace Go.Proofs.YthaenobciefjiaaDoor
open Go.RowKit Go.Maps

namespace Lk
theorem ownLt {W : World} {k n size g : Nat} {e : TypeId} {v : Value} {xs : List Value} (h : W.ownsRow k e size v n xs) (hg : v.ownBlock = some g) : k ≤ g ∧ g < W.heap.size := by
  rcases h.2 with ⟨e1, _⟩ | ⟨g', cap, cur, e1, e2, e3, _⟩
  · rw [e1] at hg; cases hg
  · rw [e1] at hg; cases hg; exact ⟨e2, heapLt e3⟩
theorem ownKept {W W' : World} {k n size : Nat} {e : TypeId} {v : Value} {xs : List Value} (h : W.ownsRow k e size v n xs) (hk : ∀ g, v.ownBlock = some g → W'.heap[g]? = W.heap[g]?) : W'.ownsRow k e size v n xs := by
  obtain ⟨h1, h2⟩ := h
  refine ⟨h1, ?_⟩
  rcases h2 with h2 | ⟨g, cap, cur, e1, e2, e3, r⟩
  · exact Or.inl h2
  · exact Or.inr ⟨g, cap, cur, e1, e2, (hk g (by rw [e1]; rfl)).trans e3, r⟩
theorem ownGrown {W W' : World} {k n size : Nat} {e : TypeId} {v : Value} {xs : List Value} {row : Option Nat} (h : W.ownsRow k e size v n xs) (hg : W.grownBy W' row) (hne : ∀ g, v.ownBlock = some g → row ≠ some g) : W'.ownsRow k e size v n xs :=
  ownKept h (fun g hg' => hg.block g (ownLt h hg').2 (fun e => hne g hg' e.symm))
theorem cells3 (w : World) (y : Hd) (t : TypeId) : ∀ j u, (cellsH [y])[j]? = some u → (w.alloc (.cells #[str y.nm, .int .i64 y.ho, .int .i64 y.md] t)).cell? ((⟨w.heap.size, 0, none⟩ : Addr).add j) = some u := fun j u hu => by
  rw [addPlain, Nat.zero_add]
  unfold World.cell?
  simp only [newAt w _ rfl]
  simpa [cellsH] using hu
/-- Through a list: who stays, and which names are the holder's. -/
structure Lp (w wr : World) (L : List Hd) (x : Int) (i : Nat) (v0 : Value) (H0 : List Hd) (T0 : List Bytes) (v : Value) (H : List Hd) (vt : Value) (Tl : List Bytes) : Prop where
  bel : Below w.heap.size w wr
  row0 : wr.ownsRow w.heap.size 71 3 v0 H0.length (cellsH H0)
  row : wr.ownsRow w.heap.size 71 3 v H.length (cellsH H)
  tow : wr.ownsRow w.heap.size 9 1 vt Tl.length (strsV Tl)
  ap : ∀ g, v.ownBlock = some g → vt.ownBlock ≠ some g
  ap0 : ∀ g, v0.ownBlock = some g → vt.ownBlock ≠ some g ∧ v.ownBlock ≠ some g
  eH : H = (L.take i).filter (fun y => y.ho != x)
  eT : Tl = T0 ++ ((L.take i).filter (fun y => y.ho == x)).map (·.nm)
theorem Lp.start (w : World) (L : List Hd) (x : Int) : Lp w w L x 0 (.slice none 0 0) [] [] (.slice none 0 0) [] (.slice none 0 0) [] :=
  ⟨Below.refl _ _, ⟨rfl, Or.inl ⟨rfl, rfl⟩⟩, ⟨rfl, Or.inl ⟨rfl, rfl⟩⟩, ⟨rfl, Or.inl ⟨rfl, rfl⟩⟩, (fun _ h => nomatch h), (fun _ h => nomatch h), by simp, by simp⟩
theorem Lp.turn {w wr : World} {L L2 : List Hd} {x : Int} {i : Nat} {v0 : Value} {H0 : List Hd} {T0 : List Bytes} {v : Value} {H : List Hd} {vt : Value} {Tl : List Bytes} (h : Lp w wr L x i v0 H0 T0 v H vt Tl) : Lp w wr L2 x 0 v H Tl (.slice none 0 0) [] vt Tl :=
  ⟨h.bel, h.row, ⟨rfl, Or.inl ⟨rfl, rfl⟩⟩, h.tow, (fun _ h => nomatch h), fun g hg => ⟨h.ap g hg, (fun h => nomatch h)⟩, by simp, by simp⟩
theorem Lp.touch {w wr w2 : World} {L : List Hd} {x : Int} {i : Nat} {v0 : Value} {H0 : List Hd} {T0 : List Bytes} {v : Value} {H : List Hd} {vt vt' : Value} {Tl : List Bytes} {y : Hd} {o : Obj} (h : Lp w wr L x i v0 H0 T0 v H vt Tl) (hy : L[i]? = some y) (hx : (y.ho == x) = true)
    (hown : w2.ownsRow w.heap.size 9 1 vt' (Tl.length + 1) (strsV Tl ++ [str y.nm])) (hg : (wr.alloc o).grownBy w2 vt.ownBlock) (hloc : vt'.ownBlock = vt.ownBlock ∨ vt'.ownBlock = some (wr.alloc o).heap.size) : Lp w w2 L x (i + 1) v0 H0 T0 v H vt' (Tl ++ [y.nm]) := by
  have e : L.take (i + 1) = L.take i ++ [y] := by rw [List.take_add_one, hy]; rfl
  have hA : Below wr.heap.size wr (wr.alloc o) := belAl (Below.refl _ _) o
  have fresh : ∀ g, vt'.ownBlock = some g → vt.ownBlock = some g ∨ wr.heap.size ≤ g := fun g hg' => by
    rcases hloc with e2 | e2
    · exact Or.inl (by rw [← e2]; exact hg')
    · rw [e2] at hg'
      injection hg' with hg'
      right
      rw [← hg']; simp
  refine ⟨(belTr h.bel hA).grown hg (belTr h.bel hA).size (fun g hg' => (ownLt h.tow hg').1), ownGrown (ownBelow h.row0 hA) hg (fun g hg' => (h.ap0 g hg').1), ownGrown (ownBelow h.row hA) hg (fun g hg' => h.ap g hg'), by simpa using hown, fun g hg' e2 => ?_, fun g hg' => ⟨fun e2 => ?_, (h.ap0 g hg').2⟩, ?_, ?_⟩
  · rcases fresh g e2 with c | c
    · exact h.ap g hg' c
    · have := (ownLt h.row hg').2; omega
  · rcases fresh g e2 with c | c
    · exact (h.ap0 g hg').1 c
    · have := (ownLt h.row0 hg').2; omega
  · rw [e, List.filter_append, ← h.eH, List.filter_cons_of_neg (by rw [bne, hx]; decide), List.filter_nil, List.append_nil]
  · rw [e, List.filter_append, List.map_append, ← List.append_assoc, ← h.eT, List.filter_cons, if_pos hx]; rfl
theorem Lp.stay {w wr w2 : World} {L : List Hd} {x : Int} {i : Nat} {v0 : Value} {H0 : List Hd} {T0 : List Bytes} {v v' : Value} {H : List Hd} {vt : Value} {Tl : List Bytes} {y : Hd} {o : Obj} (h : Lp w wr L x i v0 H0 T0 v H vt Tl) (hy : L[i]? = some y) (hx : (y.ho == x) = false)
    (hown : w2.ownsRow w.heap.size 71 3 v' (H.length + 1) (cellsH H ++ cellsH [y])) (hg : (wr.alloc o).grownBy w2 v.ownBlock) (hloc : v'.ownBlock = v.ownBlock ∨ v'.ownBlock = some (wr.alloc o).heap.size) : Lp w w2 L x (i + 1) v0 H0 T0 v' (H ++ [y]) vt Tl := by
  have e : L.take (i + 1) = L.take i ++ [y] := by rw [List.take_add_one, hy]; rfl
  have hA : Below wr.heap.size wr (wr.alloc o) := belAl (Below.refl _ _) o
  have fresh : ∀ g, v'.ownBlock = some g → v.ownBlock = some g ∨ wr.heap.size ≤ g := fun g hg' => by
    rcases hloc with e2 | e2
    · exact Or.inl (by rw [← e2]; exact hg')
    · rw [e2] at hg'
      injection hg' with hg'
      right
      rw [← hg']; simp
  refine ⟨(belTr h.bel hA).grown hg (belTr h.bel hA).size (fun g hg' => (ownLt h.row hg').1), ownGrown (ownBelow h.row0 hA) hg (fun g hg' => (h.ap0 g hg').2), by rw [cellsH_app]; simpa using hown, ownGrown (ownBelow h.tow hA) hg (fun g hg' e2 => h.ap g e2 hg'), fun g hg' e2 => ?_, fun g hg' => ⟨(h.ap0 g hg').1, fun e2 => ?_⟩, ?_, ?_⟩
  · rcases fresh g hg' with c | c
    · exact h.ap g c e2
    · have := (ownLt h.tow e2).2; omega
  · rcases fresh g e2 with c | c
    · exact (h.ap0 g hg').2 c
    · have := (ownLt h.row0 hg').2; omega
  · rw [e, List.filter_append, ← h.eH, List.filter_cons_of_pos (by rw [bne, hx]; decide)]; rfl
  · rw [e, List.filter_append, List.filter_cons_of_neg (by rw [hx]; decide), List.filter_nil, List.append_nil]; exact h.eT
/-- Both lists are stored. -/
theorem Ends.store2 {X : List Nat} {W Wn : World} {T base : Nat} {r : Rt} {v0 v1 : Value} {l0 l1 : List Hd} {e : TypeId} (h : Rm X W T r) (hb : Below W.heap.size W Wn) (own0 : Wn.ownsRow base e 3 v0 l0.length (cellsH l0)) (own1 : Wn.ownsRow base e 3 v1 l1.length (cellsH l1)) (hbase : W.heap.size ≤ base) :
    Ends X W ((Wn.setCell ⟨T, 0, none⟩ v0).setCell ⟨T, 1, none⟩ v1) T ⟨l0, l1⟩ := by
  obtain ⟨Y, k1, k2, k3⟩ := Ends.store0 h hb own0 hbase rfl
  have hT := h.lt
  have own1' : (Wn.setCell ⟨T, 0, none⟩ v0).ownsRow base e 3 v1 l1.length (cellsH l1) := ownKept own1 (fun g hg => Below.heap_setCell Wn ⟨T, 0, none⟩ v0 g (fun e2 => by have := (ownLt own1 hg).1; simp at e2; omega))
  -- the base of the second store is a later one: what is stored lies behind the first world
  obtain ⟨p, c, rfl, m1, m2, m3, m4, m5⟩ := rowX own1'
  obtain ⟨pa, ca, pb, cb, h1, h2, h3, h4, h5, h6, h7, h8, h9⟩ := k1.cell
  have hz := set_size (Wn.setCell ⟨T, 0, none⟩ v0) ⟨T, 1, none⟩ (.slice p l1.length c)
  have other : ∀ b, b ≠ T → ((Wn.setCell ⟨T, 0, none⟩ v0).setCell ⟨T, 1, none⟩ (.slice p l1.length c)).heap[b]? = (Wn.setCell ⟨T, 0, none⟩ v0).heap[b]? := fun b hne => Below.heap_setCell _ ⟨T, 1, none⟩ _ b hne
  have hm : ∀ b ∈ blk p, W.heap.size ≤ b := fun b hb => Nat.le_trans hbase (m5 b hb).1
  refine ⟨blk p ++ Y, ⟨by rw [List.append_assoc]; exact List.mem_append_right _ k1.mem, pa, ca, p, c, set1_heap h1, h2.keep (Nat.le_of_eq hz.symm) (fun b o e => other b (h8 b o e).2.1), Lies.keep m3 (Nat.le_of_eq hz.symm) (fun b o e => other b (fun e2 => ?_)), h4, m2, h6, m1, fun b o e => ⟨by rw [List.append_assoc]; exact List.mem_append_right _ (h8 b o e).1, (h8 b o e).2⟩, fun b o e => ⟨by rw [List.append_assoc]; exact List.mem_append_left _ (m4 b o e).1, fun e2 => ?_, (m4 b o e).2⟩⟩, ?_, fun b hb => ?_⟩
  · have := hm b (m4 b o e).1; omega
  · have := hm b (m4 b o e).1; omega
  · exact ⟨k2.os, k2.tape, k2.output, by rw [hz]; exact k2.size, fun i hi hne => (other i (fun e => hne (by rw [e]))).trans (k2.block i hi hne)⟩
  · rcases List.mem_append.1 hb with hb | hb
    · exact ⟨hm b hb, by rw [hz]; exact (m5 b hb).2⟩
    · exact ⟨(k3 b hb).1, by rw [hz]; exact (k3 b hb).2⟩
end Lk

end Go.Proofs.YthaenobciefjiaaDoor

/- LockPlays: the reference's Release: the names, the queue. -/
namespace Go.Proofs.YthaenobciefjiaaDoor
open Go.RowKit Go.Maps

namespace Lk
theorem Sl.keep {w w1 : World} {p : Option Addr} {n c : Nat} {cs : List Value} (h : Sl w p n c cs) (hz : w.heap.size ≤ w1.heap.size) (hk : cs ≠ [] → ∀ b, p = some ⟨b, 0, .none⟩ → w1.heap[b]? = w.heap[b]?) : Sl w1 p n c cs := by
  refine ⟨?_, h.nil, h.zero, h.cap⟩
  by_cases hc : cs = []
  · exact Or.inl (by rw [hc]; rfl)
  · exact h.lies.keep hz (fun b o e => hk hc b (by obtain ⟨b', e'⟩ := h.zero _ e; injection e' with _ e'; subst e'; exact e))
theorem ne_strs {N : List Bytes} (h : strsV N ≠ []) : N ≠ [] := fun e => h (by rw [e]; rfl)
/-- Between two calls: the table, the names, those touched, what is told. -/
structure Lc (X Y : List Nat) (W wr : World) (T : Nat) (r : Rt) (pn : Option Addr) (cn : Nat) (N : List Bytes) (pt : Option Addr) (ct : Nat) (Tl : List Bytes) (vo : Value) (out : List Int) : Prop where
  rm : Rm (Y ++ X) wr T r
  gr : W.grownBy wr (some T)
  yb : ∀ b ∈ Y, W.heap.size ≤ b ∧ b < wr.heap.size
  nm : Sl wr pn N.length cn (strsV N)
  tl : Sl wr pt Tl.length ct (strsV Tl)
  row : wr.ownsRow W.heap.size 3 1 vo out.length (numsV out)
  ap : ∀ g, vo.ownBlock = some g → g ∉ Y ∧ (N ≠ [] → ∀ b, pn = some ⟨b, 0, none⟩ → b ≠ g) ∧ ∀ b, pt = some ⟨b, 0, none⟩ → b ≠ g
  tn : (N ≠ [] → ∀ b, pn = some ⟨b, 0, none⟩ → b ≠ T) ∧ ∀ b, pt = some ⟨b, 0, none⟩ → b ≠ T
  bn : (N ≠ [] → ∀ b, pn = some ⟨b, 0, none⟩ → b < wr.heap.size) ∧ ∀ b, pt = some ⟨b, 0, none⟩ → b < wr.heap.size
  tw : T < W.heap.size
  xw : ∀ b ∈ X, b < W.heap.size
variable {X Y : List Nat} {W wr w2 : World} {T : Nat} {r r2 : Rt} {pn pt : Option Addr} {cn ct : Nat} {N Tl : List Bytes} {vo vo' : Value} {out : List Int}
theorem Lc.below (h : Lc X Y W wr T r pn cn N pt ct Tl vo out) (hb : Below wr.heap.size wr w2) : Lc X Y W w2 T r pn cn N pt ct Tl vo out :=
  ⟨h.rm.below hb, ⟨hb.os.trans h.gr.os, hb.tape.trans h.gr.tape, hb.output.trans h.gr.output, Nat.le_trans h.gr.size hb.size, fun i hi hne => (hb.block i (Nat.lt_of_lt_of_le hi h.gr.size)).trans (h.gr.block i hi hne)⟩, fun b hb' => ⟨(h.yb b hb').1, Nat.lt_of_lt_of_le (h.yb b hb').2 hb.size⟩, h.nm.below hb, h.tl.below hb, ownBelow h.row hb, h.ap, h.tn, ⟨fun q b e => Nat.lt_of_lt_of_le (h.bn.1 q b e) hb.size, fun b e => Nat.lt_of_lt_of_le (h.bn.2 b e) hb.size⟩, h.tw, h.xw⟩
theorem Lc.ends (h : Lc X Y W wr T r pn cn N pt ct Tl vo out) (he : Ends (Y ++ X) wr w2 T r2) : ∃ Y2, Lc X Y2 W w2 T r2 pn cn N pt ct Tl vo out := by
  obtain ⟨Z, h1, h2, h3⟩ := he
  refine ⟨Z ++ Y, by rw [List.append_assoc]; exact h1, grown_tr h.gr h2, fun b hb => ?_, h.nm.keep h2.size (fun q b e => h2.block b (h.bn.1 (ne_strs q) b e) (fun e2 => by injection e2 with e2; exact h.tn.1 (ne_strs q) b e e2)), h.tl.keep h2.size (fun _ b e => h2.block b (h.bn.2 b e) (fun e2 => by injection e2 with e2; exact h.tn.2 b e e2)), ownGrown h.row h2 (fun g hg e2 => by injection e2 with e2; have := (ownLt h.row hg).1; have := h.tw; omega), fun g hg => ⟨fun hm => ?_, (h.ap g hg).2⟩, h.tn, ⟨fun q b e => Nat.lt_of_lt_of_le (h.bn.1 q b e) h2.size, fun b e => Nat.lt_of_lt_of_le (h.bn.2 b e) h2.size⟩, h.tw, h.xw⟩
  · rcases List.mem_append.1 hb with hb | hb
    · exact ⟨Nat.le_trans h.gr.size (h3 b hb).1, (h3 b hb).2⟩
    · exact ⟨(h.yb b hb).1, Nat.lt_of_lt_of_le (h.yb b hb).2 h2.size⟩
  · rcases List.mem_append.1 hm with hm | hm
    · have := (h3 g hm).1; have := (ownLt h.row hg).2; omega
    · exact (h.ap g hg).1 hm
theorem Lc.tell (h : Lc X Y W wr T r pn cn N pt ct Tl vo out) {o : Obj} {a : Int} (hown : w2.ownsRow W.heap.size 3 1 vo' (out.length + 1) (numsV out ++ [.int .i64 a])) (hg : (wr.alloc o).grownBy w2 vo.ownBlock) (hloc : vo'.ownBlock = vo.ownBlock ∨ vo'.ownBlock = some (wr.alloc o).heap.size) : Lc X Y W w2 T r pn cn N pt ct Tl vo' (out ++ [a]) := by
  have hA : Below wr.heap.size wr (wr.alloc o) := belAl (Below.refl _ _) o
  have hB := h.below hA
  have fresh : ∀ g, vo'.ownBlock = some g → vo.ownBlock = some g ∨ wr.heap.size ≤ g := fun g hg' => by
    rcases hloc with e2 | e2
    · exact Or.inl (by rw [← e2]; exact hg')
    · rw [e2] at hg'
      injection hg' with hg'
      right
      rw [← hg']; simp
  have lo : ∀ g, vo.ownBlock = some g → W.heap.size ≤ g := fun g hg' => (ownLt h.row hg').1
  have keep : ∀ b, b < (wr.alloc o).heap.size → (∀ g, vo.ownBlock = some g → b ≠ g) → w2.heap[b]? = (wr.alloc o).heap[b]? := fun b hb hne => hg.block b hb (fun e => hne b e.symm rfl)
  refine ⟨hB.rm.keep hg.size (fun b hb => ?_), ⟨hg.os.trans hB.gr.os, hg.tape.trans hB.gr.tape, hg.output.trans hB.gr.output, Nat.le_trans hB.gr.size hg.size, fun i hi hne => (keep i (Nat.lt_of_lt_of_le hi hB.gr.size) (fun g hg' => by have := lo g hg'; omega)).trans (hB.gr.block i hi hne)⟩, fun b hb => ⟨(hB.yb b hb).1, Nat.lt_of_lt_of_le (hB.yb b hb).2 hg.size⟩, hB.nm.keep hg.size (fun q b e => keep b (hB.bn.1 (ne_strs q) b e) (fun g hg' => (h.ap g hg').2.1 (ne_strs q) b e)), hB.tl.keep hg.size (fun _ b e => keep b (hB.bn.2 b e) (fun g hg' => (h.ap g hg').2.2 b e)), by simpa using hown, fun g hg' => ?_, h.tn, ⟨fun q b e => Nat.lt_of_lt_of_le (hB.bn.1 q b e) hg.size, fun b e => Nat.lt_of_lt_of_le (hB.bn.2 b e) hg.size⟩, h.tw, h.xw⟩
  · rcases List.mem_append.1 hb with hb | hb
    · exact keep b (hB.yb b hb).2 (fun g hg' e => (h.ap g hg').1 (by rw [← e]; exact hb))
    · have hx := h.xw b hb
      exact keep b (Nat.lt_of_lt_of_le hx hB.gr.size) (fun g hg' => by have := lo g hg'; omega)
  · rcases fresh g hg' with c | c
    · exact h.ap g c
    · refine ⟨fun hm => ?_, fun q b e => ?_, fun b e => ?_⟩
      · have := (h.yb g hm).2; omega
      · have := h.bn.1 q b e; omega
      · have := h.bn.2 b e; omega

/-- .. at the start. -/
theorem Lc.start {w1 w3 : World} {v0 v1 : Value} (hR : Rm X W T r2) (hX : ∀ b ∈ X, b < W.heap.size) (hb1 : Below W.heap.size W w1) (hbw : Below w1.heap.size w1 wr) (hN : Sl w1 pn N.length cn (strsV N)) (hT : wr.ownsRow w1.heap.size 9 1 (.slice pt Tl.length ct) Tl.length (strsV Tl))
    (k1 : Rm (Y ++ X) w3 T r) (k2 : W.grownBy w3 (some T)) (k3 : ∀ b ∈ Y, W.heap.size ≤ b ∧ b < w3.heap.size) (e3 : w3 = (wr.setCell ⟨T, 0, none⟩ v0).setCell ⟨T, 1, none⟩ v1) : Lc X Y W w3 T r pn cn N pt ct Tl (.slice none 0 0) [] := by
  have hz : w3.heap.size = wr.heap.size := by rw [e3, set_size, set_size]
  have other : ∀ b, b ≠ T → w3.heap[b]? = wr.heap[b]? := fun b hne => by
    rw [e3]
    exact (Below.heap_setCell _ ⟨T, 1, none⟩ v1 b hne).trans (Below.heap_setCell _ ⟨T, 0, none⟩ v0 b hne)
  have hTW := hR.lt
  have hNw := hN.below hbw
  have hn : N ≠ [] → ∀ b, pn = some ⟨b, 0, none⟩ → b ≠ T ∧ b < wr.heap.size := fun q b e => by
    obtain ⟨a, N', e2⟩ := List.exists_cons_of_ne_nil q
    obtain ⟨b', e3, h1, h2⟩ := hN.txt (j := 0) (a := a) (by rw [e2]; rfl)
    rw [e] at e3
    injection e3 with e3
    injection e3 with e3
    subst e3
    refine ⟨fun e4 => ?_, Nat.lt_of_lt_of_le h1 hbw.size⟩
    obtain ⟨pa, ca, hc, -⟩ := (hR.below hb1).has
    rw [e4, hc] at h2
    cases h2
  have ht : ∀ b, pt = some ⟨b, 0, none⟩ → b ≠ T ∧ b < wr.heap.size := fun b e => by
    have := ownLt (g := b) hT (by rw [e]; rfl)
    have := hb1.size
    exact ⟨by omega, by omega⟩
  obtain ⟨p', c', e4, hTs⟩ := Sl.own hT
  injection e4 with e4 _ e5
  subst e4 e5
  exact ⟨k1, k2, k3, hNw.keep (Nat.le_of_eq hz.symm) (fun q b e => other b (hn (ne_strs q) b e).1), hTs.keep (Nat.le_of_eq hz.symm) (fun _ b e => other b (ht b e).1), ⟨rfl, Or.inl ⟨rfl, rfl⟩⟩, (fun _ h => nomatch h), ⟨fun q b e => (hn q b e).1, fun b e => (ht b e).1⟩, ⟨fun q b e => by rw [hz]; exact (hn q b e).2, fun b e => by rw [hz]; exact (ht b e).2⟩, hTW, hX⟩
theorem Ends.box {y : Hd} (he : Ends X wr w2 T r) {g : Nat} (hb : Box3 wr g y) (hne : g ≠ T) : Box3 w2 g y := by
  obtain ⟨Z, h1, h2, h3⟩ := he
  exact (h2.block g (heapLt hb) (fun e => hne (by injection e))).trans hb
theorem nameW (_h : Hid (Lc X Y W wr T r pn cn N pt ct Tl vo out)) : ∃ w4, w4 = wr := ⟨_, rfl⟩
/-- What is still to come comes to fin. -/
structure Fin (f : Bytes → Bool) (N : List Bytes) (k : Nat) (r : Rt) (out : List Int) (fin : Rt × List Int) : Prop where
  e1 : (relT ((N.drop k).filter f) r).1 = fin.1
  e2 : out ++ (relT ((N.drop k).filter f) r).2 = fin.2
  l1 : r.has.length + r.qu.length ≤ 800
  l2 : out.length + r.qu.length ≤ 800
  ok : (∀ y ∈ r.has, y.ok) ∧ ∀ y ∈ r.qu, y.ok
/-- .. from within a queue. -/
structure FinE (f : Bytes → Bool) (N : List Bytes) (k : Nat) (nm : Bytes) (has A B : List Hd) (out : List Int) (fin : Rt × List Int) : Prop where
  e1 : (relT ((N.drop k).filter f) ⟨(serveT nm has A B).1, (serveT nm has A B).2.1⟩).1 = fin.1
  e2 : out ++ (serveT nm has A B).2.2 ++ (relT ((N.drop k).filter f) ⟨(serveT nm has A B).1, (serveT nm has A B).2.1⟩).2 = fin.2
  l1 : has.length + A.length + B.length ≤ 800
  l2 : out.length + A.length + B.length ≤ 800
  ok : (∀ y ∈ has, y.ok) ∧ (∀ y ∈ A, y.ok) ∧ ∀ y ∈ B, y.ok
variable {f : Bytes → Bool} {k : Nat} {nm : Bytes} {has A B : List Hd} {fin : Rt × List Int} {y : Hd}
theorem dropAt {L : List Bytes} {k : Nat} {nm : Bytes} (ho : L[k]? = some nm) : L.drop k = nm :: L.drop (k + 1) := by
  rw [← (List.getElem?_eq_some_iff.1 ho).2, List.getElem_cons_drop]
theorem Fin.skip (h : Fin f N k r out fin) (hn : N[k]? = some nm) (hf : f nm = false) : Fin f N (k + 1) r out fin := by
  have e : (N.drop k).filter f = (N.drop (k + 1)).filter f := by rw [dropAt hn, List.filter_cons_of_neg (by rw [hf]; decide)]
  exact ⟨by rw [← e]; exact h.e1, by rw [← e]; exact h.e2, h.l1, h.l2, h.ok⟩
theorem Fin.enter (h : Fin f N k r out fin) (hn : N[k]? = some nm) (hf : f nm = true) : FinE f N (k + 1) nm r.has [] r.qu out fin := by
  have e : (N.drop k).filter f = nm :: (N.drop (k + 1)).filter f := by rw [dropAt hn, List.filter_cons_of_pos hf]
  have h1 := h.e1
  have h2 := h.e2
  rw [e, relT] at h1 h2
  exact ⟨h1, by rw [List.append_assoc]; exact h2, by have := h.l1; simp; omega, by have := h.l2; simp; omega, h.ok.1, (fun _ h => nomatch h), h.ok.2⟩
theorem FinE.wait (h : FinE f N k nm has A (y :: B) out fin) (hw : y.nm ≠ nm ∨ barsRb has A y = true) : FinE f N k nm has (A ++ [y]) B out fin := by
  have h1 := h.e1
  have h2 := h.e2
  rw [serveT_wait hw] at h1 h2
  refine ⟨h1, h2, by have := h.l1; simp at this ⊢; omega, by have := h.l2; simp at this ⊢; omega, h.ok.1, fun z hz => ?_, fun z hz => h.ok.2.2 z (List.mem_cons_of_mem _ hz)⟩
  rcases List.mem_append.1 hz with hz | hz
  · exact h.ok.2.1 z hz
  · rw [List.mem_singleton.1 hz]; exact h.ok.2.2 y (List.mem_cons_self ..)
theorem FinE.get (h : FinE f N k nm has A (y :: B) out fin) (h3 : y.nm = nm) (h4 : barsRb has A y = false) : FinE f N k nm (has ++ [y]) A B (out ++ [y.ho]) fin := by
  have h1 := h.e1
  have h2 := h.e2
  rw [serveT_get h3 h4] at h1 h2
  refine ⟨h1, by rw [← h2]; simp, by have := h.l1; simp at this ⊢; omega, by have := h.l2; simp at this ⊢; omega, fun z hz => ?_, h.ok.2.1, fun z hz => h.ok.2.2 z (List.mem_cons_of_mem _ hz)⟩
  rcases List.mem_append.1 hz with hz | hz
  · exact h.ok.1 z hz
  · rw [List.mem_singleton.1 hz]; exact h.ok.2.2 y (List.mem_cons_self ..)
theorem FinE.leave (h : FinE f N k nm has A [] out fin) : Fin f N k ⟨has, A⟩ out fin :=
  ⟨h.e1, by have := h.e2; simpa [serveT] using this, by have := h.l1; simp at this ⊢; omega, by have := h.l2; simp at this ⊢; omega, h.ok.1, h.ok.2.1⟩
/-- How long the queue is. -/
def quN (T : Nat) (w : World) : Nat := match w.cell? ⟨T, 1, none⟩ with | some (.slice _ n _) => n | _ => 0
theorem Rm.quN {X : List Nat} {W : World} {T : Nat} {r : Rt} (h : Rm X W T r) : Lk.quN T W = r.qu.length := by
  obtain ⟨pa, ca, pb, cb, h1, -⟩ := h.cell
  unfold Lk.quN World.cell?
  simp only [h1]
  simp
/-- The names of the walk and those of any list. -/
theorem mine_is {N L : List Bytes} {Tq : List Bytes} {hq : List Hd} {x : Int} (hu : Rs.Up (· ≤ ·) N) (hN : ∀ n, n ∈ N ↔ ∃ y ∈ hq, y.nm = n) (hT : ∀ n, n ∈ Tq ↔ ∃ y ∈ hq, y.ho = x ∧ y.nm = n) (hL : Rs.Up (· ≤ ·) L) (hm : ∀ n, n ∈ L ↔ ∃ y ∈ hq, y.ho = x ∧ y.nm = n) : N.filter (fun n => Tq.contains n) = L := by
  refine Rs.one Rs.le_an (List.Pairwise.sublist List.filter_sublist hu) hL (fun n => ?_)
  rw [List.mem_filter, List.contains_iff_mem, hT, hm, hN]
  exact ⟨fun h => h.2, fun ⟨y, h1, h2, h3⟩ => ⟨⟨y, h1, h3⟩, ⟨y, h1, h2, h3⟩⟩⟩
end Lk

end Go.Proofs.YthaenobciefjiaaDoor

/- LockPlays: what Release of the reference's comes to. -/
namespace Go.Proofs.YthaenobciefjiaaDoor
open Go.RowKit

/-- The contract of the reference's Release. -/
def Lk.RelOk : Prop := ∀ (X : List Nat) (W : World) (T : Nat) (r : Lk.Rt) (x : Int), Hid (Lk.Rm X W T r) → Hid (∀ b ∈ X, b < W.heap.size) → r.has.length + r.qu.length ≤ 800 → Hid ((∀ y ∈ r.has, y.ok) ∧ ∀ y ∈ r.qu, y.ok) →
    Calls Tryd.prog 16 #[.pointer (some ⟨T, 0, none⟩), .int .i64 x] W fun e w' => ∃ (p : Option Addr) (c : Nat) (l : List Int), e = .returned (.slice p l.length c) ∧ Lk.Sl w' p l.length c (Lk.numsV l) ∧ (∀ L : List Lk.Bytes, Rs.Up (· ≤ ·) L → (∀ n, n ∈ L ↔ ∃ y ∈ r.has ++ r.qu, y.ho = x ∧ y.nm = n) → l = (Lk.relT L (Lk.leaveT r x)).2 ∧ Lk.Ends X W w' T (Lk.relT L (Lk.leaveT r x)).1)

end Go.Proofs.YthaenobciefjiaaDoor
