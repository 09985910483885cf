/- A leaf more in the row; a leaf fewer. -/
import Derived.Test.YtjnaafgiokdcbaaLb1
namespace Go.Proofs.Ytjnaafgiokdcbaa
open Go.RowKit

namespace Lf
theorem mergeH {G T : Prop} (m : G → T) (p : G) : T := m p
theorem Ev.set {t t' : Nat → Option Tg} {a b : World} (h : Ev t t' a b) {B : Nat} (hB : a.heap.size ≤ B) (i : Nat) (v : Value) : Ev t t' a (b.setCell ⟨B, i, none⟩ v) :=
  ⟨h.os, h.tape, h.output, by simpa using h.size, fun k hk ht => (heap_setCell_other b _ k _ (fun e => by have e' : k = B := e; omega)).trans (h.block k hk ht), h.tags⟩
theorem Ev.drew {t t' : Nat → Option Tg} {a b : World} (h : Ev t t' a b) : Ev t t' a b.drew := ⟨h.os, h.tape, h.output, h.size, h.block, h.tags⟩
theorem Mem.set {h : Nat} {w : World} {tag : Nat → Option Tg} {p : Nat} {s : S} {bl : Nat → Nat} {kv : Nat → Value} {rv : Value} (H : Mem h w tag p s bl kv rv) {B : Nat} (hb : tag B = none) (i : Nat) (v : Value) : Mem h (w.setCell ⟨B, i, none⟩ v) tag p s bl kv rv :=
  H.keep (by simp) (fun k l hk => heap_setCell_other w _ k _ (fun e => by have e' : k = B := e; rw [e', hb] at hk; cases hk))
theorem box2 {w : World} {B : Nat} {x y x' y' : Value} {t : TypeId} (h : w.heap[B]? = some (.cells #[x, y] t (0, 0))) : (((w.setCell ⟨B, 0, none⟩ x').setCell ⟨B, 1, none⟩ y').drew).heap[B]? = some (.cells #[x', y'] t (0, 0)) := by
  have h1 := heap_setCell_same w B 0 _ t x' h
  exact heap_setCell_same _ B 1 _ t y' h1
theorem ptrs_upd {bl : Nat → Nat} {l : List Pg} {n b : Nat} (h : ∀ Q ∈ l, Q.n ≠ n) : ptrs (upd bl n b) l = ptrs bl l := by
  unfold ptrs
  refine List.map_congr_left (fun Q hQ => ?_)
  rw [upd_other _ _ (h Q hQ)]
def pageObj (P : Pg) (v : Value) : Obj := .cells #[.int .i64 (P.n : Int), .string P.b, v] 63
def ptrObj (b : Nat) : Obj := .cells #[.pointer (some ⟨b, 0, none⟩)] 61
/-- A new leaf, behind another one. -/
theorem Mem.insPage {h : Nat} {w : World} {tag : Nat → Option Tg} {p : Nat} {s : S} {bl : Nat → Nat} {kv : Nat → Value} {rv : Value} (H : Mem h w tag p s bl kv rv) {L R : List Pg} {P P2 : Pg} (he : s.pgs = L ++ P :: R) (hn : ∀ Q ∈ s.pgs, Q.n ≠ P2.n) (hh : h ≤ w.heap.size) {w3 w6 : World} {v2 v' : Value} (hb : Below w.heap.size w w3) (ho2 : Mm.Own w3 w.heap.size 9 v2 (strs P2.ks))
    (hg : ((w3.alloc (pageObj P2 v2)).alloc (ptrObj w3.heap.size)).grownBy w6 rv.ownBlock) (ho : Mm.Own w6 h 61 v' ((ptrs bl s.pgs).take (L.length + 1) ++ .pointer (some ⟨w3.heap.size, 0, none⟩) :: (ptrs bl s.pgs).drop (L.length + 1))) (hl : v'.ownBlock = rv.ownBlock ∨ ∀ g, v'.ownBlock = some g → w3.heap.size + 2 ≤ g) :
    ∃ tag' bl' kv', Mem h (w6.setCell ⟨p, 1, none⟩ v') tag' p { s with pgs := L ++ P :: P2 :: R } bl' kv' v' ∧ Ev tag tag' w (w6.setCell ⟨p, 1, none⟩ v') ∧ bl' P.n = bl P.n ∧ kv' P.n = kv P.n := by
  have hPm : P ∈ s.pgs := by rw [he]; simp
  have hs3 := hb.size
  have hg0 : w.grownBy w6 rv.ownBlock := ⟨hg.os.trans hb.os, hg.tape.trans hb.tape, hg.output.trans hb.output, Nat.le_trans hs3 (Nat.le_trans (by simp; omega) hg.size), fun b hbl hne => by
    have h1 := hg.block b (by simp; omega) hne
    rw [Mm.oldAt _ _ (by simp; omega), Mm.oldAt _ _ (by omega)] at h1
    exact h1.trans (hb.block b hbl)⟩
  have rvl : ∀ g, rv.ownBlock = some g → g < w.heap.size := fun g hgv => (H.row.lt hgv).1
  have hp2 : w6.heap[w3.heap.size]? = some (.cells #[.int .i64 (P2.n : Int), .string P2.b, v2] 63 (0, 0)) := by
    rw [hg.block w3.heap.size (by simp; omega) (fun e => by have := rvl _ e.symm; omega), Mm.oldAt _ _ (by simp), Mm.newAt w3 _ rfl]; rfl
  have hv2 : ∀ g, v2.ownBlock = some g → w.heap.size ≤ g ∧ g < w3.heap.size := fun g hgv => ⟨(ho2.lt hgv).2, (ho2.lt hgv).1⟩
  obtain ⟨tag1, ht1⟩ : ∃ t : Nat → Option Tg, t = fun b => if b = w3.heap.size then some (.pg P2.n) else if v2.ownBlock = some b then some (.ks P2.n) else tag b := ⟨_, rfl⟩
  have told : ∀ b, b < w.heap.size → tag1 b = tag b := fun b hbl => by
    rw [ht1]
    show (if b = w3.heap.size then _ else _) = _
    rw [if_neg (by omega), if_neg (fun e => by have := hv2 b e; omega)]
  have tnew : tag1 w3.heap.size = some (.pg P2.n) := by rw [ht1]; exact if_pos rfl
  have tks : ∀ g, v2.ownBlock = some g → tag1 g = some (.ks P2.n) := fun g hgv => by
    rw [ht1]
    show (if g = w3.heap.size then _ else _) = _
    rw [if_neg (by have := hv2 g hgv; omega), if_pos hgv]
  have ttop : ∀ b, w3.heap.size < b → tag1 b = none := fun b hbl => by
    rw [ht1]
    show (if b = w3.heap.size then _ else _) = _
    rw [if_neg (by omega), if_neg (fun e => by have := hv2 b e; omega)]
    exact H.top b (by omega)
  have hmem := H.putRow (w1 := w6) (v := v') (pgs := L ++ P :: P2 :: R) (tag1 := tag1) (bl1 := upd bl P2.n w3.heap.size) (kv1 := upd kv P2.n v2) hg0
    (by
      have e : ptrs (upd bl P2.n w3.heap.size) (L ++ P :: P2 :: R) = (ptrs bl s.pgs).take (L.length + 1) ++ .pointer (some ⟨w3.heap.size, 0, none⟩) :: (ptrs bl s.pgs).drop (L.length + 1) := by
        have h1 : ptrs bl s.pgs = ptrs bl (L ++ [P]) ++ ptrs bl R := by rw [he]; simp [ptrs]
        have h2 : (ptrs bl (L ++ [P])).length = L.length + 1 := by simp
        rw [h1, List.take_left' h2, List.drop_left' h2]
        have h3 : ptrs (upd bl P2.n w3.heap.size) (L ++ P :: P2 :: R) = ptrs (upd bl P2.n w3.heap.size) (L ++ [P]) ++ (.pointer (some ⟨upd bl P2.n w3.heap.size P2.n, 0, none⟩) :: ptrs (upd bl P2.n w3.heap.size) R) := by simp [ptrs]
        rw [h3, upd_same, ptrs_upd (fun Q hQ => hn Q (by rw [he]; rcases List.mem_append.1 hQ with h | h; exact List.mem_append.2 (Or.inl h); rw [List.mem_singleton.1 h]; simp)), ptrs_upd (fun Q hQ => hn Q (by rw [he]; simp [hQ]))]
      rw [e]; exact ho)
    (by
      rcases hl with e | e
      · exact Or.inl e
      · exact Or.inr (fun g hgv => ⟨by have := e g hgv; omega, ttop g (by have := e g hgv; omega)⟩))
    (fun b l hbl => (told b (H.lts hbl)).trans hbl)
    (fun b hbl => ttop b (by have := hg.size; simp at this; omega))
    (fun b hbl ht => (told b hbl).trans ht)
    (fun b hbl => (told b (by omega)).trans (H.bot b hbl))
    (fun Q hQ => by
      have old : ∀ Q ∈ s.pgs, PgIn h w6 tag1 (upd bl P2.n w3.heap.size Q.n) (upd kv P2.n v2 Q.n) Q := fun Q hQ => by
        rw [upd_other _ _ (hn Q hQ), upd_other _ _ (hn Q hQ)]
        have q := H.pg Q hQ
        have hne : ∀ b l, tag b = some l → l ≠ .row → w6.heap[b]? = w.heap[b]? := fun b l e hl => hg0.block b (H.lts e) (fun e2 => hl (by have := H.tr b e2.symm; rw [this] at e; injection e.symm))
        exact q.keep (hne _ _ q.tb (by simp)) (fun g hgv => hne g _ (q.tk g hgv) (by simp)) ((told _ (H.lts q.tb)).trans q.tb) (fun g hgv => (told _ (H.lts (q.tk g hgv))).trans (q.tk g hgv))
      rcases List.mem_append.1 hQ with h1 | h1
      · exact old Q (by rw [he]; simp [h1])
      · rcases List.mem_cons.1 h1 with h1 | h1
        · rw [h1]; exact old P hPm
        · rcases List.mem_cons.1 h1 with h1 | h1
          · rw [h1, upd_same, upd_same]
            refine ⟨hp2, tnew, (ho2.base hh).keep (fun g hgv => ?_), tks⟩
            have := hv2 g hgv
            rw [hg.block g (by simp; omega) (fun e => by have := rvl _ e.symm; omega), Mm.oldAt _ _ (by simp; omega), Mm.oldAt _ _ (by omega)]
          · exact old Q (by rw [he]; simp [h1]))
  exact ⟨_, _, _, hmem.1, hmem.2, upd_other _ _ (hn P hPm), upd_other _ _ (hn P hPm)⟩
/-- A leaf fewer. -/
theorem Mem.delPage {h : Nat} {w : World} {tag : Nat → Option Tg} {p : Nat} {s : S} {bl : Nat → Nat} {kv : Nat → Value} {rv : Value} (H : Mem h w tag p s bl kv rv) {L R : List Pg} {P : Pg} (he : s.pgs = L ++ P :: R) {w6 : World} {v' : Value} (hg : w.grownBy w6 rv.ownBlock) (ho : Mm.Own w6 h 61 v' (ptrs bl (L ++ R))) (hl : v'.ownBlock = rv.ownBlock) :
    ∃ tag', Mem h (w6.setCell ⟨p, 1, none⟩ v') tag' p { s with pgs := L ++ R } bl kv v' ∧ Ev tag tag' w (w6.setCell ⟨p, 1, none⟩ v') := by
  have hmem := H.putRow (w1 := w6) (v := v') (pgs := L ++ R) (tag1 := tag) (bl1 := bl) (kv1 := kv) hg ho (Or.inl hl) (fun _ _ h => h) (fun b hb => H.top b (Nat.le_trans hg.size hb)) (fun _ _ h => h) H.bot (fun Q hQ => by
    have hQ' : Q ∈ s.pgs := by
      rw [he]
      rcases List.mem_append.1 hQ with h1 | h1
      · simp [h1]
      · simp [h1]
    have q := H.pg Q hQ'
    have hne : ∀ b l, tag b = some l → l ≠ .row → w6.heap[b]? = w.heap[b]? := fun b l e hl => hg.block b (H.lts e) (fun e2 => hl (by have := H.tr b e2.symm; rw [this] at e; injection e.symm))
    exact q.keep (hne _ _ q.tb (by simp)) (fun g hgv => hne g _ (q.tk g hgv) (by simp)) q.tb q.tk)
  exact ⟨_, hmem.1, hmem.2⟩
end Lf
end Go.Proofs.Ytjnaafgiokdcbaa
