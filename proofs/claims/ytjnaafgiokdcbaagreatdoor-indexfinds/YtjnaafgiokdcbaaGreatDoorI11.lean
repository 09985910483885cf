/- An index beside a row of steps: what its calls leave. -/
import Derived.Test.YtjnaafgiokdcbaaGreatDoorI10
namespace Go.Proofs.YtjnaafgiokdcbaaGreatDoor
open Go.RowKit

namespace Ix
open Vl Ky
structure Sf (W : World) (h : Nat) (wr : World) (tg : Nat → Option Lf.Tg) (pb pl : Nat) (s : Lf.S) (k : Nat) (insP insO : List Stp) (vin : Value) (gv gx : Nat) (ov ox : Obj) : Prop where
  q : Iq h wr tg pb pl s k
  pm : Pm s insP
  hk : W.heap.size ≤ h ∧ h ≤ wr.heap.size
  b : Below W.heap.size W wr
  v : Bx wr tg gv ov
  x : Bx wr tg gx ox
  lv : gv < h ∧ gx < h
  o : OwS wr h vin insO
  t : ∀ g, vin.ownBlock = some g → tg g = none
variable {W : World} {h : Nat} {wr : World} {tg : Nat → Option Lf.Tg} {pb pl : Nat} {s : Lf.S} {k : Nat} {insP insO : List Stp} {vin : Value} {gv gx : Nat} {ov ox : Obj}
theorem Sf.below {w' : World} (H : Sf W h wr tg pb pl s k insP insO vin gv gx ov ox) (hb : Below wr.heap.size wr w') : Sf W h w' tg pb pl s k insP insO vin gv gx ov ox :=
  ⟨H.q.below hb, H.pm, ⟨H.hk.1, Nat.le_trans H.hk.2 hb.size⟩, Vl.btr H.b hb, H.v.below hb, H.x.below hb, H.lv, H.o.below hb, H.t⟩
theorem Sf.ev {w' : World} {tg' : Nat → Option Lf.Tg} {s' : Lf.S} {k' : Nat} {insP' : List Stp} (H : Sf W h wr tg pb pl s k insP insO vin gv gx ov ox) (hE : Lf.Ev tg tg' wr w') (hq : Iq h w' tg' pb pl s' k') (hp : Pm s' insP') : Sf W h w' tg' pb pl s' k' insP' insO vin gv gx ov ox :=
  ⟨hq, hp, ⟨H.hk.1, Nat.le_trans H.hk.2 hE.size⟩, H.b.trans ((hE.bel H.hk.2 H.q.q.bot).mono H.hk.1), H.v.ev hE, H.x.ev hE, H.lv, H.o.keep (fun g hg => hE.block g (H.o.lt hg).1 (H.t g hg)), fun g hg => hE.tags g (H.o.lt hg).1 (H.t g hg)⟩
theorem Sf.app {w' : World} {v' : Value} {y : Stp} (H : Sf W h wr tg pb pl s k insP insO vin gv gx ov ox) (ho : OwS w' h v' (insO ++ [y])) (hg : wr.grownBy w' vin.ownBlock) (hb : v'.ownBlock = vin.ownBlock ∨ ∀ g, v'.ownBlock = some g → wr.heap.size ≤ g) : Sf W h w' tg pb pl s k insP (insO ++ [y]) v' gv gx ov ox := by
  have hne : ∀ b, b < wr.heap.size → (tg b ≠ none ∨ b < h) → w'.heap[b]? = wr.heap[b]? := fun b hb hc => hg.block b hb (fun e => by
    rcases hc with hc | hc
    · exact hc (H.t b e.symm)
    · have := (H.o.lt e.symm).2; omega)
  refine ⟨⟨H.q.q.keep hg.size (fun b l hl => ?_), ?_, H.q.t⟩, H.pm, ⟨H.hk.1, Nat.le_trans H.hk.2 hg.size⟩, H.b.grown hg H.b.size (fun g e => Nat.le_trans H.hk.1 (H.o.lt e).2), ⟨(hne _ H.v.lt (Or.inr H.lv.1)).trans H.v.at_, H.v.t⟩, ⟨(hne _ H.x.lt (Or.inr H.lv.2)).trans H.x.at_, H.x.t⟩, H.lv, ho, fun g hg' => ?_⟩
  · have hlt : b < wr.heap.size := by
      rcases Nat.lt_or_ge b wr.heap.size with c | c
      · exact c
      · rw [H.q.q.top b c] at hl; cases hl
    exact hne b hlt (Or.inl (by rw [hl]; simp))
  · by_cases e : some pb = vin.ownBlock
    · exact absurd e (fun e => by have h1 := H.q.bx; exact Boxed.not_row (W := wr) (B := pb) (t := 72) (e := 36) h1 (by decide) H.o e)
    · exact (hg.block pb H.q.lt e).trans H.q.bx
  · rcases hb with hb | hb
    · rw [hb] at hg'; exact H.t g hg'
    · exact H.q.q.top g (hb g hg')
theorem Sf.swap {v' : Value} {L : List Stp} {b2 : Nat} (H : Sf W h wr tg pb pl s k insP insO vin gv gx ov ox) (ho : OwS wr b2 v' L) (hb : h ≤ b2) (ht : ∀ g, b2 ≤ g → tg g = none) : Sf W h wr tg pb pl s k insP L v' gv gx ov ox :=
  ⟨H.q, H.pm, H.hk, H.b, H.v, H.x, H.lv, ho.base hb, fun g hg => ht g (ho.lt hg).2⟩
theorem take_fil {l : List Stp} {m : Nat} {y : Stp} (f : Stp → Bool) (hy : l[m]? = some y) : (l.take (m + 1)).filter f = (l.take m).filter f ++ (if f y then [y] else []) := by
  rw [List.take_add_one, hy, Option.toList_some, List.filter_append]
  congr 1
  by_cases h : f y = true
  · rw [if_pos h, List.filter_cons_of_pos h]; rfl
  · rw [if_neg h, List.filter_cons_of_neg h]; rfl
theorem cnt_take {l : List Stp} {m : Nat} {y : Stp} (f : V × Nat → Bool) (hy : l[m]? = some y) : cntF f (l.take (m + 1)) = cntF f (l.take m) + (if f (ofS y) then 1 else 0) := by
  rw [List.take_add_one, hy, Option.toList_some, cnt_snoc]
end Ix

variable {W : World} {h : Nat} {wr : World} {tg : Nat → Option Lf.Tg} {pb pl : Nat} {s : Lf.S} {k : Nat} {insP insO : List Ix.Stp} {vin : Value} {gv gx : Nat} {ov ox : Obj}

theorem add_sf (H : Hid (Ix.Sf W h wr tg pb pl s k insP insO vin gv gx ov ox)) (hk : k ≤ 4000) (hM : Ky.Mx W) (q : Ix.Stp) (hv : q.v.Fit) :
    Calls Tryz.prog 11 #[.pointer (some ⟨pb, 0, none⟩), .agg #[.int .i64 q.v.k, .int .i64 q.v.n, .float .f64 q.v.f, .string q.v.s], .int .i64 q.tid] wr fun e w' => ∃ l f t er, e = .returned (.tuple #[.int .i64 ((l : Nat) : Int), .agg #[.int .i64 ((f : Nat) : Int), .int .i64 ((t : Nat) : Int)], .int .i64 ((er : Nat) : Int)]) ∧ ∃ s' tg', Lf.Ev tg tg' wr w' ∧ (er = 0 → Ix.Sf W h w' tg' pb pl s' (k + 1) (insP ++ [q]) insO vin gv gx ov ox) ∧ (er ≠ 0 → Ix.Sf W h w' tg' pb pl s' (k + 1) insP insO vin gv gx ov ox) :=
  (add_any (Mm.hid H.out.q) hk H.out.hk.2 q.v q.tid (hM.below H.out.b) (Ix.fitIn hv)).mono fun e w' ⟨s', l, f, t, er, he, hr, tg', hq, hE⟩ => by
    obtain ⟨h1, h2⟩ := Ix.pm_add H.out.pm (Ix.fitIn hv) hr
    exact ⟨l, f, t, er, he, s', tg', hE, fun h0 => H.out.ev hE hq (h1 h0), fun h0 => H.out.ev hE hq (h2 h0)⟩
theorem drop_sf (H : Hid (Ix.Sf W h wr tg pb pl s k insP insO vin gv gx ov ox)) (hk : k ≤ 4000) (hM : Ky.Mx W) (q : Ix.Stp) (hv : q.v.Fit) :
    Calls Tryz.prog 13 #[.pointer (some ⟨pb, 0, none⟩), .agg #[.int .i64 q.v.k, .int .i64 q.v.n, .float .f64 q.v.f, .string q.v.s], .int .i64 q.tid] wr fun e w' => ∃ v, e = .returned v ∧ ∃ s' tg', Lf.Ev tg tg' wr w' ∧ Ix.Sf W h w' tg' pb pl s' (k + 1) (insP.filter (Ix.stayB q)) insO vin gv gx ov ox :=
  (drop_any (Mm.hid H.out.q) hk H.out.hk.2 q.v q.tid (hM.below H.out.b) (Ix.fitIn hv)).mono fun _ _ ⟨s', _, _, _, _, he, hr, tg', hq, hE⟩ =>
    ⟨_, he, s', tg', hE, H.out.ev hE hq (Ix.pm_drop H.out.q.q.2.1 H.out.pm (Ix.fitIn hv) hr)⟩
end Go.Proofs.YtjnaafgiokdcbaaGreatDoor
