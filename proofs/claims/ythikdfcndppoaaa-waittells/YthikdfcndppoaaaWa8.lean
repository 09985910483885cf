/- from walked. -/
import Derived.Test.YthikdfcndppoaaaWa7
namespace Go.Proofs.Ythikdfcndppoaaa
open Go.RowKit

namespace Tj
variable {E : Nat → List Nat} {n : Nat} {s : S}
theorem pw_nodup {l : List Nat} {f : Nat → Nat} (h : l.Pairwise (fun a b => f a < f b)) : l.Nodup := h.imp (fun hab e => by subst e; omega)
theorem Inv.opn_len (h : Inv E n s) : s.opn.length ≤ n := nodup_le n _ (pw_nodup h.a2) (fun v hv => h.inn v ((h.a1 v).1 hv).1)
theorem Inv.path_len (h : Inv E n s) : s.path.length ≤ n := nodup_le n _ (pw_nodup (h.a5.imp (fun hab => hab.1))) (fun v hv => h.inn v ((h.a1 v).1 (h.a4 v hv)).1)
theorem Inv.done_len (h : Inv E n s) : s.done.length ≤ n := by
  have hm : ∀ m ∈ s.done, m.headD 0 ∈ m := fun m hm => by
    have := (h.k1 m hm).1.1
    cases hmm : m with
    | nil => exact absurd hmm this
    | cons x t => simp
  have h1 : (s.done.map (fun m => m.headD 0)).Nodup := by
    refine List.pairwise_map.2 (h.k3.imp_of_mem (fun {a b} ha hb hab e => hab _ (hm a ha) ?_))
    rw [e]; exact hm b hb
  have := nodup_le n _ h1 (fun v hv => by
    obtain ⟨m, hm1, rfl⟩ := List.mem_map.1 hv
    exact h.inn _ (by rw [(h.k1 m hm1).2 _ (hm m hm1)]; simp [CL]))
  simpa using this
theorem Inv.lt_of_opn (h : Inv E n s) {v : Nat} (hv : v ∈ s.opn) : v < n := h.inn v ((h.a1 v).1 hv).1
end Tj

namespace Mm
/-- Where a walk from a root stands. -/
structure Fr (h : Nat) (w0 w : World) (p : Nat) (ns : List Int) (E : Nat → List Nat) (s0 : Tj.S) (root : Nat) (z0 : Sl) (tag : Nat → Option Lb) (s : Tj.S) (z : Sl) (kv : List Value) : Prop where
  wk : Wk h w tag p ns s z kv
  inv : Tj.Inv E ns.length s
  mono : ∀ v, s0.num v ≠ 0 → s.num v ≠ 0
  root : s.num root ≠ 0
  vN : z.vN = z0.vN
  vE : z.vE = z0.vE
  bel : Below h w0 w
theorem Fr.drew {h : Nat} {w0 w : World} {p : Nat} {ns : List Int} {E : Nat → List Nat} {s0 : Tj.S} {root : Nat} {z0 : Sl} {tag : Nat → Option Lb} {s : Tj.S} {z : Sl} {kv : List Value} (H : Fr h w0 w p ns E s0 root z0 tag s z kv) : Fr h w0 w.drew p ns E s0 root z0 tag s z kv := ⟨H.wk.drew, H.inv, H.mono, H.root, H.vN, H.vE, H.bel.drew⟩
theorem closeN_ne {f : Nat → Nat} {M : List Nat} {v : Nat} (h : f v ≠ 0) : Tj.closeN f M v ≠ 0 := by
  unfold Tj.closeN
  split
  · simp [Tj.CL]
  · exact h
theorem upd_ne {f : Nat → Nat} {a x v : Nat} (hx : x ≠ 0) (h : f v ≠ 0) : Tj.upd f a x v ≠ 0 := by
  unfold Tj.upd
  split
  · exact hx
  · exact h
/-- A path that is not empty has an end. -/
theorem path_end {l : List Nat} {m : Nat} (h : l.length = m + 1) : ∃ P x, l = P ++ [x] ∧ P.length = m ∧ l[m]? = some x := by
  cases hr : l.reverse with
  | nil => have : l = [] := by simpa using hr
           subst this; simp at h
  | cons x P =>
    have e : l = P.reverse ++ [x] := by rw [← List.reverse_reverse l, hr]; simp
    have e2 : P.reverse.length = m := by have := congrArg List.length e; simp at this; simp; omega
    refine ⟨P.reverse, x, e, e2, ?_⟩
    rw [e, List.getElem?_append_right (by omega), e2]; simp
end Mm

theorem leave_fr (h : Nat) (w wr : World) (p : Nat) (ns : List Int) (E : Nat → List Nat) (sv : List Value) (s : Tj.S) (root : Nat) (z : Mm.Sl) (tg : Nat → Option Mm.Lb) (t : Tj.S) (zt : Mm.Sl) (kt : List Value) (P : List Nat) (x : Nat) (HF : Hid (Mm.Fr h w wr p ns E s root z tg t zt kt)) (hG : Hid (Mm.Gr h w z.vN z.vE ns E sv)) (hP : t.path = P ++ [x]) (hgone : t.gone x = (E x).length) (hn : ns.length < 50000 ∧ ∀ v, (E v).length < 50000) (hh : h ≤ w.heap.size) :
    Calls Try.prog 29 #[.pointer (some ⟨p, 0, none⟩), .int .i64 (x : Int)] wr fun e w' => e = .returned (.tuple #[]) ∧
      ∃ tag' t' z' kv', Mm.Fr h w w' p ns E s root z tag' t' z' kv' ∧ t'.met = t.met ∧ t'.path = P := by
  have F := HF.out
  have hpl := F.inv.path_len
  have hol := F.inv.opn_len
  have hdl := F.inv.done_len
  have hxo := F.inv.a4 x (by rw [hP]; simp)
  have hx := F.inv.lt_of_opn hxo
  rw [hP] at hpl
  simp only [List.length_append, List.length_cons, List.length_nil] at hpl
  by_cases hl : t.low x = t.num x
  · obtain ⟨pre, rest, ho, _⟩ := F.inv.split hxo
    have hnd : x ∉ rest := fun c => by
      have h2 := F.inv.a2
      rw [ho, List.pairwise_append] at h2
      have := (List.pairwise_cons.1 h2.2.1).1 x c
      omega
    have hlen := congrArg List.length ho
    simp only [List.length_append, List.length_cons] at hlen
    have hxl := hn.2 x
    refine (leave_yes h wr tg p ns E sv t zt kt P pre rest x (Mm.hid F.wk) (Mm.hid (by rw [F.vN, F.vE]; exact hG.out.below F.bel)) hx (Mm.hid hP) (by omega) hl (Mm.hid ho) (Mm.hid hnd) (Mm.hid (fun y hy => F.inv.lt_of_opn (by rw [ho]; exact List.mem_append_right _ hy))) (Mm.hid (by omega)) (Nat.le_trans hh F.bel.size)).mono ?_
    rintro e w' ⟨rfl, tag', z', kv', hW, e1, e2, hb⟩
    exact ⟨rfl, tag', _, z', kv', ⟨hW, F.inv.close hP hgone hl ho, fun v hv => Mm.closeN_ne (F.mono v hv), Mm.closeN_ne F.root, e1.trans F.vN, e2.trans F.vE, F.bel.trans hb⟩, rfl, rfl⟩
  · obtain ⟨Q, y, rfl⟩ := F.inv.before hP hl
    have hy : y < ns.length := F.inv.lt_of_opn (F.inv.a4 y (by rw [hP]; simp))
    simp only [List.length_append, List.length_cons, List.length_nil] at hpl
    refine (leave_no h wr tg p ns t zt kt Q x y (Mm.hid F.wk) hx hy (Mm.hid hP) (by omega) hl).mono ?_
    rintro e w' ⟨rfl, tag', z', hW, e1, e2, hb⟩
    exact ⟨rfl, tag', _, z', kt, ⟨hW, F.inv.goBack hP hgone hl, F.mono, F.root, e1.trans F.vN, e2.trans F.vE, F.bel.trans hb⟩, rfl, rfl⟩

set_option maxRecDepth 100000 in
set_option maxHeartbeats 4000000 in
theorem from_any (h : Nat) (w : World) (tag : Nat → Option Mm.Lb) (p : Nat) (ns : List Int) (E : Nat → List Nat) (sv : List Value) (s : Tj.S) (z : Mm.Sl) (kv : List Value) (root : Nat) (hT : Hid (Mm.Wk h w tag p ns s z kv)) (hG : Hid (Mm.Gr h w z.vN z.vE ns E sv)) (hI : Hid (Tj.Inv E ns.length s)) (hE : Hid (∀ v, ∀ t ∈ E v, t < ns.length)) (hroot : root < ns.length) (h0 : Hid (s.num root = 0)) (hpath : Hid (s.path = [])) (hn : Hid (ns.length < 50000 ∧ ∀ v, (E v).length < 50000)) (hh : Hid (h ≤ w.heap.size)) :
    Calls Try.prog 18 #[.pointer (some ⟨p, 0, none⟩), .int .i64 (root : Int)] w fun e w' => e = .returned (.tuple #[]) ∧
      ∃ tag' s' z' kv', Mm.Fr h w w' p ns E s root z tag' s' z' kv' ∧ s'.path = [] := by
  have hme := meet_any h w tag p ns s z kv root hT hroot (by have := hI.out.met_le; have := hn.out.1; omega) (Mm.hid (by have := hI.out.path_len; have := hI.out.opn_len; have := hn.out.1; omega)) hh.out
  have HME := Mm.hid hme
  clear hme
  go_enter Try.func18, Try.ntmps18
  go_wp2_with fail
  go_step3
  go_wp2_with (go_at_call 28; refine HME.out.mono ?_; rintro e w1 ⟨rfl, tag1, z1, hW1, eN1, eE1, hb1⟩; have HF := Mm.hid (And.intro hW1 (And.intro eN1 (And.intro eE1 hb1))); clear hW1 eN1 eE1 hb1)
  have HR : Hid (Mm.Fr h w w1 p ns E s root z tag1 (Tj.meet s root) z1 kv) := Mm.hid ⟨HF.out.1, hI.out.root hroot (by have := hn.out.1; unfold Tj.CL; omega) h0.out hpath.out, fun v hv => Mm.upd_ne (by omega) hv, by show Tj.upd _ _ _ _ ≠ 0; rw [Tj.upd_same]; omega, HF.out.2.1, HF.out.2.2.1, HF.out.2.2.2⟩
  go_step3
  go_wp2_with fail
  clear HF
  go_loopg [] (2 * ns.length + 1) (fun g wr => ∃ tag' s' z' kv', 2 * (ns.length - s'.met) + s'.path.length ≤ g ∧ Hid (Mm.Fr h w wr p ns E s root z tag' s' z' kv'))
  case atStart => exact ⟨tag1, _, z1, kv, by show 2 * (ns.length - (s.met + 1)) + (s.path ++ [root]).length ≤ _; rw [hpath.out]; simp; omega, HR⟩
  case round =>
    obtain ⟨tg, t, zt, kt, hg, HFr⟩ := hrel
    clear HR HME
    obtain ⟨pl, hpl⟩ : ∃ pl, pl = t.path.length := ⟨_, rfl⟩
    obtain ⟨qp, cp, ep, hcp, -, -, hqp⟩ := HFr.out.wk.path.own.shape
    rw [Mm.nts_len, ← hpl] at ep hcp
    have c6 := HFr.out.wk.at 6 rfl
    rw [ep] at c6
    rw [← hpl] at hg
    have HPL := Mm.hid hpl
    have HQP := Mm.hid hqp
    clear hpl hqp
    cases pl with
    | zero =>
      go_wp2_with fail
      simp only [Exit.noGoto]
      go_end0
      exact ⟨rfl, tg, t, zt, kt, HFr.out, List.length_eq_zero_iff.1 HPL.out.symm⟩
    | succ m =>
      obtain ⟨P, x, hP, hPm, hPx⟩ := Mm.path_end HPL.out.symm
      obtain ⟨gp, rfl⟩ := HQP.out (by rw [hP]; simp [Mm.nts])
      have hxo := HFr.out.inv.a4 x (by rw [hP]; simp)
      have hx : x < ns.length := HFr.out.inv.lt_of_opn hxo
      have d6 : wr.cell? ⟨gp, m, none⟩ = some (.int .i64 (x : Int)) := by
        have h1 := HFr.out.wk.path.own
        rw [ep] at h1
        exact (h1.cell (Mm.nts_at hPx)).1
      have hm1 : m < 100000 := by have := HFr.out.inv.path_len; have := HPL.out; have := hn.out.1; omega
      have HP := Mm.hid (And.intro hP hPm)
      clear hP hPm hPx ep
      go_wp2_with fail
      go_region
      obtain ⟨ge, ce, q, d, eE, hce, he0, he2, he4⟩ := hG.out.ends2 hx
      have he1 := he0 _ HFr.out.bel
      obtain ⟨gg, cg, eg, hcg, hg1, -, -⟩ := HFr.out.wk.gone.own.at (Mm.fnc_at t.gone hx)
      simp only [Mm.fnc_len] at eg hcg
      have c1 := HFr.out.wk.at 1 rfl
      have c4 := HFr.out.wk.at 4 rfl
      rw [HFr.out.vE, eE] at c1
      rw [eg] at c4
      have hgl : t.gone x ≤ (E x).length := HFr.out.inv.a7'' x
      obtain ⟨L, hL⟩ : ∃ L, L = (E x).length := ⟨_, rfl⟩
      obtain ⟨G, hG1⟩ : ∃ G, G = t.gone x := ⟨_, rfl⟩
      rw [← hL] at he1 he2 hgl
      rw [← hG1] at hg1 hgl
      have hL1 : L < 50000 := by rw [hL]; exact hn.out.2 x
      have HL := Mm.hid (And.intro hL hG1)
      have HE4 := Mm.hid he4
      have HX := Mm.hid (And.intro hx hxo)
      have HEE := Mm.hid eE
      have HCE := Mm.hid hce
      clear he0 he4 hL hG1 hxo eE
      by_cases hlt : G < L
      · obtain ⟨b0, hq0, _⟩ := HE4.out G ((E x)[G]'(by rw [← HL.out.1]; exact hlt)) (List.getElem?_eq_getElem _)
        subst hq0
        obtain ⟨N, rfl⟩ : ∃ N, L = G + N := ⟨L - G, by omega⟩
        have hGN : G + N - G = N := by omega
        go_wp2_with fail
        go_region
        have HD := Mm.hid (HFr.out.drew.drew)
        obtain ⟨w2, hw2⟩ : ∃ w2, wr.drew.drew = w2 := ⟨_, rfl⟩
        have hd := HD.out
        rw [hw2] at hd ⊢
        have HD2 := Mm.hid hd
        have HT := Mm.hid (And.intro (HL.out.2 : G = t.gone x) (And.intro (rfl : t.path = t.path) (rfl : t.met = t.met)))
        clear HD hd hw2 c1 c4 c6 d6 he1 hg1 hGN
        go_wp2_with fail
        go_loopg [45] N (fun g i wq => ∃ (k : Nat) (tag2 : Nat → Option Mm.Lb) (s2 : Tj.S) (z2 : Mm.Sl) (kv2 : List Value), i = .int .i64 (k : Int) ∧ k + g = N ∧ Hid (s2.gone x = G + k ∧ s2.path = t.path ∧ s2.met = t.met) ∧ Hid (Mm.Fr h w wq p ns E s root z tag2 s2 z2 kv2))
        case atStart => exact ⟨0, tg, t, zt, kt, rfl, by omega, Mm.hid ⟨HL.out.2.symm, rfl, rfl⟩, HD2⟩
        case round =>
          obtain ⟨k, tg2, t2, z2, kt2, rfl, hkg, HS, HF2⟩ := hrel
          rename World => wq
          clear HD2
          obtain ⟨gg2, cg2, eg2, hcg2, hg2, hf2, -⟩ := HF2.out.wk.gone.own.at (Mm.fnc_at t2.gone HX.out.1)
          simp only [Mm.fnc_len] at eg2 hcg2
          rw [HS.out.1] at hg2
          have c4 := HF2.out.wk.at 4 rfl
          rw [eg2] at c4
          by_cases hlt2 : k < N
          · obtain ⟨y, hy⟩ : ∃ y, (E x)[G + k]? = some y := ⟨_, List.getElem?_eq_getElem (by rw [← HL.out.1]; omega)⟩
            have hyn : y < ns.length := hE.out x y (List.mem_of_getElem? hy)
            obtain ⟨b1, e1, cy0⟩ := HE4.out (G + k) y hy
            cases e1
            have cy := cy0 _ HF2.out.bel
            obtain ⟨gn2, cn2, en2, hcn2, dn2, -, -⟩ := HF2.out.wk.num.own.at (Mm.fnc_at t2.num hyn)
            obtain ⟨gl2, cl2, el2, hcl2, -, -, -⟩ := HF2.out.wk.low.own.at (Mm.fnc_at t2.low HX.out.1)
            simp only [Mm.fnc_len] at en2 hcn2 el2 hcl2
            have c2 := HF2.out.wk.at 2 rfl
            rw [en2] at c2
            have hn1 : gn2 ≠ gg2 := Mm.apart (HF2.out.wk.num.tg gn2 (by rw [en2]; rfl)) (HF2.out.wk.gone.tg gg2 (by rw [eg2]; rfl)) (by simp)
            have hn2 : p ≠ gg2 := Mm.apart HF2.out.wk.tp (HF2.out.wk.gone.tg gg2 (by rw [eg2]; rfl)) (by simp)
            have hx1 := HX.out.1
            have hW3 := HF2.out.wk.setGone eg2 x (G + k + 1)
            have hB3 : Below h w (wq.setCell ⟨gg2, x, none⟩ (.int .i64 ((G + k + 1 : Nat) : Int))) := HF2.out.bel.setCell (HF2.out.wk.ge (HF2.out.wk.gone.tg gg2 (by rw [eg2]; rfl))) _
            have hW3' : Mm.Wk h (wq.setCell ⟨gg2, x, none⟩ (.int .i64 ((G : Int) + (k : Int) + 1))) tg2 p ns { t2 with gone := Tj.upd t2.gone x (G + k + 1) } z2 kt2 := hW3
            have hB3' : Below h w (wq.setCell ⟨gg2, x, none⟩ (.int .i64 ((G : Int) + (k : Int) + 1))) := hB3
            have einc : ({ t2 with gone := Tj.upd t2.gone x (G + k + 1) } : Tj.S) = Tj.inc t2 x := by unfold Tj.inc; rw [HS.out.1]
            rw [einc] at hW3'
            have HW3 := Mm.hid hW3'
            have HB3 := Mm.hid hB3'
            have HY := Mm.hid (And.intro hy hyn)
            have HLE := Mm.hid (And.intro HF2.out.inv.met_le (And.intro HF2.out.inv.path_len HF2.out.inv.opn_len))
            clear cy0 hW3 hB3 hW3' hB3' hy einc
            by_cases hq : t2.num y = 0
            · have hbq : ((t2.num y : Int) == 0) = true := by simp; omega
              have HQ := Mm.hid hq
              have HME := Mm.hid (meet_any h _ tg2 p ns (Tj.inc t2 x) z2 kt2 y HW3 hyn (by have := HLE.out; have := hn.out.1; show t2.met < _; omega) (Mm.hid (by have := HLE.out; have := hn.out.1; exact ⟨by show t2.path.length < _; omega, by show t2.opn.length < _; omega⟩)) (Nat.le_trans hh.out HB3.out.size))
              clear hq
              go_wp2_with (go_at_call 28; refine HME.out.mono ?_; rintro e w4 ⟨rfl, tag4, z4, hW4, eN4, eE4, hb4⟩; have HF := Mm.hid (And.intro hW4 (And.intro eN4 (And.intro eE4 hb4))); clear hW4 eN4 eE4 hb4)
              have hml := HF2.out.inv.met_lt HY.out.2 HQ.out
              go_roundg (2 * (ns.length - (t2.met + 1)) + (t2.path.length + 1))
              case measure =>
                have h1 := HS.out.2.1
                have h2 := HS.out.2.2
                have h3 := HPL.out
                rw [h1, h2]
                rw [h2] at hml
                omega
              case rel => exact ⟨tag4, _, z4, kt2, by show 2 * (ns.length - (t2.met + 1)) + (t2.path ++ [y]).length ≤ _; simp, Mm.hid ⟨HF.out.1, HF2.out.inv.tree (HS.out.2.1.trans HP.out.1) (by rw [HS.out.1]; exact HY.out.1) HY.out.2 (by have := hn.out.1; unfold Tj.CL; omega) HQ.out, fun v hv => Mm.upd_ne (by omega) (HF2.out.mono v hv), Mm.upd_ne (by omega) HF2.out.root, HF.out.2.1.trans HF2.out.vN, HF.out.2.2.1.trans HF2.out.vE, HB3.out.trans HF.out.2.2.2⟩⟩
            · have hbq : ((t2.num y : Int) == 0) = false := by simp; omega
              have HQ := Mm.hid hq
              clear hq
              go_wp2_with fail
              obtain ⟨w3, hw3⟩ : ∃ w3, wq.setCell ⟨gg2, x, none⟩ (.int .i64 ((G : Int) + (k : Int) + 1)) = w3 := ⟨_, rfl⟩
              have hW3 := HW3.out
              have hB3 := HB3.out
              rw [hw3] at hW3 hB3 ⊢
              have e2 := hW3.at 2 rfl
              have e3 := hW3.at 3 rfl
              have n1 := hW3.num.own
              have n2 := hW3.low.own
              simp only [en2, el2] at e2 e3 n1 n2
              have d1 := (n1.cell (Mm.fnc_at t2.num hyn)).1
              obtain ⟨d2, f2⟩ := n2.cell (Mm.fnc_at t2.low hx1)
              have HW4 := Mm.hid hW3
              have HB4 := Mm.hid hB3
              clear hw3 hW3 hB3 n1 n2 HW3 HB3
              go_region
              have hmin : min (t2.low x : Int) (t2.num y : Int) = ((min (t2.low x) (t2.num y) : Nat) : Int) := by omega
              rw [hmin]
              have HW5 := Mm.hid ((HW4.out.setLow el2 x (min (t2.low x) (t2.num y))).drew)
              have HB5 := Mm.hid ((HB4.out.setCell (p := ⟨gl2, x, none⟩) (HF2.out.wk.ge (HF2.out.wk.low.tg gl2 (by rw [el2]; rfl))) (.int .i64 ((min (t2.low x) (t2.num y) : Nat) : Int))).drew)
              go_wp2_with fail
              go_roundg (N - (k + 1))
              case measure => omega
              case rel => exact ⟨k + 1, tg2, Tj.edge t2 x y, z2, kt2, by go_num, by omega, Mm.hid ⟨by show Tj.upd t2.gone x (t2.gone x + 1) x = _; rw [Tj.upd_same, HS.out.1]; omega, HS.out.2.1, HS.out.2.2⟩, Mm.hid ⟨HW5.out, HF2.out.inv.back (HS.out.2.1.trans HP.out.1) (by rw [HS.out.1]; exact HY.out.1) HQ.out, HF2.out.mono, HF2.out.root, HF2.out.vN, HF2.out.vE, HB5.out⟩⟩
          · have HLV := Mm.hid (leave_fr h w wq p ns E sv s root z tg2 t2 z2 kt2 P x HF2 hG (HS.out.2.1.trans HP.out.1) (by rw [HS.out.1, ← HL.out.1]; omega) hn.out hh.out)
            go_wp2_with (go_at_call 29; refine HLV.out.mono ?_; rintro e w4 ⟨rfl, tag4, t4, z4, kv4, hF4, e1, e2⟩; have HF := Mm.hid (And.intro hF4 (And.intro e1 e2)); clear hF4 e1 e2)
            go_roundg (2 * (ns.length - t2.met) + P.length)
            case measure =>
              have h2 := HS.out.2.2
              have h3 := HP.out.2
              rw [h2]
              omega
            case rel => exact ⟨tag4, t4, z4, kv4, by rw [HF.out.2.1, HF.out.2.2]; exact Nat.le_refl _, Mm.hid HF.out.1⟩
      · obtain rfl : G = L := by omega
        have hGG : G - G = 0 := Nat.sub_self G
        go_wp2_with fail
        go_region
        all_goals
          have HD := Mm.hid (HFr.out.drew.drew)
          obtain ⟨w2, hw2⟩ : ∃ w2, wr.drew.drew = w2 := ⟨_, rfl⟩
          have hd := HD.out
          rw [hw2] at hd ⊢
          have HD2 := Mm.hid hd
          have HLV := Mm.hid (leave_fr h w w2 p ns E sv s root z tg t zt kt P x HD2 hG HP.out.1 (by rw [← HL.out.1, HL.out.2]) hn.out hh.out)
          clear HD hd hw2 c1 c4 c6 d6 he1 hg1
          go_wp2_with fail
          all_goals
            go_loopg [45] 0 (fun g i wq => ∃ k : Nat, k = 0 ∧ i = .int .i64 (k : Int) ∧ Hid (wq = w2))
            case atStart => exact ⟨0, rfl, rfl, Mm.hid rfl⟩
            case round =>
              obtain ⟨k, rfl, rfl, HQ⟩ := hrel
              have hq := HQ.out
              clear HQ
              subst hq
              go_wp2_with (go_at_call 29; refine HLV.out.mono ?_; rintro e w4 ⟨rfl, tag4, t4, z4, kv4, hF4, e1, e2⟩; have HF := Mm.hid (And.intro hF4 (And.intro e1 e2)); clear hF4 e1 e2)
              go_roundg (2 * (ns.length - t.met) + P.length)
              case measure =>
                have h3 := HP.out.2
                omega
              case rel => exact ⟨tag4, t4, z4, kv4, by rw [HF.out.2.1, HF.out.2.2]; exact Nat.le_refl _, Mm.hid HF.out.1⟩
end Go.Proofs.Ythikdfcndppoaaa
