/- Circles walked. -/
import Derived.Test.YthikdfcndppoaaaWa10
import Derived.Test.YthikdfcndppoaaaWa11
namespace Go.Proofs.Ythikdfcndppoaaa
open Go.RowKit

namespace Mm
/-- Where Circles stands. -/
structure Ci (h : Nat) (w1 w : World) (p : Nat) (ns : List Int) (E : Nat → List Nat) (vN vE : Value) (k : Nat) (tag : Nat → Option Lb) (s : Tj.S) (z : Sl) (kv : List Value) : Prop where
  wk : Wk h w tag p ns s z kv
  inv : Tj.Inv E ns.length s
  path : s.path = []
  all : ∀ v, v < k → s.num v ≠ 0
  vN : z.vN = vN
  vE : z.vE = vE
  bel : Below h w1 w
theorem nodesOf_ne {ns : List Int} {m : List Nat} (h : m ≠ []) : Kn.nodesOf ns m ≠ [] := fun e => by
  have := nodesOf_len ns m
  rw [e] at this
  exact h (List.length_eq_zero_iff.1 this.symm)
end Mm

set_option maxRecDepth 100000 in
set_option maxHeartbeats 4000000 in
theorem circles_any (w : World) (q : Option Addr) (c : Nat) (l : Kn.El) (n : Nat) (hl : Hid (Mm.EIn w q l)) (hn : Hid (n = l.length)) (hn1 : n < 1000) :
    Calls Try.prog 8 #[.slice q n c] w fun e w' => ∃ (q' : Option Addr) (c' : Nat) (K : List (List Int)), e = .returned (.slice q' K.length c') ∧ Mm.KIn w' q' K ∧ K.length < 100000 ∧ Kn.Knots l K ∧ Below w.heap.size w w' := by
  have HG1 := Mm.hid (newGraph_any w q c l n hl hn hn1)
  obtain ⟨ns, hns⟩ : ∃ ns, ns = Mm.nodesL l := ⟨_, rfl⟩
  have hnl := Mm.nodesL_len l
  have hno := hn.out
  have hN1 : ns.length < 2000 := by rw [hns]; omega
  have HNS := Mm.hid hns
  have hgrf := Mm.grf l
  rw [← hns] at hgrf
  have HGF := Mm.hid hgrf
  have HEL : Hid (∀ v, (Mm.EL ns l v).length < 50000) := Mm.hid (fun v => by have := Mm.EL_len ns l v; omega)
  rw [← hns] at HG1
  clear hns hnl hno hgrf
  go_enter Try.func8, Try.ntmps8
  go_wp2_with (first
    | (go_at_call 17
       refine HG1.out.mono ?_
       rintro e w1 ⟨g, cc, gE, sv, rfl, hgr, hb1⟩
       have HGR := Mm.hid hgr
       have HB1 := Mm.hid hb1
       clear hgr hb1)
    | (go_at_call 16
       refine (newWalk_any w1 g cc gE ns (by omega)).mono ?_
       rintro e w2 ⟨p, tag, z, rfl, hW, e1, e2, hb2⟩
       have HW := Mm.hid (And.intro hW (And.intro e1 e2))
       have HB2 := Mm.hid hb2
       have hp0 : w2.cell? ⟨p, 0, none⟩ = some (.slice (some ⟨g, 0, none⟩) ns.length cc) := by rw [hW.at 0 rfl]; exact congrArg some e1
       clear hW e1 e2 hb2))
  have HC2 : Hid (Mm.Ci w1.heap.size w1 w2 p ns (Mm.EL ns l) (.slice (some ⟨g, 0, none⟩) ns.length cc) (.slice (some ⟨gE, 0, none⟩) ns.length ns.length) 0 tag Tj.start z []) := Mm.hid ⟨HW.out.1, Tj.Inv.start _ _, rfl, fun v h => absurd h (Nat.not_lt_zero v), HW.out.2.1, HW.out.2.2, HB2.out⟩
  clear hp0 HW HB2
  go_loopw [14] (fun v wr => ∃ (k : Nat) (tag : Nat → Option Mm.Lb) (s : Tj.S) (z : Mm.Sl) (kv : List Value), k ≤ ns.length ∧ v = .int .i64 (k : Int) ∧ Hid (Mm.Ci w1.heap.size w1 wr p ns (Mm.EL ns l) (.slice (some ⟨g, 0, none⟩) ns.length cc) (.slice (some ⟨gE, 0, none⟩) ns.length ns.length) k tag s z kv)) (fun v _ => ns.length - (RowKit.intOf v).toNat)
  case atStart => exact ⟨0, tag, _, z, [], by omega, rfl, HC2⟩
  case round =>
    obtain ⟨k, tg, s, zt, kv, hk, rfl, HC⟩ := hrel
    rename World => wr
    clear HC2
    by_cases hlt : k < ns.length
    · obtain ⟨gn, cn, en, hcn, hg1, -, -⟩ := HC.out.wk.num.own.at (Mm.fnc_at s.num hlt)
      simp only [Mm.fnc_len] at en hcn
      have c2 := HC.out.wk.at 2 rfl
      rw [en] at c2
      by_cases hq : s.num k = 0
      · have hbq : ((s.num k : Int) == 0) = true := by simp; omega
        have HQ := Mm.hid hq
        have HFR := Mm.hid (from_any w1.heap.size wr tg p ns (Mm.EL ns l) sv s zt kv k (Mm.hid HC.out.wk) (Mm.hid (by rw [HC.out.vN, HC.out.vE]; exact HGR.out.below HC.out.bel)) (Mm.hid HC.out.inv) (Mm.hid (fun v t ht => (HGF.out.out v t ht).2)) hlt HQ (Mm.hid HC.out.path) (Mm.hid ⟨by omega, HEL.out⟩) (Mm.hid HC.out.bel.size))
        clear hq
        go_wp2_with (go_at_call 18; refine HFR.out.mono ?_; rintro e w4 ⟨rfl, tag4, s4, z4, kv4, hF4, hp4⟩; have HF := Mm.hid (And.intro hF4 hp4); clear hF4 hp4)
        refine ⟨⟨k + 1, tag4, s4, z4, kv4, by omega, by go_num, ⟨HF.out.1.wk, HF.out.1.inv, HF.out.2, fun v hv => ?_, HF.out.1.vN.trans HC.out.vN, HF.out.1.vE.trans HC.out.vE, HC.out.bel.trans HF.out.1.bel⟩⟩, by simp [RowKit.intOf]; omega⟩
        by_cases e : v = k
        · rw [e]; exact HF.out.1.root
        · exact HF.out.1.mono v (HC.out.all v (by omega))
      · have hbq : ((s.num k : Int) == 0) = false := by simp; omega
        have HQ := Mm.hid hq
        clear hq
        go_wp2_with fail
        refine ⟨⟨k + 1, tg, s, zt, kv, by omega, by go_num, ⟨HC.out.wk, HC.out.inv, HC.out.path, fun v hv => ?_, HC.out.vN, HC.out.vE, HC.out.bel⟩⟩, by simp [RowKit.intOf]; omega⟩
        by_cases e : v = k
        · rw [e]; exact HQ.out
        · exact HC.out.all v (by omega)
    · obtain rfl : k = ns.length := by omega
      have hend := HC.out.inv.ends HC.out.path HC.out.all
      have HEND := Mm.hid hend
      have hdl := HC.out.inv.done_len
      obtain ⟨K, hK⟩ : ∃ K, K = s.done.map (Kn.nodesOf ns) := ⟨_, rfl⟩
      obtain ⟨qk, ck, ek, hck, -, hnil, hsome⟩ := HC.out.wk.kn.own.shape
      have hkl : kv.length = K.length := by rw [HC.out.wk.kl, hK, List.length_map]
      have hK1 : K.length < 2000 := by rw [hK, List.length_map]; omega
      rw [hkl] at ek hck
      have c8 := HC.out.wk.at 8 rfl
      rw [ek] at c8
      have HKK := Mm.hid hK
      have HKL := Mm.hid hkl
      have HB : Hid (Below w.heap.size w wr) := Mm.hid (Mm.belTr HB1.out (Nat.le_refl _) HC.out.bel)
      by_cases h0 : K.length = 0
      · rw [h0] at c8 ek
        have HS := Mm.hid (AnyF.slices_SortFunc_none (P := Try.prog) (ρ := Try.sortF_ren) { Try.sortF with } qk ck (.func (.func 20) #[] #[]) wr)
        have hKe : K = [] := List.length_eq_zero_iff.1 h0
        have HKN : Hid (Kn.Knots l []) := Mm.hid (Kn.knots_of HGF.out HEND.out.1 HEND.out.2.1 HEND.out.2.2.1 HEND.out.2.2.2 (by rw [← HKK.out, hKe]) List.Pairwise.nil)
        clear hend hdl hnil hsome hkl hK hKe h0 hck ek
        go_wp2_with (go_at_call 19; refine HS.out.mono ?_; rintro e w4 ⟨rfl, hw4⟩; obtain rfl := hw4.symm)
        go_ret
        exact ⟨qk, ck, [], rfl, fun i k hk => by simp at hk, by simp, HKN.out, HB.out⟩
      · obtain ⟨blk, hblk⟩ := hsome (fun e => h0 (by rw [← hkl, e]; rfl))
        subst hblk
        have htb : tg blk = some .kn := HC.out.wk.kn.tg blk (by rw [ek]; rfl)
        have hown := HC.out.wk.kn.own
        rw [ek] at hown
        have hrow : ∀ (i : Nat) (k : List Int), K[i]? = some k → ∃ (v : Value) (m : List Nat), kv[i]? = some v ∧ s.done[i]? = some m ∧ k = Kn.nodesOf ns m ∧ k ≠ [] := fun i k hk => by
          rw [hK, List.getElem?_map] at hk
          obtain ⟨m, hm, rfl⟩ := Option.map_eq_some_iff.1 hk
          have hi := (List.getElem?_eq_some_iff.1 hm).1
          exact ⟨_, m, List.getElem?_eq_getElem (by rw [HC.out.wk.kl]; exact hi), hm, rfl, Mm.nodesOf_ne (hend.1 m (List.mem_of_getElem? hm)).1⟩
        have hrow2 : ∀ (i : Nat) (k : List Int), K[i]? = some k → ∃ g' c', wr.cell? ⟨blk, i, none⟩ = some (.slice (some ⟨g', 0, none⟩) k.length c') ∧ k.length ≤ c' ∧ g' < wr.heap.size ∧ g' ≠ blk ∧ ∀ (j : Nat) (x : Int), k[j]? = some x → wr.cell? ⟨g', j, none⟩ = some (.int .i64 x) := fun i k hk => by
          obtain ⟨v, m, h1, h2, rfl, h4⟩ := hrow i k hk
          have T := HC.out.wk.ks i v m h1 h2
          obtain ⟨g', n', c', rfl, hn', hc'⟩ := T.own.nonnil (by intro e; have := congrArg List.length e; rw [Mm.its_len] at this; exact h4 (List.length_eq_zero_iff.1 this))
          rw [Mm.its_len] at hn'
          subst hn'
          refine ⟨g', c', (hown.cell h1).1, hc', (T.own.lt (g := g') rfl).1, Mm.apart (T.tg g' rfl) htb (by simp), fun j x hx => (T.own.cell (Mm.its_at hx)).1⟩
        have hlb : blk < wr.heap.size := HC.out.wk.lts htb
        have HS := Mm.hid (sortKnots_any wr blk ck K (fun i k hk => by
            obtain ⟨g', c', h1, h2, h3, _, h5⟩ := hrow2 i k hk
            exact ⟨blk, 0, g', c', rfl, hlb, by rw [Nat.zero_add]; exact h1, h2, h3, h5⟩)
          (fun i hi => (hown.cell (i := i) (List.getElem?_eq_getElem (by rw [hkl]; exact hi))).2)
          (fun i g' n' c' hc hi => by
            obtain ⟨g2, c2, h1, _, _, h4, _⟩ := hrow2 i K[i] (List.getElem?_eq_getElem hi)
            rw [h1] at hc
            injection hc with hc
            injection hc with hc
            injection hc with hc
            injection hc with hc
            rw [← hc]; exact h4)
          (fun k hk => by
            obtain ⟨i, hi⟩ := List.getElem?_of_mem hk
            obtain ⟨_, _, _, _, _, h⟩ := hrow i k hi
            exact h) (by omega) (by omega))
        have hpb : p ≠ blk := Mm.apart HC.out.wk.tp htb (by simp)
        have HPB := Mm.hid (And.intro hpb (HC.out.wk.ge htb))
        have hpl := HC.out.wk.lt
        have HC8 := Mm.hid c8
        have HPL := Mm.hid hpl
        clear hend hdl hnil hsome hkl hK hck ek htb hown hrow hrow2 hlb hpb hpl h0
        go_wp2_with (go_at_call 19; refine HS.out.mono ?_; rintro e w4 ⟨rfl, K', hp', hs', hk', hb', hk2'⟩; have HX := Mm.hid (And.intro hp' (And.intro hs' (And.intro hk' hb'))); have c8b := (World.cell?_of_block (a := ⟨p, 8, none⟩) (hk2' p HPL.out HPB.out.1)).trans HC8.out; clear hp' hs' hk' hb' hk2')
        go_ret
        have hlen := HX.out.1.length_eq
        refine ⟨some ⟨blk, 0, none⟩, ck, K', by rw [hlen]; rfl, HX.out.2.2.1, by rw [hlen]; omega, Kn.knots_of HGF.out HEND.out.1 HEND.out.2.1 HEND.out.2.2.1 HEND.out.2.2.2 (by rw [← HKK.out]; exact HX.out.1) HX.out.2.1, HB.out.trans (HX.out.2.2.2 _ (Nat.le_trans HB1.out.size HPB.out.2))⟩
end Go.Proofs.Ythikdfcndppoaaa
