/- Victim, Free walked. -/
import Derived.Test.YthikdfcndppoaaaWa12
import Derived.Test.YthikdfcndppoaaaWb1
namespace Go.Proofs.Ythikdfcndppoaaa
open Go.RowKit

namespace Mm
theorem KIn.at {w : World} {q : Option Addr} {K : List (List Int)} (h : KIn w q K) {i : Nat} {k : List Int} (hk : K[i]? = some k) : ∃ b o g c, q = some ⟨b, o, .none⟩ ∧ w.cell? ⟨b, o + i, .none⟩ = some (.slice (some ⟨g, 0, .none⟩) k.length c) ∧ k.length ≤ c ∧ ∀ (j : Nat) (x : Int), k[j]? = some x → w.cell? ⟨g, j, .none⟩ = some (.int .i64 x) := by
  obtain ⟨b, o, g, c, h1, _, h3, h4, _, h6⟩ := h i k hk
  exact ⟨b, o, g, c, h1, h3, h4, h6⟩
theorem last_max {k : List Int} (h : Kn.Rising k) {m : Nat} (hm : k.length = m + 1) : ∃ y, k[m]? = some y ∧ y ∈ k ∧ ∀ x ∈ k, x ≤ y := by
  have hl : m < k.length := by omega
  refine ⟨k[m], List.getElem?_eq_getElem hl, List.getElem_mem hl, fun x hx => ?_⟩
  obtain ⟨i, hi, rfl⟩ := List.mem_iff_getElem.1 hx
  rcases Nat.lt_or_ge i m with c | c
  · exact Int.le_of_lt (List.pairwise_iff_getElem.1 h i m hi hl c)
  · have : i = m := by omega
    subst this; exact Int.le_refl _
end Mm

set_option maxRecDepth 100000 in
set_option maxHeartbeats 2000000 in
theorem victim_any (w : World) (q : Option Addr) (c : Nat) (l : Kn.El) (n : Nat) (hl : Hid (Mm.EIn w q l)) (hn : Hid (n = l.length)) (hn1 : n < 1000) :
    Calls Try.prog 11 #[.slice q n c] w fun e w' => ∃ (v : Int) (ok : Bool) (K : List (List Int)), e = .returned (.tuple #[.int .i64 v, .bool ok]) ∧ Kn.Knots l K ∧ Kn.IsVictim K v ok ∧ Below w.heap.size w w' := by
  have HC := Mm.hid (circles_any w q c l n hl hn hn1)
  go_enter Try.func11, Try.ntmps11
  go_wp2_with fail
  refine HC.out.mono ?_
  rintro e w1 ⟨q1, c1, K, rfl, hK, hK1, hkn, hb⟩
  have HK := Mm.hid (And.intro hK (And.intro hkn hb))
  clear hK hkn hb
  obtain ⟨N, hN⟩ : ∃ N, N = K.length := ⟨_, rfl⟩
  rw [← hN] at hK1 ⊢
  have HN := Mm.hid hN
  clear hN
  by_cases h0 : N = 0
  · subst h0
    go_wp2_with fail
    go_ret2
    have hKe : K = [] := List.length_eq_zero_iff.1 HN.out.symm
    exact ⟨0, false, K, rfl, HK.out.2.1, by unfold Kn.IsVictim; rw [if_pos hKe]; exact ⟨rfl, rfl⟩, HK.out.2.2⟩
  · obtain ⟨M, rfl⟩ : ∃ M, N = M + 1 := ⟨N - 1, by omega⟩
    obtain ⟨k0, hk0⟩ : ∃ k0, K[0]? = some k0 := ⟨_, List.getElem?_eq_getElem (by rw [← HN.out]; omega)⟩
    have hkm := List.mem_of_getElem? hk0
    have hne0 := HK.out.2.1.ne k0 hkm
    obtain ⟨b, o, g0, cc0, rfl, hc0, hl0, hr0⟩ := HK.out.1.at hk0
    obtain ⟨x0, hx0⟩ : ∃ x0, k0[0]? = some x0 := ⟨_, List.getElem?_eq_getElem (by cases hkk : k0 with | nil => exact absurd hkk hne0 | cons => simp)⟩
    have hd0 := hr0 0 x0 hx0
    have hlen0 := (List.getElem?_eq_some_iff.1 hx0).1
    obtain ⟨n0, hn0⟩ : ∃ n0, n0 = k0.length := ⟨_, rfl⟩
    rw [← hn0] at hc0 hl0 hlen0
    rw [Nat.add_zero] at hc0
    have HX0 := Mm.hid (And.intro hkm (List.mem_of_getElem? hx0))
    clear hk0 hkm hne0 hr0 hx0 hn0 h0
    go_wp2_with fail
    go_loopw [5, 20] (fun v5 v20 wr => ∃ (k : Nat) (v : Int), k ≤ M + 1 ∧ v20 = .int .i64 (k : Int) ∧ v5 = .int .i64 v ∧ Hid ((∃ kk ∈ K, v ∈ kk) ∧ ∀ (i : Nat) (kk : List Int), i < k → K[i]? = some kk → ∀ x ∈ kk, x ≤ v) ∧ Hid (wr = w1)) (fun _ v20 _ => M + 1 - (RowKit.intOf v20).toNat)
    case atStart => exact ⟨0, x0, by omega, rfl, rfl, Mm.hid ⟨⟨k0, HX0.out.1, HX0.out.2⟩, fun i kk hi => absurd hi (Nat.not_lt_zero i)⟩, Mm.hid rfl⟩
    case round =>
      obtain ⟨k, v, hk, rfl, rfl, HV, HW⟩ := hrel
      have hw := HW.out
      clear HW
      subst hw
      by_cases hlt : k < M + 1
      · obtain ⟨kk, hkk⟩ : ∃ kk, K[k]? = some kk := ⟨_, List.getElem?_eq_getElem (by rw [← HN.out]; omega)⟩
        have hkm := List.mem_of_getElem? hkk
        have hne1 := HK.out.2.1.ne kk hkm
        obtain ⟨b', o', g1, cc1, e1, hc1, hl1, hr1⟩ := HK.out.1.at hkk
        cases e1
        obtain ⟨m, hm⟩ : ∃ m, kk.length = m + 1 := ⟨kk.length - 1, by cases hz : kk with | nil => exact absurd hz hne1 | cons => simp⟩
        obtain ⟨y, hy1, hy2, hy3⟩ := Mm.last_max (HK.out.2.1.up kk hkm) hm
        have hd1 := hr1 m y hy1
        rw [hm] at hc1 hl1
        have HY := Mm.hid (And.intro hkk (And.intro hkm (And.intro hy2 hy3)))
        have hmm : m < 1000 := by have := Mm.knot_len HK.out.2.1 hkm; have := hn.out; omega
        clear hkk hkm hne1 hr1 hm hy1 hy2 hy3
        go_wp2_with fail
        refine ⟨⟨k + 1, max v y, by omega, by go_num, rfl, Mm.hid ⟨?_, fun i k2 hi hk2 x hx => ?_⟩, Mm.hid trivial⟩, by simp [RowKit.intOf]; omega⟩
        · rcases Int.le_total v y with c | c
          · rw [Int.max_eq_right c]; exact ⟨kk, HY.out.2.1, HY.out.2.2.1⟩
          · rw [Int.max_eq_left c]; exact HV.out.1
        · by_cases e : i = k
          · subst e
            rw [HY.out.1] at hk2
            injection hk2 with hk2
            subst hk2
            have := HY.out.2.2.2 x hx
            omega
          · have := HV.out.2 i k2 (by omega) hk2 x hx
            omega
      · obtain rfl : k = M + 1 := by omega
        go_wp2_with fail
        go_ret2
        refine ⟨v, true, K, rfl, HK.out.2.1, ?_, HK.out.2.2⟩
        unfold Kn.IsVictim
        rw [if_neg (fun e => by have := HN.out; rw [e] at this; simp at this)]
        refine ⟨rfl, HV.out.1, fun kk hkk x hx => ?_⟩
        obtain ⟨i, hi⟩ := List.getElem?_of_mem hkk
        exact HV.out.2 i kk (by have := (List.getElem?_eq_some_iff.1 hi).1; have := HN.out; omega) hi x hx

namespace Mm
/-- Places without edges, as nodes. -/
def fr (ns : List Int) (E : Nat → List Nat) (k : Nat) : List Int := ((List.range k).filter (fun v => (E v).length == 0)).map (fun v => ns.getD v 0)
theorem fr_len (ns : List Int) (E : Nat → List Nat) (k : Nat) : (fr ns E k).length ≤ k := by
  unfold fr; rw [List.length_map]; exact Nat.le_trans (List.length_filter_le _ _) (by simp)
theorem fr_yes {ns : List Int} {E : Nat → List Nat} {k : Nat} (h : (E k).length = 0) : fr ns E (k + 1) = fr ns E k ++ [ns.getD k 0] := by
  unfold fr; rw [List.range_succ, List.filter_append, List.map_append]; simp [h]
theorem fr_no {ns : List Int} {E : Nat → List Nat} {k : Nat} (h : (E k).length ≠ 0) : fr ns E (k + 1) = fr ns E k := by
  unfold fr; rw [List.range_succ, List.filter_append, List.map_append]; simp [h]
theorem fr_free {l : Kn.El} {ns : List Int} {E : Nat → List Nat} (h : Kn.Grf l ns E) : Kn.IsFree l (fr ns E ns.length) := by
  have gd : ∀ p, (hp : p < ns.length) → ns.getD p 0 = ns[p] := fun p hp => by simp [List.getD_eq_getElem?_getD, List.getElem?_eq_getElem hp]
  have hm : ∀ x, x ∈ fr ns E ns.length ↔ ∃ v, ∃ hv : v < ns.length, (E v).length = 0 ∧ ns[v] = x := fun x => by
    unfold fr
    rw [List.mem_map]
    constructor
    · rintro ⟨v, hv, rfl⟩
      obtain ⟨h1, h2⟩ := List.mem_filter.1 hv
      have h3 := List.mem_range.1 h1
      exact ⟨v, h3, by simpa using h2, (gd v h3).symm⟩
    · rintro ⟨v, hv, h1, rfl⟩
      exact ⟨v, List.mem_filter.2 ⟨List.mem_range.2 hv, by simpa using h1⟩, gd v hv⟩
  refine ⟨?_, fun x => ?_⟩
  · unfold fr Kn.Rising
    refine List.pairwise_map.2 ((List.Pairwise.filter _ List.pairwise_lt_range).imp_of_mem (fun {a b} ha hb hab => ?_))
    have h1 := List.mem_range.1 (List.mem_filter.1 ha).1
    have h2 := List.mem_range.1 (List.mem_filter.1 hb).1
    rw [gd a h1, gd b h2]
    exact List.pairwise_iff_getElem.1 h.up a b h1 h2 hab
  · rw [hm x]
    constructor
    · rintro ⟨v, hv, h1, rfl⟩
      refine ⟨(h.mem _).1 (List.getElem_mem hv), fun e he h2 => ?_⟩
      obtain ⟨w, hw, h3⟩ := List.mem_iff_getElem.1 ((h.mem e.2).2 ⟨e, he, .inr rfl⟩)
      have : w ∈ E v := (h.edge v w hv hw).2 (by show (_, _) ∈ l; rw [h3, ← h2]; exact he)
      rw [List.length_eq_zero_iff.1 h1] at this
      cases this
    · rintro ⟨h1, h2⟩
      obtain ⟨v, hv, rfl⟩ := List.mem_iff_getElem.1 ((h.mem x).2 h1)
      refine ⟨v, hv, ?_, rfl⟩
      cases hE : E v with
      | nil => rfl
      | cons w t =>
        obtain ⟨_, hw⟩ := h.out v w (by rw [hE]; simp)
        have := (h.edge v w hv hw).1 (by rw [hE]; simp)
        exact absurd rfl (h2 _ this)
theorem its_snoc (l : List Int) (x : Int) : its (l ++ [x]) = its l ++ [.int .i64 x] := by rw [its_app]; rfl
end Mm

set_option maxRecDepth 100000 in
set_option maxHeartbeats 2000000 in
theorem free_any (w : World) (q : Option Addr) (c : Nat) (l : Kn.El) (n : Nat) (hl : Hid (Mm.EIn w q l)) (hn : Hid (n = l.length)) (hn1 : n < 1000) :
    Calls Try.prog 13 #[.slice q n c] w fun e w' => ∃ (q' : Option Addr) (c' : Nat) (f : List Int), e = .returned (.slice q' f.length c') ∧ Mm.IIn w' q' f ∧ f.length < 10000 ∧ Kn.IsFree l f ∧ Below w.heap.size w w' := by
  have HG1 := Mm.hid (newGraph_any w q c l n hl hn hn1)
  obtain ⟨ns, hns⟩ : ∃ ns, ns = Mm.nodesL l := ⟨_, rfl⟩
  have hnl := Mm.nodesL_len l
  have hno := hn.out
  have hN1 : ns.length < 2000 := by rw [hns]; omega
  have hgrf := Mm.grf l
  rw [← hns] at hgrf HG1
  have HGF := Mm.hid hgrf
  clear hns hnl hno hgrf
  go_enter Try.func13, Try.ntmps13
  go_wp2_with (go_at_call 17; refine HG1.out.mono ?_; rintro e w1 ⟨g, cc, gE, sv, rfl, hgr, hb1⟩; have HGR := Mm.hid hgr; have HB1 := Mm.hid hb1; clear hgr hb1)
  obtain ⟨w2, hw2⟩ : ∃ w2, w1.alloc (.cells #[.slice (some ⟨g, 0, none⟩) ns.length cc, .slice (some ⟨gE, 0, none⟩) ns.length ns.length] 39) = w2 := ⟨_, rfl⟩
  have hb2 : w2.heap[w1.heap.size]? = some (.cells #[.slice (some ⟨g, 0, none⟩) ns.length cc, .slice (some ⟨gE, 0, none⟩) ns.length ns.length] 39 (0, 0)) := by rw [← hw2]; exact Mm.newAt w1 _ rfl
  have hbl2 : Below w1.heap.size w1 w2 := by rw [← hw2]; exact (Below.refl _ _).alloc (Nat.le_refl _) _
  have hz2 : w2.heap.size = w1.heap.size + 1 := by rw [← hw2]; simp
  obtain ⟨B, hB⟩ : ∃ B, B = w1.heap.size := ⟨_, rfl⟩
  rw [hw2, ← hB]
  rw [← hB] at hb2 hz2
  have H2 := Mm.hid (And.intro hb2 (And.intro hbl2 (And.intro hz2 hB)))
  clear hw2 hb2 hbl2 hz2 hB
  go_loopw [4, 12] (fun v4 v12 wr => ∃ k : Nat, k ≤ ns.length ∧ v12 = .int .i64 (k : Int) ∧ Hid (Mm.Own wr (B + 1) 3 v4 (Mm.its (Mm.fr ns (Mm.EL ns l) k))) ∧ Hid (Below (B + 1) w2 wr)) (fun _ v12 _ => ns.length - (RowKit.intOf v12).toNat)
  case atStart => exact ⟨0, by omega, rfl, Mm.hid (Mm.Own.nil _ _ _), Mm.hid (Below.refl _ _)⟩
  case round =>
    obtain ⟨k, hk, rfl, HO, HB⟩ := hrel
    rename World => wr
    have HBW : Hid (Below w1.heap.size w1 wr) := Mm.hid (H2.out.2.1.trans (HB.out.mono (by rw [← H2.out.2.2.2]; omega)))
    by_cases hlt : k < ns.length
    · obtain ⟨ge, ce, q2, d, eE, hce, he0, he2, _⟩ := HGR.out.ends2 hlt
      cases eE
      have he1 := he0 _ HBW.out
      obtain ⟨L, hL⟩ : ∃ L, L = (Mm.EL ns l k).length := ⟨_, rfl⟩
      rw [← hL] at he1 he2
      have HL := Mm.hid hL
      have HLE : Hid (L < 1000) := Mm.hid (by rw [hL]; have := Mm.EL_len ns l k; have := hn.out; omega)
      have b0 : wr.cell? ⟨B, 0, none⟩ = some (.slice (some ⟨g, 0, none⟩) ns.length cc) := (HB.out.cell (p := ⟨B, 0, none⟩) (Nat.lt_succ_self B)).trans (Mm.cellOf H2.out.1 rfl)
      obtain ⟨y, hy⟩ : ∃ y, y = ns[k] := ⟨_, rfl⟩
      have hgN : g < w1.heap.size := HGR.out.Nb g rfl
      have b1 : wr.cell? ⟨g, k, none⟩ = some (.int .i64 y) := by
        rw [HBW.out.cell (p := ⟨g, k, none⟩) hgN]
        exact (HGR.out.N.cell (Mm.its_at (by rw [List.getElem?_eq_getElem hlt, hy]))).1
      obtain ⟨gc1, hcc⟩ : ∃ gc1 : Nat, ns.length ≤ cc := ⟨0, by
        obtain ⟨p', c', e', h', _⟩ := HGR.out.N.shape
        rw [Mm.its_len] at e' h'
        injection e' with _ _ e3
        rw [e3]; exact h'⟩
      have HY : Hid (ns.getD k 0 = y) := Mm.hid (by rw [hy, List.getD_eq_getElem?_getD, List.getElem?_eq_getElem hlt]; rfl)
      have HWZ : Hid (B + 1 ≤ wr.heap.size) := Mm.hid (by have := HB.out.size; rw [H2.out.2.2.1] at this; exact this)
      clear hL he0 hy hgN
      by_cases h0 : L = 0
      · subst h0
        go_wp2_with (at_builtin; refine Mm.appI wr rfl _ _ rfl (B + 1) u4 y (Mm.its (Mm.fr ns (Mm.EL ns l) k)) rfl HO.out _ rfl (by simp) (by rw [Mm.its_len]; have := Mm.fr_len ns (Mm.EL ns l) k; omega) HWZ.out ?_; intro v5 w5 hown5 hg5 hloc5; have HX5 := Mm.hid (And.intro hown5 (And.intro hg5 hloc5)); clear hown5 hg5 hloc5)
        refine ⟨⟨k + 1, by omega, by go_num, Mm.hid ?_, Mm.hid (HB.out.grown HX5.out.2.1 HWZ.out (fun i hi => (HO.out.lt hi).2))⟩, by simp [RowKit.intOf]; omega⟩
        rw [Mm.fr_yes (by exact HL.out.symm), HY.out, Mm.its_snoc]
        exact HX5.out.1
      · have hbq : ((L : Int) == 0) = false := by simp; omega
        have HL0 := Mm.hid h0
        clear h0
        go_wp2_with fail
        refine ⟨⟨k + 1, by omega, by go_num, Mm.hid ?_, HB⟩, by simp [RowKit.intOf]; omega⟩
        rw [Mm.fr_no (by rw [← HL.out]; exact HL0.out)]
        exact HO.out
    · obtain rfl : k = ns.length := by omega
      have HF := Mm.hid (Mm.fr_free HGF.out)
      go_wp2_with fail
      go_ret
      obtain ⟨q', c', e', h1, _, _⟩ := HO.out.iin
      rw [e']
      refine ⟨q', c', _, rfl, h1, by have := Mm.fr_len ns (Mm.EL ns l) ns.length; omega, HF.out, Mm.belTr HB1.out (Nat.le_refl _) HBW.out⟩
end Go.Proofs.Ythikdfcndppoaaa
