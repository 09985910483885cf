/- The law LeafOrder. -/
import Derived.Test.YtngflihiailllaaLc2
namespace Go.Proofs.Ytngflihiailllaa
open Go.RowKit

namespace Lf
def flat (l : List Pg) : List ByteArray := l.flatMap (fun P => P.ks)
theorem flat_app (a b : List Pg) : flat (a ++ b) = flat a ++ flat b := by simp [flat]
theorem flat_one (P : Pg) : flat [P] = P.ks := by simp [flat]
theorem flat_len : ∀ l : List Pg, (flat l).length = (l.map (fun P => P.ks.length)).sum
  | [] => rfl
  | P :: r => by
    have : flat (P :: r) = P.ks ++ flat r := rfl
    rw [this, List.length_append, flat_len r, List.map_cons, List.sum_cons]
theorem flat_up {s : S} (hI : Inv s) : Up (flat s.pgs) := by
  have hb := hI.bd
  have hk : ∀ P ∈ s.pgs, Up P.ks ∧ ∀ k ∈ P.ks, lt k P.b = false := fun P hP => ⟨(hI.ks P hP).1, fun k hk => ((hI.ks P hP).2.1 k hk).1⟩
  generalize s.pgs = l at hb hk
  induction l with
  | nil => exact List.Pairwise.nil
  | cons P r ih =>
    obtain ⟨b1, b2⟩ := List.pairwise_cons.1 hb
    refine List.pairwise_append.2 ⟨(hk P (by simp)).1, ih b2 (fun Q hQ => hk Q (by simp [hQ])), fun a ha b hb => ?_⟩
    obtain ⟨Q, hQ, hbQ⟩ := List.mem_flatMap.1 hb
    exact lt_le ((b1 Q hQ).2 a ha) ((hk Q (by simp [hQ])).2 b hbQ)
theorem flat_at {l : List Pg} {i j : Nat} {P : Pg} {k : ByteArray} (hP : l[i]? = some P) (hk : P.ks[j]? = some k) : (flat l)[(flat (l.take i)).length + j]? = some k := by
  have hlt := (List.getElem?_eq_some_iff.1 hP).1
  have e : l = l.take i ++ (P :: l.drop (i + 1)) := by
    rw [show P = l[i]'hlt from ((List.getElem?_eq_some_iff.1 hP).2).symm, ← List.drop_eq_getElem_cons hlt, List.take_append_drop]
  have e2 : flat l = flat (l.take i) ++ (P.ks ++ flat (l.drop (i + 1))) := by
    have h2 := congrArg flat e
    rw [flat_app] at h2
    exact h2
  rw [e2, List.getElem?_append_right (Nat.le_add_right _ _), Nat.add_sub_cancel_left, List.getElem?_append_left (List.getElem?_eq_some_iff.1 hk).1]
  exact hk
theorem flat_step {l : List Pg} {i : Nat} {P : Pg} (hP : l[i]? = some P) : (flat (l.take (i + 1))).length = (flat (l.take i)).length + P.ks.length := by
  rw [List.take_add_one, hP]
  show (flat (l.take i ++ [P])).length = _
  rw [flat_app, flat_one, List.length_append]
theorem own_leaf {s : S} (hI : Inv s) {i : Nat} {P : Pg} {k : ByteArray} (hP : s.pgs[i]? = some P) (hk : k ∈ P.ks) : leafOf s k = P := by
  have hlt := (List.getElem?_eq_some_iff.1 hP).1
  have e : s.pgs = s.pgs.take i ++ (P :: s.pgs.drop (i + 1)) := by
    rw [show P = s.pgs[i]'hlt from ((List.getElem?_eq_some_iff.1 hP).2).symm, ← List.drop_eq_getElem_cons hlt, List.take_append_drop]
  have hb := hI.bd
  rw [e] at hb
  obtain ⟨_, _, b3, b4, _⟩ := pw_mid.1 hb
  have hkb := ((hI.ks P (List.mem_of_getElem? hP)).2.1 k hk).1
  exact leaf_spl ⟨e, fun Q hQ => lt_as (lt_le (b3 Q hQ).1 hkb), hkb, fun Q hQ => (b4 Q hQ).2 k hk⟩
theorem keys_of {s : S} (hI : Inv s) {i : Nat} {P : Pg} (hP : s.pgs[i]? = some P) : ksOf s.pgs (P.n : Int) = P.ks := by
  refine find_at (i := i) (fun j Q hj hQ e => ?_) hP rfl
  obtain ⟨p1, p2⟩ := List.getElem?_eq_some_iff.1 hQ
  obtain ⟨p3, p4⟩ := List.getElem?_eq_some_iff.1 hP
  have := List.pairwise_iff_getElem.1 hI.nd j i p1 p3 hj
  rw [p2, p4] at this
  exact this (by omega)
/-- The last key so far. -/
def LastOk (F : List ByteArray) (n : Nat) (last : ByteArray) : Prop := n = 0 ∨ F[n - 1]? = some last
end Lf

set_option maxRecDepth 100000 in
set_option maxHeartbeats 4000000 in
theorem leafOrder_all (fan : Int) (a : Option Addr) (l c : Nat) (zs : List Cg.Stp) (W : World) (_ : True) (hz0 : Cg.Stps W a l c zs) : Calls Try.prog 5 #[.int .i64 fan, .slice a l c] W fun e w' => e = .returned (.bool true) ∧ Below W.heap.size W w' := by
  have HZ := Mm.hid hz0
  have hbig : l ≤ 9223372036854775807 := by have := hz0.big; unfold maxLen at this; omega
  clear hz0
  go_enter Try.func5, Try.ntmps5
  go_wp2_with fail
  refine (mod6_any fan W).mono ?_
  rintro e w1 ⟨⟨m, hm, rfl⟩, rfl⟩
  obtain ⟨f, hf⟩ : ∃ f, f = 2 + m := ⟨_, rfl⟩
  have HF : Hid (2 + (m : Int) = (f : Int)) := Mm.hid (by omega)
  have hf2 : 2 ≤ f := by omega
  have hf7 : f ≤ 7 := by omega
  clear hf
  go_wp2_with fail
  rw [HF.out]
  with_reducible refine (new_any f hf2 (by omega) w1).mono ?_
  rintro e w2 ⟨rfl, rfl⟩
  have HB2 := Mm.hid (Lf.bel0 w1 f)
  have HQ2 := Mm.hid (Lf.lq0 w1 f hf2 (by omega))
  generalize Lf.W0 w1 f = w2 at HB2 HQ2 ⊢
  generalize Lf.tag0 w1.heap.size = t2 at HQ2
  obtain ⟨p, hp⟩ : ∃ p, p = w1.heap.size + 2 := ⟨_, rfl⟩
  rw [← hp] at HQ2 ⊢
  clear hp
  go_wp2_with fail
  refine (fair_any a l c zs w1 w2 HZ HB2 hbig).mono ?_
  rintro e w3 ⟨b, rfl, hb, rfl⟩
  cases b with
  | false =>
    go_wp2_with fail
    refine (wakes_any _).mono ?_
    rintro e w4 ⟨rfl, hb4⟩
    have HB4 : Hid (Below w1.heap.size w1 w4) := Mm.hid (HB2.out.trans (hb4.mono HB2.out.size))
    clear hb4
    go_wp2_with fail
    go_ret
    exact ⟨rfl, HB4.out⟩
  | true =>
    have hl : l ≤ 200 := hb rfl
    clear hb hbig
    go_wp2_with fail
    go_loopw [8] (fun vi wr => ∃ k : Nat, k ≤ l ∧ vi = .int .i64 (k : Int) ∧ Hid (∃ s tag, Lf.Lq w1.heap.size wr tag p s k ∧ s.fan = f ∧ Below w1.heap.size w1 wr)) (fun vi _ => l - (RowKit.intOf vi).toNat)
    case atStart => exact ⟨0, Nat.zero_le _, rfl, Mm.hid ⟨_, _, HQ2.out, rfl, HB2.out⟩⟩
    case round =>
      clear HB2 HQ2
      obtain ⟨k, hk, rfl, HL⟩ := hrel
      rename World => wr
      by_cases hlt : k < l
      · obtain ⟨x, hx⟩ : ∃ x, zs[k]? = some x := ⟨zs[k]'(by rw [HZ.out.len]; exact hlt), List.getElem?_eq_getElem _⟩
        obtain ⟨bb, o, rfl, hbl, d0, d1, d2⟩ := HZ.out.at_ k x hx
        obtain ⟨s, tag, hq, hfs, hbw⟩ := HL.out
        have e0 : wr.cell? ⟨bb, o + k * 3, none⟩ = some (.int .i64 x.kd) := (Mm.belAt hbw _ hbl).trans d0
        have e1 : wr.cell? ⟨bb, o + k * 3 + 1, none⟩ = some (.string x.key) := (Mm.belAt hbw _ hbl).trans d1
        have e2 : wr.cell? ⟨bb, o + k * 3 + 2, none⟩ = some (.string x.to) := (Mm.belAt hbw _ hbl).trans d2
        have g1 : (0 : Int) ≤ (k : Int) := by omega
        have g2 : (k : Int) < (l : Int) := by omega
        have HDO := Mm.hid (do_any (Mm.hid hq) (by omega) hbw.size x.kd x.key x.to)
        have HX := Mm.hid (And.intro hq (And.intro hfs hbw))
        clear hx d0 d1 d2 hq hfs hbw HL
        go_wp2_with fail
        refine HDO.out.mono ?_
        rintro e w4 ⟨s', l', f', t', er, rfl, hr, tag', hq', hE⟩
        have HL2 : Hid (∃ s tag, Lf.Lq w1.heap.size w4 tag p s (k + 1) ∧ s.fan = f ∧ Below w1.heap.size w1 w4) := Mm.hid ⟨s', tag', hq', (Lf.do_fan hr).trans HX.out.2.1, HX.out.2.2.trans (hE.bel HX.out.2.2.size HX.out.1.bot)⟩
        clear hr hq' hE e0 e1 e2
        go_wp2_with fail
        exact ⟨⟨k + 1, by omega, by go_num, HL2⟩, by simp [RowKit.intOf]; omega⟩
      · have he : k = l := by omega
        subst he
        obtain ⟨s, tag, hq, hfs, hbw⟩ := HL.out
        have HQ := Mm.hid hq
        have HFS := Mm.hid hfs
        have HBW := Mm.hid hbw
        clear hq hfs hbw HL hlt hk
        go_wp2_with fail
        refine (all_q HQ (by omega)).mono ?_
        rintro e w4 ⟨v4, rfl, ho4, hb4⟩
        obtain ⟨q4, c4, e4, hi4⟩ := ho4.nin
        obtain ⟨n, hn⟩ : ∃ n, n = s.pgs.length := ⟨_, rfl⟩
        rw [show ((Lf.nums s.pgs).map (fun n : Nat => (n : Int))).length = n by rw [hn]; simp [Lf.nums]] at e4
        subst e4
        have HN := Mm.hid hn
        have HI4 := Mm.hid hi4
        have HQ4 := Mm.hid (HQ.out.below hb4)
        have HB4 : Hid (Below w1.heap.size w1 w4) := Mm.hid (HBW.out.trans (hb4.mono HBW.out.size))
        have hn1 : 1 ≤ n := by
          obtain ⟨P, r, e, _⟩ := HQ.out.2.1.h0
          rw [hn, e]; simp
        have hnb : n ≤ 10000 := by rw [hn]; exact (HQ.out.sm (by omega)).pl
        have HCB : Hid ((Lf.flat s.pgs).length ≤ 10000) := Mm.hid (by rw [Lf.flat_len]; exact (HQ.out.sm (by omega)).su)
        have HU := Mm.hid (Lf.flat_up HQ.out.2.1)
        clear ho4 hi4 hb4 hn
        go_wp2_with fail
        go_loopw [10, 11, 12] (fun vl vn vi wr => ∃ (i : Nat) (last : ByteArray), i ≤ n ∧ vi = .int .i64 (i : Int) ∧ vl = .string last ∧ vn = .int .i64 (((Lf.flat (s.pgs.take i)).length : Nat) : Int) ∧ Hid (Lf.LastOk (Lf.flat s.pgs) (Lf.flat (s.pgs.take i)).length last ∧ Below w4.heap.size w4 wr)) (fun _ _ vi _ => n - (RowKit.intOf vi).toNat)
        case atStart => exact ⟨0, ⟨#[]⟩, Nat.zero_le _, rfl, rfl, rfl, Mm.hid ⟨Or.inl rfl, Below.refl _ _⟩⟩
        case round =>
          obtain ⟨i, last, hi1, rfl, rfl, rfl, HI⟩ := hrel
          rename World => wr
          by_cases hlt : i < n
          · obtain ⟨P, hP⟩ : ∃ P, s.pgs[i]? = some P := ⟨s.pgs[i]'(by rw [← HN.out]; exact hlt), List.getElem?_eq_getElem _⟩
            have HP := Mm.hid hP
            obtain ⟨g4, o4, rfl, _, hc4⟩ := (HI4.out.below HI.out.2) i (P.n : Int) (by rw [List.getElem?_map]; unfold Lf.nums; rw [List.getElem?_map, hP]; rfl)
            have g1 : (0 : Int) ≤ (i : Int) := by omega
            have g2 : (i : Int) < (n : Int) := by omega
            have HQr := Mm.hid (HQ4.out.below HI.out.2)
            have hky := keys_q HQr (by omega) (P.n : Int)
            rw [Lf.keys_of HQ.out.2.1 hP] at hky
            have HKY := Mm.hid hky
            obtain ⟨cn, hcn⟩ : ∃ cn, cn = (Lf.flat (s.pgs.take i)).length := ⟨_, rfl⟩
            rw [← hcn] at HI ⊢
            have HCN := Mm.hid hcn
            clear hP hky hcn
            go_wp2_with fail
            refine HKY.out.mono ?_
            rintro e w5 ⟨v5, rfl, ho5, hb5⟩
            obtain ⟨q5, c5, e5, _, hs5⟩ := Lf.own_sin ho5
            obtain ⟨m5, hm5⟩ : ∃ m5, m5 = P.ks.length := ⟨_, rfl⟩
            rw [← hm5] at e5
            subst e5
            have HS5 := Mm.hid hs5
            have HB5 : Hid (Below w4.heap.size w4 w5) := Mm.hid (HI.out.2.trans (hb5.mono HI.out.2.size))
            have hPk := HQ.out.2.1.ks P (List.mem_of_getElem? HP.out)
            have hmf : ¬ ((f : Int) < (m5 : Int)) := by have h1 := hPk.2.2; rw [HFS.out] at h1; omega
            have hmfn : ¬ (f < m5) := by omega
            have HM5 := Mm.hid hm5
            have hfull : m5 = 0 ∧ ¬ ((1 : Int) < (n : Int)) ∨ ((m5 : Int) == 0) = false := by
              rcases Nat.eq_zero_or_pos m5 with h0 | h0
              · left
                have h1 := HQ.out.2.1.full P (List.mem_of_getElem? HP.out) (List.length_eq_zero_iff.1 (by rw [← hm5]; exact h0))
                have h2 := HN.out
                exact ⟨h0, by omega⟩
              · right; simp; omega
            have HML : Hid (m5 ≤ 64) := Mm.hid (by have h1 := hPk.2.2; have h2 := HQ.out.2.1.f2; omega)
            have hml := HML.out
            have hcnb : cn ≤ 10000 := by
              have h1 := HCB.out
              have h2 : (Lf.flat (s.pgs.take i)).length ≤ (Lf.flat s.pgs).length := by
                rw [Lf.flat_len, Lf.flat_len]; exact Lf.sum_sub i
              rw [HCN.out]; omega
            have HLA : Hid (Lf.LastOk (Lf.flat s.pgs) cn last) := Mm.hid HI.out.1
            clear ho5 hs5 hb5 hPk hm5
            have HGO : True := trivial
            rcases hfull with ⟨h0, h01⟩ | h0
            · subst h0
              go_wp2_with fail
              go_loopw [10, 11, 14] (fun vl vn vj w6 => ∃ (j : Nat) (last : ByteArray) (cj : Nat), j ≤ 0 ∧ vj = .int .i64 (j : Int) ∧ vl = .string last ∧ vn = .int .i64 (cj : Int) ∧ Hid (cj = cn + j ∧ Lf.LastOk (Lf.flat s.pgs) cj last ∧ Below w5.heap.size w5 w6)) (fun _ _ vj _ => 0 - (RowKit.intOf vj).toNat)
              case atStart => exact ⟨0, last, cn, Nat.zero_le _, rfl, rfl, rfl, Mm.hid ⟨rfl, HLA.out, Below.refl _ _⟩⟩
              case round =>
                obtain ⟨j, last2, cj, hj1, rfl, rfl, rfl, HJ⟩ := hrel
                rename World => w6
                have hj0 : j = 0 := by omega
                subst hj0
                have HEND : Hid (Lf.LastOk (Lf.flat s.pgs) (Lf.flat (s.pgs.take (i + 1))).length last2 ∧ Below w4.heap.size w4 w6) := Mm.hid (by
                  obtain ⟨h1, h2, h3⟩ := HJ.out
                  refine ⟨?_, HB5.out.trans (h3.mono HB5.out.size)⟩
                  rw [Lf.flat_step HP.out, ← HCN.out, ← HM5.out]
                  rw [h1] at h2; exact h2)
                have HCJ : Hid (cj = (Lf.flat (s.pgs.take (i + 1))).length) := Mm.hid (by rw [Lf.flat_step HP.out, ← HCN.out, ← HM5.out]; exact HJ.out.1)
                go_wp2_with fail
                exact ⟨⟨i + 1, last2, by omega, by go_num, rfl, by rw [HCJ.out], HEND⟩, by simp [RowKit.intOf]; omega⟩
            · go_wp2_with fail
              go_loopw [10, 11, 14] (fun vl vn vj w6 => ∃ (j : Nat) (last : ByteArray) (cj : Nat), j ≤ m5 ∧ vj = .int .i64 (j : Int) ∧ vl = .string last ∧ vn = .int .i64 (cj : Int) ∧ Hid (cj = cn + j ∧ Lf.LastOk (Lf.flat s.pgs) cj last ∧ Below w5.heap.size w5 w6)) (fun _ _ vj _ => m5 - (RowKit.intOf vj).toNat)
              case atStart => exact ⟨0, last, cn, Nat.zero_le _, rfl, rfl, rfl, Mm.hid ⟨rfl, HLA.out, Below.refl _ _⟩⟩
              case round =>
                obtain ⟨j, last2, cj, hj1, rfl, rfl, rfl, HJ⟩ := hrel
                rename World => w6
                by_cases hjm : j < m5
                · obtain ⟨k, hk⟩ : ∃ k, P.ks[j]? = some k := ⟨P.ks[j]'(by rw [← HM5.out]; exact hjm), List.getElem?_eq_getElem _⟩
                  have HKP : Hid (k ∈ P.ks) := Mm.hid (List.mem_of_getElem? hk)
                  obtain ⟨g6, o6, rfl, _, hc6⟩ := (HS5.out.below HJ.out.2.2) j k hk
                  have hcj : cj ≤ 20000 := by have := HJ.out.1; omega
                  have HFK : Hid ((Lf.flat s.pgs)[cj]? = some k) := Mm.hid (by rw [HJ.out.1, HCN.out]; exact Lf.flat_at HP.out hk)
                  have f1 : (0 : Int) ≤ (j : Int) := by omega
                  have f2 : (j : Int) < (m5 : Int) := by omega
                  have HB6 : Hid (Below w4.heap.size w4 w6) := Mm.hid (HB5.out.trans (HJ.out.2.2.mono HB5.out.size))
                  have hc46 : w6.cell? ⟨g4, o4 + i, none⟩ = some (.int .i64 (P.n : Int)) := by
                    obtain ⟨g', o', e, _, h⟩ := (HI4.out.below HB6.out) i (P.n : Int) (by rw [List.getElem?_map]; unfold Lf.nums; rw [List.getElem?_map, HP.out]; rfl)
                    injection e with e; injection e with e1 e2
                    subst e1; subst e2; exact h
                  have HQ6 := Mm.hid ((HQ4.out.below HB6.out).drew)
                  have hof := of_q HQ6 (by omega) k
                  rw [Lf.own_leaf HQ.out.2.1 HP.out HKP.out] at hof
                  have HOF := Mm.hid hof
                  have HHS : Hid (∀ w', Below w6.drew.heap.size w6.drew w' → Calls Try.prog 20 #[.pointer (some ⟨p, 0, none⟩), .string k] w' fun e w'' => e = .returned (.bool true) ∧ Below w'.heap.size w' w'') := Mm.hid (fun w' hb => by
                    have h := has_q (Mm.hid (HQ6.out.below hb)) (by omega) k
                    rw [Lf.own_leaf HQ.out.2.1 HP.out HKP.out, Lf.inKs_iff.2 HKP.out] at h
                    exact h)
                  have HSK : Hid (∀ w', Below w6.drew.heap.size w6.drew w' → w'.cell? ⟨g6, o6 + j, none⟩ = some (.string k) ∧ w'.cell? ⟨g4, o4 + i, none⟩ = some (.int .i64 (P.n : Int))) := Mm.hid (fun w' hb => ⟨(Mm.belAt hb _ (World.block_lt_of_cell? w6 _ hc6)).trans hc6, (Mm.belAt hb _ (World.block_lt_of_cell? w6 _ hc46)).trans hc46⟩)
                  have HS0 := Mm.hid (HSK.out _ (Below.refl _ _))
                  have HJ1 := Mm.hid HJ.out.1
                  have HJ2 := Mm.hid HJ.out.2.2
                  have HJL := Mm.hid HJ.out.2.1
                  have HIX : Hid (Lf.LastOk (Lf.flat s.pgs) (cj + 1) k) := Mm.hid (Or.inr (by rw [Nat.add_sub_cancel]; exact HFK.out))
                  clear hk hof hc6 hc46 HJ
                  rcases Nat.eq_zero_or_pos cj with hcz | hcz
                  · subst hcz
                    go_wp2_with fail
                    refine wp_region_held_drew (S := fun w' => w'.cell? ⟨g6, o6 + j, none⟩ = some (.string k) ∧ w'.cell? ⟨g4, o4 + i, none⟩ = some (.int .i64 (P.n : Int))) (by kernel_rfl) (HS0.out) (fun hH => ?_)
                    refine wpAnyH_take (i := 0) (oi := ?oa0) (v := ?va0) ?hia0 ?hsa0 ?hfa0 ?hra0 ?hQa0 (Or.inl ⟨?hwa0, ?hya0⟩) ?hSa0 ?resta0
                    case hia0 => (simp; rfl)
                    case hsa0 => kernel_rfl
                    case hfa0 => kernel_rfl
                    case hra0 => kernel_rfl
                    case hQa0 => exact fun _ _ _ h => h
                    case hwa0 => rfl
                    case hya0 => (intro wq hSq; (try dsimp only at hSq); go_simp; (try with_reducible rfl))
                    case hSa0 => assumption
                    simp only [Act.put, List.setIfInBounds_toArray, List.set_cons_zero, List.set_cons_succ]
                    refine wpAnyH_take (i := 1) (oi := ?oa1) (v := Value.bool false) ?hia1 ?hsa1 ?hfa1 ?hra1 ?hQa1 (Or.inl ⟨?hwa1, ?hya1⟩) ?hSa1 ?resta1
                    case hia1 => (simp; rfl)
                    case hsa1 => kernel_rfl
                    case hfa1 => kernel_rfl
                    case hra1 => kernel_rfl
                    case hQa1 => exact fun _ _ _ h => h
                    case hwa1 => rfl
                    case hya1 => (intro wq hSq; (try dsimp only at hSq); go_simp; try omega)
                    case hSa1 => assumption
                    simp only [Act.put, List.setIfInBounds_toArray, List.set_cons_zero, List.set_cons_succ]
                    refine wpAnyH_take (i := 2) (oi := ?oa2) (v := ?va2) ?hia2 ?hsa2 ?hfa2 ?hra2 ?hQa2 (Or.inl ⟨?hwa2, ?hya2⟩) ?hSa2 ?resta2
                    case hia2 => (simp; rfl)
                    case hsa2 => kernel_rfl
                    case hfa2 => kernel_rfl
                    case hra2 => kernel_rfl
                    case hQa2 => exact fun _ _ _ h => h
                    case hwa2 => rfl
                    case hya2 => (intro wq hSq; (try dsimp only at hSq); go_simp; (try with_reducible rfl))
                    case hSa2 => assumption
                    simp only [Act.put, List.setIfInBounds_toArray, List.set_cons_zero, List.set_cons_succ]
                    refine wpAnyH_take (i := 3) (oi := ?oa3) (v := undef) ?hia3 ?hsa3 ?hfa3 ?hra3 ?hQa3 (Or.inr ⟨?hwa3, rfl⟩) ?hSa3 ?resta3
                    case hia3 => (simp; rfl)
                    case hsa3 => kernel_rfl
                    case hfa3 => kernel_rfl
                    case hra3 => kernel_rfl
                    case hQa3 => exact fun _ _ _ h => h
                    case hwa3 => rfl
                    case hSa3 => assumption
                    simp only [Act.put, List.setIfInBounds_toArray, List.set_cons_zero, List.set_cons_succ]
                    refine wpAnyH_take (i := 4) (oi := ?oa4) (v := undef) ?hia4 ?hsa4 ?hfa4 ?hra4 ?hQa4 (Or.inr ⟨?hwa4, rfl⟩) ?hSa4 ?resta4
                    case hia4 => (simp; rfl)
                    case hsa4 => kernel_rfl
                    case hfa4 => kernel_rfl
                    case hra4 => kernel_rfl
                    case hQa4 => exact fun _ _ _ h => h
                    case hwa4 => rfl
                    case hSa4 => assumption
                    simp only [Act.put, List.setIfInBounds_toArray, List.set_cons_zero, List.set_cons_succ]
                    refine wpAnyH_take (i := 5) (oi := ?oa5) (v := undef) ?hia5 ?hsa5 ?hfa5 ?hra5 ?hQa5 (Or.inr ⟨?hwa5, rfl⟩) ?hSa5 ?resta5
                    case hia5 => (simp; rfl)
                    case hsa5 => kernel_rfl
                    case hfa5 => kernel_rfl
                    case hra5 => kernel_rfl
                    case hQa5 => exact fun _ _ _ h => h
                    case hwa5 => rfl
                    case hSa5 => assumption
                    simp only [Act.put, List.setIfInBounds_toArray, List.set_cons_zero, List.set_cons_succ]
                    refine wpAnyH_take (i := 6) (oi := ?oa6) (v := undef) ?hia6 ?hsa6 ?hfa6 ?hra6 ?hQa6 (Or.inr ⟨?hwa6, rfl⟩) ?hSa6 ?resta6
                    case hia6 => (simp; rfl)
                    case hsa6 => kernel_rfl
                    case hfa6 => kernel_rfl
                    case hra6 => kernel_rfl
                    case hQa6 => exact fun _ _ _ h => h
                    case hwa6 => rfl
                    case hSa6 => assumption
                    simp only [Act.put, List.setIfInBounds_toArray, List.set_cons_zero, List.set_cons_succ]
                    refine wpAnyH_take (i := 7) (oi := ?oa7) (v := undef) ?hia7 ?hsa7 ?hfa7 ?hra7 ?hQa7 (Or.inr ⟨?hwa7, rfl⟩) ?hSa7 ?resta7
                    case hia7 => (simp; rfl)
                    case hsa7 => kernel_rfl
                    case hfa7 => kernel_rfl
                    case hra7 => kernel_rfl
                    case hQa7 => exact fun _ _ _ h => h
                    case hwa7 => rfl
                    case hSa7 => assumption
                    simp only [Act.put, List.setIfInBounds_toArray, List.set_cons_zero, List.set_cons_succ]
                    refine wpAnyH_take (i := 8) (oi := ?oa8) (v := undef) ?hia8 ?hsa8 ?hfa8 ?hra8 ?hQa8 (Or.inr ⟨?hwa8, rfl⟩) ?hSa8 ?resta8
                    case hia8 => (simp; rfl)
                    case hsa8 => kernel_rfl
                    case hfa8 => kernel_rfl
                    case hra8 => kernel_rfl
                    case hQa8 => exact fun _ _ _ h => h
                    case hwa8 => rfl
                    case hSa8 => assumption
                    simp only [Act.put, List.setIfInBounds_toArray, List.set_cons_zero, List.set_cons_succ]
                    refine wpAnyH_take (i := 9) (oi := ?oa9) (v := ?va9) ?hia9 ?hsa9 ?hfa9 ?hra9 ?hQa9 (Or.inl ⟨?hwa9, ?hya9⟩) ?hSa9 ?resta9
                    case hia9 => (simp; rfl)
                    case hsa9 => kernel_rfl
                    case hfa9 => kernel_rfl
                    case hra9 => kernel_rfl
                    case hQa9 => exact fun _ _ _ h => h
                    case hwa9 => rfl
                    case hya9 => (intro wq hSq; (try dsimp only at hSq); go_simp; (try with_reducible rfl))
                    case hSa9 => assumption
                    simp only [Act.put, List.setIfInBounds_toArray, List.set_cons_zero, List.set_cons_succ]
                    refine wpAnyH_take (i := 10) (oi := ?oa10) (v := ?va10) ?hia10 ?hsa10 ?hfa10 ?hra10 ?hQa10 (Or.inl ⟨?hwa10, ?hya10⟩) ?hSa10 ?resta10
                    case hia10 => (simp; rfl)
                    case hsa10 => kernel_rfl
                    case hfa10 => kernel_rfl
                    case hra10 => kernel_rfl
                    case hQa10 => exact fun _ _ _ h => h
                    case hwa10 => rfl
                    case hya10 => (intro wq hSq; (try dsimp only at hSq); go_simp; (try with_reducible rfl))
                    case hSa10 => assumption
                    simp only [Act.put, List.setIfInBounds_toArray, List.set_cons_zero, List.set_cons_succ]
                    refine wpAnyH_take (i := 11) (oi := ?oa11) (v := ?va11) ?hia11 ?hsa11 ?hfa11 ?hra11 ?hQa11 (Or.inl ⟨?hwa11, ?hya11⟩) ?hSa11 ?resta11
                    case hia11 => (simp; rfl)
                    case hsa11 => kernel_rfl
                    case hfa11 => kernel_rfl
                    case hra11 => kernel_rfl
                    case hQa11 => exact fun _ _ _ h => h
                    case hwa11 => rfl
                    case hya11 => (intro wq hSq; (try dsimp only at hSq); go_simp; (try with_reducible rfl))
                    case hSa11 => assumption
                    simp only [Act.put, List.setIfInBounds_toArray, List.set_cons_zero, List.set_cons_succ]
                    refine wpAnyH_take (i := 12) (oi := ?oa12) (v := ?va12) ?hia12 ?hsa12 ?hfa12 ?hra12 ?hQa12 (Or.inl ⟨?hwa12, ?hya12⟩) ?hSa12 ?resta12
                    case hia12 => (simp; rfl)
                    case hsa12 => kernel_rfl
                    case hfa12 => kernel_rfl
                    case hra12 => kernel_rfl
                    case hQa12 => exact fun _ _ _ h => h
                    case hwa12 => rfl
                    case hya12 => (intro wq hSq; (try dsimp only at hSq); go_simp; (try with_reducible rfl))
                    case hSa12 => assumption
                    simp only [Act.put, List.setIfInBounds_toArray, List.set_cons_zero, List.set_cons_succ]
                    refine wpAnyH_take (i := 13) (oi := ?oa13) (v := ?va13) ?hia13 ?hsa13 ?hfa13 ?hra13 ?hQa13 (Or.inl ⟨?hwa13, ?hya13⟩) ?hSa13 ?resta13
                    case hia13 => (simp; rfl)
                    case hsa13 => kernel_rfl
                    case hfa13 => kernel_rfl
                    case hra13 => kernel_rfl
                    case hQa13 => exact fun _ _ _ h => h
                    case hwa13 => rfl
                    case hya13 => (intro wq hSq; (try dsimp only at hSq); go_simp; (try with_reducible rfl))
                    case hSa13 => assumption
                    simp only [Act.put, List.setIfInBounds_toArray, List.set_cons_zero, List.set_cons_succ]
                    refine wpAnyH_take (i := 14) (oi := ?oa14) (v := ?va14) ?hia14 ?hsa14 ?hfa14 ?hra14 ?hQa14 (Or.inl ⟨?hwa14, ?hya14⟩) ?hSa14 ?resta14
                    case hia14 => (simp; rfl)
                    case hsa14 => kernel_rfl
                    case hfa14 => kernel_rfl
                    case hra14 => kernel_rfl
                    case hQa14 => exact fun _ _ _ h => h
                    case hwa14 => rfl
                    case hya14 => (intro wq hSq; (try dsimp only at hSq); go_simp; (try with_reducible rfl))
                    case hSa14 => assumption
                    simp only [Act.put, List.setIfInBounds_toArray, List.set_cons_zero, List.set_cons_succ]
                    refine wpAnyH_take (i := 15) (oi := ?oa15) (v := ?va15) ?hia15 ?hsa15 ?hfa15 ?hra15 ?hQa15 (Or.inl ⟨?hwa15, ?hya15⟩) ?hSa15 ?resta15
                    case hia15 => (simp; rfl)
                    case hsa15 => kernel_rfl
                    case hfa15 => kernel_rfl
                    case hra15 => kernel_rfl
                    case hQa15 => exact fun _ _ _ h => h
                    case hwa15 => rfl
                    case hya15 => (intro wq hSq; (try dsimp only at hSq); go_simp; (try with_reducible rfl))
                    case hSa15 => assumption
                    simp only [Act.put, List.setIfInBounds_toArray, List.set_cons_zero, List.set_cons_succ]
                    refine wpAnyH_take (i := 17) (oi := ?oa17) (v := ?va17) ?hia17 ?hsa17 ?hfa17 ?hra17 ?hQa17 (Or.inl ⟨?hwa17, ?hya17⟩) ?hSa17 ?resta17
                    case hia17 => (simp; rfl)
                    case hsa17 => kernel_rfl
                    case hfa17 => kernel_rfl
                    case hra17 => kernel_rfl
                    case hQa17 => exact fun _ _ _ h => h
                    case hwa17 => rfl
                    case hya17 => (intro wq hSq; (try dsimp only at hSq); go_simp; (try with_reducible rfl))
                    case hSa17 => assumption
                    simp only [Act.put, List.setIfInBounds_toArray, List.set_cons_zero, List.set_cons_succ]
                    refine wpAnyH_take (i := 18) (oi := ?oa18) (v := ?va18) ?hia18 ?hsa18 ?hfa18 ?hra18 ?hQa18 (Or.inl ⟨?hwa18, ?hya18⟩) ?hSa18 ?resta18
                    case hia18 => (simp; rfl)
                    case hsa18 => kernel_rfl
                    case hfa18 => kernel_rfl
                    case hra18 => kernel_rfl
                    case hQa18 => exact fun _ _ _ h => h
                    case hwa18 => rfl
                    case hya18 => (intro wq hSq; (try dsimp only at hSq); go_simp; (try with_reducible rfl))
                    case hSa18 => assumption
                    simp only [Act.put, List.setIfInBounds_toArray, List.set_cons_zero, List.set_cons_succ]
                    refine wpAnyH_take (i := 19) (oi := ?oa19) (v := ?va19) ?hia19 ?hsa19 ?hfa19 ?hra19 ?hQa19 (Or.inl ⟨?hwa19, ?hya19⟩) ?hSa19 ?resta19
                    case hia19 => (simp; rfl)
                    case hsa19 => kernel_rfl
                    case hfa19 => kernel_rfl
                    case hra19 => kernel_rfl
                    case hQa19 => exact fun _ _ _ h => h
                    case hwa19 => rfl
                    case hya19 => (intro wq hSq; (try dsimp only at hSq); go_simp; (try with_reducible rfl))
                    case hSa19 => assumption
                    simp only [Act.put, List.setIfInBounds_toArray, List.set_cons_zero, List.set_cons_succ]
                    refine wpAnyH_take (i := 20) (oi := ?oa20) (v := ?va20) ?hia20 ?hsa20 ?hfa20 ?hra20 ?hQa20 (Or.inl ⟨?hwa20, ?hya20⟩) ?hSa20 ?resta20
                    case hia20 => (simp; rfl)
                    case hsa20 => kernel_rfl
                    case hfa20 => kernel_rfl
                    case hra20 => kernel_rfl
                    case hQa20 => exact fun _ _ _ h => h
                    case hwa20 => rfl
                    case hya20 => (intro wq hSq; (try dsimp only at hSq); go_simp; (try with_reducible rfl))
                    case hSa20 => assumption
                    simp only [Act.put, List.setIfInBounds_toArray, List.set_cons_zero, List.set_cons_succ]
                    refine wpAnyH_ready (rs := [16]) (by kernel_rfl) (by simp) ?_
                    refine AllReadyH.cons (o := ?oa16) ?hia16 (fun K hK => ?_) AllReadyH.nil
                    case hia16 => (simp; rfl)
                    go_simp
                    with_reducible refine HOF.out.mono ?_
                    rintro e w7 ⟨rfl, hb7⟩
                    have HB7 := Mm.hid hb7
                    clear hb7
                    go_wp2_with fail
                    refine hK.out _ _ (HSK.out _ HB7.out) (fun hHa16 => ?_)
                    clear hK K
                    refine wpAnyH_take (i := 21) (oi := ?oa21) (v := ?va21) ?hia21 ?hsa21 ?hfa21 ?hra21 ?hQa21 (Or.inl ⟨?hwa21, ?hya21⟩) ?hSa21 ?resta21
                    case hia21 => (simp; rfl)
                    case hsa21 => kernel_rfl
                    case hfa21 => kernel_rfl
                    case hra21 => kernel_rfl
                    case hQa21 => exact fun _ _ _ h => h
                    case hwa21 => rfl
                    case hya21 => (intro wq hSq; (try dsimp only at hSq); go_simp; (try with_reducible rfl))
                    case hSa21 => assumption
                    simp only [Act.put, List.setIfInBounds_toArray, List.set_cons_zero, List.set_cons_succ]
                    refine wpAnyH_take (i := 22) (oi := ?oa22) (v := ?va22) ?hia22 ?hsa22 ?hfa22 ?hra22 ?hQa22 (Or.inl ⟨?hwa22, ?hya22⟩) ?hSa22 ?resta22
                    case hia22 => (simp; rfl)
                    case hsa22 => kernel_rfl
                    case hfa22 => kernel_rfl
                    case hra22 => kernel_rfl
                    case hQa22 => exact fun _ _ _ h => h
                    case hwa22 => rfl
                    case hya22 => (intro wq hSq; (try dsimp only at hSq); go_simp; (try with_reducible rfl))
                    case hSa22 => assumption
                    simp only [Act.put, List.setIfInBounds_toArray, List.set_cons_zero, List.set_cons_succ]
                    refine wpAnyH_take (i := 23) (oi := ?oa23) (v := ?va23) ?hia23 ?hsa23 ?hfa23 ?hra23 ?hQa23 (Or.inl ⟨?hwa23, ?hya23⟩) ?hSa23 ?resta23
                    case hia23 => (simp; rfl)
                    case hsa23 => kernel_rfl
                    case hfa23 => kernel_rfl
                    case hra23 => kernel_rfl
                    case hQa23 => exact fun _ _ _ h => h
                    case hwa23 => rfl
                    case hya23 => (intro wq hSq; (try dsimp only at hSq); go_simp; (try with_reducible rfl))
                    case hSa23 => assumption
                    simp only [Act.put, List.setIfInBounds_toArray, List.set_cons_zero, List.set_cons_succ]
                    refine wpAnyH_take (i := 24) (oi := ?oa24) (v := ?va24) ?hia24 ?hsa24 ?hfa24 ?hra24 ?hQa24 (Or.inl ⟨?hwa24, ?hya24⟩) ?hSa24 ?resta24
                    case hia24 => (simp; rfl)
                    case hsa24 => kernel_rfl
                    case hfa24 => kernel_rfl
                    case hra24 => kernel_rfl
                    case hQa24 => exact fun _ _ _ h => h
                    case hwa24 => rfl
                    case hya24 => (intro wq hSq; (try dsimp only at hSq); go_simp; (try with_reducible rfl))
                    case hSa24 => assumption
                    simp only [Act.put, List.setIfInBounds_toArray, List.set_cons_zero, List.set_cons_succ]
                    refine wpAnyH_take (i := 25) (oi := ?oa25) (v := ?va25) ?hia25 ?hsa25 ?hfa25 ?hra25 ?hQa25 (Or.inl ⟨?hwa25, ?hya25⟩) ?hSa25 ?resta25
                    case hia25 => (simp; rfl)
                    case hsa25 => kernel_rfl
                    case hfa25 => kernel_rfl
                    case hra25 => kernel_rfl
                    case hQa25 => exact fun _ _ _ h => h
                    case hwa25 => rfl
                    case hya25 => (intro wq hSq; (try dsimp only at hSq); go_simp; (try with_reducible rfl))
                    case hSa25 => assumption
                    simp only [Act.put, List.setIfInBounds_toArray, List.set_cons_zero, List.set_cons_succ]
                    refine wpAnyH_take (i := 26) (oi := ?oa26) (v := ?va26) ?hia26 ?hsa26 ?hfa26 ?hra26 ?hQa26 (Or.inl ⟨?hwa26, ?hya26⟩) ?hSa26 ?resta26
                    case hia26 => (simp; rfl)
                    case hsa26 => kernel_rfl
                    case hfa26 => kernel_rfl
                    case hra26 => kernel_rfl
                    case hQa26 => exact fun _ _ _ h => h
                    case hwa26 => rfl
                    case hya26 => (intro wq hSq; (try dsimp only at hSq); go_simp; (try with_reducible rfl))
                    case hSa26 => assumption
                    simp only [Act.put, List.setIfInBounds_toArray, List.set_cons_zero, List.set_cons_succ]
                    refine wpAnyH_take (i := 27) (oi := ?oa27) (v := ?va27) ?hia27 ?hsa27 ?hfa27 ?hra27 ?hQa27 (Or.inl ⟨?hwa27, ?hya27⟩) ?hSa27 ?resta27
                    case hia27 => (simp; rfl)
                    case hsa27 => kernel_rfl
                    case hfa27 => kernel_rfl
                    case hra27 => kernel_rfl
                    case hQa27 => exact fun _ _ _ h => h
                    case hwa27 => rfl
                    case hya27 => (intro wq hSq; (try dsimp only at hSq); go_simp; (try with_reducible rfl))
                    case hSa27 => assumption
                    simp only [Act.put, List.setIfInBounds_toArray, List.set_cons_zero, List.set_cons_succ]
                    refine wpAnyH_take (i := 28) (oi := ?oa28) (v := ?va28) ?hia28 ?hsa28 ?hfa28 ?hra28 ?hQa28 (Or.inl ⟨?hwa28, ?hya28⟩) ?hSa28 ?resta28
                    case hia28 => (simp; rfl)
                    case hsa28 => kernel_rfl
                    case hfa28 => kernel_rfl
                    case hra28 => kernel_rfl
                    case hQa28 => exact fun _ _ _ h => h
                    case hwa28 => rfl
                    case hya28 => (intro wq hSq; (try dsimp only at hSq); go_simp; (try with_reducible rfl))
                    case hSa28 => assumption
                    simp only [Act.put, List.setIfInBounds_toArray, List.set_cons_zero, List.set_cons_succ]
                    refine wpAnyH_ready (rs := [29]) (by kernel_rfl) (by simp) ?_
                    refine AllReadyH.cons (o := ?oa29) ?hia29 (fun K hK => ?_) AllReadyH.nil
                    case hia29 => (simp; rfl)
                    go_simp
                    with_reducible refine (HHS.out _ HB7.out).mono ?_
                    rintro e w8 ⟨rfl, hb8⟩
                    have HB8 : Hid (Below w6.drew.heap.size w6.drew w8) := Mm.hid (HB7.out.trans (hb8.mono HB7.out.size))
                    clear hb8
                    go_wp2_with fail
                    refine hK.out _ _ (HSK.out _ HB8.out) (fun hHa29 => ?_)
                    clear hK K
                    refine wpAnyH_take (i := 30) (oi := ?oa30) (v := ?va30) ?hia30 ?hsa30 ?hfa30 ?hra30 ?hQa30 (Or.inl ⟨?hwa30, ?hya30⟩) ?hSa30 ?resta30
                    case hia30 => (simp; rfl)
                    case hsa30 => kernel_rfl
                    case hfa30 => kernel_rfl
                    case hra30 => kernel_rfl
                    case hQa30 => exact fun _ _ _ h => h
                    case hwa30 => rfl
                    case hya30 => (intro wq hSq; (try dsimp only at hSq); go_simp; (try with_reducible rfl))
                    case hSa30 => assumption
                    simp only [Act.put, List.setIfInBounds_toArray, List.set_cons_zero, List.set_cons_succ]
                    refine wpAnyH_take (i := 31) (oi := ?oa31) (v := ?va31) ?hia31 ?hsa31 ?hfa31 ?hra31 ?hQa31 (Or.inl ⟨?hwa31, ?hya31⟩) ?hSa31 ?resta31
                    case hia31 => (simp; rfl)
                    case hsa31 => kernel_rfl
                    case hfa31 => kernel_rfl
                    case hra31 => kernel_rfl
                    case hQa31 => exact fun _ _ _ h => h
                    case hwa31 => rfl
                    case hya31 => (intro wq hSq; (try dsimp only at hSq); go_simp; (try with_reducible rfl))
                    case hSa31 => assumption
                    simp only [Act.put, List.setIfInBounds_toArray, List.set_cons_zero, List.set_cons_succ]
                    refine wpAnyH_done (by kernel_rfl) ?_ _
                    have hk8 := (HSK.out _ HB8.out).1
                    have HBE : Hid (Below w5.heap.size w5 w8) := Mm.hid (HJ2.out.trans ((⟨HB8.out.os, HB8.out.tape, HB8.out.output, HB8.out.size, HB8.out.block⟩ : Below w6.heap.size w6 w8).mono HJ2.out.size))
                    go_wp2_with fail
                    exact ⟨⟨j + 1, k, 0 + 1, by omega, by go_num, rfl, by go_num, Mm.hid ⟨by have := HJ1.out; omega, HIX.out, HBE.out⟩⟩, by simp [RowKit.intOf]; omega⟩
                  · have hg0 : (0 : Int) < (cj : Int) := by omega
                    have hll : Lf.lt last2 k = true := by
                      rcases HJL.out with h | h
                      · omega
                      · exact Lf.up_at HU.out (by omega) h HFK.out
                    have hb1 : Op.bytesLess k.toList last2.toList = false := Lf.lt_as hll
                    have hb2 : (k.toList == last2.toList) = false := by rw [Lf.eqB]; exact decide_eq_false (fun e => Lf.lt_ne hll e.symm)
                    clear hcz hll
                    go_wp2_with fail
                    refine wp_region_held_drew (S := fun w' => w'.cell? ⟨g6, o6 + j, none⟩ = some (.string k) ∧ w'.cell? ⟨g4, o4 + i, none⟩ = some (.int .i64 (P.n : Int))) (by kernel_rfl) (HS0.out) (fun hH => ?_)
                    refine wpAnyH_take (i := 0) (oi := ?ob0) (v := ?vb0) ?hib0 ?hsb0 ?hfb0 ?hrb0 ?hQb0 (Or.inl ⟨?hwb0, ?hyb0⟩) ?hSb0 ?restb0
                    case hib0 => (simp; rfl)
                    case hsb0 => kernel_rfl
                    case hfb0 => kernel_rfl
                    case hrb0 => kernel_rfl
                    case hQb0 => exact fun _ _ _ h => h
                    case hwb0 => rfl
                    case hyb0 => (intro wq hSq; (try dsimp only at hSq); go_simp; (try with_reducible rfl))
                    case hSb0 => assumption
                    simp only [Act.put, List.setIfInBounds_toArray, List.set_cons_zero, List.set_cons_succ]
                    refine wpAnyH_take (i := 1) (oi := ?ob1) (v := Value.bool true) ?hib1 ?hsb1 ?hfb1 ?hrb1 ?hQb1 (Or.inl ⟨?hwb1, ?hyb1⟩) ?hSb1 ?restb1
                    case hib1 => (simp; rfl)
                    case hsb1 => kernel_rfl
                    case hfb1 => kernel_rfl
                    case hrb1 => kernel_rfl
                    case hQb1 => exact fun _ _ _ h => h
                    case hwb1 => rfl
                    case hyb1 => (intro wq hSq; (try dsimp only at hSq); go_simp; omega)
                    case hSb1 => assumption
                    simp only [Act.put, List.setIfInBounds_toArray, List.set_cons_zero, List.set_cons_succ]
                    refine wpAnyH_take (i := 2) (oi := ?ob2) (v := ?vb2) ?hib2 ?hsb2 ?hfb2 ?hrb2 ?hQb2 (Or.inl ⟨?hwb2, ?hyb2⟩) ?hSb2 ?restb2
                    case hib2 => (simp; rfl)
                    case hsb2 => kernel_rfl
                    case hfb2 => kernel_rfl
                    case hrb2 => kernel_rfl
                    case hQb2 => exact fun _ _ _ h => h
                    case hwb2 => rfl
                    case hyb2 => (intro wq hSq; (try dsimp only at hSq); go_simp; (try with_reducible rfl))
                    case hSb2 => assumption
                    simp only [Act.put, List.setIfInBounds_toArray, List.set_cons_zero, List.set_cons_succ]
                    refine wpAnyH_take (i := 3) (oi := ?ob3) (v := ?vb3) ?hib3 ?hsb3 ?hfb3 ?hrb3 ?hQb3 (Or.inl ⟨?hwb3, ?hyb3⟩) ?hSb3 ?restb3
                    case hib3 => (simp; rfl)
                    case hsb3 => kernel_rfl
                    case hfb3 => kernel_rfl
                    case hrb3 => kernel_rfl
                    case hQb3 => exact fun _ _ _ h => h
                    case hwb3 => rfl
                    case hyb3 => (intro wq hSq; (try dsimp only at hSq); go_simp; (try with_reducible rfl))
                    case hSb3 => assumption
                    simp only [Act.put, List.setIfInBounds_toArray, List.set_cons_zero, List.set_cons_succ]
                    refine wpAnyH_take (i := 4) (oi := ?ob4) (v := ?vb4) ?hib4 ?hsb4 ?hfb4 ?hrb4 ?hQb4 (Or.inl ⟨?hwb4, ?hyb4⟩) ?hSb4 ?restb4
                    case hib4 => (simp; rfl)
                    case hsb4 => kernel_rfl
                    case hfb4 => kernel_rfl
                    case hrb4 => kernel_rfl
                    case hQb4 => exact fun _ _ _ h => h
                    case hwb4 => rfl
                    case hyb4 => (intro wq hSq; (try dsimp only at hSq); go_simp; (try with_reducible rfl))
                    case hSb4 => assumption
                    simp only [Act.put, List.setIfInBounds_toArray, List.set_cons_zero, List.set_cons_succ]
                    refine wpAnyH_take (i := 5) (oi := ?ob5) (v := ?vb5) ?hib5 ?hsb5 ?hfb5 ?hrb5 ?hQb5 (Or.inl ⟨?hwb5, ?hyb5⟩) ?hSb5 ?restb5
                    case hib5 => (simp; rfl)
                    case hsb5 => kernel_rfl
                    case hfb5 => kernel_rfl
                    case hrb5 => kernel_rfl
                    case hQb5 => exact fun _ _ _ h => h
                    case hwb5 => rfl
                    case hyb5 => (intro wq hSq; (try dsimp only at hSq); go_simp; (try with_reducible rfl))
                    case hSb5 => assumption
                    simp only [Act.put, List.setIfInBounds_toArray, List.set_cons_zero, List.set_cons_succ]
                    refine wpAnyH_take (i := 6) (oi := ?ob6) (v := ?vb6) ?hib6 ?hsb6 ?hfb6 ?hrb6 ?hQb6 (Or.inl ⟨?hwb6, ?hyb6⟩) ?hSb6 ?restb6
                    case hib6 => (simp; rfl)
                    case hsb6 => kernel_rfl
                    case hfb6 => kernel_rfl
                    case hrb6 => kernel_rfl
                    case hQb6 => exact fun _ _ _ h => h
                    case hwb6 => rfl
                    case hyb6 => (intro wq hSq; (try dsimp only at hSq); go_simp; (try with_reducible rfl))
                    case hSb6 => assumption
                    simp only [Act.put, List.setIfInBounds_toArray, List.set_cons_zero, List.set_cons_succ]
                    refine wpAnyH_take (i := 7) (oi := ?ob7) (v := ?vb7) ?hib7 ?hsb7 ?hfb7 ?hrb7 ?hQb7 (Or.inl ⟨?hwb7, ?hyb7⟩) ?hSb7 ?restb7
                    case hib7 => (simp; rfl)
                    case hsb7 => kernel_rfl
                    case hfb7 => kernel_rfl
                    case hrb7 => kernel_rfl
                    case hQb7 => exact fun _ _ _ h => h
                    case hwb7 => rfl
                    case hyb7 => (intro wq hSq; (try dsimp only at hSq); go_simp; (try with_reducible rfl))
                    case hSb7 => assumption
                    simp only [Act.put, List.setIfInBounds_toArray, List.set_cons_zero, List.set_cons_succ]
                    refine wpAnyH_take (i := 8) (oi := ?ob8) (v := ?vb8) ?hib8 ?hsb8 ?hfb8 ?hrb8 ?hQb8 (Or.inl ⟨?hwb8, ?hyb8⟩) ?hSb8 ?restb8
                    case hib8 => (simp; rfl)
                    case hsb8 => kernel_rfl
                    case hfb8 => kernel_rfl
                    case hrb8 => kernel_rfl
                    case hQb8 => exact fun _ _ _ h => h
                    case hwb8 => rfl
                    case hyb8 => (intro wq hSq; (try dsimp only at hSq); go_simp; (try with_reducible rfl))
                    case hSb8 => assumption
                    simp only [Act.put, List.setIfInBounds_toArray, List.set_cons_zero, List.set_cons_succ]
                    refine wpAnyH_take (i := 9) (oi := ?ob9) (v := ?vb9) ?hib9 ?hsb9 ?hfb9 ?hrb9 ?hQb9 (Or.inl ⟨?hwb9, ?hyb9⟩) ?hSb9 ?restb9
                    case hib9 => (simp; rfl)
                    case hsb9 => kernel_rfl
                    case hfb9 => kernel_rfl
                    case hrb9 => kernel_rfl
                    case hQb9 => exact fun _ _ _ h => h
                    case hwb9 => rfl
                    case hyb9 => (intro wq hSq; (try dsimp only at hSq); go_simp; (try with_reducible rfl))
                    case hSb9 => assumption
                    simp only [Act.put, List.setIfInBounds_toArray, List.set_cons_zero, List.set_cons_succ]
                    refine wpAnyH_take (i := 10) (oi := ?ob10) (v := ?vb10) ?hib10 ?hsb10 ?hfb10 ?hrb10 ?hQb10 (Or.inl ⟨?hwb10, ?hyb10⟩) ?hSb10 ?restb10
                    case hib10 => (simp; rfl)
                    case hsb10 => kernel_rfl
                    case hfb10 => kernel_rfl
                    case hrb10 => kernel_rfl
                    case hQb10 => exact fun _ _ _ h => h
                    case hwb10 => rfl
                    case hyb10 => (intro wq hSq; (try dsimp only at hSq); go_simp; (try with_reducible rfl))
                    case hSb10 => assumption
                    simp only [Act.put, List.setIfInBounds_toArray, List.set_cons_zero, List.set_cons_succ]
                    refine wpAnyH_take (i := 11) (oi := ?ob11) (v := ?vb11) ?hib11 ?hsb11 ?hfb11 ?hrb11 ?hQb11 (Or.inl ⟨?hwb11, ?hyb11⟩) ?hSb11 ?restb11
                    case hib11 => (simp; rfl)
                    case hsb11 => kernel_rfl
                    case hfb11 => kernel_rfl
                    case hrb11 => kernel_rfl
                    case hQb11 => exact fun _ _ _ h => h
                    case hwb11 => rfl
                    case hyb11 => (intro wq hSq; (try dsimp only at hSq); go_simp; (try with_reducible rfl))
                    case hSb11 => assumption
                    simp only [Act.put, List.setIfInBounds_toArray, List.set_cons_zero, List.set_cons_succ]
                    refine wpAnyH_take (i := 12) (oi := ?ob12) (v := ?vb12) ?hib12 ?hsb12 ?hfb12 ?hrb12 ?hQb12 (Or.inl ⟨?hwb12, ?hyb12⟩) ?hSb12 ?restb12
                    case hib12 => (simp; rfl)
                    case hsb12 => kernel_rfl
                    case hfb12 => kernel_rfl
                    case hrb12 => kernel_rfl
                    case hQb12 => exact fun _ _ _ h => h
                    case hwb12 => rfl
                    case hyb12 => (intro wq hSq; (try dsimp only at hSq); go_simp; (try with_reducible rfl))
                    case hSb12 => assumption
                    simp only [Act.put, List.setIfInBounds_toArray, List.set_cons_zero, List.set_cons_succ]
                    refine wpAnyH_take (i := 13) (oi := ?ob13) (v := ?vb13) ?hib13 ?hsb13 ?hfb13 ?hrb13 ?hQb13 (Or.inl ⟨?hwb13, ?hyb13⟩) ?hSb13 ?restb13
                    case hib13 => (simp; rfl)
                    case hsb13 => kernel_rfl
                    case hfb13 => kernel_rfl
                    case hrb13 => kernel_rfl
                    case hQb13 => exact fun _ _ _ h => h
                    case hwb13 => rfl
                    case hyb13 => (intro wq hSq; (try dsimp only at hSq); go_simp; (try with_reducible rfl))
                    case hSb13 => assumption
                    simp only [Act.put, List.setIfInBounds_toArray, List.set_cons_zero, List.set_cons_succ]
                    refine wpAnyH_take (i := 14) (oi := ?ob14) (v := ?vb14) ?hib14 ?hsb14 ?hfb14 ?hrb14 ?hQb14 (Or.inl ⟨?hwb14, ?hyb14⟩) ?hSb14 ?restb14
                    case hib14 => (simp; rfl)
                    case hsb14 => kernel_rfl
                    case hfb14 => kernel_rfl
                    case hrb14 => kernel_rfl
                    case hQb14 => exact fun _ _ _ h => h
                    case hwb14 => rfl
                    case hyb14 => (intro wq hSq; (try dsimp only at hSq); go_simp; (try with_reducible rfl))
                    case hSb14 => assumption
                    simp only [Act.put, List.setIfInBounds_toArray, List.set_cons_zero, List.set_cons_succ]
                    refine wpAnyH_take (i := 15) (oi := ?ob15) (v := ?vb15) ?hib15 ?hsb15 ?hfb15 ?hrb15 ?hQb15 (Or.inl ⟨?hwb15, ?hyb15⟩) ?hSb15 ?restb15
                    case hib15 => (simp; rfl)
                    case hsb15 => kernel_rfl
                    case hfb15 => kernel_rfl
                    case hrb15 => kernel_rfl
                    case hQb15 => exact fun _ _ _ h => h
                    case hwb15 => rfl
                    case hyb15 => (intro wq hSq; (try dsimp only at hSq); go_simp; (try with_reducible rfl))
                    case hSb15 => assumption
                    simp only [Act.put, List.setIfInBounds_toArray, List.set_cons_zero, List.set_cons_succ]
                    refine wpAnyH_take (i := 17) (oi := ?ob17) (v := ?vb17) ?hib17 ?hsb17 ?hfb17 ?hrb17 ?hQb17 (Or.inl ⟨?hwb17, ?hyb17⟩) ?hSb17 ?restb17
                    case hib17 => (simp; rfl)
                    case hsb17 => kernel_rfl
                    case hfb17 => kernel_rfl
                    case hrb17 => kernel_rfl
                    case hQb17 => exact fun _ _ _ h => h
                    case hwb17 => rfl
                    case hyb17 => (intro wq hSq; (try dsimp only at hSq); go_simp; (try with_reducible rfl))
                    case hSb17 => assumption
                    simp only [Act.put, List.setIfInBounds_toArray, List.set_cons_zero, List.set_cons_succ]
                    refine wpAnyH_take (i := 18) (oi := ?ob18) (v := ?vb18) ?hib18 ?hsb18 ?hfb18 ?hrb18 ?hQb18 (Or.inl ⟨?hwb18, ?hyb18⟩) ?hSb18 ?restb18
                    case hib18 => (simp; rfl)
                    case hsb18 => kernel_rfl
                    case hfb18 => kernel_rfl
                    case hrb18 => kernel_rfl
                    case hQb18 => exact fun _ _ _ h => h
                    case hwb18 => rfl
                    case hyb18 => (intro wq hSq; (try dsimp only at hSq); go_simp; (try with_reducible rfl))
                    case hSb18 => assumption
                    simp only [Act.put, List.setIfInBounds_toArray, List.set_cons_zero, List.set_cons_succ]
                    refine wpAnyH_take (i := 19) (oi := ?ob19) (v := ?vb19) ?hib19 ?hsb19 ?hfb19 ?hrb19 ?hQb19 (Or.inl ⟨?hwb19, ?hyb19⟩) ?hSb19 ?restb19
                    case hib19 => (simp; rfl)
                    case hsb19 => kernel_rfl
                    case hfb19 => kernel_rfl
                    case hrb19 => kernel_rfl
                    case hQb19 => exact fun _ _ _ h => h
                    case hwb19 => rfl
                    case hyb19 => (intro wq hSq; (try dsimp only at hSq); go_simp; (try with_reducible rfl))
                    case hSb19 => assumption
                    simp only [Act.put, List.setIfInBounds_toArray, List.set_cons_zero, List.set_cons_succ]
                    refine wpAnyH_take (i := 20) (oi := ?ob20) (v := ?vb20) ?hib20 ?hsb20 ?hfb20 ?hrb20 ?hQb20 (Or.inl ⟨?hwb20, ?hyb20⟩) ?hSb20 ?restb20
                    case hib20 => (simp; rfl)
                    case hsb20 => kernel_rfl
                    case hfb20 => kernel_rfl
                    case hrb20 => kernel_rfl
                    case hQb20 => exact fun _ _ _ h => h
                    case hwb20 => rfl
                    case hyb20 => (intro wq hSq; (try dsimp only at hSq); go_simp; (try with_reducible rfl))
                    case hSb20 => assumption
                    simp only [Act.put, List.setIfInBounds_toArray, List.set_cons_zero, List.set_cons_succ]
                    refine wpAnyH_ready (rs := [16]) (by kernel_rfl) (by simp) ?_
                    refine AllReadyH.cons (o := ?ob16) ?hib16 (fun K hK => ?_) AllReadyH.nil
                    case hib16 => (simp; rfl)
                    go_simp
                    with_reducible refine HOF.out.mono ?_
                    rintro e w7 ⟨rfl, hb7⟩
                    have HB7 := Mm.hid hb7
                    clear hb7
                    go_wp2_with fail
                    refine hK.out _ _ (HSK.out _ HB7.out) (fun hHb16 => ?_)
                    clear hK K
                    refine wpAnyH_take (i := 21) (oi := ?ob21) (v := ?vb21) ?hib21 ?hsb21 ?hfb21 ?hrb21 ?hQb21 (Or.inl ⟨?hwb21, ?hyb21⟩) ?hSb21 ?restb21
                    case hib21 => (simp; rfl)
                    case hsb21 => kernel_rfl
                    case hfb21 => kernel_rfl
                    case hrb21 => kernel_rfl
                    case hQb21 => exact fun _ _ _ h => h
                    case hwb21 => rfl
                    case hyb21 => (intro wq hSq; (try dsimp only at hSq); go_simp; (try with_reducible rfl))
                    case hSb21 => assumption
                    simp only [Act.put, List.setIfInBounds_toArray, List.set_cons_zero, List.set_cons_succ]
                    refine wpAnyH_take (i := 22) (oi := ?ob22) (v := ?vb22) ?hib22 ?hsb22 ?hfb22 ?hrb22 ?hQb22 (Or.inl ⟨?hwb22, ?hyb22⟩) ?hSb22 ?restb22
                    case hib22 => (simp; rfl)
                    case hsb22 => kernel_rfl
                    case hfb22 => kernel_rfl
                    case hrb22 => kernel_rfl
                    case hQb22 => exact fun _ _ _ h => h
                    case hwb22 => rfl
                    case hyb22 => (intro wq hSq; (try dsimp only at hSq); go_simp; (try with_reducible rfl))
                    case hSb22 => assumption
                    simp only [Act.put, List.setIfInBounds_toArray, List.set_cons_zero, List.set_cons_succ]
                    refine wpAnyH_take (i := 23) (oi := ?ob23) (v := ?vb23) ?hib23 ?hsb23 ?hfb23 ?hrb23 ?hQb23 (Or.inl ⟨?hwb23, ?hyb23⟩) ?hSb23 ?restb23
                    case hib23 => (simp; rfl)
                    case hsb23 => kernel_rfl
                    case hfb23 => kernel_rfl
                    case hrb23 => kernel_rfl
                    case hQb23 => exact fun _ _ _ h => h
                    case hwb23 => rfl
                    case hyb23 => (intro wq hSq; (try dsimp only at hSq); go_simp; (try with_reducible rfl))
                    case hSb23 => assumption
                    simp only [Act.put, List.setIfInBounds_toArray, List.set_cons_zero, List.set_cons_succ]
                    refine wpAnyH_take (i := 24) (oi := ?ob24) (v := ?vb24) ?hib24 ?hsb24 ?hfb24 ?hrb24 ?hQb24 (Or.inl ⟨?hwb24, ?hyb24⟩) ?hSb24 ?restb24
                    case hib24 => (simp; rfl)
                    case hsb24 => kernel_rfl
                    case hfb24 => kernel_rfl
                    case hrb24 => kernel_rfl
                    case hQb24 => exact fun _ _ _ h => h
                    case hwb24 => rfl
                    case hyb24 => (intro wq hSq; (try dsimp only at hSq); go_simp; (try with_reducible rfl))
                    case hSb24 => assumption
                    simp only [Act.put, List.setIfInBounds_toArray, List.set_cons_zero, List.set_cons_succ]
                    refine wpAnyH_take (i := 25) (oi := ?ob25) (v := ?vb25) ?hib25 ?hsb25 ?hfb25 ?hrb25 ?hQb25 (Or.inl ⟨?hwb25, ?hyb25⟩) ?hSb25 ?restb25
                    case hib25 => (simp; rfl)
                    case hsb25 => kernel_rfl
                    case hfb25 => kernel_rfl
                    case hrb25 => kernel_rfl
                    case hQb25 => exact fun _ _ _ h => h
                    case hwb25 => rfl
                    case hyb25 => (intro wq hSq; (try dsimp only at hSq); go_simp; (try with_reducible rfl))
                    case hSb25 => assumption
                    simp only [Act.put, List.setIfInBounds_toArray, List.set_cons_zero, List.set_cons_succ]
                    refine wpAnyH_take (i := 26) (oi := ?ob26) (v := ?vb26) ?hib26 ?hsb26 ?hfb26 ?hrb26 ?hQb26 (Or.inl ⟨?hwb26, ?hyb26⟩) ?hSb26 ?restb26
                    case hib26 => (simp; rfl)
                    case hsb26 => kernel_rfl
                    case hfb26 => kernel_rfl
                    case hrb26 => kernel_rfl
                    case hQb26 => exact fun _ _ _ h => h
                    case hwb26 => rfl
                    case hyb26 => (intro wq hSq; (try dsimp only at hSq); go_simp; (try with_reducible rfl))
                    case hSb26 => assumption
                    simp only [Act.put, List.setIfInBounds_toArray, List.set_cons_zero, List.set_cons_succ]
                    refine wpAnyH_take (i := 27) (oi := ?ob27) (v := ?vb27) ?hib27 ?hsb27 ?hfb27 ?hrb27 ?hQb27 (Or.inl ⟨?hwb27, ?hyb27⟩) ?hSb27 ?restb27
                    case hib27 => (simp; rfl)
                    case hsb27 => kernel_rfl
                    case hfb27 => kernel_rfl
                    case hrb27 => kernel_rfl
                    case hQb27 => exact fun _ _ _ h => h
                    case hwb27 => rfl
                    case hyb27 => (intro wq hSq; (try dsimp only at hSq); go_simp; (try with_reducible rfl))
                    case hSb27 => assumption
                    simp only [Act.put, List.setIfInBounds_toArray, List.set_cons_zero, List.set_cons_succ]
                    refine wpAnyH_take (i := 28) (oi := ?ob28) (v := ?vb28) ?hib28 ?hsb28 ?hfb28 ?hrb28 ?hQb28 (Or.inl ⟨?hwb28, ?hyb28⟩) ?hSb28 ?restb28
                    case hib28 => (simp; rfl)
                    case hsb28 => kernel_rfl
                    case hfb28 => kernel_rfl
                    case hrb28 => kernel_rfl
                    case hQb28 => exact fun _ _ _ h => h
                    case hwb28 => rfl
                    case hyb28 => (intro wq hSq; (try dsimp only at hSq); go_simp; (try with_reducible rfl))
                    case hSb28 => assumption
                    simp only [Act.put, List.setIfInBounds_toArray, List.set_cons_zero, List.set_cons_succ]
                    refine wpAnyH_ready (rs := [29]) (by kernel_rfl) (by simp) ?_
                    refine AllReadyH.cons (o := ?ob29) ?hib29 (fun K hK => ?_) AllReadyH.nil
                    case hib29 => (simp; rfl)
                    go_simp
                    with_reducible refine (HHS.out _ HB7.out).mono ?_
                    rintro e w8 ⟨rfl, hb8⟩
                    have HB8 : Hid (Below w6.drew.heap.size w6.drew w8) := Mm.hid (HB7.out.trans (hb8.mono HB7.out.size))
                    clear hb8
                    go_wp2_with fail
                    refine hK.out _ _ (HSK.out _ HB8.out) (fun hHb29 => ?_)
                    clear hK K
                    refine wpAnyH_take (i := 30) (oi := ?ob30) (v := ?vb30) ?hib30 ?hsb30 ?hfb30 ?hrb30 ?hQb30 (Or.inl ⟨?hwb30, ?hyb30⟩) ?hSb30 ?restb30
                    case hib30 => (simp; rfl)
                    case hsb30 => kernel_rfl
                    case hfb30 => kernel_rfl
                    case hrb30 => kernel_rfl
                    case hQb30 => exact fun _ _ _ h => h
                    case hwb30 => rfl
                    case hyb30 => (intro wq hSq; (try dsimp only at hSq); go_simp; (try with_reducible rfl))
                    case hSb30 => assumption
                    simp only [Act.put, List.setIfInBounds_toArray, List.set_cons_zero, List.set_cons_succ]
                    refine wpAnyH_take (i := 31) (oi := ?ob31) (v := ?vb31) ?hib31 ?hsb31 ?hfb31 ?hrb31 ?hQb31 (Or.inl ⟨?hwb31, ?hyb31⟩) ?hSb31 ?restb31
                    case hib31 => (simp; rfl)
                    case hsb31 => kernel_rfl
                    case hfb31 => kernel_rfl
                    case hrb31 => kernel_rfl
                    case hQb31 => exact fun _ _ _ h => h
                    case hwb31 => rfl
                    case hyb31 => (intro wq hSq; (try dsimp only at hSq); go_simp; (try with_reducible rfl))
                    case hSb31 => assumption
                    simp only [Act.put, List.setIfInBounds_toArray, List.set_cons_zero, List.set_cons_succ]
                    refine wpAnyH_done (by kernel_rfl) ?_ _
                    have hk8 := (HSK.out _ HB8.out).1
                    have HBE : Hid (Below w5.heap.size w5 w8) := Mm.hid (HJ2.out.trans ((⟨HB8.out.os, HB8.out.tape, HB8.out.output, HB8.out.size, HB8.out.block⟩ : Below w6.heap.size w6 w8).mono HJ2.out.size))
                    go_wp2_with fail
                    exact ⟨⟨j + 1, k, cj + 1, by omega, by go_num, rfl, by go_num, Mm.hid ⟨by have := HJ1.out; omega, HIX.out, HBE.out⟩⟩, by simp [RowKit.intOf]; omega⟩
                · have he : j = m5 := by omega
                  subst he
                  have HEND : Hid (Lf.LastOk (Lf.flat s.pgs) (Lf.flat (s.pgs.take (i + 1))).length last2 ∧ Below w4.heap.size w4 w6) := Mm.hid (by
                    obtain ⟨h1, h2, h3⟩ := HJ.out
                    refine ⟨?_, HB5.out.trans (h3.mono HB5.out.size)⟩
                    rw [Lf.flat_step HP.out, ← HCN.out, ← HM5.out]
                    rw [h1] at h2; exact h2)
                  have HCJ : Hid (cj = (Lf.flat (s.pgs.take (i + 1))).length) := Mm.hid (by rw [Lf.flat_step HP.out, ← HCN.out, ← HM5.out]; exact HJ.out.1)
                  go_wp2_with fail
                  exact ⟨⟨i + 1, last2, by omega, by go_num, rfl, by rw [HCJ.out], HEND⟩, by simp [RowKit.intOf]; omega⟩
          · have he : i = n := by omega
            subst he
            have HCE : Hid ((Lf.flat (s.pgs.take i)).length = s.count) := Mm.hid (by rw [List.take_of_length_le (by rw [HN.out]; exact Nat.le_refl _), Lf.flat_len]; exact HQ.out.2.1.cnt.symm)
            rw [HCE.out]
            have hpos : (0 : Int) < (i : Int) := by omega
            have HLEN := Mm.hid (len_q (Mm.hid (HQ4.out.below HI.out.2)))
            have HBI := Mm.hid HI.out.2
            go_wp2_with fail
            refine HLEN.out.mono ?_
            rintro e w7 ⟨rfl, hb7⟩
            have HB7 : Hid (Below w1.heap.size w1 w7) := Mm.hid (HB4.out.trans ((HBI.out.trans (hb7.mono HBI.out.size)).mono HB4.out.size))
            clear hb7
            go_wp2_with fail
            refine (wakes_any _).mono ?_
            rintro e w8 ⟨rfl, hb8⟩
            have HB8 : Hid (Below w1.heap.size w1 w8) := Mm.hid (HB7.out.trans (hb8.mono HB7.out.size))
            clear hb8
            go_wp2_with fail
            go_ret
            exact ⟨rfl, HB8.out⟩
end Go.Proofs.Ytngflihiailllaa
