/- RowTaken: the walk. -/
import Derived.Test.YtaclkmhgbmencaaL0
namespace Go.Proofs.Ytaclkmhgbmencaa
open Go.RowKit
attribute [local go_sem] Fl.run_store_float

namespace Vl
theorem add_zero {ks : List Col} {x : Col} (h : addE ks x = 0) : addL ks x = ks ++ [x] ∧ ks.length < 6 ∧ takesE x x.d = 0 := by
  have hl : addL ks x = ks ++ [x] := by unfold addL; rw [if_pos h]
  unfold addE at h
  split at h
  · rename_i hb
    split at h
    · exact absurd h (by decide)
    · split at h
      · exact absurd h (by decide)
      · rename_i h6
        split at h
        · exact absurd h (by decide)
        · rename_i hnn
          refine ⟨hl, by omega, ?_⟩
          have hc : colB x = true := by revert hb; cases colB x <;> simp
          unfold colB at hc
          simp only [Bool.and_eq_true] at hc
          obtain ⟨⟨_, hg⟩, hk⟩ := hc
          cases hz : (x.d.k == 0)
          · rw [hz] at hk
            exact takes_01 hg hz (by simpa using hk)
          · rw [hz] at hnn
            exact takes_00 hg hz (by revert hnn; cases x.nn <;> simp)
  · exact absurd h (by decide)
/-- Columns that came of others by adding. -/
structure Grown (cs ks : List Col) : Prop where
  pre : ∀ (j : Nat) (c : Col), cs[j]? = some c → ks[j]? = some c
  le : cs.length ≤ ks.length
  six : ks.length ≤ 6
  more : ∀ (j : Nat) (c : Col), cs.length ≤ j → ks[j]? = some c → takesE c c.d = 0
theorem Grown.start {cs : List Col} (h : colsB cs = true) : Grown cs cs :=
  ⟨fun _ _ h => h, Nat.le_refl _, (colsB_up h).2.1, fun j c hj hc => by
    have := (List.getElem?_eq_some_iff.1 hc).1; omega⟩
theorem Grown.step {cs ks : List Col} {x : Col} (h : Grown cs ks) (ha : addE ks x = 0) : Grown cs (addL ks x) := by
  obtain ⟨e, h6, ht⟩ := add_zero ha
  rw [e]
  refine ⟨fun j c hc => ?_, by rw [List.length_append]; have := h.le; omega, by rw [List.length_append]; simp; omega, fun j c hj hc => ?_⟩
  · have := h.pre j c hc
    rw [List.getElem?_append_left (List.getElem?_eq_some_iff.1 this).1]; exact this
  · by_cases hlt : j < ks.length
    · rw [List.getElem?_append_left hlt] at hc
      exact h.more j c hj hc
    · have hl := (List.getElem?_eq_some_iff.1 hc).1
      simp at hl
      have : j = ks.length := by omega
      subst this
      simp at hc
      subst hc
      exact ht
/-- What is known of a row that was filled. -/
theorem filled {cs : List Col} {xs : List V} (h : fillE cs xs = 0) : (fillL cs xs).length = cs.length ∧ (∀ (j : Nat) (c : Col) (y : V), cs[j]? = some c → (fillL cs xs)[j]? = some y → takesE c y = 0) ∧ fillE cs (fillL cs xs) = 0 ∧ fillL cs (fillL cs xs) = fillL cs xs := by
  have hl : fillL cs xs = padL cs xs := by unfold fillL; rw [if_pos h]
  have he : errL cs (padL cs xs) = 0 := by
    unfold fillE at h
    split at h
    · exact absurd h (by decide)
    · exact h
  have hp : padL cs (padL cs xs) = padL cs xs := padL_whole cs _ (padL_length cs xs)
  rw [hl]
  have h2 := fill_ok (cs := cs) (xs := padL cs xs) (by rw [padL_length]; omega) (by rw [hp]; exact he)
  rw [hp] at h2
  exact ⟨padL_length cs xs, fun j c y hc hy => errL_zero cs _ he j c y hc hy, h2.2, h2.1⟩
/-- A column, two values. -/
def CVV (b1 o1 b2 o2 b3 o3 : Nat) (c : Col) (v : V) (W w' : World) : Prop := w'.cell? ⟨b1, o1, none⟩ = some (.string c.nm) ∧ w'.cell? ⟨b1, o1 + 1, none⟩ = some (.int .i64 c.k) ∧ w'.cell? ⟨b1, o1 + 2, none⟩ = some (.bool c.nn) ∧ w'.cell? ⟨b1, o1 + 3, none⟩ = some (.int .i64 c.d.k) ∧ w'.cell? ⟨b1, o1 + 4, none⟩ = some (.int .i64 c.d.n) ∧ w'.cell? ⟨b1, o1 + 5, none⟩ = some (.float .f64 c.d.f) ∧ w'.cell? ⟨b1, o1 + 6, none⟩ = some (.string c.d.s) ∧ w'.cell? ⟨b2, o2, none⟩ = some (.int .i64 v.k) ∧ w'.cell? ⟨b2, o2 + 1, none⟩ = some (.int .i64 v.n) ∧ w'.cell? ⟨b2, o2 + 2, none⟩ = some (.float .f64 v.f) ∧ w'.cell? ⟨b2, o2 + 3, none⟩ = some (.string v.s) ∧ w'.cell? ⟨b3, o3, none⟩ = some (.int .i64 v.k) ∧ w'.cell? ⟨b3, o3 + 1, none⟩ = some (.int .i64 v.n) ∧ w'.cell? ⟨b3, o3 + 2, none⟩ = some (.float .f64 v.f) ∧ w'.cell? ⟨b3, o3 + 3, none⟩ = some (.string v.s) ∧ b1 < w'.heap.size ∧ b2 < w'.heap.size ∧ b3 < w'.heap.size ∧ Below W.heap.size W w'
theorem CVV.of {b1 o1 b2 o2 b3 o3 : Nat} {c : Col} {v : V} {W w' : World} (h : C7 w' b1 o1 c) (h2 : V4 w' b2 o2 v) (h3 : V4 w' b3 o3 v) (hb : Below W.heap.size W w') : CVV b1 o1 b2 o2 b3 o3 c v W w' := ⟨h.c0, h.c1, h.c2, h.c3, h.c4, h.c5, h.c6, h2.c0, h2.c1, h2.c2, h2.c3, h3.c0, h3.c1, h3.c2, h3.c3, h.lt, h2.lt, h3.lt, hb⟩
theorem CVV.parts {b1 o1 b2 o2 b3 o3 : Nat} {c : Col} {v : V} {W w' : World} (h : CVV b1 o1 b2 o2 b3 o3 c v W w') : C7 w' b1 o1 c ∧ V4 w' b2 o2 v ∧ V4 w' b3 o3 v ∧ Below W.heap.size W w' := by
  obtain ⟨h0, h1, h2, h3, h4, h5, h6, h7, h8, h9, h10, h11, h12, h13, h14, h15, h16, h17, h18⟩ := h
  exact ⟨⟨h15, h0, h1, h2, h3, h4, h5, h6⟩, ⟨h16, h7, h8, h9, h10⟩, ⟨h17, h11, h12, h13, h14⟩, h18⟩
theorem CVV.drew {b1 o1 b2 o2 b3 o3 : Nat} {c : Col} {v : V} {W w' : World} (h : CVV b1 o1 b2 o2 b3 o3 c v W w') : CVV b1 o1 b2 o2 b3 o3 c v W w'.drew := CVV.of h.parts.1.drew h.parts.2.1.drew h.parts.2.2.1.drew (bdrewN h.parts.2.2.2 1)
theorem CVV.keep {b1 o1 b2 o2 b3 o3 : Nat} {c : Col} {v : V} {W w0 w1 : World} (hb : Below w0.heap.size w0 w1) (h : CVV b1 o1 b2 o2 b3 o3 c v W w0) : CVV b1 o1 b2 o2 b3 o3 c v W w1 := CVV.of (h.parts.1.below hb) (h.parts.2.1.below hb) (h.parts.2.2.1.below hb) (btr h.parts.2.2.2 hb)
end Vl

set_option maxRecDepth 100000 in
set_option maxHeartbeats 8000000 in
theorem rowTaken_law (p : Option Addr) (n c : Nat) (cs : List Vl.Col) (q : Option Addr) (m d : Nat) (xs : List Vl.V) (u : Option Addr) (t g : Nat) (ms : List Vl.Col) (w : World) (hC : Vl.Col1 w p n c cs) (hR : Vl.Row1 w q m d xs) (hM : Vl.Col1 w u t g ms) :
    Calls Try.prog 5 #[.slice p n c, .slice q m d, .slice u t g] w fun e w' => e = .returned (.bool true) ∧ Below w.heap.size w w' := by
  have HC := Vl.hid hC
  have HR := Vl.hid hR
  have HM := Vl.hid hM
  have hn := hC.le
  have hm := hR.le
  have ht := hM.le
  clear hC hR hM
  go_enter Try.func5, Try.ntmps5
  go_wp2_with fail
  refine (largeColumns_any p n c cs _ HC.out.len HC.out.le (Vl.hid HC.out.row)).mono ?_
  rintro e w1 ⟨b, rfl, _, hB⟩
  have HB1 := Vl.hid hB
  clear hB
  cases b
  · go_wp2_with fail
    refine (largeRow_any q m d xs _ HR.out.len HR.out.le (Vl.hid (HR.out.row.below HB1.out))).mono ?_
    rintro e w2 ⟨b, rfl, hb, hB⟩
    have HB2 := Vl.hid (Vl.btr HB1.out hB)
    have HL2 := Vl.hid hb
    clear hB hb
    cases b
    · have hm50 : m ≤ 50 := (HL2.out rfl).1
      clear HL2
      go_wp2_with fail
      refine (largeColumns_any u t g ms _ HM.out.len HM.out.le (Vl.hid (HM.out.row.below HB2.out))).mono ?_
      rintro e w3 ⟨b, rfl, hb, hB⟩
      have HB3 := Vl.hid (Vl.btr HB2.out hB)
      have HL3 := Vl.hid hb
      clear hB hb
      cases b
      · have ht50 : t ≤ 50 := HL3.out rfl
        clear HL3
        go_wp2_with fail
        refine (refGoodC_any p n c cs _ HC.out.len HC.out.le (Vl.hid (HC.out.row.below HB3.out))).mono ?_
        rintro e w4 ⟨rfl, hB⟩
        have HB4 := Vl.hid (Vl.btr HB3.out hB)
        clear hB
        cases hg : Vl.colsB cs
        · clear HB1 HB2 HB3
          go_wp2_with fail
          refine (wakes_any _).mono ?_
          rintro e wk ⟨rfl, hb⟩
          have HBK := Vl.hid (Vl.btr HB4.out hb)
          clear hb
          go_wp2_with fail
          go_ret
          exact ⟨rfl, HBK.out⟩
        · have HG := Vl.hid hg
          have hn6 : n ≤ 6 := by rw [← HC.out.len]; exact (Vl.colsB_up hg).2.1
          clear hg HB1 HB2 HB3
          obtain ⟨iV, HIV⟩ : ∃ i, Hid (Try.prog.info? 25 = some i ∧ i.zero = some (.agg #[.int .i64 0, .int .i64 0, .float .f64 0, .string ⟨#[]⟩]) ∧ i.size = 4 ∧ i.bytes = 40) := ⟨_, Try.type25, rfl, rfl, rfl⟩
          obtain ⟨iC, HIC⟩ : ∃ i, Hid (Try.prog.info? 27 = some i ∧ i.zero = some (.agg #[.string ⟨#[]⟩, .int .i64 0, .bool false, .int .i64 0, .int .i64 0, .float .f64 0, .string ⟨#[]⟩]) ∧ i.size = 7 ∧ i.bytes = 72) := ⟨_, Try.type27, rfl, rfl, rfl⟩
          go_wp2_with (at_builtin; refine Vl.append_any rfl _ _ 38 rfl w4.heap.size 25 iV (.agg #[.int .i64 0, .int .i64 0, .float .f64 0, .string ⟨#[]⟩]) 4 40 Try.underlying38 HIV.out.1 HIV.out.2.1 HIV.out.2.2.1 HIV.out.2.2.2 rfl (by decide) (.slice (some ⟨w4.heap.size, 0, none⟩) 0 0) 0 [] rfl (Vl.own_at (Vl.new_at2 _ rfl) (Nat.le_refl _)) q m d (Vl.cellsV xs) rfl (HR.out.nil) (by rw [Vl.cellsV_length, HR.out.len]) ((HR.out.row.below HB4.out).al _) (Vl.cellsV_one _) (by unfold maxLen; omega) (by omega) (by simp) ?_)
          intro v' w5 hown hgrow
          obtain ⟨pin, cin, rfl, hcin, hnin, hin, hb⟩ := Vl.copied hown hgrow
          clear hown hgrow
          have HIN := Vl.hid hin
          have HB5 := Vl.hid (Vl.btr HB4.out hb)
          clear hin hb hnin HB4
          go_wp2_with fail
          refine (fill_any p n c cs pin m cin xs _ HC.out.len HC.out.le (by omega) (Vl.hid (HC.out.row.below HB5.out)) HR.out.len HIN).mono ?_
          rintro e w6 ⟨pf, cf, rfl, hcf, hnf, hrf, hb⟩
          obtain ⟨E, HE⟩ : ∃ E, Hid (Vl.fillE cs xs = E) := ⟨_, Vl.hid rfl⟩
          rw [HE.out]
          have HB6 := Vl.hid (Vl.btr HB5.out hb)
          clear hb HB5 HIN
          cases he : (E != 0)
          · have HE0 : Hid (Vl.fillE cs xs = 0) := Vl.hid (by rw [HE.out]; simpa using he)
            have HFD := Vl.hid (Vl.filled HE0.out)
            obtain ⟨fs, HFS⟩ : ∃ fs, Hid (Vl.fillL cs xs = fs) := ⟨_, Vl.hid rfl⟩
            rw [HFS.out] at HFD hrf
            have HFLN : Hid (fs.length = n) := Vl.hid (by rw [HFD.out.1, HC.out.len])
            rw [HFS.out, HFLN.out] at hcf hnf
            rw [HFS.out, HFLN.out]
            have HRF := Vl.hid hrf
            have HNF := Vl.hid hnf
            clear hrf hnf HE HE0
            go_wp2_with (at_builtin; refine Vl.append_any rfl _ _ 22 rfl w6.heap.size 27 iC (.agg #[.string ⟨#[]⟩, .int .i64 0, .bool false, .int .i64 0, .int .i64 0, .float .f64 0, .string ⟨#[]⟩]) 7 72 Try.underlying22 HIC.out.1 HIC.out.2.1 HIC.out.2.2.1 HIC.out.2.2.2 rfl (by decide) (.slice (some ⟨w6.heap.size, 0, none⟩) 0 0) 0 [] rfl (Vl.own_at (Vl.new_at2 _ rfl) (Nat.le_refl _)) p n c (Vl.cellsC cs) rfl (HC.out.nil) (by rw [Vl.cellsC_length, HC.out.len]) ((HC.out.row.below HB6.out).al _) (Vl.cellsC_one _) (by unfold maxLen; omega) (by omega) (by simp) ?_)
            intro v' w7 hown hgrow
            obtain ⟨pk, ck, rfl, hck, hnk, hk0, hb⟩ := Vl.copied hown hgrow
            clear hown hgrow
            have HK7 := Vl.hid hk0
            have HB7 := Vl.hid (Vl.btr HB6.out hb)
            have HF7 := Vl.hid (HRF.out.below hb)
            clear hk0 hb hnk HB6 HRF
            have HG0 := Vl.hid (Vl.Grown.start HG.out)
            go_wp2_with fail
            go_loopw [9, 10] (fun vk vi wr => ∃ (k lk : Nat) (pk : Option Addr) (ck : Nat) (ks : List Vl.Col), k ≤ t ∧ vi = .int .i64 (k : Int) ∧ vk = .slice pk lk ck ∧ lk ≤ ck ∧ Hid (ks.length = lk) ∧ Hid (Vl.Grown cs ks) ∧ Hid (Vl.ColIn wr pk ks) ∧ Hid (Vl.RowIn wr pf fs) ∧ Hid (Below w.heap.size w wr)) (fun _ vi _ => t - (RowKit.intOf vi).toNat)
            case atStart => exact ⟨0, n, pk, ck, cs, by omega, rfl, rfl, hck, HC.out.len, HG0, HK7, HF7, HB7⟩
            case round =>
              obtain ⟨k, lk, pk', ck', ks, hk1, rfl, rfl, hck2, HKL, HGR, HK, HF, HB⟩ := hrel
              rename World => wr
              have hlk6 : lk ≤ 6 := by rw [← HKL.out]; exact HGR.out.six
              clear HK7 HF7 HB7 HG0 hck
              by_cases hlt : k < t
              · obtain ⟨x, hx⟩ : ∃ x, ms[k]? = some x := ⟨ms[k]'(by rw [HM.out.len]; exact hlt), List.getElem?_eq_getElem _⟩
                obtain ⟨b1, o1, hp1, hr1⟩ := (HM.out.row.below HB.out).at hx
                obtain ⟨_, p0, p1, p2, p3, p4, p5, p6⟩ := hr1
                clear hx
                subst hp1
                obtain ⟨A, HA⟩ : ∃ A, Hid (Vl.addE ks x = A) := ⟨_, Vl.hid rfl⟩
                cases ha : (A == 0)
                · go_wp2_with fail
                  refine (add_any pk' lk ck' ks x _ HKL.out hck2 (by omega) HK).mono ?_
                  rintro e wa ⟨pa, ca, rfl, hca, _, hra, hb⟩
                  rw [HA.out]
                  have HZ := Vl.hid (And.intro (HK.out.below hb) (And.intro (HF.out.below hb) (Vl.btr HB.out hb)))
                  clear hb hra hca
                  go_wp2_with fail
                  exact ⟨⟨k + 1, lk, pk', ck', ks, by omega, by go_num, rfl, hck2, HKL, HGR, HZ.out.1, HZ.out.2.1, HZ.out.2.2⟩, by simp [RowKit.intOf]; omega⟩
                · have HA0 : Hid (Vl.addE ks x = 0) := Vl.hid (by rw [HA.out]; simpa using ha)
                  obtain ⟨la, HLA⟩ : ∃ la, Hid ((Vl.addL ks x).length = la) := ⟨_, Vl.hid rfl⟩
                  go_wp2_with fail
                  refine (add_any pk' lk ck' ks x _ HKL.out hck2 (by omega) HK).mono ?_
                  rintro e wa ⟨pa, ca, rfl, hca, _, hra, hb⟩
                  rw [HA.out, HLA.out]
                  rw [HLA.out] at hca
                  have HZ := Vl.hid (And.intro hra (And.intro (HF.out.below hb) (Vl.btr HB.out hb)))
                  clear hb hra
                  go_wp2_with fail
                  exact ⟨⟨k + 1, la, pa, ca, Vl.addL ks x, by omega, by go_num, rfl, hca, HLA, HGR.out.step HA0.out, HZ.out.1, HZ.out.2.1, HZ.out.2.2⟩, by simp [RowKit.intOf]; omega⟩
              · obtain rfl : k = t := by omega
                go_wp2_with (at_builtin; refine Vl.append_any rfl _ _ 38 rfl wr.heap.size 25 iV (.agg #[.int .i64 0, .int .i64 0, .float .f64 0, .string ⟨#[]⟩]) 4 40 Try.underlying38 HIV.out.1 HIV.out.2.1 HIV.out.2.2.1 HIV.out.2.2.2 rfl (by decide) (.slice (some ⟨wr.heap.size, 0, none⟩) 0 0) 0 [] rfl (Vl.own_at (Vl.new_at2 _ rfl) (Nat.le_refl _)) pf n cf (Vl.cellsV fs) rfl (HNF.out) (by rw [Vl.cellsV_length, HFLN.out]) (HF.out.al _) (Vl.cellsV_one _) (by unfold maxLen; omega) (by omega) (by simp) ?_)
                intro v' wg hown hgrow
                obtain ⟨pg, cg, rfl, hcg, hng, hgin, hb⟩ := Vl.copied hown hgrow
                clear hown hgrow
                have HGI := Vl.hid hgin
                have HBg := Vl.hid (Vl.btr HB.out hb)
                have HKg := Vl.hid (HK.out.below hb)
                have HFg := Vl.hid (HF.out.below hb)
                clear hgin hb hng HB HK HF
                have HPL : Hid ((Vl.padL ks fs).length = lk) := Vl.hid (by rw [Vl.padL_length, HKL.out])
                go_wp2_with fail
                refine (pad_any pk' lk ck' ks pg n cg fs _ HKL.out hck2 (by omega) HKg HFLN.out HGI).mono ?_
                rintro e wp ⟨pp, cp, rfl, hcp, _, hrp, hb⟩
                have HBp := Vl.hid (Vl.btr HBg.out hb)
                have HKp := Vl.hid (HKg.out.below hb)
                have HFp := Vl.hid (HFg.out.below hb)
                have HPp := Vl.hid hrp
                clear hb hrp HBg HKg HFg HGI
                have hnn : ((n : Int) != (n : Int)) = false := by simp
                have hll : ((lk : Int) != (lk : Int)) = false := by simp
                have hnl : ¬ lk < n := by have := HGR.out.le; rw [HC.out.len, HKL.out] at this; omega
                obtain ⟨ys, HYS⟩ : ∃ ys, Hid (Vl.padL ks fs = ys) := ⟨_, Vl.hid rfl⟩
                rw [HYS.out] at HPp
                go_wp2_with fail
                go_loopw [14] (fun vi wr => ∃ k : Nat, k ≤ lk ∧ vi = .int .i64 (k : Int) ∧ Hid (Vl.ColIn wr pk' ks) ∧ Hid (Vl.RowIn wr pf fs) ∧ Hid (Vl.RowIn wr pp ys) ∧ Hid (Below w.heap.size w wr)) (fun vi _ => lk - (RowKit.intOf vi).toNat)
                case atStart => exact ⟨0, by omega, rfl, HKp, HFp, HPp, HBp⟩
                case round =>
                  obtain ⟨k, hk1, rfl, HK, HF, HP, HB⟩ := hrel
                  rename World => wr
                  clear HKp HFp HPp HBp
                  by_cases hlt : k < lk
                  · obtain ⟨v, hv⟩ : ∃ v, ks[k]? = some v := ⟨ks[k]'(by rw [HKL.out]; exact hlt), List.getElem?_eq_getElem _⟩
                    have hyk := Vl.padL_get ks fs k v hv
                    rw [HYS.out] at hyk
                    obtain ⟨b1, o1, hp1, hr1⟩ := HK.out.at hv
                    by_cases hkn : k < n
                    · obtain ⟨y, hfk⟩ : ∃ y, fs[k]? = some y := ⟨fs[k]'(by rw [HFLN.out]; exact hkn), List.getElem?_eq_getElem _⟩
                      rw [hfk] at hyk
                      have HT : Hid (Vl.takesE v y = 0) := Vl.hid (by
                        obtain ⟨v2, hv2⟩ : ∃ v2, cs[k]? = some v2 := ⟨cs[k]'(by rw [HC.out.len]; exact hkn), List.getElem?_eq_getElem _⟩
                        have e2 := HGR.out.pre k v2 hv2
                        rw [hv] at e2
                        cases e2
                        exact HFD.out.2.1 k v y hv2 hfk)
                      obtain ⟨b2, o2, hp2, hr2⟩ := HP.out.at hyk
                      obtain ⟨b3, o3, hp3, hr3⟩ := HF.out.at hfk
                      have HS := Vl.hid (Vl.CVV.of hr1 hr2 hr3 (Below.refl wr.heap.size wr))
                      have hkn2 : ¬ n ≤ k := by omega
                      clear hv hyk hfk hr1 hr2 hr3
                      subst hp1 hp2 hp3
                      go_wp2_with fail
                      refine wp_region_held_drew (S := (fun w' => w'.cell? ⟨b1, o1 + k * 7, none⟩ = some (.string v.nm) ∧ w'.cell? ⟨b1, o1 + k * 7 + 1, none⟩ = some (.int .i64 v.k) ∧ w'.cell? ⟨b1, o1 + k * 7 + 2, none⟩ = some (.bool v.nn) ∧ w'.cell? ⟨b1, o1 + k * 7 + 3, none⟩ = some (.int .i64 v.d.k) ∧ w'.cell? ⟨b1, o1 + k * 7 + 4, none⟩ = some (.int .i64 v.d.n) ∧ w'.cell? ⟨b1, o1 + k * 7 + 5, none⟩ = some (.float .f64 v.d.f) ∧ w'.cell? ⟨b1, o1 + k * 7 + 6, none⟩ = some (.string v.d.s) ∧ w'.cell? ⟨b2, o2 + k * 4, none⟩ = some (.int .i64 y.k) ∧ w'.cell? ⟨b2, o2 + k * 4 + 1, none⟩ = some (.int .i64 y.n) ∧ w'.cell? ⟨b2, o2 + k * 4 + 2, none⟩ = some (.float .f64 y.f) ∧ w'.cell? ⟨b2, o2 + k * 4 + 3, none⟩ = some (.string y.s) ∧ w'.cell? ⟨b3, o3 + k * 4, none⟩ = some (.int .i64 y.k) ∧ w'.cell? ⟨b3, o3 + k * 4 + 1, none⟩ = some (.int .i64 y.n) ∧ w'.cell? ⟨b3, o3 + k * 4 + 2, none⟩ = some (.float .f64 y.f) ∧ w'.cell? ⟨b3, o3 + k * 4 + 3, none⟩ = some (.string y.s) ∧ b1 < w'.heap.size ∧ b2 < w'.heap.size ∧ b3 < w'.heap.size ∧ Below wr.heap.size wr w')) (by kernel_rfl) (Vl.CVV.drew HS.out) (fun hH => ?_)
                      refine wpAnyH_take (i := 0) (oi := ?oa0) (v := ?va0) ?hia0 ?hsa0 ?hfa0 ?hra0 ?hQa0 (Or.inl ⟨?hwa0, ?hya0⟩) ?hSa0 ?resta0
                      case hia0 => (simp; rfl)
                      case hsa0 => kernel_rfl
                      case hfa0 => kernel_rfl
                      case hra0 => kernel_rfl
                      case hQa0 => exact fun _ _ _ h => h
                      case hwa0 => rfl
                      case hya0 => (intro wq hSq; (try dsimp only at hSq); go_simp; (try with_reducible rfl))
                      case hSa0 => assumption
                      simp only [Act.put, List.setIfInBounds_toArray, List.set_cons_zero, List.set_cons_succ]
                      refine wpAnyH_take (i := 1) (oi := ?oa1) (v := ?va1) ?hia1 ?hsa1 ?hfa1 ?hra1 ?hQa1 (Or.inl ⟨?hwa1, ?hya1⟩) ?hSa1 ?resta1
                      case hia1 => (simp; rfl)
                      case hsa1 => kernel_rfl
                      case hfa1 => kernel_rfl
                      case hra1 => kernel_rfl
                      case hQa1 => exact fun _ _ _ h => h
                      case hwa1 => rfl
                      case hya1 => (intro wq hSq; (try dsimp only at hSq); go_simp; (try with_reducible rfl))
                      case hSa1 => assumption
                      simp only [Act.put, List.setIfInBounds_toArray, List.set_cons_zero, List.set_cons_succ]
                      refine wpAnyH_take (i := 2) (oi := ?oa2) (v := ?va2) ?hia2 ?hsa2 ?hfa2 ?hra2 ?hQa2 (Or.inl ⟨?hwa2, ?hya2⟩) ?hSa2 ?resta2
                      case hia2 => (simp; rfl)
                      case hsa2 => kernel_rfl
                      case hfa2 => kernel_rfl
                      case hra2 => kernel_rfl
                      case hQa2 => exact fun _ _ _ h => h
                      case hwa2 => rfl
                      case hya2 => (intro wq hSq; (try dsimp only at hSq); go_simp; (try with_reducible rfl))
                      case hSa2 => assumption
                      simp only [Act.put, List.setIfInBounds_toArray, List.set_cons_zero, List.set_cons_succ]
                      refine wpAnyH_take (i := 3) (oi := ?oa3) (v := ?va3) ?hia3 ?hsa3 ?hfa3 ?hra3 ?hQa3 (Or.inl ⟨?hwa3, ?hya3⟩) ?hSa3 ?resta3
                      case hia3 => (simp; rfl)
                      case hsa3 => kernel_rfl
                      case hfa3 => kernel_rfl
                      case hra3 => kernel_rfl
                      case hQa3 => exact fun _ _ _ h => h
                      case hwa3 => rfl
                      case hya3 => (intro wq hSq; (try dsimp only at hSq); go_simp; (try with_reducible rfl))
                      case hSa3 => assumption
                      simp only [Act.put, List.setIfInBounds_toArray, List.set_cons_zero, List.set_cons_succ]
                      refine wpAnyH_take (i := 4) (oi := ?oa4) (v := ?va4) ?hia4 ?hsa4 ?hfa4 ?hra4 ?hQa4 (Or.inl ⟨?hwa4, ?hya4⟩) ?hSa4 ?resta4
                      case hia4 => (simp; rfl)
                      case hsa4 => kernel_rfl
                      case hfa4 => kernel_rfl
                      case hra4 => kernel_rfl
                      case hQa4 => exact fun _ _ _ h => h
                      case hwa4 => rfl
                      case hya4 => (intro wq hSq; (try dsimp only at hSq); go_simp; (try with_reducible rfl))
                      case hSa4 => assumption
                      simp only [Act.put, List.setIfInBounds_toArray, List.set_cons_zero, List.set_cons_succ]
                      refine wpAnyH_take (i := 5) (oi := ?oa5) (v := ?va5) ?hia5 ?hsa5 ?hfa5 ?hra5 ?hQa5 (Or.inl ⟨?hwa5, ?hya5⟩) ?hSa5 ?resta5
                      case hia5 => (simp; rfl)
                      case hsa5 => kernel_rfl
                      case hfa5 => kernel_rfl
                      case hra5 => kernel_rfl
                      case hQa5 => exact fun _ _ _ h => h
                      case hwa5 => rfl
                      case hya5 => (intro wq hSq; (try dsimp only at hSq); go_simp; (try with_reducible rfl))
                      case hSa5 => assumption
                      simp only [Act.put, List.setIfInBounds_toArray, List.set_cons_zero, List.set_cons_succ]
                      refine wpAnyH_take (i := 6) (oi := ?oa6) (v := ?va6) ?hia6 ?hsa6 ?hfa6 ?hra6 ?hQa6 (Or.inl ⟨?hwa6, ?hya6⟩) ?hSa6 ?resta6
                      case hia6 => (simp; rfl)
                      case hsa6 => kernel_rfl
                      case hfa6 => kernel_rfl
                      case hra6 => kernel_rfl
                      case hQa6 => exact fun _ _ _ h => h
                      case hwa6 => rfl
                      case hya6 => (intro wq hSq; (try dsimp only at hSq); go_simp; (try with_reducible rfl))
                      case hSa6 => assumption
                      simp only [Act.put, List.setIfInBounds_toArray, List.set_cons_zero, List.set_cons_succ]
                      refine wpAnyH_take (i := 7) (oi := ?oa7) (v := ?va7) ?hia7 ?hsa7 ?hfa7 ?hra7 ?hQa7 (Or.inl ⟨?hwa7, ?hya7⟩) ?hSa7 ?resta7
                      case hia7 => (simp; rfl)
                      case hsa7 => kernel_rfl
                      case hfa7 => kernel_rfl
                      case hra7 => kernel_rfl
                      case hQa7 => exact fun _ _ _ h => h
                      case hwa7 => rfl
                      case hya7 => (intro wq hSq; (try dsimp only at hSq); go_simp; (try with_reducible rfl))
                      case hSa7 => assumption
                      simp only [Act.put, List.setIfInBounds_toArray, List.set_cons_zero, List.set_cons_succ]
                      refine wpAnyH_ready (rs := [8]) (by kernel_rfl) (by simp) ?_
                      refine AllReadyH.cons (o := ?oa8) ?hia8 (fun K hK => ?_) AllReadyH.nil
                      case hia8 => (simp; rfl)
                      go_simp
                      refine (takes_any v y _).mono ?_
                      rintro e wz ⟨rfl, hb⟩
                      rw [HT.out]
                      go_wp2_with fail
                      refine hK.out _ _ ?_ (fun hH2 => ?_)
                      · exact Vl.CVV.keep hb hH
                      clear hK K hb hH
                      refine wpAnyH_take (i := 9) (oi := ?oa9) (v := ?va9) ?hia9 ?hsa9 ?hfa9 ?hra9 ?hQa9 (Or.inl ⟨?hwa9, ?hya9⟩) ?hSa9 ?resta9
                      case hia9 => (simp; rfl)
                      case hsa9 => kernel_rfl
                      case hfa9 => kernel_rfl
                      case hra9 => kernel_rfl
                      case hQa9 => exact fun _ _ _ h => h
                      case hwa9 => rfl
                      case hya9 => (intro wq hSq; (try dsimp only at hSq); go_simp; (try with_reducible rfl))
                      case hSa9 => assumption
                      simp only [Act.put, List.setIfInBounds_toArray, List.set_cons_zero, List.set_cons_succ]
                      refine wpAnyH_take (i := 10) (oi := ?oa10) (v := ?va10) ?hia10 ?hsa10 ?hfa10 ?hra10 ?hQa10 (Or.inl ⟨?hwa10, ?hya10⟩) ?hSa10 ?resta10
                      case hia10 => (simp; rfl)
                      case hsa10 => kernel_rfl
                      case hfa10 => kernel_rfl
                      case hra10 => kernel_rfl
                      case hQa10 => exact fun _ _ _ h => h
                      case hwa10 => rfl
                      case hya10 => (intro wq hSq; (try dsimp only at hSq); go_simp; (try with_reducible rfl))
                      case hSa10 => assumption
                      simp only [Act.put, List.setIfInBounds_toArray, List.set_cons_zero, List.set_cons_succ]
                      refine wpAnyH_take (i := 11) (oi := ?oa11) (v := ?va11) ?hia11 ?hsa11 ?hfa11 ?hra11 ?hQa11 (Or.inl ⟨?hwa11, ?hya11⟩) ?hSa11 ?resta11
                      case hia11 => (simp; rfl)
                      case hsa11 => kernel_rfl
                      case hfa11 => kernel_rfl
                      case hra11 => kernel_rfl
                      case hQa11 => exact fun _ _ _ h => h
                      case hwa11 => rfl
                      case hya11 => (intro wq hSq; (try dsimp only at hSq); go_simp; (try with_reducible rfl))
                      case hSa11 => assumption
                      simp only [Act.put, List.setIfInBounds_toArray, List.set_cons_zero, List.set_cons_succ]
                      refine wpAnyH_take (i := 12) (oi := ?oa12) (v := ?va12) ?hia12 ?hsa12 ?hfa12 ?hra12 ?hQa12 (Or.inl ⟨?hwa12, ?hya12⟩) ?hSa12 ?resta12
                      case hia12 => (simp; rfl)
                      case hsa12 => kernel_rfl
                      case hfa12 => kernel_rfl
                      case hra12 => kernel_rfl
                      case hQa12 => exact fun _ _ _ h => h
                      case hwa12 => rfl
                      case hya12 => (intro wq hSq; (try dsimp only at hSq); go_simp; (try with_reducible rfl))
                      case hSa12 => assumption
                      simp only [Act.put, List.setIfInBounds_toArray, List.set_cons_zero, List.set_cons_succ]
                      refine wpAnyH_take (i := 13) (oi := ?oa13) (v := ?va13) ?hia13 ?hsa13 ?hfa13 ?hra13 ?hQa13 (Or.inl ⟨?hwa13, ?hya13⟩) ?hSa13 ?resta13
                      case hia13 => (simp; rfl)
                      case hsa13 => kernel_rfl
                      case hfa13 => kernel_rfl
                      case hra13 => kernel_rfl
                      case hQa13 => exact fun _ _ _ h => h
                      case hwa13 => rfl
                      case hya13 => (intro wq hSq; (try dsimp only at hSq); go_simp; (try with_reducible rfl))
                      case hSa13 => assumption
                      simp only [Act.put, List.setIfInBounds_toArray, List.set_cons_zero, List.set_cons_succ]
                      refine wpAnyH_take (i := 14) (oi := ?oa14) (v := ?va14) ?hia14 ?hsa14 ?hfa14 ?hra14 ?hQa14 (Or.inl ⟨?hwa14, ?hya14⟩) ?hSa14 ?resta14
                      case hia14 => (simp; rfl)
                      case hsa14 => kernel_rfl
                      case hfa14 => kernel_rfl
                      case hra14 => kernel_rfl
                      case hQa14 => exact fun _ _ _ h => h
                      case hwa14 => rfl
                      case hya14 => (intro wq hSq; (try dsimp only at hSq); go_simp; (try with_reducible rfl))
                      case hSa14 => assumption
                      simp only [Act.put, List.setIfInBounds_toArray, List.set_cons_zero, List.set_cons_succ]
                      refine wpAnyH_take (i := 15) (oi := ?oa15) (v := ?va15) ?hia15 ?hsa15 ?hfa15 ?hra15 ?hQa15 (Or.inl ⟨?hwa15, ?hya15⟩) ?hSa15 ?resta15
                      case hia15 => (simp; rfl)
                      case hsa15 => kernel_rfl
                      case hfa15 => kernel_rfl
                      case hra15 => kernel_rfl
                      case hQa15 => exact fun _ _ _ h => h
                      case hwa15 => rfl
                      case hya15 => (intro wq hSq; (try dsimp only at hSq); go_simp; (try with_reducible rfl))
                      case hSa15 => assumption
                      simp only [Act.put, List.setIfInBounds_toArray, List.set_cons_zero, List.set_cons_succ]
                      refine wpAnyH_take (i := 16) (oi := ?oa16) (v := ?va16) ?hia16 ?hsa16 ?hfa16 ?hra16 ?hQa16 (Or.inl ⟨?hwa16, ?hya16⟩) ?hSa16 ?resta16
                      case hia16 => (simp; rfl)
                      case hsa16 => kernel_rfl
                      case hfa16 => kernel_rfl
                      case hra16 => kernel_rfl
                      case hQa16 => exact fun _ _ _ h => h
                      case hwa16 => rfl
                      case hya16 => (intro wq hSq; (try dsimp only at hSq); go_simp; (try with_reducible rfl))
                      case hSa16 => assumption
                      simp only [Act.put, List.setIfInBounds_toArray, List.set_cons_zero, List.set_cons_succ]
                      refine wpAnyH_take (i := 17) (oi := ?oa17) (v := ?va17) ?hia17 ?hsa17 ?hfa17 ?hra17 ?hQa17 (Or.inl ⟨?hwa17, ?hya17⟩) ?hSa17 ?resta17
                      case hia17 => (simp; rfl)
                      case hsa17 => kernel_rfl
                      case hfa17 => kernel_rfl
                      case hra17 => kernel_rfl
                      case hQa17 => exact fun _ _ _ h => h
                      case hwa17 => rfl
                      case hya17 => (intro wq hSq; (try dsimp only at hSq); go_simp; (try with_reducible rfl))
                      case hSa17 => assumption
                      simp only [Act.put, List.setIfInBounds_toArray, List.set_cons_zero, List.set_cons_succ]
                      refine wpAnyH_take (i := 18) (oi := ?oa18) (v := ?va18) ?hia18 ?hsa18 ?hfa18 ?hra18 ?hQa18 (Or.inl ⟨?hwa18, ?hya18⟩) ?hSa18 ?resta18
                      case hia18 => (simp; rfl)
                      case hsa18 => kernel_rfl
                      case hfa18 => kernel_rfl
                      case hra18 => kernel_rfl
                      case hQa18 => exact fun _ _ _ h => h
                      case hwa18 => rfl
                      case hya18 => (intro wq hSq; (try dsimp only at hSq); go_simp; (try with_reducible rfl))
                      case hSa18 => assumption
                      simp only [Act.put, List.setIfInBounds_toArray, List.set_cons_zero, List.set_cons_succ]
                      refine wpAnyH_take (i := 19) (oi := ?oa19) (v := ?va19) ?hia19 ?hsa19 ?hfa19 ?hra19 ?hQa19 (Or.inl ⟨?hwa19, ?hya19⟩) ?hSa19 ?resta19
                      case hia19 => (simp; rfl)
                      case hsa19 => kernel_rfl
                      case hfa19 => kernel_rfl
                      case hra19 => kernel_rfl
                      case hQa19 => exact fun _ _ _ h => h
                      case hwa19 => rfl
                      case hya19 => (intro wq hSq; (try dsimp only at hSq); go_simp; (try with_reducible rfl))
                      case hSa19 => assumption
                      simp only [Act.put, List.setIfInBounds_toArray, List.set_cons_zero, List.set_cons_succ]
                      refine wpAnyH_take (i := 20) (oi := ?oa20) (v := ?va20) ?hia20 ?hsa20 ?hfa20 ?hra20 ?hQa20 (Or.inl ⟨?hwa20, ?hya20⟩) ?hSa20 ?resta20
                      case hia20 => (simp; rfl)
                      case hsa20 => kernel_rfl
                      case hfa20 => kernel_rfl
                      case hra20 => kernel_rfl
                      case hQa20 => exact fun _ _ _ h => h
                      case hwa20 => rfl
                      case hya20 => (intro wq hSq; (try dsimp only at hSq); go_simp; (try with_reducible rfl))
                      case hSa20 => assumption
                      simp only [Act.put, List.setIfInBounds_toArray, List.set_cons_zero, List.set_cons_succ]
                      refine wpAnyH_take (i := 21) (oi := ?oa21) (v := ?va21) ?hia21 ?hsa21 ?hfa21 ?hra21 ?hQa21 (Or.inl ⟨?hwa21, ?hya21⟩) ?hSa21 ?resta21
                      case hia21 => (simp; rfl)
                      case hsa21 => kernel_rfl
                      case hfa21 => kernel_rfl
                      case hra21 => kernel_rfl
                      case hQa21 => exact fun _ _ _ h => h
                      case hwa21 => rfl
                      case hya21 => (intro wq hSq; (try dsimp only at hSq); go_simp; (try with_reducible rfl))
                      case hSa21 => assumption
                      simp only [Act.put, List.setIfInBounds_toArray, List.set_cons_zero, List.set_cons_succ]
                      refine wpAnyH_take (i := 22) (oi := ?oa22) (v := ?va22) ?hia22 ?hsa22 ?hfa22 ?hra22 ?hQa22 (Or.inl ⟨?hwa22, ?hya22⟩) ?hSa22 ?resta22
                      case hia22 => (simp; rfl)
                      case hsa22 => kernel_rfl
                      case hfa22 => kernel_rfl
                      case hra22 => kernel_rfl
                      case hQa22 => exact fun _ _ _ h => h
                      case hwa22 => rfl
                      case hya22 => (intro wq hSq; (try dsimp only at hSq); go_simp; (try with_reducible rfl))
                      case hSa22 => assumption
                      simp only [Act.put, List.setIfInBounds_toArray, List.set_cons_zero, List.set_cons_succ]
                      refine wpAnyH_take (i := 23) (oi := ?oa23) (v := ?va23) ?hia23 ?hsa23 ?hfa23 ?hra23 ?hQa23 (Or.inl ⟨?hwa23, ?hya23⟩) ?hSa23 ?resta23
                      case hia23 => (simp; rfl)
                      case hsa23 => kernel_rfl
                      case hfa23 => kernel_rfl
                      case hra23 => kernel_rfl
                      case hQa23 => exact fun _ _ _ h => h
                      case hwa23 => rfl
                      case hya23 => (intro wq hSq; (try dsimp only at hSq); go_simp; (try with_reducible rfl))
                      case hSa23 => assumption
                      simp only [Act.put, List.setIfInBounds_toArray, List.set_cons_zero, List.set_cons_succ]
                      refine wpAnyH_ready (rs := [24]) (by kernel_rfl) (by simp) ?_
                      refine AllReadyH.cons (o := ?oa24) ?hia24 (fun K hK => ?_) AllReadyH.nil
                      case hia24 => (simp; rfl)
                      go_simp
                      refine (keepValue_same y _).mono ?_
                      rintro e wz ⟨rfl, hb⟩
                      go_wp2_with fail
                      refine hK.out _ _ ?_ (fun hH3 => ?_)
                      · exact Vl.CVV.keep hb hH2
                      clear hK K hb hH2
                      refine wpAnyH_take (i := 25) (oi := ?oa25) (v := ?va25) ?hia25 ?hsa25 ?hfa25 ?hra25 ?hQa25 (Or.inl ⟨?hwa25, ?hya25⟩) ?hSa25 ?resta25
                      case hia25 => (simp; rfl)
                      case hsa25 => kernel_rfl
                      case hfa25 => kernel_rfl
                      case hra25 => kernel_rfl
                      case hQa25 => exact fun _ _ _ h => h
                      case hwa25 => rfl
                      case hya25 => (intro wq hSq; (try dsimp only at hSq); go_simp; (try with_reducible rfl))
                      case hSa25 => assumption
                      simp only [Act.put, List.setIfInBounds_toArray, List.set_cons_zero, List.set_cons_succ]
                      refine wpAnyH_take (i := 26) (oi := ?oa26) (v := ?va26) ?hia26 ?hsa26 ?hfa26 ?hra26 ?hQa26 (Or.inl ⟨?hwa26, ?hya26⟩) ?hSa26 ?resta26
                      case hia26 => (simp; rfl)
                      case hsa26 => kernel_rfl
                      case hfa26 => kernel_rfl
                      case hra26 => kernel_rfl
                      case hQa26 => exact fun _ _ _ h => h
                      case hwa26 => rfl
                      case hya26 => (intro wq hSq; (try dsimp only at hSq); go_simp; (try with_reducible rfl))
                      case hSa26 => assumption
                      simp only [Act.put, List.setIfInBounds_toArray, List.set_cons_zero, List.set_cons_succ]
                      refine wpAnyH_take (i := 27) (oi := ?oa27) (v := ?va27) ?hia27 ?hsa27 ?hfa27 ?hra27 ?hQa27 (Or.inl ⟨?hwa27, ?hya27⟩) ?hSa27 ?resta27
                      case hia27 => (simp; rfl)
                      case hsa27 => kernel_rfl
                      case hfa27 => kernel_rfl
                      case hra27 => kernel_rfl
                      case hQa27 => exact fun _ _ _ h => h
                      case hwa27 => rfl
                      case hya27 => (intro wq hSq; (try dsimp only at hSq); go_simp; (try with_reducible rfl))
                      case hSa27 => assumption
                      simp only [Act.put, List.setIfInBounds_toArray, List.set_cons_zero, List.set_cons_succ]
                      refine wpAnyH_take (i := 28) (oi := ?oa28) (v := ?va28) ?hia28 ?hsa28 ?hfa28 ?hra28 ?hQa28 (Or.inl ⟨?hwa28, ?hya28⟩) ?hSa28 ?resta28
                      case hia28 => (simp; rfl)
                      case hsa28 => kernel_rfl
                      case hfa28 => kernel_rfl
                      case hra28 => kernel_rfl
                      case hQa28 => exact fun _ _ _ h => h
                      case hwa28 => rfl
                      case hya28 => (intro wq hSq; (try dsimp only at hSq); go_simp; (try with_reducible rfl))
                      case hSa28 => assumption
                      simp only [Act.put, List.setIfInBounds_toArray, List.set_cons_zero, List.set_cons_succ]
                      refine wpAnyH_take (i := 29) (oi := ?oa29) (v := ?va29) ?hia29 ?hsa29 ?hfa29 ?hra29 ?hQa29 (Or.inl ⟨?hwa29, ?hya29⟩) ?hSa29 ?resta29
                      case hia29 => (simp; rfl)
                      case hsa29 => kernel_rfl
                      case hfa29 => kernel_rfl
                      case hra29 => kernel_rfl
                      case hQa29 => exact fun _ _ _ h => h
                      case hwa29 => rfl
                      case hya29 => (intro wq hSq; (try dsimp only at hSq); go_simp; (try with_reducible rfl))
                      case hSa29 => assumption
                      simp only [Act.put, List.setIfInBounds_toArray, List.set_cons_zero, List.set_cons_succ]
                      refine wpAnyH_take (i := 30) (oi := ?oa30) (v := ?va30) ?hia30 ?hsa30 ?hfa30 ?hra30 ?hQa30 (Or.inl ⟨?hwa30, ?hya30⟩) ?hSa30 ?resta30
                      case hia30 => (simp; rfl)
                      case hsa30 => kernel_rfl
                      case hfa30 => kernel_rfl
                      case hra30 => kernel_rfl
                      case hQa30 => exact fun _ _ _ h => h
                      case hwa30 => rfl
                      case hya30 => (intro wq hSq; (try dsimp only at hSq); go_simp; (try with_reducible rfl))
                      case hSa30 => assumption
                      simp only [Act.put, List.setIfInBounds_toArray, List.set_cons_zero, List.set_cons_succ]
                      refine wpAnyH_take (i := 31) (oi := ?oa31) (v := ?va31) ?hia31 ?hsa31 ?hfa31 ?hra31 ?hQa31 (Or.inl ⟨?hwa31, ?hya31⟩) ?hSa31 ?resta31
                      case hia31 => (simp; rfl)
                      case hsa31 => kernel_rfl
                      case hfa31 => kernel_rfl
                      case hra31 => kernel_rfl
                      case hQa31 => exact fun _ _ _ h => h
                      case hwa31 => rfl
                      case hya31 => (intro wq hSq; (try dsimp only at hSq); go_simp; (try with_reducible rfl))
                      case hSa31 => assumption
                      simp only [Act.put, List.setIfInBounds_toArray, List.set_cons_zero, List.set_cons_succ]
                      refine wpAnyH_take (i := 32) (oi := ?oa32) (v := ?va32) ?hia32 ?hsa32 ?hfa32 ?hra32 ?hQa32 (Or.inl ⟨?hwa32, ?hya32⟩) ?hSa32 ?resta32
                      case hia32 => (simp; rfl)
                      case hsa32 => kernel_rfl
                      case hfa32 => kernel_rfl
                      case hra32 => kernel_rfl
                      case hQa32 => exact fun _ _ _ h => h
                      case hwa32 => rfl
                      case hya32 => (intro wq hSq; (try dsimp only at hSq); go_simp; (try with_reducible rfl))
                      case hSa32 => assumption
                      simp only [Act.put, List.setIfInBounds_toArray, List.set_cons_zero, List.set_cons_succ]
                      refine wpAnyH_take (i := 33) (oi := ?oa33) (v := ?va33) ?hia33 ?hsa33 ?hfa33 ?hra33 ?hQa33 (Or.inl ⟨?hwa33, ?hya33⟩) ?hSa33 ?resta33
                      case hia33 => (simp; rfl)
                      case hsa33 => kernel_rfl
                      case hfa33 => kernel_rfl
                      case hra33 => kernel_rfl
                      case hQa33 => exact fun _ _ _ h => h
                      case hwa33 => rfl
                      case hya33 => (intro wq hSq; (try dsimp only at hSq); go_simp; (try with_reducible rfl))
                      case hSa33 => assumption
                      simp only [Act.put, List.setIfInBounds_toArray, List.set_cons_zero, List.set_cons_succ]
                      refine wpAnyH_take (i := 34) (oi := ?oa34) (v := undef) ?hia34 ?hsa34 ?hfa34 ?hra34 ?hQa34 (Or.inr ⟨?hwa34, rfl⟩) ?hSa34 ?resta34
                      case hia34 => (simp; rfl)
                      case hsa34 => kernel_rfl
                      case hfa34 => kernel_rfl
                      case hra34 => kernel_rfl
                      case hQa34 => exact fun _ _ _ h => h
                      case hwa34 => rfl
                      case hSa34 => assumption
                      simp only [Act.put, List.setIfInBounds_toArray, List.set_cons_zero, List.set_cons_succ]
                      refine wpAnyH_take (i := 35) (oi := ?oa35) (v := undef) ?hia35 ?hsa35 ?hfa35 ?hra35 ?hQa35 (Or.inr ⟨?hwa35, rfl⟩) ?hSa35 ?resta35
                      case hia35 => (simp; rfl)
                      case hsa35 => kernel_rfl
                      case hfa35 => kernel_rfl
                      case hra35 => kernel_rfl
                      case hQa35 => exact fun _ _ _ h => h
                      case hwa35 => rfl
                      case hSa35 => assumption
                      simp only [Act.put, List.setIfInBounds_toArray, List.set_cons_zero, List.set_cons_succ]
                      refine wpAnyH_take (i := 36) (oi := ?oa36) (v := undef) ?hia36 ?hsa36 ?hfa36 ?hra36 ?hQa36 (Or.inr ⟨?hwa36, rfl⟩) ?hSa36 ?resta36
                      case hia36 => (simp; rfl)
                      case hsa36 => kernel_rfl
                      case hfa36 => kernel_rfl
                      case hra36 => kernel_rfl
                      case hQa36 => exact fun _ _ _ h => h
                      case hwa36 => rfl
                      case hSa36 => assumption
                      simp only [Act.put, List.setIfInBounds_toArray, List.set_cons_zero, List.set_cons_succ]
                      refine wpAnyH_take (i := 37) (oi := ?oa37) (v := undef) ?hia37 ?hsa37 ?hfa37 ?hra37 ?hQa37 (Or.inr ⟨?hwa37, rfl⟩) ?hSa37 ?resta37
                      case hia37 => (simp; rfl)
                      case hsa37 => kernel_rfl
                      case hfa37 => kernel_rfl
                      case hra37 => kernel_rfl
                      case hQa37 => exact fun _ _ _ h => h
                      case hwa37 => rfl
                      case hSa37 => assumption
                      simp only [Act.put, List.setIfInBounds_toArray, List.set_cons_zero, List.set_cons_succ]
                      refine wpAnyH_take (i := 38) (oi := ?oa38) (v := undef) ?hia38 ?hsa38 ?hfa38 ?hra38 ?hQa38 (Or.inr ⟨?hwa38, rfl⟩) ?hSa38 ?resta38
                      case hia38 => (simp; rfl)
                      case hsa38 => kernel_rfl
                      case hfa38 => kernel_rfl
                      case hra38 => kernel_rfl
                      case hQa38 => exact fun _ _ _ h => h
                      case hwa38 => rfl
                      case hSa38 => assumption
                      simp only [Act.put, List.setIfInBounds_toArray, List.set_cons_zero, List.set_cons_succ]
                      refine wpAnyH_take (i := 39) (oi := ?oa39) (v := undef) ?hia39 ?hsa39 ?hfa39 ?hra39 ?hQa39 (Or.inr ⟨?hwa39, rfl⟩) ?hSa39 ?resta39
                      case hia39 => (simp; rfl)
                      case hsa39 => kernel_rfl
                      case hfa39 => kernel_rfl
                      case hra39 => kernel_rfl
                      case hQa39 => exact fun _ _ _ h => h
                      case hwa39 => rfl
                      case hSa39 => assumption
                      simp only [Act.put, List.setIfInBounds_toArray, List.set_cons_zero, List.set_cons_succ]
                      refine wpAnyH_take (i := 40) (oi := ?oa40) (v := undef) ?hia40 ?hsa40 ?hfa40 ?hra40 ?hQa40 (Or.inr ⟨?hwa40, rfl⟩) ?hSa40 ?resta40
                      case hia40 => (simp; rfl)
                      case hsa40 => kernel_rfl
                      case hfa40 => kernel_rfl
                      case hra40 => kernel_rfl
                      case hQa40 => exact fun _ _ _ h => h
                      case hwa40 => rfl
                      case hSa40 => assumption
                      simp only [Act.put, List.setIfInBounds_toArray, List.set_cons_zero, List.set_cons_succ]
                      refine wpAnyH_take (i := 41) (oi := ?oa41) (v := undef) ?hia41 ?hsa41 ?hfa41 ?hra41 ?hQa41 (Or.inr ⟨?hwa41, rfl⟩) ?hSa41 ?resta41
                      case hia41 => (simp; rfl)
                      case hsa41 => kernel_rfl
                      case hfa41 => kernel_rfl
                      case hra41 => kernel_rfl
                      case hQa41 => exact fun _ _ _ h => h
                      case hwa41 => rfl
                      case hSa41 => assumption
                      simp only [Act.put, List.setIfInBounds_toArray, List.set_cons_zero, List.set_cons_succ]
                      refine wpAnyH_take (i := 42) (oi := ?oa42) (v := undef) ?hia42 ?hsa42 ?hfa42 ?hra42 ?hQa42 (Or.inr ⟨?hwa42, rfl⟩) ?hSa42 ?resta42
                      case hia42 => (simp; rfl)
                      case hsa42 => kernel_rfl
                      case hfa42 => kernel_rfl
                      case hra42 => kernel_rfl
                      case hQa42 => exact fun _ _ _ h => h
                      case hwa42 => rfl
                      case hSa42 => assumption
                      simp only [Act.put, List.setIfInBounds_toArray, List.set_cons_zero, List.set_cons_succ]
                      refine wpAnyH_take (i := 43) (oi := ?oa43) (v := undef) ?hia43 ?hsa43 ?hfa43 ?hra43 ?hQa43 (Or.inr ⟨?hwa43, rfl⟩) ?hSa43 ?resta43
                      case hia43 => (simp; rfl)
                      case hsa43 => kernel_rfl
                      case hfa43 => kernel_rfl
                      case hra43 => kernel_rfl
                      case hQa43 => exact fun _ _ _ h => h
                      case hwa43 => rfl
                      case hSa43 => assumption
                      simp only [Act.put, List.setIfInBounds_toArray, List.set_cons_zero, List.set_cons_succ]
                      refine wpAnyH_take (i := 44) (oi := ?oa44) (v := undef) ?hia44 ?hsa44 ?hfa44 ?hra44 ?hQa44 (Or.inr ⟨?hwa44, rfl⟩) ?hSa44 ?resta44
                      case hia44 => (simp; rfl)
                      case hsa44 => kernel_rfl
                      case hfa44 => kernel_rfl
                      case hra44 => kernel_rfl
                      case hQa44 => exact fun _ _ _ h => h
                      case hwa44 => rfl
                      case hSa44 => assumption
                      simp only [Act.put, List.setIfInBounds_toArray, List.set_cons_zero, List.set_cons_succ]
                      refine wpAnyH_take (i := 45) (oi := ?oa45) (v := ?va45) ?hia45 ?hsa45 ?hfa45 ?hra45 ?hQa45 (Or.inl ⟨?hwa45, ?hya45⟩) ?hSa45 ?resta45
                      case hia45 => (simp; rfl)
                      case hsa45 => kernel_rfl
                      case hfa45 => kernel_rfl
                      case hra45 => kernel_rfl
                      case hQa45 => exact fun _ _ _ h => h
                      case hwa45 => rfl
                      case hya45 => (intro wq hSq; (try dsimp only at hSq); go_simp; (try with_reducible rfl))
                      case hSa45 => assumption
                      simp only [Act.put, List.setIfInBounds_toArray, List.set_cons_zero, List.set_cons_succ]
                      refine wpAnyH_take (i := 46) (oi := ?oa46) (v := ?va46) ?hia46 ?hsa46 ?hfa46 ?hra46 ?hQa46 (Or.inl ⟨?hwa46, ?hya46⟩) ?hSa46 ?resta46
                      case hia46 => (simp; rfl)
                      case hsa46 => kernel_rfl
                      case hfa46 => kernel_rfl
                      case hra46 => kernel_rfl
                      case hQa46 => exact fun _ _ _ h => h
                      case hwa46 => rfl
                      case hya46 => (intro wq hSq; (try dsimp only at hSq); go_simp; (try with_reducible rfl))
                      case hSa46 => assumption
                      simp only [Act.put, List.setIfInBounds_toArray, List.set_cons_zero, List.set_cons_succ]
                      refine wpAnyH_done (by kernel_rfl) ?_ _
                      have HZ := Vl.hid (Vl.CVV.parts hH3).2.2.2
                      clear hH3
                      go_wp2_with fail
                      exact ⟨⟨k + 1, by omega, by go_num, HK.out.below HZ.out, HF.out.below HZ.out, HP.out.below HZ.out, Vl.btr HB.out HZ.out⟩, by simp [RowKit.intOf]; omega⟩
                    · have hfk : fs[k]? = none := List.getElem?_eq_none (by have := HFLN.out; omega)
                      rw [hfk] at hyk
                      have HT : Hid (Vl.takesE v v.d = 0) := Vl.hid (HGR.out.more k v (by rw [HC.out.len]; omega) hv)
                      obtain ⟨b2, o2, hp2, hr2⟩ := HP.out.at (show ys[k]? = some v.d from hyk)
                      have HS := Vl.hid (Vl.CVS.of hr1 hr2 (Below.refl wr.heap.size wr))
                      have hkn2 : n ≤ k := by omega
                      clear hv hyk hfk hr1 hr2
                      subst hp1 hp2
                      go_wp2_with fail
                      refine wp_region_held_drew (S := (fun w' => w'.cell? ⟨b1, o1 + k * 7, none⟩ = some (.string v.nm) ∧ w'.cell? ⟨b1, o1 + k * 7 + 1, none⟩ = some (.int .i64 v.k) ∧ w'.cell? ⟨b1, o1 + k * 7 + 2, none⟩ = some (.bool v.nn) ∧ w'.cell? ⟨b1, o1 + k * 7 + 3, none⟩ = some (.int .i64 v.d.k) ∧ w'.cell? ⟨b1, o1 + k * 7 + 4, none⟩ = some (.int .i64 v.d.n) ∧ w'.cell? ⟨b1, o1 + k * 7 + 5, none⟩ = some (.float .f64 v.d.f) ∧ w'.cell? ⟨b1, o1 + k * 7 + 6, none⟩ = some (.string v.d.s) ∧ w'.cell? ⟨b2, o2 + k * 4, none⟩ = some (.int .i64 v.d.k) ∧ w'.cell? ⟨b2, o2 + k * 4 + 1, none⟩ = some (.int .i64 v.d.n) ∧ w'.cell? ⟨b2, o2 + k * 4 + 2, none⟩ = some (.float .f64 v.d.f) ∧ w'.cell? ⟨b2, o2 + k * 4 + 3, none⟩ = some (.string v.d.s) ∧ b1 < w'.heap.size ∧ b2 < w'.heap.size ∧ Below wr.heap.size wr w')) (by kernel_rfl) (Vl.CVS.drew HS.out) (fun hH => ?_)
                      refine wpAnyH_take (i := 0) (oi := ?ob0) (v := ?vb0) ?hib0 ?hsb0 ?hfb0 ?hrb0 ?hQb0 (Or.inl ⟨?hwb0, ?hyb0⟩) ?hSb0 ?restb0
                      case hib0 => (simp; rfl)
                      case hsb0 => kernel_rfl
                      case hfb0 => kernel_rfl
                      case hrb0 => kernel_rfl
                      case hQb0 => exact fun _ _ _ h => h
                      case hwb0 => rfl
                      case hyb0 => (intro wq hSq; (try dsimp only at hSq); go_simp; (try with_reducible rfl))
                      case hSb0 => assumption
                      simp only [Act.put, List.setIfInBounds_toArray, List.set_cons_zero, List.set_cons_succ]
                      refine wpAnyH_take (i := 1) (oi := ?ob1) (v := ?vb1) ?hib1 ?hsb1 ?hfb1 ?hrb1 ?hQb1 (Or.inl ⟨?hwb1, ?hyb1⟩) ?hSb1 ?restb1
                      case hib1 => (simp; rfl)
                      case hsb1 => kernel_rfl
                      case hfb1 => kernel_rfl
                      case hrb1 => kernel_rfl
                      case hQb1 => exact fun _ _ _ h => h
                      case hwb1 => rfl
                      case hyb1 => (intro wq hSq; (try dsimp only at hSq); go_simp; (try with_reducible rfl))
                      case hSb1 => assumption
                      simp only [Act.put, List.setIfInBounds_toArray, List.set_cons_zero, List.set_cons_succ]
                      refine wpAnyH_take (i := 2) (oi := ?ob2) (v := ?vb2) ?hib2 ?hsb2 ?hfb2 ?hrb2 ?hQb2 (Or.inl ⟨?hwb2, ?hyb2⟩) ?hSb2 ?restb2
                      case hib2 => (simp; rfl)
                      case hsb2 => kernel_rfl
                      case hfb2 => kernel_rfl
                      case hrb2 => kernel_rfl
                      case hQb2 => exact fun _ _ _ h => h
                      case hwb2 => rfl
                      case hyb2 => (intro wq hSq; (try dsimp only at hSq); go_simp; (try with_reducible rfl))
                      case hSb2 => assumption
                      simp only [Act.put, List.setIfInBounds_toArray, List.set_cons_zero, List.set_cons_succ]
                      refine wpAnyH_take (i := 3) (oi := ?ob3) (v := ?vb3) ?hib3 ?hsb3 ?hfb3 ?hrb3 ?hQb3 (Or.inl ⟨?hwb3, ?hyb3⟩) ?hSb3 ?restb3
                      case hib3 => (simp; rfl)
                      case hsb3 => kernel_rfl
                      case hfb3 => kernel_rfl
                      case hrb3 => kernel_rfl
                      case hQb3 => exact fun _ _ _ h => h
                      case hwb3 => rfl
                      case hyb3 => (intro wq hSq; (try dsimp only at hSq); go_simp; (try with_reducible rfl))
                      case hSb3 => assumption
                      simp only [Act.put, List.setIfInBounds_toArray, List.set_cons_zero, List.set_cons_succ]
                      refine wpAnyH_take (i := 4) (oi := ?ob4) (v := ?vb4) ?hib4 ?hsb4 ?hfb4 ?hrb4 ?hQb4 (Or.inl ⟨?hwb4, ?hyb4⟩) ?hSb4 ?restb4
                      case hib4 => (simp; rfl)
                      case hsb4 => kernel_rfl
                      case hfb4 => kernel_rfl
                      case hrb4 => kernel_rfl
                      case hQb4 => exact fun _ _ _ h => h
                      case hwb4 => rfl
                      case hyb4 => (intro wq hSq; (try dsimp only at hSq); go_simp; (try with_reducible rfl))
                      case hSb4 => assumption
                      simp only [Act.put, List.setIfInBounds_toArray, List.set_cons_zero, List.set_cons_succ]
                      refine wpAnyH_take (i := 5) (oi := ?ob5) (v := ?vb5) ?hib5 ?hsb5 ?hfb5 ?hrb5 ?hQb5 (Or.inl ⟨?hwb5, ?hyb5⟩) ?hSb5 ?restb5
                      case hib5 => (simp; rfl)
                      case hsb5 => kernel_rfl
                      case hfb5 => kernel_rfl
                      case hrb5 => kernel_rfl
                      case hQb5 => exact fun _ _ _ h => h
                      case hwb5 => rfl
                      case hyb5 => (intro wq hSq; (try dsimp only at hSq); go_simp; (try with_reducible rfl))
                      case hSb5 => assumption
                      simp only [Act.put, List.setIfInBounds_toArray, List.set_cons_zero, List.set_cons_succ]
                      refine wpAnyH_take (i := 6) (oi := ?ob6) (v := ?vb6) ?hib6 ?hsb6 ?hfb6 ?hrb6 ?hQb6 (Or.inl ⟨?hwb6, ?hyb6⟩) ?hSb6 ?restb6
                      case hib6 => (simp; rfl)
                      case hsb6 => kernel_rfl
                      case hfb6 => kernel_rfl
                      case hrb6 => kernel_rfl
                      case hQb6 => exact fun _ _ _ h => h
                      case hwb6 => rfl
                      case hyb6 => (intro wq hSq; (try dsimp only at hSq); go_simp; (try with_reducible rfl))
                      case hSb6 => assumption
                      simp only [Act.put, List.setIfInBounds_toArray, List.set_cons_zero, List.set_cons_succ]
                      refine wpAnyH_take (i := 7) (oi := ?ob7) (v := ?vb7) ?hib7 ?hsb7 ?hfb7 ?hrb7 ?hQb7 (Or.inl ⟨?hwb7, ?hyb7⟩) ?hSb7 ?restb7
                      case hib7 => (simp; rfl)
                      case hsb7 => kernel_rfl
                      case hfb7 => kernel_rfl
                      case hrb7 => kernel_rfl
                      case hQb7 => exact fun _ _ _ h => h
                      case hwb7 => rfl
                      case hyb7 => (intro wq hSq; (try dsimp only at hSq); go_simp; (try with_reducible rfl))
                      case hSb7 => assumption
                      simp only [Act.put, List.setIfInBounds_toArray, List.set_cons_zero, List.set_cons_succ]
                      refine wpAnyH_ready (rs := [8]) (by kernel_rfl) (by simp) ?_
                      refine AllReadyH.cons (o := ?ob8) ?hib8 (fun K hK => ?_) AllReadyH.nil
                      case hib8 => (simp; rfl)
                      go_simp
                      refine (takes_any v v.d _).mono ?_
                      rintro e wz ⟨rfl, hb⟩
                      rw [HT.out]
                      go_wp2_with fail
                      refine hK.out _ _ ?_ (fun hH2 => ?_)
                      · exact Vl.CVS.keep hb hH
                      clear hK K hb hH
                      refine wpAnyH_take (i := 9) (oi := ?ob9) (v := ?vb9) ?hib9 ?hsb9 ?hfb9 ?hrb9 ?hQb9 (Or.inl ⟨?hwb9, ?hyb9⟩) ?hSb9 ?restb9
                      case hib9 => (simp; rfl)
                      case hsb9 => kernel_rfl
                      case hfb9 => kernel_rfl
                      case hrb9 => kernel_rfl
                      case hQb9 => exact fun _ _ _ h => h
                      case hwb9 => rfl
                      case hyb9 => (intro wq hSq; (try dsimp only at hSq); go_simp; (try with_reducible rfl))
                      case hSb9 => assumption
                      simp only [Act.put, List.setIfInBounds_toArray, List.set_cons_zero, List.set_cons_succ]
                      refine wpAnyH_take (i := 10) (oi := ?ob10) (v := ?vb10) ?hib10 ?hsb10 ?hfb10 ?hrb10 ?hQb10 (Or.inl ⟨?hwb10, ?hyb10⟩) ?hSb10 ?restb10
                      case hib10 => (simp; rfl)
                      case hsb10 => kernel_rfl
                      case hfb10 => kernel_rfl
                      case hrb10 => kernel_rfl
                      case hQb10 => exact fun _ _ _ h => h
                      case hwb10 => rfl
                      case hyb10 => (intro wq hSq; (try dsimp only at hSq); go_simp; (try with_reducible rfl))
                      case hSb10 => assumption
                      simp only [Act.put, List.setIfInBounds_toArray, List.set_cons_zero, List.set_cons_succ]
                      refine wpAnyH_take (i := 11) (oi := ?ob11) (v := ?vb11) ?hib11 ?hsb11 ?hfb11 ?hrb11 ?hQb11 (Or.inl ⟨?hwb11, ?hyb11⟩) ?hSb11 ?restb11
                      case hib11 => (simp; rfl)
                      case hsb11 => kernel_rfl
                      case hfb11 => kernel_rfl
                      case hrb11 => kernel_rfl
                      case hQb11 => exact fun _ _ _ h => h
                      case hwb11 => rfl
                      case hyb11 => (intro wq hSq; (try dsimp only at hSq); go_simp; (try with_reducible rfl))
                      case hSb11 => assumption
                      simp only [Act.put, List.setIfInBounds_toArray, List.set_cons_zero, List.set_cons_succ]
                      refine wpAnyH_take (i := 12) (oi := ?ob12) (v := ?vb12) ?hib12 ?hsb12 ?hfb12 ?hrb12 ?hQb12 (Or.inl ⟨?hwb12, ?hyb12⟩) ?hSb12 ?restb12
                      case hib12 => (simp; rfl)
                      case hsb12 => kernel_rfl
                      case hfb12 => kernel_rfl
                      case hrb12 => kernel_rfl
                      case hQb12 => exact fun _ _ _ h => h
                      case hwb12 => rfl
                      case hyb12 => (intro wq hSq; (try dsimp only at hSq); go_simp; (try with_reducible rfl))
                      case hSb12 => assumption
                      simp only [Act.put, List.setIfInBounds_toArray, List.set_cons_zero, List.set_cons_succ]
                      refine wpAnyH_take (i := 13) (oi := ?ob13) (v := ?vb13) ?hib13 ?hsb13 ?hfb13 ?hrb13 ?hQb13 (Or.inl ⟨?hwb13, ?hyb13⟩) ?hSb13 ?restb13
                      case hib13 => (simp; rfl)
                      case hsb13 => kernel_rfl
                      case hfb13 => kernel_rfl
                      case hrb13 => kernel_rfl
                      case hQb13 => exact fun _ _ _ h => h
                      case hwb13 => rfl
                      case hyb13 => (intro wq hSq; (try dsimp only at hSq); go_simp; (try with_reducible rfl))
                      case hSb13 => assumption
                      simp only [Act.put, List.setIfInBounds_toArray, List.set_cons_zero, List.set_cons_succ]
                      refine wpAnyH_take (i := 14) (oi := ?ob14) (v := ?vb14) ?hib14 ?hsb14 ?hfb14 ?hrb14 ?hQb14 (Or.inl ⟨?hwb14, ?hyb14⟩) ?hSb14 ?restb14
                      case hib14 => (simp; rfl)
                      case hsb14 => kernel_rfl
                      case hfb14 => kernel_rfl
                      case hrb14 => kernel_rfl
                      case hQb14 => exact fun _ _ _ h => h
                      case hwb14 => rfl
                      case hyb14 => (intro wq hSq; (try dsimp only at hSq); go_simp; (try with_reducible rfl))
                      case hSb14 => assumption
                      simp only [Act.put, List.setIfInBounds_toArray, List.set_cons_zero, List.set_cons_succ]
                      refine wpAnyH_take (i := 15) (oi := ?ob15) (v := ?vb15) ?hib15 ?hsb15 ?hfb15 ?hrb15 ?hQb15 (Or.inl ⟨?hwb15, ?hyb15⟩) ?hSb15 ?restb15
                      case hib15 => (simp; rfl)
                      case hsb15 => kernel_rfl
                      case hfb15 => kernel_rfl
                      case hrb15 => kernel_rfl
                      case hQb15 => exact fun _ _ _ h => h
                      case hwb15 => rfl
                      case hyb15 => (intro wq hSq; (try dsimp only at hSq); go_simp; (try with_reducible rfl))
                      case hSb15 => assumption
                      simp only [Act.put, List.setIfInBounds_toArray, List.set_cons_zero, List.set_cons_succ]
                      refine wpAnyH_take (i := 16) (oi := ?ob16) (v := undef) ?hib16 ?hsb16 ?hfb16 ?hrb16 ?hQb16 (Or.inr ⟨?hwb16, rfl⟩) ?hSb16 ?restb16
                      case hib16 => (simp; rfl)
                      case hsb16 => kernel_rfl
                      case hfb16 => kernel_rfl
                      case hrb16 => kernel_rfl
                      case hQb16 => exact fun _ _ _ h => h
                      case hwb16 => rfl
                      case hSb16 => assumption
                      simp only [Act.put, List.setIfInBounds_toArray, List.set_cons_zero, List.set_cons_succ]
                      refine wpAnyH_take (i := 17) (oi := ?ob17) (v := undef) ?hib17 ?hsb17 ?hfb17 ?hrb17 ?hQb17 (Or.inr ⟨?hwb17, rfl⟩) ?hSb17 ?restb17
                      case hib17 => (simp; rfl)
                      case hsb17 => kernel_rfl
                      case hfb17 => kernel_rfl
                      case hrb17 => kernel_rfl
                      case hQb17 => exact fun _ _ _ h => h
                      case hwb17 => rfl
                      case hSb17 => assumption
                      simp only [Act.put, List.setIfInBounds_toArray, List.set_cons_zero, List.set_cons_succ]
                      refine wpAnyH_take (i := 18) (oi := ?ob18) (v := undef) ?hib18 ?hsb18 ?hfb18 ?hrb18 ?hQb18 (Or.inr ⟨?hwb18, rfl⟩) ?hSb18 ?restb18
                      case hib18 => (simp; rfl)
                      case hsb18 => kernel_rfl
                      case hfb18 => kernel_rfl
                      case hrb18 => kernel_rfl
                      case hQb18 => exact fun _ _ _ h => h
                      case hwb18 => rfl
                      case hSb18 => assumption
                      simp only [Act.put, List.setIfInBounds_toArray, List.set_cons_zero, List.set_cons_succ]
                      refine wpAnyH_take (i := 19) (oi := ?ob19) (v := undef) ?hib19 ?hsb19 ?hfb19 ?hrb19 ?hQb19 (Or.inr ⟨?hwb19, rfl⟩) ?hSb19 ?restb19
                      case hib19 => (simp; rfl)
                      case hsb19 => kernel_rfl
                      case hfb19 => kernel_rfl
                      case hrb19 => kernel_rfl
                      case hQb19 => exact fun _ _ _ h => h
                      case hwb19 => rfl
                      case hSb19 => assumption
                      simp only [Act.put, List.setIfInBounds_toArray, List.set_cons_zero, List.set_cons_succ]
                      refine wpAnyH_take (i := 20) (oi := ?ob20) (v := undef) ?hib20 ?hsb20 ?hfb20 ?hrb20 ?hQb20 (Or.inr ⟨?hwb20, rfl⟩) ?hSb20 ?restb20
                      case hib20 => (simp; rfl)
                      case hsb20 => kernel_rfl
                      case hfb20 => kernel_rfl
                      case hrb20 => kernel_rfl
                      case hQb20 => exact fun _ _ _ h => h
                      case hwb20 => rfl
                      case hSb20 => assumption
                      simp only [Act.put, List.setIfInBounds_toArray, List.set_cons_zero, List.set_cons_succ]
                      refine wpAnyH_take (i := 21) (oi := ?ob21) (v := undef) ?hib21 ?hsb21 ?hfb21 ?hrb21 ?hQb21 (Or.inr ⟨?hwb21, rfl⟩) ?hSb21 ?restb21
                      case hib21 => (simp; rfl)
                      case hsb21 => kernel_rfl
                      case hfb21 => kernel_rfl
                      case hrb21 => kernel_rfl
                      case hQb21 => exact fun _ _ _ h => h
                      case hwb21 => rfl
                      case hSb21 => assumption
                      simp only [Act.put, List.setIfInBounds_toArray, List.set_cons_zero, List.set_cons_succ]
                      refine wpAnyH_take (i := 22) (oi := ?ob22) (v := undef) ?hib22 ?hsb22 ?hfb22 ?hrb22 ?hQb22 (Or.inr ⟨?hwb22, rfl⟩) ?hSb22 ?restb22
                      case hib22 => (simp; rfl)
                      case hsb22 => kernel_rfl
                      case hfb22 => kernel_rfl
                      case hrb22 => kernel_rfl
                      case hQb22 => exact fun _ _ _ h => h
                      case hwb22 => rfl
                      case hSb22 => assumption
                      simp only [Act.put, List.setIfInBounds_toArray, List.set_cons_zero, List.set_cons_succ]
                      refine wpAnyH_take (i := 23) (oi := ?ob23) (v := undef) ?hib23 ?hsb23 ?hfb23 ?hrb23 ?hQb23 (Or.inr ⟨?hwb23, rfl⟩) ?hSb23 ?restb23
                      case hib23 => (simp; rfl)
                      case hsb23 => kernel_rfl
                      case hfb23 => kernel_rfl
                      case hrb23 => kernel_rfl
                      case hQb23 => exact fun _ _ _ h => h
                      case hwb23 => rfl
                      case hSb23 => assumption
                      simp only [Act.put, List.setIfInBounds_toArray, List.set_cons_zero, List.set_cons_succ]
                      refine wpAnyH_take (i := 24) (oi := ?ob24) (v := undef) ?hib24 ?hsb24 ?hfb24 ?hrb24 ?hQb24 (Or.inr ⟨?hwb24, rfl⟩) ?hSb24 ?restb24
                      case hib24 => (simp; rfl)
                      case hsb24 => kernel_rfl
                      case hfb24 => kernel_rfl
                      case hrb24 => kernel_rfl
                      case hQb24 => exact fun _ _ _ h => h
                      case hwb24 => rfl
                      case hSb24 => assumption
                      simp only [Act.put, List.setIfInBounds_toArray, List.set_cons_zero, List.set_cons_succ]
                      refine wpAnyH_take (i := 25) (oi := ?ob25) (v := undef) ?hib25 ?hsb25 ?hfb25 ?hrb25 ?hQb25 (Or.inr ⟨?hwb25, rfl⟩) ?hSb25 ?restb25
                      case hib25 => (simp; rfl)
                      case hsb25 => kernel_rfl
                      case hfb25 => kernel_rfl
                      case hrb25 => kernel_rfl
                      case hQb25 => exact fun _ _ _ h => h
                      case hwb25 => rfl
                      case hSb25 => assumption
                      simp only [Act.put, List.setIfInBounds_toArray, List.set_cons_zero, List.set_cons_succ]
                      refine wpAnyH_take (i := 26) (oi := ?ob26) (v := ?vb26) ?hib26 ?hsb26 ?hfb26 ?hrb26 ?hQb26 (Or.inl ⟨?hwb26, ?hyb26⟩) ?hSb26 ?restb26
                      case hib26 => (simp; rfl)
                      case hsb26 => kernel_rfl
                      case hfb26 => kernel_rfl
                      case hrb26 => kernel_rfl
                      case hQb26 => exact fun _ _ _ h => h
                      case hwb26 => rfl
                      case hyb26 => (intro wq hSq; (try dsimp only at hSq); go_simp; (try with_reducible rfl))
                      case hSb26 => assumption
                      simp only [Act.put, List.setIfInBounds_toArray, List.set_cons_zero, List.set_cons_succ]
                      refine wpAnyH_take (i := 27) (oi := ?ob27) (v := ?vb27) ?hib27 ?hsb27 ?hfb27 ?hrb27 ?hQb27 (Or.inl ⟨?hwb27, ?hyb27⟩) ?hSb27 ?restb27
                      case hib27 => (simp; rfl)
                      case hsb27 => kernel_rfl
                      case hfb27 => kernel_rfl
                      case hrb27 => kernel_rfl
                      case hQb27 => exact fun _ _ _ h => h
                      case hwb27 => rfl
                      case hyb27 => (intro wq hSq; (try dsimp only at hSq); go_simp; (try with_reducible rfl))
                      case hSb27 => assumption
                      simp only [Act.put, List.setIfInBounds_toArray, List.set_cons_zero, List.set_cons_succ]
                      refine wpAnyH_take (i := 28) (oi := ?ob28) (v := ?vb28) ?hib28 ?hsb28 ?hfb28 ?hrb28 ?hQb28 (Or.inl ⟨?hwb28, ?hyb28⟩) ?hSb28 ?restb28
                      case hib28 => (simp; rfl)
                      case hsb28 => kernel_rfl
                      case hfb28 => kernel_rfl
                      case hrb28 => kernel_rfl
                      case hQb28 => exact fun _ _ _ h => h
                      case hwb28 => rfl
                      case hyb28 => (intro wq hSq; (try dsimp only at hSq); go_simp; (try with_reducible rfl))
                      case hSb28 => assumption
                      simp only [Act.put, List.setIfInBounds_toArray, List.set_cons_zero, List.set_cons_succ]
                      refine wpAnyH_take (i := 29) (oi := ?ob29) (v := ?vb29) ?hib29 ?hsb29 ?hfb29 ?hrb29 ?hQb29 (Or.inl ⟨?hwb29, ?hyb29⟩) ?hSb29 ?restb29
                      case hib29 => (simp; rfl)
                      case hsb29 => kernel_rfl
                      case hfb29 => kernel_rfl
                      case hrb29 => kernel_rfl
                      case hQb29 => exact fun _ _ _ h => h
                      case hwb29 => rfl
                      case hyb29 => (intro wq hSq; (try dsimp only at hSq); go_simp; (try with_reducible rfl))
                      case hSb29 => assumption
                      simp only [Act.put, List.setIfInBounds_toArray, List.set_cons_zero, List.set_cons_succ]
                      refine wpAnyH_take (i := 30) (oi := ?ob30) (v := ?vb30) ?hib30 ?hsb30 ?hfb30 ?hrb30 ?hQb30 (Or.inl ⟨?hwb30, ?hyb30⟩) ?hSb30 ?restb30
                      case hib30 => (simp; rfl)
                      case hsb30 => kernel_rfl
                      case hfb30 => kernel_rfl
                      case hrb30 => kernel_rfl
                      case hQb30 => exact fun _ _ _ h => h
                      case hwb30 => rfl
                      case hyb30 => (intro wq hSq; (try dsimp only at hSq); go_simp; (try with_reducible rfl))
                      case hSb30 => assumption
                      simp only [Act.put, List.setIfInBounds_toArray, List.set_cons_zero, List.set_cons_succ]
                      refine wpAnyH_take (i := 31) (oi := ?ob31) (v := ?vb31) ?hib31 ?hsb31 ?hfb31 ?hrb31 ?hQb31 (Or.inl ⟨?hwb31, ?hyb31⟩) ?hSb31 ?restb31
                      case hib31 => (simp; rfl)
                      case hsb31 => kernel_rfl
                      case hfb31 => kernel_rfl
                      case hrb31 => kernel_rfl
                      case hQb31 => exact fun _ _ _ h => h
                      case hwb31 => rfl
                      case hyb31 => (intro wq hSq; (try dsimp only at hSq); go_simp; (try with_reducible rfl))
                      case hSb31 => assumption
                      simp only [Act.put, List.setIfInBounds_toArray, List.set_cons_zero, List.set_cons_succ]
                      refine wpAnyH_take (i := 32) (oi := ?ob32) (v := ?vb32) ?hib32 ?hsb32 ?hfb32 ?hrb32 ?hQb32 (Or.inl ⟨?hwb32, ?hyb32⟩) ?hSb32 ?restb32
                      case hib32 => (simp; rfl)
                      case hsb32 => kernel_rfl
                      case hfb32 => kernel_rfl
                      case hrb32 => kernel_rfl
                      case hQb32 => exact fun _ _ _ h => h
                      case hwb32 => rfl
                      case hyb32 => (intro wq hSq; (try dsimp only at hSq); go_simp; (try with_reducible rfl))
                      case hSb32 => assumption
                      simp only [Act.put, List.setIfInBounds_toArray, List.set_cons_zero, List.set_cons_succ]
                      refine wpAnyH_take (i := 33) (oi := ?ob33) (v := ?vb33) ?hib33 ?hsb33 ?hfb33 ?hrb33 ?hQb33 (Or.inl ⟨?hwb33, ?hyb33⟩) ?hSb33 ?restb33
                      case hib33 => (simp; rfl)
                      case hsb33 => kernel_rfl
                      case hfb33 => kernel_rfl
                      case hrb33 => kernel_rfl
                      case hQb33 => exact fun _ _ _ h => h
                      case hwb33 => rfl
                      case hyb33 => (intro wq hSq; (try dsimp only at hSq); go_simp; (try with_reducible rfl))
                      case hSb33 => assumption
                      simp only [Act.put, List.setIfInBounds_toArray, List.set_cons_zero, List.set_cons_succ]
                      refine wpAnyH_take (i := 34) (oi := ?ob34) (v := ?vb34) ?hib34 ?hsb34 ?hfb34 ?hrb34 ?hQb34 (Or.inl ⟨?hwb34, ?hyb34⟩) ?hSb34 ?restb34
                      case hib34 => (simp; rfl)
                      case hsb34 => kernel_rfl
                      case hfb34 => kernel_rfl
                      case hrb34 => kernel_rfl
                      case hQb34 => exact fun _ _ _ h => h
                      case hwb34 => rfl
                      case hyb34 => (intro wq hSq; (try dsimp only at hSq); go_simp; (try with_reducible rfl))
                      case hSb34 => assumption
                      simp only [Act.put, List.setIfInBounds_toArray, List.set_cons_zero, List.set_cons_succ]
                      refine wpAnyH_take (i := 35) (oi := ?ob35) (v := ?vb35) ?hib35 ?hsb35 ?hfb35 ?hrb35 ?hQb35 (Or.inl ⟨?hwb35, ?hyb35⟩) ?hSb35 ?restb35
                      case hib35 => (simp; rfl)
                      case hsb35 => kernel_rfl
                      case hfb35 => kernel_rfl
                      case hrb35 => kernel_rfl
                      case hQb35 => exact fun _ _ _ h => h
                      case hwb35 => rfl
                      case hyb35 => (intro wq hSq; (try dsimp only at hSq); go_simp; (try with_reducible rfl))
                      case hSb35 => assumption
                      simp only [Act.put, List.setIfInBounds_toArray, List.set_cons_zero, List.set_cons_succ]
                      refine wpAnyH_take (i := 36) (oi := ?ob36) (v := ?vb36) ?hib36 ?hsb36 ?hfb36 ?hrb36 ?hQb36 (Or.inl ⟨?hwb36, ?hyb36⟩) ?hSb36 ?restb36
                      case hib36 => (simp; rfl)
                      case hsb36 => kernel_rfl
                      case hfb36 => kernel_rfl
                      case hrb36 => kernel_rfl
                      case hQb36 => exact fun _ _ _ h => h
                      case hwb36 => rfl
                      case hyb36 => (intro wq hSq; (try dsimp only at hSq); go_simp; (try with_reducible rfl))
                      case hSb36 => assumption
                      simp only [Act.put, List.setIfInBounds_toArray, List.set_cons_zero, List.set_cons_succ]
                      refine wpAnyH_take (i := 37) (oi := ?ob37) (v := ?vb37) ?hib37 ?hsb37 ?hfb37 ?hrb37 ?hQb37 (Or.inl ⟨?hwb37, ?hyb37⟩) ?hSb37 ?restb37
                      case hib37 => (simp; rfl)
                      case hsb37 => kernel_rfl
                      case hfb37 => kernel_rfl
                      case hrb37 => kernel_rfl
                      case hQb37 => exact fun _ _ _ h => h
                      case hwb37 => rfl
                      case hyb37 => (intro wq hSq; (try dsimp only at hSq); go_simp; (try with_reducible rfl))
                      case hSb37 => assumption
                      simp only [Act.put, List.setIfInBounds_toArray, List.set_cons_zero, List.set_cons_succ]
                      refine wpAnyH_take (i := 38) (oi := ?ob38) (v := ?vb38) ?hib38 ?hsb38 ?hfb38 ?hrb38 ?hQb38 (Or.inl ⟨?hwb38, ?hyb38⟩) ?hSb38 ?restb38
                      case hib38 => (simp; rfl)
                      case hsb38 => kernel_rfl
                      case hfb38 => kernel_rfl
                      case hrb38 => kernel_rfl
                      case hQb38 => exact fun _ _ _ h => h
                      case hwb38 => rfl
                      case hyb38 => (intro wq hSq; (try dsimp only at hSq); go_simp; (try with_reducible rfl))
                      case hSb38 => assumption
                      simp only [Act.put, List.setIfInBounds_toArray, List.set_cons_zero, List.set_cons_succ]
                      refine wpAnyH_take (i := 39) (oi := ?ob39) (v := ?vb39) ?hib39 ?hsb39 ?hfb39 ?hrb39 ?hQb39 (Or.inl ⟨?hwb39, ?hyb39⟩) ?hSb39 ?restb39
                      case hib39 => (simp; rfl)
                      case hsb39 => kernel_rfl
                      case hfb39 => kernel_rfl
                      case hrb39 => kernel_rfl
                      case hQb39 => exact fun _ _ _ h => h
                      case hwb39 => rfl
                      case hyb39 => (intro wq hSq; (try dsimp only at hSq); go_simp; (try with_reducible rfl))
                      case hSb39 => assumption
                      simp only [Act.put, List.setIfInBounds_toArray, List.set_cons_zero, List.set_cons_succ]
                      refine wpAnyH_take (i := 40) (oi := ?ob40) (v := ?vb40) ?hib40 ?hsb40 ?hfb40 ?hrb40 ?hQb40 (Or.inl ⟨?hwb40, ?hyb40⟩) ?hSb40 ?restb40
                      case hib40 => (simp; rfl)
                      case hsb40 => kernel_rfl
                      case hfb40 => kernel_rfl
                      case hrb40 => kernel_rfl
                      case hQb40 => exact fun _ _ _ h => h
                      case hwb40 => rfl
                      case hyb40 => (intro wq hSq; (try dsimp only at hSq); go_simp; (try with_reducible rfl))
                      case hSb40 => assumption
                      simp only [Act.put, List.setIfInBounds_toArray, List.set_cons_zero, List.set_cons_succ]
                      refine wpAnyH_take (i := 41) (oi := ?ob41) (v := ?vb41) ?hib41 ?hsb41 ?hfb41 ?hrb41 ?hQb41 (Or.inl ⟨?hwb41, ?hyb41⟩) ?hSb41 ?restb41
                      case hib41 => (simp; rfl)
                      case hsb41 => kernel_rfl
                      case hfb41 => kernel_rfl
                      case hrb41 => kernel_rfl
                      case hQb41 => exact fun _ _ _ h => h
                      case hwb41 => rfl
                      case hyb41 => (intro wq hSq; (try dsimp only at hSq); go_simp; (try with_reducible rfl))
                      case hSb41 => assumption
                      simp only [Act.put, List.setIfInBounds_toArray, List.set_cons_zero, List.set_cons_succ]
                      refine wpAnyH_take (i := 42) (oi := ?ob42) (v := ?vb42) ?hib42 ?hsb42 ?hfb42 ?hrb42 ?hQb42 (Or.inl ⟨?hwb42, ?hyb42⟩) ?hSb42 ?restb42
                      case hib42 => (simp; rfl)
                      case hsb42 => kernel_rfl
                      case hfb42 => kernel_rfl
                      case hrb42 => kernel_rfl
                      case hQb42 => exact fun _ _ _ h => h
                      case hwb42 => rfl
                      case hyb42 => (intro wq hSq; (try dsimp only at hSq); go_simp; (try with_reducible rfl))
                      case hSb42 => assumption
                      simp only [Act.put, List.setIfInBounds_toArray, List.set_cons_zero, List.set_cons_succ]
                      refine wpAnyH_ready (rs := [43]) (by kernel_rfl) (by simp) ?_
                      refine AllReadyH.cons (o := ?ob43) ?hib43 (fun K hK => ?_) AllReadyH.nil
                      case hib43 => (simp; rfl)
                      go_simp
                      refine (keepValue_same v.d _).mono ?_
                      rintro e wz ⟨rfl, hb⟩
                      go_wp2_with fail
                      refine hK.out _ _ ?_ (fun hH3 => ?_)
                      · exact Vl.CVS.keep hb hH2
                      clear hK K hb hH2
                      refine wpAnyH_take (i := 44) (oi := ?ob44) (v := ?vb44) ?hib44 ?hsb44 ?hfb44 ?hrb44 ?hQb44 (Or.inl ⟨?hwb44, ?hyb44⟩) ?hSb44 ?restb44
                      case hib44 => (simp; rfl)
                      case hsb44 => kernel_rfl
                      case hfb44 => kernel_rfl
                      case hrb44 => kernel_rfl
                      case hQb44 => exact fun _ _ _ h => h
                      case hwb44 => rfl
                      case hyb44 => (intro wq hSq; (try dsimp only at hSq); go_simp; (try with_reducible rfl))
                      case hSb44 => assumption
                      simp only [Act.put, List.setIfInBounds_toArray, List.set_cons_zero, List.set_cons_succ]
                      refine wpAnyH_take (i := 45) (oi := ?ob45) (v := ?vb45) ?hib45 ?hsb45 ?hfb45 ?hrb45 ?hQb45 (Or.inl ⟨?hwb45, ?hyb45⟩) ?hSb45 ?restb45
                      case hib45 => (simp; rfl)
                      case hsb45 => kernel_rfl
                      case hfb45 => kernel_rfl
                      case hrb45 => kernel_rfl
                      case hQb45 => exact fun _ _ _ h => h
                      case hwb45 => rfl
                      case hyb45 => (intro wq hSq; (try dsimp only at hSq); go_simp; (try with_reducible rfl))
                      case hSb45 => assumption
                      simp only [Act.put, List.setIfInBounds_toArray, List.set_cons_zero, List.set_cons_succ]
                      refine wpAnyH_take (i := 46) (oi := ?ob46) (v := ?vb46) ?hib46 ?hsb46 ?hfb46 ?hrb46 ?hQb46 (Or.inl ⟨?hwb46, ?hyb46⟩) ?hSb46 ?restb46
                      case hib46 => (simp; rfl)
                      case hsb46 => kernel_rfl
                      case hfb46 => kernel_rfl
                      case hrb46 => kernel_rfl
                      case hQb46 => exact fun _ _ _ h => h
                      case hwb46 => rfl
                      case hyb46 => (intro wq hSq; (try dsimp only at hSq); go_simp; (try with_reducible rfl))
                      case hSb46 => assumption
                      simp only [Act.put, List.setIfInBounds_toArray, List.set_cons_zero, List.set_cons_succ]
                      refine wpAnyH_done (by kernel_rfl) ?_ _
                      have HZ := Vl.hid (Vl.CVS.parts hH3).2.2
                      clear hH3
                      go_wp2_with fail
                      exact ⟨⟨k + 1, by omega, by go_num, HK.out.below HZ.out, HF.out.below HZ.out, HP.out.below HZ.out, Vl.btr HB.out HZ.out⟩, by simp [RowKit.intOf]; omega⟩
                  · obtain rfl : k = lk := by omega
                    clear HK HP
                    go_wp2_with (at_builtin; refine Vl.append_any rfl _ _ 38 rfl wr.heap.size 25 iV (.agg #[.int .i64 0, .int .i64 0, .float .f64 0, .string ⟨#[]⟩]) 4 40 Try.underlying38 HIV.out.1 HIV.out.2.1 HIV.out.2.2.1 HIV.out.2.2.2 rfl (by decide) (.slice (some ⟨wr.heap.size, 0, none⟩) 0 0) 0 [] rfl (Vl.own_at (Vl.new_at2 _ rfl) (Nat.le_refl _)) pf n cf (Vl.cellsV fs) rfl (HNF.out) (by rw [Vl.cellsV_length, HFLN.out]) (HF.out.al _) (Vl.cellsV_one _) (by unfold maxLen; omega) (by omega) (by simp) ?_)
                    intro v' wh hown hgrow
                    obtain ⟨ph, ch, rfl, hch, hnh, hhin, hb⟩ := Vl.copied hown hgrow
                    clear hown hgrow
                    have HHI := Vl.hid hhin
                    have HBh := Vl.hid (Vl.btr HB.out hb)
                    have HFh := Vl.hid (HF.out.below hb)
                    clear hhin hb hnh HB HF
                    go_wp2_with fail
                    refine (fill_any p n c cs ph n ch fs _ HC.out.len HC.out.le (by omega) (Vl.hid (HC.out.row.below HBh.out)) HFLN.out HHI).mono ?_
                    rintro e wi ⟨pi, ci, rfl, hci, _, hri, hb⟩
                    rw [HFD.out.2.2.2, HFD.out.2.2.1, HFLN.out]
                    rw [HFD.out.2.2.2] at hri
                    rw [HFD.out.2.2.2, HFLN.out] at hci
                    have HBi := Vl.hid (Vl.btr HBh.out hb)
                    have HFi := Vl.hid (HFh.out.below hb)
                    have HRi := Vl.hid hri
                    clear hb hri HBh HFh HHI
                    go_wp2_with fail
                    refine (keepValues_same pi pf n ci cf fs _ HFLN.out (by omega) hci hcf HRi HFi).mono ?_
                    rintro e wj ⟨rfl, hb⟩
                    have HBj := Vl.hid (Vl.btr HBi.out hb)
                    clear hb HBi HFi HRi
                    go_wp2_with fail
                    refine (wakes_any _).mono ?_
                    rintro e wk ⟨rfl, hb⟩
                    have HBK := Vl.hid (Vl.btr HBj.out hb)
                    clear hb
                    go_wp2_with fail
                    go_ret
                    exact ⟨rfl, HBK.out⟩
          · have HL0 : Hid ((Vl.fillL cs xs).length = 0) := Vl.hid (by unfold Vl.fillL; rw [if_neg (by rw [HE.out]; simpa using he)]; rfl)
            rw [HL0.out]
            clear hcf hnf hrf
            go_wp2_with fail
            refine (wakes_any _).mono ?_
            rintro e wk ⟨rfl, hb⟩
            have HBK := Vl.hid (Vl.btr HB6.out hb)
            clear hb
            go_wp2_with fail
            go_ret
            exact ⟨rfl, HBK.out⟩
      · go_wp2_with fail
        refine (wakes_any _).mono ?_
        rintro e wk ⟨rfl, hb⟩
        have HBK := Vl.hid (Vl.btr HB3.out hb)
        clear hb
        go_wp2_with fail
        go_ret
        exact ⟨rfl, HBK.out⟩
    · go_wp2_with fail
      refine (wakes_any _).mono ?_
      rintro e wk ⟨rfl, hb⟩
      have HBK := Vl.hid (Vl.btr HB2.out hb)
      clear hb
      go_wp2_with fail
      go_ret
      exact ⟨rfl, HBK.out⟩
  · go_wp2_with fail
    refine (wakes_any _).mono ?_
    rintro e wk ⟨rfl, hb⟩
    have HBK := Vl.hid (Vl.btr HB1.out hb)
    clear hb
    go_wp2_with fail
    go_ret
    exact ⟨rfl, HBK.out⟩

end Go.Proofs.Ytaclkmhgbmencaa
