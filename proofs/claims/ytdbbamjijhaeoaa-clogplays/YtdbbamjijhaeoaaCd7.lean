/- Two rows of numbers compared; Play. -/
import Derived.Test.YtdbbamjijhaeoaaCd5
import Derived.Test.YtdbbamjijhaeoaaCd6
import Derived.Test.YtdbbamjijhaeoaaCp0
import Derived.Test.YtdbbamjijhaeoaaCc0
namespace Go.Proofs.Ytdbbamjijhaeoaa
open Go.RowKit

namespace Mm
def IIn (w : World) (q : Option Addr) (l : List Int) : Prop := ∀ (j : Nat) (x : Int), l[j]? = some x → ∃ b o, q = some ⟨b, o, none⟩ ∧ b < w.heap.size ∧ w.cell? ⟨b, o + j, none⟩ = some (.int .i64 x)
theorem IIn.below {w w' : World} {q : Option Addr} {l : List Int} (h : IIn w q l) (hb : Below w.heap.size w w') : IIn w' q l := fun j x hx => by
  obtain ⟨b, o, h1, h2, h3⟩ := h j x hx
  exact ⟨b, o, h1, Nat.lt_of_lt_of_le h2 hb.size, (belAt hb _ h2).trans h3⟩
theorem Own.nin {w : World} {base : Nat} {v : Value} {l : List Nat} (h : Own w base 3 v (nts l)) : ∃ q c, v = .slice q (l.map (fun n : Nat => (n : Int))).length c ∧ IIn w q (l.map (fun n : Nat => (n : Int))) := by
  obtain ⟨q, c, h1, h2, -, -, -⟩ := h.shape
  refine ⟨q, c, by rw [h1, nts_len, List.length_map], fun j x hx => ?_⟩
  rw [List.getElem?_map] at hx
  cases hy : l[j]? with
  | none => rw [hy] at hx; cases hx
  | some y =>
    rw [hy] at hx
    cases hx
    obtain ⟨g, c', e1, -, e3, -, -⟩ := h.at (nts_at hy)
    rw [h1] at e1
    injection e1 with e1
    exact ⟨g, 0, e1, World.block_lt_of_cell? _ _ e3, by rw [Nat.zero_add]; exact e3⟩
end Mm
namespace Cg
def stepS (s : S) (x : Stp) : S := if x.kd = 0 then begS s x.rd else if x.kd = 1 then comS s x.xid else if x.kd = 2 then aboS s x.xid else s
theorem stepS_inv {s : S} (h : Inv s) (x : Stp) : Inv (stepS s x) := by
  unfold stepS
  split
  · exact h.begS _
  · split
    · exact h.comS _
    · split
      · exact h.aboS _
      · exact h
theorem stepS_clk (s : S) (x : Stp) : (stepS s x).clk ≤ s.clk + 1 := by
  unfold stepS
  split
  · unfold begS beg; split <;> simp
  · split
    · unfold comS com; split <;> simp
    · split
      · rw [(aboS_n s x.xid).2]; omega
      · omega
end Cg

set_option maxRecDepth 100000 in
set_option maxHeartbeats 2000000 in
theorem ints_any (la lb : List Int) (pa pb : Option Addr) (ca cb : Nat) (w : World) (ha : Hid (Mm.IIn w pa la)) (hb : Hid (Mm.IIn w pb lb)) (hn : la.length ≤ 1000000) :
    Calls Try.prog 30 #[.slice pa la.length ca, .slice pb lb.length cb] w fun e w' => e = .returned (.bool (decide (la = lb))) ∧ Below w.heap.size w w' := by
  by_cases hl : la.length = lb.length
  · obtain ⟨n, hnn⟩ : ∃ n, n = la.length := ⟨_, rfl⟩
    rw [← hl, ← hnn]
    rw [← hnn] at hn
    have HN := Mm.hid hnn
    have HL := Mm.hid hl
    clear hl hnn
    go_enter Try.func30, Try.ntmps30
    go_wp2_with fail
    go_loopw [5] (fun vi wr => ∃ k : Nat, k ≤ n ∧ vi = .int .i64 (k : Int) ∧ Hid (∀ j : Nat, j < k → la[j]? = lb[j]?) ∧ Hid (Below w.heap.size w wr)) (fun vi _ => n - (RowKit.intOf vi).toNat)
    case atStart => exact ⟨0, by omega, rfl, fun j h => absurd h (Nat.not_lt_zero j), Below.refl _ _⟩
    case round =>
      obtain ⟨k, hk, rfl, HI, HB⟩ := hrel
      by_cases hlt : k < n
      · obtain ⟨a, ha1⟩ : ∃ a, la[k]? = some a := ⟨_, List.getElem?_eq_getElem (by rw [← HN.out]; exact hlt)⟩
        obtain ⟨b, hb1⟩ : ∃ b, lb[k]? = some b := ⟨_, List.getElem?_eq_getElem (by rw [← HL.out, ← HN.out]; exact hlt)⟩
        obtain ⟨g1, o1, rfl, _, hc1⟩ := (ha.out.below HB.out) k a ha1
        obtain ⟨g2, o2, rfl, _, hc2⟩ := (hb.out.below HB.out) k b hb1
        have HA := Mm.hid (And.intro ha1 hb1)
        have g01 : (0 : Int) ≤ (k : Int) := by omega
        have g02 : (k : Int) < (n : Int) := by omega
        have HCC : Hid (wr.drew.cell? ⟨g1, o1 + k, none⟩ = some (.int .i64 a) ∧ wr.drew.cell? ⟨g2, o2 + k, none⟩ = some (.int .i64 b)) := Mm.hid ⟨hc1, hc2⟩
        clear ha1 hb1 hc1 hc2
        by_cases e : a = b
        · have he : (a == b) = true := by simpa using e
          have HE := Mm.hid e
          clear e
          go_wp2_with fail
          go_region_held3 (fun w' => w'.cell? ⟨g1, o1 + k, none⟩ = some (.int .i64 a) ∧ w'.cell? ⟨g2, o2 + k, none⟩ = some (.int .i64 b)) (with_reducible exact HCC.out) (fail)
          go_wp2_with fail
          refine ⟨⟨k + 1, by omega, by go_num, fun j hj => ?_, HB.out.drew⟩, by simp [RowKit.intOf]; omega⟩
          by_cases ej : j = k
          · subst ej; rw [HA.out.1, HA.out.2, HE.out]
          · exact HI.out j (by omega)
        · have he : (a == b) = false := by simpa using e
          have HE : Hid (la ≠ lb) := Mm.hid (fun h => e (by have h1 := HA.out.1; rw [h, HA.out.2] at h1; injection h1 with h1; exact h1.symm))
          clear e
          go_wp2_with fail
          go_region_held3 (fun w' => w'.cell? ⟨g1, o1 + k, none⟩ = some (.int .i64 a) ∧ w'.cell? ⟨g2, o2 + k, none⟩ = some (.int .i64 b)) (with_reducible exact HCC.out) (fail)
          go_wp2_with fail
          go_ret
          exact ⟨by rw [decide_eq_false HE.out]; rfl, HB.out.drew⟩
      · have HE : Hid (la = lb) := Mm.hid (List.ext_getElem? (fun j => by
          by_cases hj : j < k
          · exact HI.out j hj
          · rw [List.getElem?_eq_none (by have := HN.out; omega), List.getElem?_eq_none (by have := HN.out; have := HL.out; omega)]))
        go_wp2_with fail
        go_ret
        exact ⟨by rw [decide_eq_true HE.out]; rfl, HB.out⟩
  · have hne : ((la.length : Int) == (lb.length : Int)) = false := by simp; omega
    have HE : Hid (la ≠ lb) := Mm.hid (fun h => hl (by rw [h]))
    clear hl
    go_enter Try.func30, Try.ntmps30
    go_wp2_with fail
    go_ret
    exact ⟨by rw [decide_eq_false HE.out]; rfl, Below.refl _ _⟩


set_option maxRecDepth 100000 in
set_option maxHeartbeats 4000000 in
theorem play_any (w : World) (p q : Nat) (s : Cg.S) (x : Cg.Stp) (hl : Hid (Mm.Lg w p s)) (hr : Hid (Mm.Rl w q s)) (hpq : p < q) (hi : Hid (Cg.Inv s)) (hc : s.clk < 100000) :
    Calls Try.prog 10 #[.pointer (some ⟨p, 0, none⟩), .pointer (some ⟨q, 0, none⟩), .agg #[.int .i64 x.kd, .int .i64 x.xid, .bool x.rd]] w fun e w' => e = .returned (.bool true) ∧ Mm.Lg w' p (Cg.stepS s x) ∧ Mm.Rl w' q (Cg.stepS s x) ∧ Below p w w' := by
  have hn := hi.out.le
  have hql := hr.out.lt
  have hpl := hl.out.lt
  have HLA : Hid (∀ KD, Mm.Lg (w.alloc (.cells #[.int .i64 KD, .int .i64 x.xid, .bool x.rd] 33)) p s) := Mm.hid (fun KD => hl.out.below ((Below.refl _ _).alloc (Nat.le_refl _) _))
  have HRA : Hid (∀ KD, Mm.Rl (w.alloc (.cells #[.int .i64 KD, .int .i64 x.xid, .bool x.rd] 33)) q s) := Mm.hid (fun KD => hr.out.below ((Below.refl _ _).alloc (Nat.le_refl _) _))
  have HBA : Hid (∀ KD, Below p w (w.alloc (.cells #[.int .i64 KD, .int .i64 x.xid, .bool x.rd] 33))) := Mm.hid (fun KD => (Below.refl _ _).alloc (Nat.le_of_lt hpl) _)
  have HC1 : Hid (∀ KD, (w.alloc (.cells #[.int .i64 KD, .int .i64 x.xid, .bool x.rd] 33)).cell? ⟨w.heap.size, 1, none⟩ = some (.int .i64 x.xid)) := Mm.hid (fun KD => Mm.cellOf (Mm.newAt _ _ rfl) rfl)
  have HC2 : Hid (∀ KD, (w.alloc (.cells #[.int .i64 KD, .int .i64 x.xid, .bool x.rd] 33)).cell? ⟨w.heap.size, 2, none⟩ = some (.bool x.rd)) := Mm.hid (fun KD => Mm.cellOf (Mm.newAt _ _ rfl) rfl)
  have hk : x.kd = 0 ∨ x.kd = 1 ∨ x.kd = 2 ∨ (x.kd ≠ 0 ∧ x.kd ≠ 1 ∧ x.kd ≠ 2) := by omega
  rcases hk with hk | hk | hk | hk
  · rw [show Cg.stepS s x = Cg.begS s x.rd from by unfold Cg.stepS; rw [if_pos hk], hk]
    clear hk
    go_enter Try.func10, Try.ntmps10
    go_wp2_with fail
    refine (begin_any _ p s x.rd (Mm.hid (HLA.out 0)) hn).mono ?_
    rintro e w2 ⟨rfl, h1, hb⟩
    have HL2 := Mm.hid h1
    have HR2 : Hid (Mm.Rl w2 q s) := Mm.hid ((HRA.out 0).keep (fun g hg hlt => hb.block g hlt (by omega)))
    have HB2 := Mm.hid ((HBA.out 0).trans (hb.bel (Nat.le_refl _) (Nat.le_trans (Nat.le_of_lt hpl) (HBA.out 0).size)))
    have c2 : w2.cell? ⟨w.heap.size, 2, none⟩ = some (.bool x.rd) := (World.cell?_of_block (a := ⟨w.heap.size, 2, none⟩) (hb.block _ (by simp) (by show w.heap.size ≠ p; omega))).trans (HC2.out 0)
    clear h1 hb HLA HRA HBA HC1 HC2
    go_wp2_with fail
    refine (refBegin_any w2 q s x.rd HR2 hn).mono ?_
    rintro e w3 ⟨rfl, h1, hb⟩
    have HR3 := Mm.hid h1
    have HL3 := Mm.hid (HL2.out.keep (hb.block p hpq))
    have HB3 := Mm.hid (HB2.out.trans (hb.mono (Nat.le_of_lt hpq)))
    have g1 : ((Cg.begA s : Int) == (Cg.begA s : Int)) = true := by simp
    have g2 : ((Cg.begE s : Int) == (Cg.begE s : Int)) = true := by simp
    clear h1 hb c2
    go_wp2_with fail
    go_ret
    exact ⟨rfl, HL3.out, HR3.out, HB3.out⟩
  · rw [show Cg.stepS s x = Cg.comS s x.xid from by unfold Cg.stepS; rw [if_neg (by omega), if_pos hk], hk]
    clear hk
    go_enter Try.func10, Try.ntmps10
    go_wp2_with fail
    refine (commit_any _ p s x.xid (Mm.hid (HLA.out 1)) hn (by omega)).mono ?_
    rintro e w2 ⟨rfl, h1, hb⟩
    have HL2 := Mm.hid h1
    have HR2 : Hid (Mm.Rl w2 q s) := Mm.hid ((HRA.out 1).keep (fun g hg hlt => hb.block g hlt (by omega)))
    have HB2 := Mm.hid ((HBA.out 1).trans (hb.bel (Nat.le_refl _) (Nat.le_trans (Nat.le_of_lt hpl) (HBA.out 1).size)))
    have c2 : w2.cell? ⟨w.heap.size, 1, none⟩ = some (.int .i64 x.xid) := (World.cell?_of_block (a := ⟨w.heap.size, 1, none⟩) (hb.block _ (by simp) (by show w.heap.size ≠ p; omega))).trans (HC1.out 1)
    clear h1 hb HLA HRA HBA HC1 HC2
    go_wp2_with fail
    refine (refCommit_any w2 q s x.xid HR2 hn (by omega)).mono ?_
    rintro e w3 ⟨rfl, h1, hb⟩
    have HR3 := Mm.hid h1
    have HL3 := Mm.hid (HL2.out.keep (hb.block p hpq))
    have HB3 := Mm.hid (HB2.out.trans (hb.mono (Nat.le_of_lt hpq)))
    have g1 : ((Cg.comA s x.xid : Int) == (Cg.comA s x.xid : Int)) = true := by simp
    have g2 : ((Cg.endE s x.xid : Int) == (Cg.endE s x.xid : Int)) = true := by simp
    clear h1 hb c2
    go_wp2_with fail
    go_ret
    exact ⟨rfl, HL3.out, HR3.out, HB3.out⟩
  · rw [show Cg.stepS s x = Cg.aboS s x.xid from by unfold Cg.stepS; rw [if_neg (by omega), if_neg (by omega), if_pos hk], hk]
    clear hk
    go_enter Try.func10, Try.ntmps10
    go_wp2_with fail
    obtain ⟨B, hB⟩ : ∃ B, w.heap.size = B := ⟨_, rfl⟩
    obtain ⟨W, hW⟩ : ∃ W, w.alloc (.cells #[.int .i64 2, .int .i64 x.xid, .bool x.rd] 33) = W := ⟨_, rfl⟩
    have hLA := HLA.out 2
    have hRA := HRA.out 2
    have hBA := HBA.out 2
    have hC1 := HC1.out 2
    rw [hW] at hLA hRA hBA hC1 ⊢
    rw [hB] at hC1 hpl hql ⊢
    have HLd : Hid (Mm.Lg W.drew p s) := Mm.hid hLA.drew
    have HRd : Hid (Mm.Rl W.drew q s) := Mm.hid hRA.drew
    have HBd : Hid (Below p w W.drew) := Mm.hid hBA.drew
    have HS0 : Hid (W.drew.cell? ⟨B, 1, none⟩ = some (.int .i64 x.xid)) := Mm.hid hC1
    have HPB := Mm.hid (And.intro hpl hql)
    have HROW : Hid (∀ g n' c', W.drew.cell? ⟨q, 0, none⟩ = some (.slice (some ⟨g, 0, none⟩) n' c') → B ≠ g) := Mm.hid (fun g n' c' hc => by
      have h1 : w.cell? ⟨q, 0, none⟩ = W.drew.cell? ⟨q, 0, none⟩ := by
        show _ = W.cell? _
        rw [← hW]
        exact (((Below.refl w.heap.size w).alloc (Nat.le_refl _) (.cells #[.int .i64 2, .int .i64 x.xid, .bool x.rd] 33)).cell (p := ⟨q, 0, none⟩) (by rw [hB]; exact hql)).symm
      rw [← h1] at hc
      have := hr.out.rowLt hc
      omega)
    have g1 : ((Cg.endE s x.xid : Int) == (Cg.endE s x.xid : Int)) = true := by simp
    clear hLA hRA hBA hC1 hW hB HLA HRA HBA HC1 HC2 hpl hql
    go_region_held3 (fun w' => w'.cell? ⟨B, 1, none⟩ = some (.int .i64 x.xid)) (first | (with_reducible exact HS0.out) | (with_reducible exact HS2.out) | (with_reducible exact HS3.out)) ((first
      | (go_at_call 18
         refine (abort_any _ p s x.xid HLd hn).mono ?_
         rintro e w2 ⟨rfl, h1, hb⟩
         have HL2 := Mm.hid h1
         have HR2 : Hid (Mm.Rl w2 q s) := Mm.hid (HRd.out.keep (fun g hg hlt => hb.block g hlt (by omega)))
         have HB2 := Mm.hid (HBd.out.trans (hb.bel (Nat.le_refl _) (Nat.le_of_lt HLd.out.lt)))
         have HROW2 : Hid (∀ g n' c', w2.cell? ⟨q, 0, none⟩ = some (.slice (some ⟨g, 0, none⟩) n' c') → B ≠ g) := Mm.hid (fun g n' c' hc => HROW.out g n' c' (by rw [← hc]; exact (World.cell?_of_block (a := ⟨q, 0, none⟩) (hb.block _ HRd.out.lt (by show q ≠ p; omega))).symm))
         have HS2 : Hid (w2.cell? ⟨B, 1, none⟩ = some (.int .i64 x.xid)) := Mm.hid ((World.cell?_of_block (a := ⟨B, 1, none⟩) (hb.block _ (World.block_lt_of_cell? _ _ HS0.out) (by have := HPB.out.1; show B ≠ p; omega))).trans HS0.out)
         clear h1 hb)
      | (go_at_call 28
         refine (refAbort_any _ q s x.xid HR2 hn).mono ?_
         rintro e w3 ⟨rfl, h1, hb, hk⟩
         have HR3 := Mm.hid h1
         have HL3 := Mm.hid (HL2.out.keep (hb.block p hpq))
         have HB3 := Mm.hid (HB2.out.trans (hb.mono (Nat.le_of_lt hpq)))
         have HS3 : Hid (w3.cell? ⟨B, 1, none⟩ = some (.int .i64 x.xid)) := Mm.hid ((World.cell?_of_block (a := ⟨B, 1, none⟩) (hk B (World.block_lt_of_cell? _ _ HS2.out) HROW2.out)).trans HS2.out)
         clear h1 hb hk)))
    all_goals
      go_wp2_with fail
      go_ret
      exact ⟨rfl, HL3.out, HR3.out, HB3.out⟩
  · rw [show Cg.stepS s x = s from by unfold Cg.stepS; rw [if_neg hk.1, if_neg hk.2.1, if_neg hk.2.2]]
    have e0 : (x.kd == 0) = false := by simpa using hk.1
    have e1 : (x.kd == 1) = false := by simpa using hk.2.1
    have e2 : (x.kd == 2) = false := by simpa using hk.2.2
    clear hk
    go_enter Try.func10, Try.ntmps10
    go_wp2_with fail
    go_ret
    exact ⟨rfl, HLA.out _, HRA.out _, HBA.out _⟩
end Go.Proofs.Ytdbbamjijhaeoaa
