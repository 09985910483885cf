/- May, Unseen. -/
import Derived.Test.YtoobljkjhpkghaaHa7
namespace Go.Proofs.Ytoobljkjhpkghaa
open Go.RowKit

namespace Mm
/-- A row of one number, laid just now. -/
theorem one {w : World} {base g : Nat} {x : Int} (h : w.heap[g]? = some (.cells #[.int .i64 x] 3 (0, 0))) (hb : base ≤ g) : Own w base 3 (.slice (some ⟨g, 0, none⟩) 1 1) (its [x]) :=
  ⟨rfl, Or.inr ⟨g, 1, _, rfl, hb, h, Nat.le_refl _, by decide, rfl, rfl⟩⟩
end Mm
namespace Hp
def mayE (s : Cg.S) (r : R) (x t : Int) : Nat := if seesV s r x t = false then 60 else if (Cg.gt s (fndD r.vs t).xmax).st = 1 then 75 else if (Cg.gt s (fndD r.vs t).xmax).st = 2 then 71 else 0
def mayW (s : Cg.S) (r : R) (x t : Int) : Int := if seesV s r x t = false then 0 else if (Cg.gt s (fndD r.vs t).xmax).st = 1 then (fndD r.vs t).xmax else if (Cg.gt s (fndD r.vs t).xmax).st = 2 then (fndD r.vs t).xmax else 0
def whoV (s : Cg.S) (x : Int) (v : Ver) : Int := if Cg.sees s x v.xmin = true then v.xmax else v.xmin
def unsL (s : Cg.S) (r : R) (x t : Int) : List Int := if (fnd r.vs t).isSome = false then [] else if whoV s x (fndD r.vs t) = 0 then [] else if (Cg.gt s (whoV s x (fndD r.vs t))).st = 3 then [] else if Cg.sees s x (whoV s x (fndD r.vs t)) = true then [] else [whoV s x (fndD r.vs t)]
end Hp

set_option maxRecDepth 100000 in
set_option maxHeartbeats 2000000 in
theorem may_any (w : World) (base b : Nat) (lv : Value) (r : Hp.R) (s : Cg.S) (x t : Int) (hR : Hid (Hp.Rn w base b r)) (hI : Hid (Hp.Inv r)) (h : Hid (Mm.Lv w lv s)) (hn : s.n ≤ 200) :
    Calls Try.prog 29 #[.pointer (some ⟨b, 0, none⟩), lv, .int .i64 x, .int .i64 t] w fun e w' => e = .returned (.tuple #[.int .i64 (Hp.mayE s r x t : Int), .int .i64 (Hp.mayW s r x t)]) ∧ Below w.heap.size w w' := by
  unfold Hp.mayE Hp.mayW Hp.seesV
  obtain ⟨bf, hb⟩ : ∃ b, b = (Hp.fnd r.vs t).isSome := ⟨_, rfl⟩
  obtain ⟨u, hu⟩ : ∃ u, u = Hp.fndD r.vs t := ⟨_, rfl⟩
  obtain ⟨bs, hbs⟩ : ∃ bs, bs = Hp.seen s x u := ⟨_, rfl⟩
  have HR := Vl.hid (show Hp.Rv w base (.pointer (some ⟨b, 0, none⟩)) r from Or.inl ⟨b, rfl, hR.out⟩)
  have C1 : Hid (∀ wz, Hid (Hp.Rv wz base (.pointer (some ⟨b, 0, none⟩)) r) → Calls Try.prog 59 #[.pointer (some ⟨b, 0, none⟩), .int .i64 t] wz fun e w' => e = .returned (.tuple #[.agg #[.int .i64 (u.tid : Int), .int .i64 u.xmin, .int .i64 u.xmax, .slice u.p u.xs.length u.c], .bool bf]) ∧ Below wz.heap.size wz w') := Vl.hid (fun wz hz => hb ▸ hu ▸ version_any wz base _ r t hz hI)
  have CS : Hid (∀ wz, Hid (Mm.Lv wz lv s) → Calls Try.prog 60 #[.agg #[.int .i64 (u.tid : Int), .int .i64 u.xmin, .int .i64 u.xmax, .slice u.p u.xs.length u.c], lv, .int .i64 x] wz fun e w' => e = .returned (.bool bs) ∧ Below wz.heap.size wz w') := Vl.hid (fun wz hz => hbs ▸ seen_any wz lv s u x hz hn)
  rw [← hb, ← hu, ← hbs]
  obtain ⟨E, hE⟩ : ∃ E : Nat, E = (if (bf && bs) = false then 60 else if (Cg.gt s u.xmax).st = 1 then 75 else if (Cg.gt s u.xmax).st = 2 then 71 else 0) := ⟨_, rfl⟩
  obtain ⟨F, hF⟩ : ∃ F : Int, F = (if (bf && bs) = false then 0 else if (Cg.gt s u.xmax).st = 1 then u.xmax else if (Cg.gt s u.xmax).st = 2 then u.xmax else 0) := ⟨_, rfl⟩
  rw [← hE, ← hF]
  have HE := Vl.hid hE
  have HF := Vl.hid hF
  clear hb hu hbs hE hF
  go_enter Try.func29, Try.ntmps29
  go_wp2_with fail
  refine (C1.out _ HR).mono ?_
  rintro e w1 ⟨rfl, hb⟩
  have HB1 := Vl.hid hb
  have HL1 := Vl.hid (h.out.below hb)
  clear hb
  cases bf
  · go_wp2_with fail
    go_ret2
    exact ⟨by rw [HE.out, HF.out]; rfl, HB1.out.alloc HB1.out.size _⟩
  · have HL2 : Hid (Mm.Lv (w1.alloc (.cells #[.int .i64 (u.tid : Int), .int .i64 u.xmin, .int .i64 u.xmax, .slice u.p u.xs.length u.c] 100)) lv s) := Vl.hid (HL1.out.below ((Below.refl _ _).alloc (Nat.le_refl _) _))
    have HB2 : Hid (Below w.heap.size w (w1.alloc (.cells #[.int .i64 (u.tid : Int), .int .i64 u.xmin, .int .i64 u.xmax, .slice u.p u.xs.length u.c] 100))) := Vl.hid (HB1.out.alloc HB1.out.size _)
    have HX : Hid (Hp.Bx (w1.alloc (.cells #[.int .i64 (u.tid : Int), .int .i64 u.xmin, .int .i64 u.xmax, .slice u.p u.xs.length u.c] 100)) w1.heap.size u) := Vl.hid (Mm.newAt w1 _ rfl)
    go_wp2_with fail
    refine (CS.out _ HL2).mono ?_
    rintro e w3 ⟨rfl, hb⟩
    have HB3 := Vl.hid (HB2.out.trans (hb.mono HB2.out.size))
    have HX3 := Vl.hid (HX.out.below hb)
    have HL3 := Vl.hid (HL2.out.below hb)
    have k2 := HX3.out.c2
    have hq := Mm.heapLt HX3.out
    clear hb
    cases bs
    · go_wp2_with fail
      go_ret2
      exact ⟨by rw [HE.out, HF.out]; rfl, HB3.out⟩
    · go_wp2_with fail
      refine (state_any w3 lv s u.xmax HL3 hn).mono ?_
      rintro e w4 ⟨rfl, hb⟩
      have HB4 := Vl.hid (HB3.out.trans (hb.mono HB3.out.size))
      have HX4 := Vl.hid (HX3.out.below hb)
      have j2 := HX4.out.c2
      have hq4 := Mm.heapLt HX4.out
      obtain ⟨k, hk⟩ : ∃ k, k = (Cg.gt s u.xmax).st := ⟨_, rfl⟩
      rw [← hk] at HE HF ⊢
      clear hb k2 hq hk
      by_cases h1 : k = 1
      · have g1 : ((k : Int) == 1) = true := by simp; omega
        have HE2 : Hid (E = 75) := Vl.hid (by rw [HE.out]; simp [h1])
        have HF2 : Hid (F = u.xmax) := Vl.hid (by rw [HF.out]; simp [h1])
        clear h1
        go_wp2_with fail
        go_region
        go_wp2_with fail
        go_ret2
        exact ⟨by rw [HE2.out, HF2.out]; rfl, HB4.out.drew⟩
      · by_cases h2 : k = 2
        · have g1 : ((k : Int) == 1) = false := by simp; omega
          have g2 : ((k : Int) == 2) = true := by simp; omega
          have HE2 : Hid (E = 71) := Vl.hid (by rw [HE.out]; simp [h2])
          have HF2 : Hid (F = u.xmax) := Vl.hid (by rw [HF.out]; simp [h2])
          clear h1 h2
          go_wp2_with fail
          go_region
          go_wp2_with fail
          go_ret2
          exact ⟨by rw [HE2.out, HF2.out]; rfl, HB4.out.drew⟩
        · have g1 : ((k : Int) == 1) = false := by simp; omega
          have g2 : ((k : Int) == 2) = false := by simp; omega
          have HE2 : Hid (E = 0) := Vl.hid (by rw [HE.out]; simp [h1, h2])
          have HF2 : Hid (F = 0) := Vl.hid (by rw [HF.out]; simp [h1, h2])
          clear h1 h2
          go_wp2_with fail
          go_ret2
          exact ⟨by rw [HE2.out, HF2.out]; rfl, HB4.out⟩

set_option maxRecDepth 100000 in
set_option maxHeartbeats 2000000 in
theorem unseen_any (w : World) (base : Nat) (v lv : Value) (r : Hp.R) (s : Cg.S) (x t : Int) (hR : Hid (Hp.Rv w base v r)) (hI : Hid (Hp.Inv r)) (h : Hid (Mm.Lv w lv s)) (hn : s.n ≤ 200) :
    Calls Try.prog 36 #[v, lv, .int .i64 x, .int .i64 t] w fun e w' => ∃ v', e = .returned v' ∧ Mm.Own w' w.heap.size 3 v' (Mm.its (Hp.unsL s r x t)) ∧ Below w.heap.size w w' := by
  unfold Hp.unsL
  obtain ⟨bf, hb⟩ : ∃ b, b = (Hp.fnd r.vs t).isSome := ⟨_, rfl⟩
  obtain ⟨u, hu⟩ : ∃ u, u = Hp.fndD r.vs t := ⟨_, rfl⟩
  have C1 : Hid (∀ wz, Hid (Hp.Rv wz base v r) → Calls Try.prog 59 #[v, .int .i64 t] wz fun e w' => e = .returned (.tuple #[.agg #[.int .i64 (u.tid : Int), .int .i64 u.xmin, .int .i64 u.xmax, .slice u.p u.xs.length u.c], .bool bf]) ∧ Below wz.heap.size wz w') := Vl.hid (fun wz hz => hb ▸ hu ▸ version_any wz base v r t hz hI)
  rw [← hb, ← hu]
  obtain ⟨Ls, hE⟩ : ∃ l : List Int, l = (if bf = false then [] else if Hp.whoV s x u = 0 then [] else if (Cg.gt s (Hp.whoV s x u)).st = 3 then [] else if Cg.sees s x (Hp.whoV s x u) = true then [] else [Hp.whoV s x u]) := ⟨_, rfl⟩
  rw [← hE]
  have HE := Vl.hid hE
  clear hb hu hE
  go_enter Try.func36, Try.ntmps36
  go_wp2_with fail
  refine (C1.out _ hR).mono ?_
  rintro e w1 ⟨rfl, hb⟩
  have HB1 := Vl.hid hb
  have HL1 := Vl.hid (h.out.below hb)
  clear hb
  cases bf
  · have HEQ : Hid (Ls = []) := Vl.hid (by rw [HE.out]; rfl)
    go_wp2_with fail
    go_ret
    exact ⟨_, rfl, by rw [HEQ.out]; exact Mm.Own.nil _ _ _, HB1.out.alloc HB1.out.size _⟩
  · have HL2 : Hid (Mm.Lv (w1.alloc (.cells #[.int .i64 (u.tid : Int), .int .i64 u.xmin, .int .i64 u.xmax, .slice u.p u.xs.length u.c] 100)) lv s) := Vl.hid (HL1.out.below ((Below.refl _ _).alloc (Nat.le_refl _) _))
    have HB2 : Hid (Below w.heap.size w (w1.alloc (.cells #[.int .i64 (u.tid : Int), .int .i64 u.xmin, .int .i64 u.xmax, .slice u.p u.xs.length u.c] 100))) := Vl.hid (HB1.out.alloc HB1.out.size _)
    have HX : Hid (Hp.Bx (w1.alloc (.cells #[.int .i64 (u.tid : Int), .int .i64 u.xmin, .int .i64 u.xmax, .slice u.p u.xs.length u.c] 100)) w1.heap.size u) := Vl.hid (Mm.newAt w1 _ rfl)
    obtain ⟨b3, hb3⟩ : ∃ b, b = Cg.sees s x u.xmin := ⟨_, rfl⟩
    have C3 : Hid (∀ wz, Hid (Mm.Lv wz lv s) → Calls Try.prog 61 #[lv, .int .i64 x, .int .i64 u.xmin] wz fun e w' => e = .returned (.bool b3) ∧ Below wz.heap.size wz w') := Vl.hid (fun wz hz => hb3 ▸ sees_any wz lv s x u.xmin hz hn)
    rw [show Hp.whoV s x u = if b3 = true then u.xmax else u.xmin from by unfold Hp.whoV; rw [← hb3]] at HE
    clear hb3
    go_wp2_with fail
    refine (C3.out _ HL2).mono ?_
    rintro e w3 ⟨rfl, hb⟩
    have HB3 := Vl.hid (HB2.out.trans (hb.mono HB2.out.size))
    have HX3 := Vl.hid (HX.out.below hb)
    have HL3 := Vl.hid (HL2.out.below hb)
    have k2 := HX3.out.c2
    have hq := Mm.heapLt HX3.out
    clear hb
    cases b3
    · replace HE : Hid (Ls = (if u.xmin = 0 then [] else if (Cg.gt s u.xmin).st = 3 then [] else if Cg.sees s x u.xmin = true then [] else [u.xmin])) := Vl.hid (HE.out.trans (by simp))
      by_cases h0 : u.xmin = 0
      · have HEQ : Hid (Ls = []) := Vl.hid (by rw [HE.out]; simp [h0])
        have g0 : (u.xmin == 0) = true := by simpa using h0
        clear h0
        go_wp2_with fail
        go_ret
        exact ⟨_, rfl, by rw [HEQ.out]; exact Mm.Own.nil _ _ _, HB3.out⟩
      · have g0 : (u.xmin == 0) = false := by simpa using h0
        go_wp2_with fail
        refine (state_any w3 lv s u.xmin HL3 hn).mono ?_
        rintro e w4 ⟨rfl, hb⟩
        have HB4 := Vl.hid (HB3.out.trans (hb.mono HB3.out.size))
        have HL4 := Vl.hid (HL3.out.below hb)
        obtain ⟨k, hk⟩ : ∃ k, k = (Cg.gt s u.xmin).st := ⟨_, rfl⟩
        rw [← hk] at HE ⊢
        clear hb hk
        by_cases h3 : k = 3
        · have HEQ : Hid (Ls = []) := Vl.hid (by rw [HE.out]; simp [h3])
          subst h3
          go_wp2_with fail
          go_ret
          exact ⟨_, rfl, by rw [HEQ.out]; exact Mm.Own.nil _ _ _, HB4.out⟩
        · have g3 : ((k : Int) == 3) = false := by simp; omega
          obtain ⟨b4, hb4⟩ : ∃ b, b = Cg.sees s x u.xmin := ⟨_, rfl⟩
          have C4 : Hid (∀ wz, Hid (Mm.Lv wz lv s) → Calls Try.prog 61 #[lv, .int .i64 x, .int .i64 u.xmin] wz fun e w' => e = .returned (.bool b4) ∧ Below wz.heap.size wz w') := Vl.hid (fun wz hz => hb4 ▸ sees_any wz lv s x u.xmin hz hn)
          rw [← hb4] at HE
          go_wp2_with fail
          refine (C4.out _ HL4).mono ?_
          rintro e w5 ⟨rfl, hb⟩
          have HB5 := Vl.hid (HB4.out.trans (hb.mono HB4.out.size))
          clear hb hb4
          cases b4
          · have HEQ : Hid (Ls = [u.xmin]) := Vl.hid (by rw [HE.out]; simp [h0, h3])
            clear h0 h3
            go_wp2_with fail
            go_ret
            exact ⟨_, rfl, by rw [HEQ.out]; exact Mm.one (Mm.newAt w5 _ rfl) HB5.out.size, HB5.out.alloc HB5.out.size _⟩
          · have HEQ : Hid (Ls = []) := Vl.hid (by rw [HE.out]; simp [h0, h3])
            clear h0 h3
            go_wp2_with fail
            go_ret
            exact ⟨_, rfl, by rw [HEQ.out]; exact Mm.Own.nil _ _ _, HB5.out⟩
    · replace HE : Hid (Ls = (if u.xmax = 0 then [] else if (Cg.gt s u.xmax).st = 3 then [] else if Cg.sees s x u.xmax = true then [] else [u.xmax])) := Vl.hid (HE.out.trans (by simp))
      by_cases h0 : u.xmax = 0
      · have HEQ : Hid (Ls = []) := Vl.hid (by rw [HE.out]; simp [h0])
        have g0 : (u.xmax == 0) = true := by simpa using h0
        clear h0
        go_wp2_with fail
        go_ret
        exact ⟨_, rfl, by rw [HEQ.out]; exact Mm.Own.nil _ _ _, HB3.out⟩
      · have g0 : (u.xmax == 0) = false := by simpa using h0
        go_wp2_with fail
        refine (state_any w3 lv s u.xmax HL3 hn).mono ?_
        rintro e w4 ⟨rfl, hb⟩
        have HB4 := Vl.hid (HB3.out.trans (hb.mono HB3.out.size))
        have HL4 := Vl.hid (HL3.out.below hb)
        obtain ⟨k, hk⟩ : ∃ k, k = (Cg.gt s u.xmax).st := ⟨_, rfl⟩
        rw [← hk] at HE ⊢
        clear hb hk
        by_cases h3 : k = 3
        · have HEQ : Hid (Ls = []) := Vl.hid (by rw [HE.out]; simp [h3])
          subst h3
          go_wp2_with fail
          go_ret
          exact ⟨_, rfl, by rw [HEQ.out]; exact Mm.Own.nil _ _ _, HB4.out⟩
        · have g3 : ((k : Int) == 3) = false := by simp; omega
          obtain ⟨b4, hb4⟩ : ∃ b, b = Cg.sees s x u.xmax := ⟨_, rfl⟩
          have C4 : Hid (∀ wz, Hid (Mm.Lv wz lv s) → Calls Try.prog 61 #[lv, .int .i64 x, .int .i64 u.xmax] wz fun e w' => e = .returned (.bool b4) ∧ Below wz.heap.size wz w') := Vl.hid (fun wz hz => hb4 ▸ sees_any wz lv s x u.xmax hz hn)
          rw [← hb4] at HE
          go_wp2_with fail
          refine (C4.out _ HL4).mono ?_
          rintro e w5 ⟨rfl, hb⟩
          have HB5 := Vl.hid (HB4.out.trans (hb.mono HB4.out.size))
          clear hb hb4
          cases b4
          · have HEQ : Hid (Ls = [u.xmax]) := Vl.hid (by rw [HE.out]; simp [h0, h3])
            clear h0 h3
            go_wp2_with fail
            go_ret
            exact ⟨_, rfl, by rw [HEQ.out]; exact Mm.one (Mm.newAt w5 _ rfl) HB5.out.size, HB5.out.alloc HB5.out.size _⟩
          · have HEQ : Hid (Ls = []) := Vl.hid (by rw [HE.out]; simp [h0, h3])
            clear h0 h3
            go_wp2_with fail
            go_ret
            exact ⟨_, rfl, by rw [HEQ.out]; exact Mm.Own.nil _ _ _, HB5.out⟩
end Go.Proofs.Ytoobljkjhpkghaa
