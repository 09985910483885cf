/- Running, Horizon. -/
import Derived.Test.YtoobljkjhpkghaaCa5
namespace Go.Proofs.Ytoobljkjhpkghaa
open Go.RowKit

namespace Cg
theorem runs_len (f : Nat → Tx) : ∀ n, (runs f n).length ≤ n
  | 0 => Nat.le_refl _
  | n + 1 => by
    have := runs_len f n
    simp only [runs, List.length_append]
    split <;> simp <;> omega
theorem runs_in (f : Nat → Tx) : ∀ n, ∀ k ∈ runs f n, 1 ≤ k ∧ k ≤ n ∧ (f k).st = 1
  | 0, k, h => by simp [runs] at h
  | n + 1, k, h => by
    simp only [runs, List.mem_append] at h
    rcases h with h | h
    · have := runs_in f n k h; exact ⟨this.1, by omega, this.2.2⟩
    · split at h
      · rename_i c
        simp at h
        subst h
        exact ⟨by omega, Nat.le_refl _, c⟩
      · simp at h
end Cg

set_option maxRecDepth 100000 in
set_option maxHeartbeats 2000000 in
theorem running_any (w : World) (v : Value) (s : Cg.S) (h : Hid (Mm.Lv w v s)) (hi : Hid (Cg.Inv s)) :
    Calls Try.prog 30 #[v] w fun e w' => ∃ v', e = .returned v' ∧ Mm.Own w' w.heap.size 3 v' (Mm.nts (Cg.running s)) ∧ Below w.heap.size w w' := by
  rcases h.out with ⟨p, rfl, hl⟩ | ⟨rfl, rfl⟩
  · have hn := hi.out.le
    have HL := Mm.hid hl
    have c1 := hl.nAt
    have hlt := hl.lt
    obtain ⟨N, hN⟩ : ∃ N, N = s.n := ⟨_, rfl⟩
    rw [← hN] at c1 hn
    have HN := Mm.hid hN
    have g1 : (0 : Int) ≤ (N : Int) + 1 := by omega
    have g2 : (N : Int) + 1 ≤ 201 := by omega
    clear hN hl
    go_enter Try.func30, Try.ntmps30
    go_wp2_with fail
    go_region
    go_wp2_with fail
    go_loopw [3, 18] (fun vo vi wq => ∃ j : Nat, j ≤ N + 1 ∧ vi = .int .i64 (j : Int) ∧ Hid (Mm.Own wq w.heap.size 3 vo (Mm.nts (Cg.runs s.f (j - 1)))) ∧ Hid (Below w.heap.size w wq)) (fun vo vi _ => N + 1 - (RowKit.intOf vi).toNat)
    case atStart => exact ⟨0, by omega, rfl, Mm.hid (Mm.Own.nil _ _ _), Mm.hid (Below.refl _ _).drew⟩
    case round =>
      obtain ⟨j, hj, rfl, HO, HB⟩ := hrel
      rename World => wq
      obtain ⟨q, c, hsh, -, -, -, -⟩ := HO.out.shape
      obtain ⟨L, hL⟩ : ∃ L, L = (Mm.nts (Cg.runs s.f (j - 1))).length := ⟨_, rfl⟩
      rw [← hL] at hsh
      subst hsh
      have HLen := Mm.hid hL
      have hsz := HB.out.size
      clear hL
      by_cases hjm : j < N + 1
      · have HLq := Mm.hid (HL.out.below HB.out)
        obtain ⟨d0, d1, d2, d3⟩ := HLq.out.at (i := j) (by omega)
        have k1 : (j : Int) < (N : Int) + 1 := by omega
        have k2 : (0 : Int) ≤ (j : Int) := by omega
        have hpl := HLq.out.lt
        obtain ⟨t, ht⟩ : ∃ t, s.f j = t := ⟨_, rfl⟩
        rw [ht] at d0 d1 d2 d3
        have HT := Mm.hid ht
        clear ht
        have HO2 : Hid (Mm.Own (wq.alloc (.cells #[.int .i64 (t.st : Int), .int .i64 (t.csn : Int), .int .i64 (t.snap : Int), .bool t.rd] 88)) w.heap.size 3 (.slice q L c) (Mm.nts (Cg.runs s.f (j - 1)))) := Mm.hid (HO.out.below ((Below.refl _ _).alloc (Nat.le_refl _) _))
        have HB2 : Hid (Below w.heap.size w (wq.alloc (.cells #[.int .i64 (t.st : Int), .int .i64 (t.csn : Int), .int .i64 (t.snap : Int), .bool t.rd] 88))) := Mm.hid (HB.out.alloc hsz _)
        by_cases hst : t.st = 1
        · have g5 : ((t.st : Int) == 1) = true := by simp; omega
          have HE : Hid (Cg.runs s.f j = Cg.runs s.f (j - 1) ++ [j]) := Mm.hid (by
            cases j with
            | zero => exfalso; rw [hi.out.off 0 (Or.inl rfl)] at HT; have := HT.out; subst this; exact absurd hst (by decide)
            | succ j => show Cg.runs s.f j ++ (if (s.f (j + 1)).st = 1 then [j + 1] else []) = _; rw [HT.out, if_pos hst]; rfl)
          have HC : Hid ((Mm.nts (Cg.runs s.f (j - 1))).length < 1000000) := Mm.hid (by rw [Mm.nts_len]; have := Cg.runs_len s.f (j - 1); omega)
          clear hst
          go_wp2_with (at_builtin; first
            | (refine Mm.appI (wq.alloc (.cells #[.int .i64 (t.st : Int), .int .i64 (t.csn : Int), .int .i64 (t.snap : Int), .bool t.rd] 88)) rfl _ _ rfl w.heap.size (.slice q L c) (j : Int) (Mm.nts (Cg.runs s.f (j - 1))) rfl HO2.out _ rfl (by simp) HC.out HB2.out.size ?_
               intro v3 w3 hown3 hg3 hloc3
               have HO3 : Hid (Mm.Own w3 w.heap.size 3 v3 (Mm.nts (Cg.runs s.f j))) := Mm.hid (by rw [HE.out, Mm.nts_app]; exact hown3)
               have HB3 : Hid (Below w.heap.size w w3) := Mm.hid (HB2.out.grown hg3 HB2.out.size (fun g e => (HO2.out.lt e).2))
               clear hown3 hg3 hloc3))
          exact ⟨⟨j + 1, by omega, by go_num, HO3, HB3⟩, by simp [RowKit.intOf]; omega⟩
        · have g5 : ((t.st : Int) == 1) = false := by simp; omega
          have HE : Hid (Cg.runs s.f j = Cg.runs s.f (j - 1)) := Mm.hid (by
            cases j with
            | zero => rfl
            | succ j => show Cg.runs s.f j ++ (if (s.f (j + 1)).st = 1 then [j + 1] else []) = _; rw [HT.out, if_neg hst, List.append_nil]; rfl)
          clear hst
          go_wp2_with fail
          exact ⟨⟨j + 1, by omega, by go_num, Mm.hid (by show Mm.Own _ _ _ _ (Mm.nts (Cg.runs s.f j)); rw [HE.out]; exact HO2.out), HB2⟩, by simp [RowKit.intOf]; omega⟩
      · obtain rfl : j = N + 1 := by omega
        go_wp2_with fail
        go_ret
        exact ⟨_, rfl, by unfold Cg.running; rw [← HN.out]; exact HO.out, HB.out⟩
  · go_enter Try.func30, Try.ntmps30
    go_wp2_with fail
    go_ret
    exact ⟨_, rfl, Mm.Own.nil _ _ _, Below.refl _ _⟩

namespace Cg
theorem horizon_nil {s : S} (h : running s = []) : horizon s = s.clk := by unfold horizon; rw [h]
theorem horizon_cons {s : S} {k : Nat} {l : List Nat} (h : running s = k :: l) : horizon s = (s.f k).snap := by unfold horizon; rw [h]
end Cg

set_option maxRecDepth 100000 in
set_option maxHeartbeats 2000000 in
theorem horizon_any (w : World) (v : Value) (s : Cg.S) (h : Hid (Mm.Lv w v s)) (hi : Hid (Cg.Inv s)) :
    Calls Try.prog 70 #[v] w fun e w' => e = .returned (.int .i64 (Cg.horizon s : Int)) ∧ Below w.heap.size w w' := by
  go_enter Try.func70, Try.ntmps70
  go_wp2_with fail
  refine (running_any w v s h hi).mono ?_
  rintro e w1 ⟨vr, rfl, ho, hb⟩
  obtain ⟨q, c, hsh, -, -, -, -⟩ := ho.shape
  have HB := Mm.hid hb
  have HV := Mm.hid (h.out.below hb)
  obtain ⟨L, hL⟩ : ∃ L, L = (Mm.nts (Cg.running s)).length := ⟨_, rfl⟩
  rw [← hL] at hsh
  subst hsh
  cases hr : Cg.running s with
  | nil =>
    rw [hr] at hL
    have hL0 : L = 0 := hL
    subst hL0
    have HH := Mm.hid (Cg.horizon_nil hr)
    clear hL hr hb ho
    go_wp2_with fail
    refine (clock_any w1 v s HV).mono ?_
    rintro e w2 ⟨rfl, hb⟩
    have HB2 := Mm.hid (HB.out.trans (hb.mono HB.out.size))
    clear hb
    go_wp2_with fail
    go_ret
    exact ⟨by rw [HH.out]; rfl, HB2.out⟩
  | cons k l =>
    have HH := Mm.hid (Cg.horizon_cons hr)
    have hk := Cg.runs_in s.f s.n k (by have := hr; unfold Cg.running at this; rw [this]; exact List.mem_cons_self ..)
    have HG := Mm.hid (Cg.gt_in hk.1 hk.2.1)
    have hn := hi.out.le
    obtain ⟨g, c', e1, -, e3, -, -⟩ := ho.at (i := 0) (u := .int .i64 (k : Int)) (by rw [hr]; rfl)
    injection e1 with e1 e2 e4
    subst e1 e4
    have g1 : ((L : Int) == 0) = false := by rw [hr] at hL; simp at hL; simp; omega
    have g2 : (0 : Int) < (L : Int) := by rw [hr] at hL; simp at hL; omega
    have g3 : 0 < L := by omega
    clear hL hr hb ho hk e2
    go_wp2_with fail
    refine (snapshot_any w1 v s (k : Int) HV hn).mono ?_
    rintro e w2 ⟨rfl, hb⟩
    have HB2 := Mm.hid (HB.out.trans (hb.mono HB.out.size))
    clear hb
    go_wp2_with fail
    go_ret
    exact ⟨by rw [HH.out, HG.out]; rfl, HB2.out⟩
end Go.Proofs.Ytoobljkjhpkghaa
