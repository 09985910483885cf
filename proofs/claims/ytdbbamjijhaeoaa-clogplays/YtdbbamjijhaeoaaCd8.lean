/- Same. -/
import Derived.Test.YtdbbamjijhaeoaaCd7
namespace Go.Proofs.Ytdbbamjijhaeoaa
open Go.RowKit

namespace Mm
/-- A transaction of the reference's in a box. -/
def S4 (w : World) (b : Nat) (t : Cg.Tx) : Prop := w.cell? ⟨b, 0, none⟩ = some (.int .i64 (t.st : Int)) ∧ w.cell? ⟨b, 1, none⟩ = some (.int .i64 (t.snap : Int)) ∧ w.cell? ⟨b, 2, none⟩ = some (.int .i64 (t.csn : Int)) ∧ w.cell? ⟨b, 3, none⟩ = some (.bool t.rd)
theorem S4.below {w w' : World} {b : Nat} {t : Cg.Tx} (h : S4 w b t) (hb : Below w.heap.size w w') : S4 w' b t := by
  obtain ⟨a, b, c, d⟩ := h
  exact ⟨(hb.cell (World.block_lt_of_cell? _ _ a)).trans a, (hb.cell (World.block_lt_of_cell? _ _ b)).trans b, (hb.cell (World.block_lt_of_cell? _ _ c)).trans c, (hb.cell (World.block_lt_of_cell? _ _ d)).trans d⟩
end Mm
theorem ints_len (la : List Int) (pa pb : Option Addr) (na nb ca cb : Nat) (w : World) (ha : Hid (Mm.IIn w pa la)) (hb : Hid (Mm.IIn w pb la)) (h1 : Hid (na = la.length)) (h2 : Hid (nb = la.length)) (hn : la.length ≤ 1000000) :
    Calls Try.prog 30 #[.slice pa na ca, .slice pb nb cb] w fun e w' => e = .returned (.bool true) ∧ Below w.heap.size w w' := by
  rw [h1.out, h2.out]
  refine (ints_any la la pa pb ca cb w ha hb hn).mono ?_
  rintro e w' ⟨rfl, hb⟩
  exact ⟨by rw [decide_eq_true rfl], hb⟩

set_option maxRecDepth 100000 in
set_option maxHeartbeats 8000000 in
theorem same_any (w : World) (p q : Nat) (s : Cg.S) (hl : Hid (Mm.Lg w p s)) (hr : Hid (Mm.Rl w q s)) (hi : Hid (Cg.Inv s)) :
    Calls Try.prog 11 #[.pointer (some ⟨p, 0, none⟩), .pointer (some ⟨q, 0, none⟩)] w fun e w' => e = .returned (.bool true) ∧ Below w.heap.size w w' := by
  have hn := hi.out.le
  have HV : Hid (Mm.Lv w (.pointer (some ⟨p, 0, none⟩)) s) := Mm.hid (Or.inl ⟨p, rfl, hl.out⟩)
  obtain ⟨pr, c, c0, hc, hat⟩ := hr.out.look
  obtain ⟨N, hN⟩ : ∃ N, N = s.n := ⟨_, rfl⟩
  rw [← hN] at c0 hc
  have hn' : N ≤ 200 := by omega
  have HN := Mm.hid hN
  have HC0 := Mm.hid c0
  have HQL := Mm.hid hr.out.lt
  clear hat hN c0
  go_enter Try.func11, Try.ntmps11
  go_wp2_with fail
  go_loopw [5] (fun vx wq => ∃ j : Nat, j ≤ N + 3 ∧ vx = .int .i64 ((j : Int) - 1) ∧ Hid (Below w.heap.size w wq)) (fun vx _ => ((N : Int) + 2 - RowKit.intOf vx).toNat)
  case atStart => exact ⟨0, by omega, rfl, Mm.hid (Below.refl _ _)⟩
  case round =>
    obtain ⟨j, hj, rfl, HB⟩ := hrel
    rename World => wq
    have HVq := Mm.hid (HV.out.below HB.out)
    have HRq := Mm.hid (hr.out.below HB.out)
    have c1 : wq.cell? ⟨q, 0, none⟩ = some (.slice pr N c) := (HB.out.cell (p := ⟨q, 0, none⟩) HQL.out).trans HC0.out
    by_cases hjm : j ≤ N + 2
    · have g1 : (j : Int) - 1 ≤ (N : Int) + 1 := by omega
      go_wp2_with fail
      refine (refGet_any wq q s ((j : Int) - 1) HRq hn).mono ?_
      rintro e w2 ⟨rfl, hb⟩
      obtain ⟨t, ht⟩ : ∃ t, Cg.gt s ((j : Int) - 1) = t := ⟨_, rfl⟩
      rw [ht]
      have HT := Mm.hid ht
      have HB2 := Mm.hid (HB.out.trans (hb.mono HB.out.size))
      clear hb ht c1
      have g2 : ((t.st : Int) != (t.st : Int)) = false := by simp
      have g3 : ((t.csn : Int) != (t.csn : Int)) = false := by simp
      have g4 : ((t.snap : Int) != (t.snap : Int)) = false := by simp
      have g5 : (t.rd != t.rd) = false := by simp
      go_wp2_with fail
      obtain ⟨B, hB⟩ : ∃ B, w2.heap.size = B := ⟨_, rfl⟩
      obtain ⟨W, hW⟩ : ∃ W, w2.alloc (.cells #[.int .i64 (t.st : Int), .int .i64 (t.snap : Int), .int .i64 (t.csn : Int), .bool t.rd] 61) = W := ⟨_, rfl⟩
      have hS : Mm.S4 W B t := by rw [← hW, ← hB]; exact ⟨Mm.cellOf (Mm.newAt _ _ rfl) rfl, Mm.cellOf (Mm.newAt _ _ rfl) rfl, Mm.cellOf (Mm.newAt _ _ rfl) rfl, Mm.cellOf (Mm.newAt _ _ rfl) rfl⟩
      have hBW : Below w.heap.size w W := by rw [← hW]; exact HB2.out.alloc HB2.out.size _
      rw [hW, hB]
      have HBW0 : Hid (Below w.heap.size w W.drew) := Mm.hid hBW.drew
      have HSW0 : Hid (Mm.S4 W.drew B t) := Mm.hid (hS.below (Below.refl _ _).drew)
      have HVW0 : Hid (Mm.Lv W.drew (.pointer (some ⟨p, 0, none⟩)) s) := Mm.hid (HV.out.below hBW.drew)
      clear hS hBW hW hB HB2
      go_region_held3 (fun w' => w'.cell? ⟨B, 0, none⟩ = some (.int .i64 (t.st : Int)) ∧ w'.cell? ⟨B, 1, none⟩ = some (.int .i64 (t.snap : Int)) ∧ w'.cell? ⟨B, 2, none⟩ = some (.int .i64 (t.csn : Int)) ∧ w'.cell? ⟨B, 3, none⟩ = some (.bool t.rd)) (first | exact HSw8.out | exact HSw7.out | exact HSw6.out | exact HSw5.out | exact HSW0.out) ((first
        | (go_at_call 20
           refine (state_any _ _ s ((j : Int) - 1) HVW0 hn).mono ?_
           rintro e w5 ⟨rfl, hb⟩
           rw [HT.out]
           have HVw5 := Mm.hid (HVW0.out.below hb)
           have HBw5 := Mm.hid (HBW0.out.trans (hb.mono HBW0.out.size))
           have HSw5 := Mm.hid (HSW0.out.below hb)
           clear hb)
        | (go_at_call 23
           refine (csn_any _ _ s ((j : Int) - 1) HVw5 hn).mono ?_
           rintro e w6 ⟨rfl, hb⟩
           rw [HT.out]
           have HVw6 := Mm.hid (HVw5.out.below hb)
           have HBw6 := Mm.hid (HBw5.out.trans (hb.mono HBw5.out.size))
           have HSw6 := Mm.hid (HSw5.out.below hb)
           clear hb)
        | (go_at_call 19
           refine (snapshot_any _ _ s ((j : Int) - 1) HVw6 hn).mono ?_
           rintro e w7 ⟨rfl, hb⟩
           rw [HT.out]
           have HVw7 := Mm.hid (HVw6.out.below hb)
           have HBw7 := Mm.hid (HBw6.out.trans (hb.mono HBw6.out.size))
           have HSw7 := Mm.hid (HSw6.out.below hb)
           clear hb)
        | (go_at_call 24
           refine (reads_any _ _ s ((j : Int) - 1) HVw7 hn).mono ?_
           rintro e w8 ⟨rfl, hb⟩
           rw [HT.out]
           have HVw8 := Mm.hid (HVw7.out.below hb)
           have HBw8 := Mm.hid (HBw7.out.trans (hb.mono HBw7.out.size))
           have HSw8 := Mm.hid (HSw7.out.below hb)
           clear hb)))
      all_goals
        go_wp2_with fail
        exact ⟨⟨j + 1, by omega, by go_num, HBw8⟩, by simp [RowKit.intOf]; omega⟩
    · obtain rfl : j = N + 3 := by omega
      have g1 : ¬ (((N + 3 : Nat) : Int) - 1 ≤ (N : Int) + 1) := by omega
      go_wp2_with fail
      have HVW0 : Hid (Mm.Lv wq.drew (.pointer (some ⟨p, 0, none⟩)) s) := Mm.hid (HVq.out.below (Below.refl _ _).drew)
      have HRW0 : Hid (Mm.Rl wq.drew q s) := Mm.hid HRq.out.drew
      have HBW0 : Hid (Below w.heap.size w wq.drew) := Mm.hid HB.out.drew
      have HK : Hid (∀ w', Mm.Rl w' q s → w'.cell? ⟨q, 1, none⟩ = some (.int .i64 (s.clk : Int))) := Mm.hid (fun w' h => h.clkAt)
      have g2 : ((Cg.horizon s : Int) == (Cg.horizon s : Int)) = true := by simp
      have g3 : ((s.clk : Int) == (s.clk : Int)) = true := by simp
      have HRL : Hid (((Cg.running s).map (fun n : Nat => (n : Int))).length ≤ 1000000) := Mm.hid (by rw [List.length_map]; have := Cg.runs_len s.f s.n; unfold Cg.running; omega)
      clear HB HVq HRq c1
      go_region_held3 (fun w' => w'.cell? ⟨q, 1, none⟩ = some (.int .i64 (s.clk : Int))) (first | (with_reducible exact HK.out _ HRw10.out) | (with_reducible exact HK.out _ HRw9.out) | (with_reducible exact HK.out _ HRw8.out) | (with_reducible exact HK.out _ HRw7.out) | (with_reducible exact HK.out _ HRw6.out) | (with_reducible exact HK.out _ HRw5.out) | (with_reducible exact HK.out _ HRW0.out)) ((first
        | (go_at_call 22
           refine (running_any _ _ s HVW0 hi).mono ?_
           rintro e w5 ⟨v5, rfl, ho, hb⟩
           obtain ⟨q5, c5, hsh, hin⟩ := ho.nin
           obtain ⟨n5, hn5⟩ : ∃ n5, n5 = ((Cg.running s).map (fun n : Nat => (n : Int))).length := ⟨_, rfl⟩
           rw [← hn5] at hsh
           subst hsh
           have HNL5 := Mm.hid hn5
           have HI5 := Mm.hid hin
           clear hn5
           have HVw5 := Mm.hid (HVW0.out.below hb)
           have HRw5 := Mm.hid (HRW0.out.below hb)
           have HBw5 := Mm.hid (HBW0.out.trans (hb.mono HBW0.out.size))
           clear hb ho hin)
        | (go_at_call 31
           refine (refRunning_any _ q s HRw5 hn).mono ?_
           rintro e w6 ⟨v6, rfl, ho, hb⟩
           obtain ⟨q6, c6, hsh, hin⟩ := ho.nin
           obtain ⟨n6, hn6⟩ : ∃ n6, n6 = ((Cg.running s).map (fun n : Nat => (n : Int))).length := ⟨_, rfl⟩
           rw [← hn6] at hsh
           subst hsh
           have HNL6 := Mm.hid hn6
           have HI6 := Mm.hid hin
           clear hn6
           have HI56 := Mm.hid (HI5.out.below hb)
           have HVw6 := Mm.hid (HVw5.out.below hb)
           have HRw6 := Mm.hid (HRw5.out.below hb)
           have HBw6 := Mm.hid (HBw5.out.trans (hb.mono HBw5.out.size))
           clear hb ho hin)
        | (go_at_call 30
           refine (ints_len _ q5 q6 n5 n6 c5 c6 _ HI56 HI6 HNL5 HNL6 HRL.out).mono ?_
           rintro e w7 ⟨rfl, hb⟩
           have HVw7 := Mm.hid (HVw6.out.below hb)
           have HRw7 := Mm.hid (HRw6.out.below hb)
           have HBw7 := Mm.hid (HBw6.out.trans (hb.mono HBw6.out.size))
           clear hb)
        | (go_at_call 25
           refine (horizon_any _ _ s HVw7 hi).mono ?_
           rintro e w8 ⟨rfl, hb⟩
           have HVw8 := Mm.hid (HVw7.out.below hb)
           have HRw8 := Mm.hid (HRw7.out.below hb)
           have HBw8 := Mm.hid (HBw7.out.trans (hb.mono HBw7.out.size))
           clear hb)
        | (go_at_call 32
           refine (refHorizon_any _ q s HRw8 hi).mono ?_
           rintro e w9 ⟨rfl, hb⟩
           have HVw9 := Mm.hid (HVw8.out.below hb)
           have HRw9 := Mm.hid (HRw8.out.below hb)
           have HBw9 := Mm.hid (HBw8.out.trans (hb.mono HBw8.out.size))
           clear hb)
        | (go_at_call 21
           refine (clock_any _ _ s HVw9).mono ?_
           rintro e w10 ⟨rfl, hb⟩
           have HRw10 := Mm.hid (HRw9.out.below hb)
           have HBw10 := Mm.hid (HBw9.out.trans (hb.mono HBw9.out.size))
           clear hb)))
      all_goals
        go_wp2_with fail
        go_ret
        exact ⟨rfl, HBw10.out⟩
end Go.Proofs.Ytdbbamjijhaeoaa
