/- The reference's Running, Horizon; two rows of numbers compared. -/
import Derived.Test.YtdbbamjijhaeoaaCd1
namespace Go.Proofs.Ytdbbamjijhaeoaa
open Go.RowKit

set_option maxRecDepth 100000 in
set_option maxHeartbeats 2000000 in
theorem refRunning_any (w : World) (q : Nat) (s : Cg.S) (h : Hid (Mm.Rl w q s)) (hn : s.n ≤ 200) :
    Calls Try.prog 31 #[.pointer (some ⟨q, 0, none⟩)] w fun e w' => ∃ v', e = .returned v' ∧ Mm.Own w' w.heap.size 3 v' (Mm.nts (Cg.running s)) ∧ Below w.heap.size w w' := by
  obtain ⟨p, c, c0, hc, hat⟩ := h.out.look
  obtain ⟨N, hN⟩ : ∃ N, N = s.n := ⟨_, rfl⟩
  rw [← hN] at c0 hc hn
  have HN := Mm.hid hN
  have HC0 := Mm.hid c0
  have hlt := h.out.lt
  clear hat hN c0
  go_enter Try.func31, Try.ntmps31
  go_wp2_with fail
  go_loopw [3, 4] (fun vo vi wq => ∃ j : Nat, j ≤ N ∧ vi = .int .i64 (j : Int) ∧ Hid (Mm.Own wq w.heap.size 3 vo (Mm.nts (Cg.runs s.f j))) ∧ Hid (Below w.heap.size w wq)) (fun vo vi _ => N - (RowKit.intOf vi).toNat)
  case atStart => exact ⟨0, by omega, rfl, Mm.hid (Mm.Own.nil _ _ _), Mm.hid (Below.refl _ _)⟩
  case round =>
    obtain ⟨j, hj, rfl, HO, HB⟩ := hrel
    rename World => wq
    obtain ⟨q2, c2, hsh, -, -, -, -⟩ := HO.out.shape
    obtain ⟨L, hL⟩ : ∃ L, L = (Mm.nts (Cg.runs s.f j)).length := ⟨_, rfl⟩
    rw [← hL] at hsh
    subst hsh
    have HLen := Mm.hid hL
    have hsz := HB.out.size
    clear hL
    have HLq := Mm.hid (h.out.below HB.out)
    have c1 : wq.cell? ⟨q, 0, none⟩ = some (.slice p N c) := (HB.out.cell (p := ⟨q, 0, none⟩) hlt).trans HC0.out
    by_cases hjm : j < N
    · obtain ⟨p', c', c0', -, hat⟩ := HLq.out.look
      have he : (Value.slice p N c) = .slice p' s.n c' := by rw [c1] at c0'; injection c0'
      injection he with he1 he2 he3
      subst he1
      obtain ⟨g, rfl, hqg, -, -, d0, -, -, -⟩ := hat j (by rw [← HN.out]; exact hjm)
      obtain ⟨t, ht⟩ : ∃ t, s.f (j + 1) = t := ⟨_, rfl⟩
      rw [ht] at d0
      have HT := Mm.hid ht
      have k1 : (j : Int) < (N : Int) := by omega
      have k2 : (0 : Int) ≤ (j : Int) := by omega
      clear hat he2 he3 c0' ht
      by_cases hst : t.st = 1
      · have g5 : ((t.st : Int) == 1) = true := by simp; omega
        have HE : Hid (Cg.runs s.f (j + 1) = Cg.runs s.f j ++ [j + 1]) := Mm.hid (by show Cg.runs s.f j ++ (if (s.f (j + 1)).st = 1 then [j + 1] else []) = _; rw [HT.out, if_pos hst])
        have HC : Hid ((Mm.nts (Cg.runs s.f j)).length < 1000000) := Mm.hid (by rw [Mm.nts_len]; have := Cg.runs_len s.f j; omega)
        clear hst
        go_wp2_with (at_builtin; first
          | (refine Mm.appI wq rfl _ _ rfl w.heap.size (.slice q2 L c2) ((j : Int) + 1) (Mm.nts (Cg.runs s.f j)) rfl HO.out _ rfl (by simp) HC.out hsz ?_
             intro v3 w3 hown3 hg3 hloc3
             have HO3 : Hid (Mm.Own w3 w.heap.size 3 v3 (Mm.nts (Cg.runs s.f (j + 1)))) := Mm.hid (by rw [HE.out, Mm.nts_app]; exact hown3)
             have HB3 : Hid (Below w.heap.size w w3) := Mm.hid (HB.out.grown hg3 HB.out.size (fun g e => (HO.out.lt e).2))
             clear hown3 hg3 hloc3))
        exact ⟨⟨j + 1, by omega, by go_num, HO3, HB3⟩, by simp [RowKit.intOf]; omega⟩
      · have g5 : ((t.st : Int) == 1) = false := by simp; omega
        have HE : Hid (Cg.runs s.f (j + 1) = Cg.runs s.f j) := Mm.hid (by show Cg.runs s.f j ++ (if (s.f (j + 1)).st = 1 then [j + 1] else []) = _; rw [HT.out, if_neg hst, List.append_nil])
        clear hst
        go_wp2_with fail
        exact ⟨⟨j + 1, by omega, by go_num, Mm.hid (by rw [HE.out]; exact HO.out), HB⟩, by simp [RowKit.intOf]; omega⟩
    · obtain rfl : j = N := by omega
      go_wp2_with fail
      go_ret
      exact ⟨_, rfl, by unfold Cg.running; rw [← HN.out]; exact HO.out, HB.out⟩

namespace Cg
/-- The least snapshot of those that run, of the first ones, or the clock. -/
def hz (f : Nat → Tx) (clk : Nat) : Nat → Nat
  | 0 => clk
  | n + 1 => if (f (n + 1)).st = 1 then min (hz f clk n) (f (n + 1)).snap else hz f clk n
theorem hz_run {s : S} (h : Inv s) : ∀ n, n ≤ s.n → hz s.f s.clk n = match runs s.f n with
    | [] => s.clk
    | k :: _ => (s.f k).snap
  | 0, _ => rfl
  | n + 1, hn => by
    have ih := hz_run h n (by omega)
    simp only [hz, runs]
    split
    · cases hr : runs s.f n with
      | nil =>
        rw [hr] at ih
        rw [ih]
        have := h.snap (n + 1)
        simp only [List.nil_append]
        omega
      | cons k l =>
        rw [hr] at ih
        rw [ih]
        have hk := runs_in s.f n k (by rw [hr]; exact List.mem_cons_self ..)
        have := h.mono k (n + 1) hk.1 (by omega) hn
        simp only [List.cons_append]
        omega
    · rw [List.append_nil]; exact ih
theorem hz_horizon {s : S} (h : Inv s) : hz s.f s.clk s.n = horizon s := by
  rw [hz_run h s.n (Nat.le_refl _)]
  rfl
end Cg

set_option maxRecDepth 100000 in
set_option maxHeartbeats 2000000 in
theorem refHorizon_any (w : World) (q : Nat) (s : Cg.S) (h : Hid (Mm.Rl w q s)) (hi : Hid (Cg.Inv s)) :
    Calls Try.prog 32 #[.pointer (some ⟨q, 0, none⟩)] w fun e w' => e = .returned (.int .i64 (Cg.horizon s : Int)) ∧ Below w.heap.size w w' := by
  have hn := hi.out.le
  obtain ⟨p, c, c0, hc, hat⟩ := h.out.look
  obtain ⟨N, hN⟩ : ∃ N, N = s.n := ⟨_, rfl⟩
  rw [← hN] at c0 hc hn
  have HN := Mm.hid hN
  have HAT := Mm.hid hat
  have hlt := h.out.lt
  have c1 := h.out.clkAt
  clear hat hN
  go_enter Try.func32, Try.ntmps32
  go_wp2_with fail
  go_loopw [3, 4] (fun vh vi wq => ∃ j : Nat, j ≤ N ∧ vi = .int .i64 (j : Int) ∧ vh = .int .i64 (Cg.hz s.f s.clk j : Int) ∧ Hid (wq = w)) (fun _ vi _ => N - (RowKit.intOf vi).toNat)
  case atStart => exact ⟨0, by omega, rfl, rfl, Mm.hid rfl⟩
  case round =>
    obtain ⟨j, hj, rfl, rfl, HW⟩ := hrel
    have hw := HW.out.symm
    clear HW
    subst hw
    by_cases hjm : j < N
    · obtain ⟨g, rfl, hqg, -, -, d0, d1, -, -⟩ := HAT.out j (by rw [← HN.out]; exact hjm)
      obtain ⟨t, ht⟩ : ∃ t, s.f (j + 1) = t := ⟨_, rfl⟩
      rw [ht] at d0 d1
      have HT := Mm.hid ht
      have k1 : (j : Int) < (N : Int) := by omega
      have k2 : (0 : Int) ≤ (j : Int) := by omega
      obtain ⟨z, hz⟩ : ∃ z, Cg.hz s.f s.clk j = z := ⟨_, rfl⟩
      rw [hz]
      have HZ := Mm.hid hz
      clear ht hz
      by_cases hst : t.st = 1
      · have g5 : ((t.st : Int) == 1) = true := by simp; omega
        have HE : Hid (Cg.hz s.f s.clk (j + 1) = min z t.snap) := Mm.hid (by simp only [Cg.hz]; rw [HT.out, if_pos hst, HZ.out])
        clear hst
        go_wp2_with fail
        exact ⟨⟨j + 1, by omega, by go_num, by rw [HE.out]; congr 1; split <;> omega, Mm.hid trivial⟩, by simp [RowKit.intOf]; omega⟩
      · have g5 : ((t.st : Int) == 1) = false := by simp; omega
        have HE : Hid (Cg.hz s.f s.clk (j + 1) = z) := Mm.hid (by simp only [Cg.hz]; rw [HT.out, if_neg hst, HZ.out])
        clear hst
        go_wp2_with fail
        exact ⟨⟨j + 1, by omega, by go_num, by rw [HE.out], Mm.hid trivial⟩, by simp [RowKit.intOf]; omega⟩
    · obtain rfl : j = N := by omega
      go_wp2_with fail
      go_ret
      exact ⟨by rw [HN.out, Cg.hz_horizon hi.out]; rfl, Below.refl _ _⟩
end Go.Proofs.Ytdbbamjijhaeoaa
