/- New. -/
import Derived.Test.YtjnaafgiokdcbaaLb0
namespace Go.Proofs.Ytjnaafgiokdcbaa
open Go.RowKit

namespace Lf
def S0 (fan : Nat) : S := ⟨fan, 1, [⟨1, ⟨#[]⟩, []⟩], 0⟩
theorem inv0 {fan : Nat} (h1 : 2 ≤ fan) (h2 : fan ≤ 64) : Inv (S0 fan) :=
  ⟨h1, h2, List.pairwise_singleton _ _, (by intro P hP; rw [List.mem_singleton.1 hP]; exact ⟨Nat.le_refl _, Nat.le_refl _⟩), ⟨_, _, rfl, rfl⟩, List.pairwise_singleton _ _, (by intro P hP; rw [List.mem_singleton.1 hP]; exact ⟨List.Pairwise.nil, (fun k hk => nomatch hk), Nat.zero_le _⟩), fun _ _ _ => rfl, rfl, Nat.le_refl _⟩
def tag0 (n : Nat) : Nat → Option Tg := fun b => if b = n then some (.pg 1) else if b = n + 1 then some .row else if b = n + 2 then some .hd else none
def W0 (w : World) (fan : Nat) : World := ((w.alloc (.cells #[.int .i64 1, .string ⟨#[]⟩, .slice none 0 0] 63)).alloc (.cells #[.pointer (some ⟨w.heap.size, 0, none⟩)] 61)).alloc (.cells #[.int .i64 (fan : Int), .slice (some ⟨w.heap.size + 1, 0, none⟩) 1 1, .int .i64 1, .int .i64 0] 66)
theorem mem0 (w : World) (fan : Nat) : Mem w.heap.size (W0 w fan) (tag0 w.heap.size) (w.heap.size + 2) (S0 fan) (fun _ => w.heap.size) (fun _ => .slice none 0 0) (.slice (some ⟨w.heap.size + 1, 0, none⟩) 1 1) := by
  have hb0 : (W0 w fan).heap[w.heap.size]? = some (.cells #[.int .i64 1, .string ⟨#[]⟩, .slice none 0 0] 63 (0, 0)) := by
    unfold W0
    rw [Mm.oldAt _ _ (by simp; omega), Mm.oldAt _ _ (by simp), Mm.newAt w _ rfl]
  have hb1 : (W0 w fan).heap[w.heap.size + 1]? = some (.cells #[.pointer (some ⟨w.heap.size, 0, none⟩)] 61 (0, 0)) := by
    unfold W0
    rw [Mm.oldAt _ _ (by simp), Mm.newAt _ _ (by simp)]
  have hb2 : (W0 w fan).heap[w.heap.size + 2]? = some (.cells #[.int .i64 (fan : Int), .slice (some ⟨w.heap.size + 1, 0, none⟩) 1 1, .int .i64 1, .int .i64 0] 66 (0, 0)) := by
    unfold W0
    rw [Mm.newAt _ _ (by simp)]
  refine ⟨hb2, ?_, fun b hb => ?_, fun b hb => ?_, ?_, fun g hg => ?_, fun P hP => ?_⟩
  · unfold tag0; rw [if_neg (by omega), if_neg (by omega), if_pos rfl]
  · have hb' : w.heap.size + 3 ≤ b := by simpa [W0] using hb
    unfold tag0; rw [if_neg (by omega), if_neg (by omega), if_neg (by omega)]
  · unfold tag0; rw [if_neg (by omega), if_neg (by omega), if_neg (by omega)]
  · exact Mm.Own.mk hb1 (Nat.le_succ _) rfl (by unfold maxLen; omega) rfl (Nat.le_refl _) rfl
  · have hg' : some (w.heap.size + 1) = some g := hg
    rw [← Option.some.inj hg']
    unfold tag0; rw [if_neg (by omega), if_pos rfl]
  · have e : P = ⟨1, ⟨#[]⟩, []⟩ := List.mem_singleton.1 hP
    rw [e]
    exact ⟨hb0, by unfold tag0; rw [if_pos rfl], Mm.Own.nil _ _ _, (fun g hg => nomatch hg)⟩
theorem bel0 (w : World) (fan : Nat) : Below w.heap.size w (W0 w fan) := ((((Below.refl _ w).alloc (Nat.le_refl _) _).alloc (by simp) _).alloc (by simp; omega) _)
end Lf

set_option maxRecDepth 100000 in
set_option maxHeartbeats 2000000 in
theorem new_any (fan : Nat) (h1 : 2 ≤ fan) (h2 : fan ≤ 64) (w : World) : Calls Try.prog 4 #[.int .i64 (fan : Int)] w fun e w' => e = .returned (.tuple #[.pointer (some ⟨w.heap.size + 2, 0, none⟩), .int .i64 0]) ∧ w' = Lf.W0 w fan := by
  have g1 : ¬ ((fan : Int) < 2) := by omega
  have g2 : ¬ ((64 : Int) < (fan : Int)) := by omega
  go_enter Try.func4, Try.ntmps4
  go_wp2_with fail
  go_ret2
  exact ⟨rfl, rfl⟩

set_option maxRecDepth 100000 in
set_option maxHeartbeats 2000000 in
theorem new_err (fan : Int) (h : fan < 2 ∨ 64 < fan) (w : World) : Calls Try.prog 4 #[.int .i64 fan] w fun e w' => e = .returned (.tuple #[.pointer none, .int .i64 1]) ∧ w' = w := by
  by_cases g1 : fan < 2
  · clear h
    go_enter Try.func4, Try.ntmps4
    go_wp2_with fail
    go_ret2
    exact ⟨rfl, rfl⟩
  · have g2 : 64 < fan := by omega
    clear h
    go_enter Try.func4, Try.ntmps4
    go_wp2_with fail
    go_ret2
    exact ⟨rfl, rfl⟩

end Go.Proofs.Ytjnaafgiokdcbaa
