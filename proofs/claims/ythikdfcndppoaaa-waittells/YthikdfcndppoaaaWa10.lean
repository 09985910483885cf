/- newWalk walked. -/
import Derived.Test.YthikdfcndppoaaaWa9
namespace Go.Proofs.Ythikdfcndppoaaa
open Go.RowKit

namespace Mm
theorem runMk (w : World) (n : Nat) (hn : n < 1000000) : (Instr.makeSlice 28 (.int .i64 (n : Int)) (.int .i64 (n : Int))).run Try.prog w = .ok (.slice (some ⟨w.heap.size, 0, none⟩) n n) (w.alloc (.cells (madeCells #[.int .i64 0] n) 3)) := by
  obtain ⟨i, h1, h2, h3, h4⟩ := int1
  have := run_make (P := Try.prog) w 28 3 i (.int .i64 0) Try.underlying28 h1 h2 .i64 .i64 (n : Int) (n : Int) (by omega) (Int.le_refl _) (by rw [h4]; omega) (by omega)
  simp only [Int.toNat_natCast, h3, Nat.mul_one] at this
  exact this
theorem fnc_zero (n : Nat) : fnc n (fun _ => 0) = List.replicate n (.int .i64 0) := by
  apply List.ext_getElem
  · simp
  · intro i h1 h2
    have := fnc_at (n := n) (i := i) (fun _ => 0) (by simpa using h1)
    rw [List.getElem?_eq_getElem h1] at this
    injection this with this
    rw [this]; simp
/-- A walk that was made. -/
theorem Wk.made (w W : World) (vN vE : Value) (ns : List Int) (s bn bl bg : Nat) (hs : s = w.heap.size) (hb : (bn = s + 1 ∨ bn = s + 2 ∨ bn = s + 3) ∧ (bl = s + 1 ∨ bl = s + 2 ∨ bl = s + 3) ∧ (bg = s + 1 ∨ bg = s + 2 ∨ bg = s + 3) ∧ bn ≠ bl ∧ bn ≠ bg ∧ bl ≠ bg) (hsz : W.heap.size = s + 5)
    (hn : ns.length < 100000) (h1 : W.heap[s + 1]? = some (.cells (madeCells #[.int .i64 0] ns.length) 3 (0, 0))) (h2 : W.heap[s + 2]? = some (.cells (madeCells #[.int .i64 0] ns.length) 3 (0, 0))) (h3 : W.heap[s + 3]? = some (.cells (madeCells #[.int .i64 0] ns.length) 3 (0, 0)))
    (h4 : W.heap[s + 4]? = some (.cells #[vN, vE, .slice (some ⟨bn, 0, none⟩) ns.length ns.length, .slice (some ⟨bl, 0, none⟩) ns.length ns.length, .slice (some ⟨bg, 0, none⟩) ns.length ns.length, .int .i64 0, .slice none 0 0, .slice none 0 0, .slice none 0 0] 42 (0, 0))) :
    Wk w.heap.size W (fun b => if b = s + 4 then some .p else if b = bn then some .num else if b = bl then some .low else if b = bg then some .gone else none) (s + 4) ns Tj.start ⟨vN, vE, .slice (some ⟨bn, 0, none⟩) ns.length ns.length, .slice (some ⟨bl, 0, none⟩) ns.length ns.length, .slice (some ⟨bg, 0, none⟩) ns.length ns.length, .slice none 0 0, .slice none 0 0, .slice none 0 0⟩ [] := by
  have hall : ∀ b, (b = s + 1 ∨ b = s + 2 ∨ b = s + 3) → Own W w.heap.size 3 (.slice (some ⟨b, 0, none⟩) ns.length ns.length) (fnc ns.length (fun _ => 0)) := fun b hb => by
    have hg : W.heap[b]? = some (.cells (madeCells #[.int .i64 0] ns.length) 3 (0, 0)) := by
      rcases hb with rfl | rfl | rfl
      · exact h1
      · exact h2
      · exact h3
    refine ⟨by simp, Or.inr ⟨b, ns.length, _, by rw [fnc_len], by omega, hg, by rw [fnc_len]; exact Nat.le_refl _, by unfold maxLen; omega, by rw [size_madeCells, Nat.mul_one], ?_⟩⟩
    rw [made1, fnc_zero, List.length_replicate, Nat.mul_one, List.take_of_length_le (by simp)]
  obtain ⟨k1, k2, k3, k4, k5, k6⟩ := hb
  refine ⟨h4, if_pos rfl, fun b hb => ?_, fun b hb => ?_, ⟨hall bn k1, fun g hg => ?_⟩, ⟨hall bl k2, fun g hg => ?_⟩, ⟨hall bg k3, fun g hg => ?_⟩, ⟨Own.nil _ _ _, fun _ e => nomatch e⟩, ⟨Own.nil _ _ _, fun _ e => nomatch e⟩, ⟨Own.nil _ _ _, fun _ e => nomatch e⟩, rfl, fun i v m h => by simp at h⟩
  · show (if b = s + 4 then _ else _) = none
    rw [if_neg (by omega), if_neg (by omega), if_neg (by omega), if_neg (by omega)]
  · show (if b = s + 4 then _ else _) = none
    rw [if_neg (by omega), if_neg (by omega), if_neg (by omega), if_neg (by omega)]
  · injection hg with hg
    have hg' : bn = g := hg
    show (if g = s + 4 then _ else _) = _
    rw [if_neg (by omega), if_pos hg'.symm]
  · injection hg with hg
    have hg' : bl = g := hg
    show (if g = s + 4 then _ else _) = _
    rw [if_neg (by omega), if_neg (by omega), if_pos hg'.symm]
  · injection hg with hg
    have hg' : bg = g := hg
    show (if g = s + 4 then _ else _) = _
    rw [if_neg (by omega), if_neg (by omega), if_neg (by omega), if_pos hg'.symm]
theorem five (w : World) (b C X : Obj) : (((((w.alloc b).alloc C).alloc C).alloc C).alloc X).heap[w.heap.size + 1]? = some C ∧ (((((w.alloc b).alloc C).alloc C).alloc C).alloc X).heap[w.heap.size + 2]? = some C ∧ (((((w.alloc b).alloc C).alloc C).alloc C).alloc X).heap[w.heap.size + 3]? = some C ∧ (((((w.alloc b).alloc C).alloc C).alloc C).alloc X).heap[w.heap.size + 4]? = some X ∧ (((((w.alloc b).alloc C).alloc C).alloc C).alloc X).heap.size = w.heap.size + 5 ∧ Below w.heap.size w (((((w.alloc b).alloc C).alloc C).alloc C).alloc X) := by
  refine ⟨?_, ?_, ?_, newAt _ _ (by simp), by simp, ((((((Below.refl _ _).alloc (Nat.le_refl _) _).alloc (by simp) _).alloc (by simp; omega) _).alloc (by simp; omega) _).alloc (by simp; omega) _)⟩
  · rw [oldAt _ _ (by simp), oldAt _ _ (by simp), oldAt _ _ (by simp)]
    exact newAt _ _ (by simp)
  · rw [oldAt _ _ (by simp), oldAt _ _ (by simp)]
    exact newAt _ _ (by simp)
  · rw [oldAt _ _ (by simp)]
    exact newAt _ _ (by simp)
end Mm

set_option maxRecDepth 100000 in
set_option maxHeartbeats 2000000 in
theorem newWalk_any (w : World) (g c gE : Nat) (ns : List Int) (hn1 : ns.length < 100000) :
    Calls Try.prog 16 #[.agg #[.slice (some ⟨g, 0, none⟩) ns.length c, .slice (some ⟨gE, 0, none⟩) ns.length ns.length]] w fun e w' => ∃ p tag z, e = .returned (.pointer (some ⟨p, 0, none⟩)) ∧ Mm.Wk w.heap.size w' tag p ns Tj.start z [] ∧ z.vN = .slice (some ⟨g, 0, none⟩) ns.length c ∧ z.vE = .slice (some ⟨gE, 0, none⟩) ns.length ns.length ∧ Below w.heap.size w w' := by
  have hmk : ∀ w' : World, (Instr.makeSlice 28 (.int .i64 (ns.length : Int)) (.int .i64 (ns.length : Int))).run Try.prog w' = .ok (.slice (some ⟨w'.heap.size, 0, none⟩) ns.length ns.length) (w'.alloc (.cells (madeCells #[.int .i64 0] ns.length) 3)) := fun w' => Mm.runMk w' ns.length (by omega)
  obtain ⟨MC, hMC⟩ : ∃ MC, MC = madeCells #[.int .i64 0] ns.length := ⟨_, rfl⟩
  rw [← hMC] at hmk
  have HMC := Mm.hid hMC
  clear hMC
  go_enter Try.func16, Try.ntmps16
  go_wp2_with fail
  go_region
  all_goals
    go_wp2
    go_ret
    have h5 := fun X => Mm.five w (.cells #[.slice (some ⟨g, 0, none⟩) ns.length c, .slice (some ⟨gE, 0, none⟩) ns.length ns.length] 39) (.cells MC 3) X
    rw [HMC.out] at h5
    rw [HMC.out]
    exact ⟨_, _, _, rfl, Mm.Wk.made w _ _ _ ns w.heap.size _ _ _ rfl (by omega) (h5 _).2.2.2.2.1 hn1 (h5 _).1 (h5 _).2.1 (h5 _).2.2.1 (h5 _).2.2.2.1, rfl, rfl, (h5 _).2.2.2.2.2.drew⟩
end Go.Proofs.Ythikdfcndppoaaa
