/- The reference's New. -/
import Derived.Test.YtjnaafgiokdcbaaLd1
namespace Go.Proofs.Ytjnaafgiokdcbaa
open Go.RowKit
namespace Lf
def RW (w : World) (fan : Nat) : World := (w.alloc (.cells #[.int .i64 1, .bool true, .string ⟨#[]⟩, .slice none 0 0] 59)).alloc (.cells #[.slice (some ⟨w.heap.size, 0, none⟩) 1 1, .int .i64 (fan : Int), .int .i64 2] 56)
theorem rw_head (w : World) (fan : Nat) : (RW w fan).heap[w.heap.size + 1]? = some (.cells #[.slice (some ⟨w.heap.size, 0, none⟩) 1 1, .int .i64 (fan : Int), .int .i64 2] 56 (0, 0)) := Mm.newAt _ _ (by simp)
theorem rw_row (w : World) (fan : Nat) : (RW w fan).heap[w.heap.size]? = some (.cells #[.int .i64 1, .bool true, .string ⟨#[]⟩, .slice none 0 0] 59 (0, 0)) := (Mm.oldAt _ _ (by simp)).trans (Mm.newAt _ _ rfl)
theorem rw_bel (w : World) (fan : Nat) : Below w.heap.size w (RW w fan) := ((Below.refl _ _).alloc (Nat.le_refl _) _).alloc (by simp) _
theorem rd0 (w : World) (fan : Nat) : Rd (RW w fan) (w.heap.size + 1) w.heap.size 1 (fun _ => .slice none 0 0) (S0 fan) :=
  ⟨Mm.cellOf (rw_head w fan) rfl, Mm.cellOf (rw_head w fan) rfl, Mm.cellOf (rw_head w fan) rfl, Mm.heapLt (rw_head w fan), Mm.heapLt (rw_row w fan), (by
    intro i P hP
    match i, hP with
    | 0, hP =>
      simp [S0] at hP
      subst hP
      exact ⟨Mm.cellOf (rw_row w fan) rfl, Mm.cellOf (rw_row w fan) rfl, Mm.cellOf (rw_row w fan) rfl, Mm.cellOf (rw_row w fan) rfl⟩
    | i + 1, hP => simp [S0] at hP), (by
    intro P hP
    have e : P = ⟨1, ⟨#[]⟩, []⟩ := List.mem_singleton.1 hP
    subst e
    exact ⟨none, 0, rfl, fun j x hx => by simp at hx⟩)⟩
end Lf

set_option maxRecDepth 100000 in
set_option maxHeartbeats 2000000 in
theorem refNew_any (fan : Nat) (h1 : 2 ≤ fan) (h2 : fan ≤ 64) (w : World) :
    Calls Try.prog 5 #[.int .i64 (fan : Int)] w fun e w' => e = .returned (.tuple #[.pointer (some ⟨w.heap.size + 1, 0, none⟩), .int .i64 0]) ∧ w' = Lf.RW w fan := by
  have g1 : ¬ ((fan : Int) < 2) := by omega
  have g2 : ¬ ((64 : Int) < (fan : Int)) := by omega
  go_enter Try.func5, Try.ntmps5
  go_wp2_with fail
  go_ret2
  exact ⟨rfl, rfl⟩

set_option maxRecDepth 100000 in
set_option maxHeartbeats 2000000 in
theorem refNew_err (fan : Int) (h : fan < 2 ∨ 64 < fan) (w : World) :
    Calls Try.prog 5 #[.int .i64 fan] w fun e w' => e = .returned (.tuple #[.pointer none, .int .i64 1]) ∧ w' = w := by
  by_cases h2 : fan < 2
  · clear h
    go_enter Try.func5, Try.ntmps5
    go_wp2_with fail
    go_ret2
    exact ⟨rfl, rfl⟩
  · have h3 : 64 < fan := h.resolve_left h2
    clear h
    go_enter Try.func5, Try.ntmps5
    go_wp2_with fail
    go_ret2
    exact ⟨rfl, rfl⟩
end Go.Proofs.Ytjnaafgiokdcbaa
