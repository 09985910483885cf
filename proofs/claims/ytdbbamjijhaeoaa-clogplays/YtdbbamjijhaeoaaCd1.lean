/- The reference's log in memory; Get. -/
import Derived.Test.YtdbbamjijhaeoaaCa7
namespace Go.Proofs.Ytdbbamjijhaeoaa
open Go.RowKit
namespace Mm
/-- A transaction's four cells in the reference's row. -/
def Fr (cs : Array Value) (o : Nat) (t : Cg.Tx) : Prop := cs[o]? = some (.int .i64 (t.st : Int)) ∧ cs[o + 1]? = some (.int .i64 (t.snap : Int)) ∧ cs[o + 2]? = some (.int .i64 (t.csn : Int)) ∧ cs[o + 3]? = some (.bool t.rd)
/-- The reference's row. -/
def Rw (w : World) (h : Nat) (v : Value) (s : Cg.S) : Prop := (s.n = 0 ∧ v = .slice none 0 0) ∨ ∃ g cap cur, v = .slice (some ⟨g, 0, none⟩) s.n cap ∧ h ≤ g ∧ s.n ≤ cap ∧ w.heap[g]? = some (.cells cur 61 (0, 0)) ∧ ∀ i, i < s.n → Fr cur (i * 4) (s.f (i + 1))
/-- The reference's log. -/
def Rl (w : World) (q : Nat) (s : Cg.S) : Prop := ∃ v, w.heap[q]? = some (.cells #[v, .int .i64 (s.clk : Int)] 29 (0, 0)) ∧ Rw w (q + 1) v s
variable {w w' : World} {q : Nat} {s : Cg.S}
theorem Rl.lt (h : Rl w q s) : q < w.heap.size := by obtain ⟨v, h1, _⟩ := h; exact heapLt h1
theorem Rl.fr (h : Rl w q s) (i : Nat) : w.frozen? ⟨q, i, none⟩ = false := by obtain ⟨v, h1, _⟩ := h; simp [World.frozen?, h1]
theorem Rl.clkAt (h : Rl w q s) : w.cell? ⟨q, 1, none⟩ = some (.int .i64 (s.clk : Int)) := by obtain ⟨v, h1, _⟩ := h; exact cellOf h1 rfl
theorem Rw.keep {h : Nat} {v : Value} (H : Rw w h v s) (hk : ∀ g, h ≤ g → g < w.heap.size → w'.heap[g]? = w.heap[g]?) : Rw w' h v s := by
  rcases H with H | ⟨g, cap, cur, h1, h2, h3, h4, h5⟩
  · exact Or.inl H
  · exact Or.inr ⟨g, cap, cur, h1, h2, h3, (hk g h2 (heapLt h4)).trans h4, h5⟩
theorem Rl.keep (h : Rl w q s) (hk : ∀ g, q ≤ g → g < w.heap.size → w'.heap[g]? = w.heap[g]?) : Rl w' q s := by
  have hl := h.lt
  obtain ⟨v, h1, h2⟩ := h
  exact ⟨v, (hk q (Nat.le_refl _) hl).trans h1, h2.keep (fun g h3 h4 => hk g (Nat.le_of_succ_le h3) h4)⟩
theorem Rl.below (h : Rl w q s) (hb : Below w.heap.size w w') : Rl w' q s := h.keep (fun g _ hg => hb.block g hg)
/-- The slice, and each of its elements. -/
theorem Rl.look (h : Rl w q s) : ∃ p c, w.cell? ⟨q, 0, none⟩ = some (.slice p s.n c) ∧ s.n ≤ c ∧ ∀ i, i < s.n → ∃ g, p = some ⟨g, 0, none⟩ ∧ q < g ∧ w.frozen? ⟨g, i * 4, none⟩ = false ∧ w.frozen? ⟨g, i * 4 + 2, none⟩ = false ∧
    w.cell? ⟨g, i * 4, none⟩ = some (.int .i64 ((s.f (i + 1)).st : Int)) ∧ w.cell? ⟨g, i * 4 + 1, none⟩ = some (.int .i64 ((s.f (i + 1)).snap : Int)) ∧ w.cell? ⟨g, i * 4 + 2, none⟩ = some (.int .i64 ((s.f (i + 1)).csn : Int)) ∧ w.cell? ⟨g, i * 4 + 3, none⟩ = some (.bool (s.f (i + 1)).rd) := by
  obtain ⟨v, h1, h2⟩ := h
  rcases h2 with ⟨h2, rfl⟩ | ⟨g, cap, cur, rfl, h3, h4, h5, h6⟩
  · exact ⟨none, 0, by rw [h2]; exact cellOf h1 rfl, by omega, fun i hi => by omega⟩
  · refine ⟨_, cap, cellOf h1 rfl, h4, fun i hi => ⟨g, rfl, h3, by simp [World.frozen?, h5], by simp [World.frozen?, h5], ?_⟩⟩
    obtain ⟨a, b, c, d⟩ := h6 i hi
    exact ⟨cellOf h5 a, cellOf h5 b, cellOf h5 c, cellOf h5 d⟩
theorem Rl.zero (h1 : w.heap[q]? = some (.cells #[.slice none 0 0, .int .i64 0] 29 (0, 0))) : Rl w q Cg.s0 := ⟨_, h1, Or.inl ⟨rfl, rfl⟩⟩
theorem gl0 (a b c : Int) (d : Bool) (w : World) : (Instr.field 61 (.agg #[.int .i64 a, .int .i64 b, .int .i64 c, .bool d]) 0).run Try.prog w = .ok (.int .i64 a) w := by kernel_rfl
end Mm

set_option maxRecDepth 100000 in
set_option maxHeartbeats 2000000 in
theorem refGet_any (w : World) (q : Nat) (s : Cg.S) (x : Int) (h : Hid (Mm.Rl w q s)) (hn : s.n ≤ 200) :
    Calls Try.prog 29 #[.pointer (some ⟨q, 0, none⟩), .int .i64 x] w fun e w' => e = .returned (.agg #[.int .i64 ((Cg.gt s x).st : Int), .int .i64 ((Cg.gt s x).snap : Int), .int .i64 ((Cg.gt s x).csn : Int), .bool (Cg.gt s x).rd]) ∧ Below w.heap.size w w' := by
  obtain ⟨p, c, c0, hc, hat⟩ := h.out.look
  have HAT := Mm.hid hat
  have hlt := h.out.lt
  clear hat
  by_cases g1 : x < 1
  · rw [Cg.gt_out (Or.inl g1)]
    go_enter Try.func29, Try.ntmps29
    go_wp2
    exact bodyPost_ret (v := .agg #[.int .i64 0, .int .i64 0, .int .i64 0, .bool false]) (by simp [results, Try.results29, go_sem]) rfl ⟨rfl, (Below.refl _ _).alloc (Nat.le_refl _) _⟩
  · by_cases g2 : (s.n : Int) < x
    · rw [Cg.gt_out (Or.inr g2)]
      go_enter Try.func29, Try.ntmps29
      go_wp2
      exact bodyPost_ret (v := .agg #[.int .i64 0, .int .i64 0, .int .i64 0, .bool false]) (by simp [results, Try.results29, go_sem]) rfl ⟨rfl, (Below.refl _ _).alloc (Nat.le_refl _) _⟩
    · obtain ⟨k, rfl⟩ : ∃ k : Nat, x = (k : Int) + 1 := ⟨(x - 1).toNat, by omega⟩
      have hkn : k < s.n := by omega
      rw [show (k : Int) + 1 = ((k + 1 : Nat) : Int) from rfl, Cg.gt_in (by omega) (by omega)]
      obtain ⟨g, rfl, hqg, -, -, d0, d1, d2, d3⟩ := HAT.out k hkn
      have hlg := World.block_lt_of_cell? w _ d0
      have g3 : (0 : Int) ≤ (k : Int) := by omega
      have g4 : (k : Int) < (s.n : Int) := by omega
      rw [show ((k + 1 : Nat) : Int) = (k : Int) + 1 from rfl]
      go_enter Try.func29, Try.ntmps29
      go_wp2_with fail
      exact bodyPost_ret (v := .agg #[.int .i64 ((s.f (k + 1)).st : Int), .int .i64 ((s.f (k + 1)).snap : Int), .int .i64 ((s.f (k + 1)).csn : Int), .bool (s.f (k + 1)).rd]) (by simp [results, Try.results29, go_sem]) rfl ⟨rfl, (Below.refl _ _).alloc (Nat.le_refl _) _⟩
end Go.Proofs.Ytdbbamjijhaeoaa
