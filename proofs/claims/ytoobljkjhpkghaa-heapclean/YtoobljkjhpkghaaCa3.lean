/- New, of, State, Csn, Snapshot, Reads, ahead, counts, Clock. -/
import Derived.Test.YtoobljkjhpkghaaCa2
namespace Go.Proofs.Ytoobljkjhpkghaa
open Go.RowKit
namespace Mm
def zl : List Value := (List.replicate 201 [Value.int .i64 0, Value.int .i64 0, Value.int .i64 0, Value.bool false]).flatten ++ [Value.int .i64 0, Value.int .i64 0]
def zc : Array Value := ⟨zl⟩
theorem zero_info : (Try.prog.info? 91).bind (fun i => i.zero) = some (.agg zc) := by kernel_rfl
theorem zero_run (w : World) : Sem.run Try.prog (zeroValue 91) w = .ok (.agg zc) w := by
  have h := zero_info
  unfold zeroValue typeInfo
  cases hi : Try.prog.info? 91 with
  | none => rw [hi] at h; cases h
  | some i =>
    rw [hi] at h
    have hz : i.zero = some (.agg zc) := h
    simp [Sem.run_bind, run_program, Result.andThen, hi, hz]
theorem four_zero : ∀ i, i < 201 → Four zc (i * 4) Cg.z := by
  intro i hi
  have h : ∀ i : Fin 201, zl[i.val * 4]? = some (.int .i64 0) ∧ zl[i.val * 4 + 1]? = some (.int .i64 0) ∧ zl[i.val * 4 + 2]? = some (.int .i64 0) ∧ zl[i.val * 4 + 3]? = some (.bool false) := by
    intro i
    have e : ∀ (m j r : Nat), j < m → r < 4 → ((List.replicate m [Value.int .i64 0, Value.int .i64 0, Value.int .i64 0, Value.bool false]).flatten ++ [Value.int .i64 0, Value.int .i64 0])[j * 4 + r]? = [Value.int .i64 0, Value.int .i64 0, Value.int .i64 0, Value.bool false][r]? := by
      intro m
      induction m with
      | zero => intro j r hj _; omega
      | succ m ih =>
        intro j r hj hr
        rw [List.replicate_succ, List.flatten_cons, List.append_assoc]
        cases j with
        | zero => rw [Nat.zero_mul, Nat.zero_add, List.getElem?_append_left (by simpa using hr)]
        | succ j =>
          rw [List.getElem?_append_right (by simp; omega)]
          rw [show (j + 1) * 4 + r - [Value.int .i64 0, Value.int .i64 0, Value.int .i64 0, Value.bool false].length = j * 4 + r from by simp; omega]
          exact ih j r (by omega) hr
    exact ⟨e 201 i.val 0 i.isLt (by omega), e 201 i.val 1 i.isLt (by omega), e 201 i.val 2 i.isLt (by omega), e 201 i.val 3 i.isLt (by omega)⟩
  obtain ⟨a, b, c, d⟩ := h ⟨i, hi⟩
  unfold Four zc
  simp only [List.getElem?_toArray]
  exact ⟨a, b, c, d⟩
theorem zl_len : zl.length = 806 := by kernel_rfl
theorem zl_804 : zl[804]? = some (.int .i64 0) := by kernel_rfl
theorem zl_805 : zl[805]? = some (.int .i64 0) := by kernel_rfl
theorem cells_zero : Cells zc Cg.s0 := by
  refine ⟨by show zl.length = 806; exact zl_len, fun i hi => four_zero i (by omega), ?_, ?_⟩
  · show (⟨zl⟩ : Array Value)[804]? = _
    rw [List.getElem?_toArray]; exact zl_804
  · show (⟨zl⟩ : Array Value)[805]? = _
    rw [List.getElem?_toArray]; exact zl_805
theorem fl0 (a b c : Int) (d : Bool) (w : World) : (Instr.field 88 (.agg #[.int .i64 a, .int .i64 b, .int .i64 c, .bool d]) 0).run Try.prog w = .ok (.int .i64 a) w := by kernel_rfl
theorem fl1 (a b c : Int) (d : Bool) (w : World) : (Instr.field 88 (.agg #[.int .i64 a, .int .i64 b, .int .i64 c, .bool d]) 1).run Try.prog w = .ok (.int .i64 b) w := by kernel_rfl
theorem fl2 (a b c : Int) (d : Bool) (w : World) : (Instr.field 88 (.agg #[.int .i64 a, .int .i64 b, .int .i64 c, .bool d]) 2).run Try.prog w = .ok (.int .i64 c) w := by kernel_rfl
theorem fl3 (a b c : Int) (d : Bool) (w : World) : (Instr.field 88 (.agg #[.int .i64 a, .int .i64 b, .int .i64 c, .bool d]) 3).run Try.prog w = .ok (.bool d) w := by kernel_rfl
/-- A log, or none. -/
def Lv (w : World) (v : Value) (s : Cg.S) : Prop := (∃ p, v = .pointer (some ⟨p, 0, none⟩) ∧ Lg w p s) ∨ (v = .pointer none ∧ s = Cg.s0)
theorem Lv.below {w w' : World} {v : Value} {s : Cg.S} (h : Lv w v s) (hb : Below w.heap.size w w') : Lv w' v s := by
  rcases h with ⟨p, h1, h2⟩ | h
  · exact Or.inl ⟨p, h1, h2.below hb⟩
  · exact Or.inr h
end Mm

set_option maxRecDepth 100000 in
set_option maxHeartbeats 2000000 in
theorem new_any (w : World) :
    Calls Try.prog 9 #[] w fun e w' => e = .returned (.pointer (some ⟨w.heap.size, 0, none⟩)) ∧ Mm.Lg w' w.heap.size Cg.s0 ∧ Below w.heap.size w w' := by
  have hz := Mm.zero_run
  go_enter Try.func9, Try.ntmps9
  go_wp2
  go_ret
  exact ⟨rfl, ⟨_, Mm.newAt _ _ rfl, Mm.cells_zero⟩, (Below.refl _ _).alloc (Nat.le_refl _) _⟩

set_option maxRecDepth 100000 in
set_option maxHeartbeats 2000000 in
theorem of_any (w : World) (v : Value) (s : Cg.S) (x : Int) (h : Hid (Mm.Lv w v s)) (hn : s.n ≤ 200) :
    Calls Try.prog 58 #[v, .int .i64 x] w fun e w' => e = .returned (.agg #[.int .i64 ((Cg.gt s x).st : Int), .int .i64 ((Cg.gt s x).csn : Int), .int .i64 ((Cg.gt s x).snap : Int), .bool (Cg.gt s x).rd]) ∧ Below w.heap.size w w' := by
  rcases h.out with ⟨p, rfl, hl⟩ | ⟨rfl, rfl⟩
  · have c1 := hl.nAt
    have hlt := hl.lt
    by_cases g1 : x < 1
    · rw [Cg.gt_out (Or.inl g1)]
      go_enter Try.func58, Try.ntmps58
      go_wp2
      exact bodyPost_ret (v := .agg #[.int .i64 0, .int .i64 0, .int .i64 0, .bool false]) (by simp [results, Try.results58, go_sem]) rfl ⟨rfl, (Below.refl _ _).alloc (Nat.le_refl _) _⟩
    · by_cases g2 : (s.n : Int) < x
      · rw [Cg.gt_out (Or.inr g2)]
        go_enter Try.func58, Try.ntmps58
        go_wp2
        exact bodyPost_ret (v := .agg #[.int .i64 0, .int .i64 0, .int .i64 0, .bool false]) (by simp [results, Try.results58, go_sem]) rfl ⟨rfl, (Below.refl _ _).alloc (Nat.le_refl _) _⟩
      · obtain ⟨k, rfl⟩ : ∃ k : Nat, x = (k : Int) := ⟨x.toNat, by omega⟩
        rw [Cg.gt_in (by omega) (by omega)]
        obtain ⟨d0, d1, d2, d3⟩ := hl.at (i := k) (by omega)
        have g3 : (0 : Int) ≤ (k : Int) := by omega
        have g4 : (k : Int) < 201 := by omega
        go_enter Try.func58, Try.ntmps58
        go_wp2
        exact bodyPost_ret (v := .agg #[.int .i64 ((s.f k).st : Int), .int .i64 ((s.f k).csn : Int), .int .i64 ((s.f k).snap : Int), .bool (s.f k).rd]) (by simp [results, Try.results58, go_sem]) rfl ⟨rfl, (Below.refl _ _).alloc (Nat.le_refl _) _⟩
  · rw [Cg.gt_out (by show x < 1 ∨ (0 : Int) < x; omega)]
    go_enter Try.func58, Try.ntmps58
    go_wp2
    exact bodyPost_ret (v := .agg #[.int .i64 0, .int .i64 0, .int .i64 0, .bool false]) (by simp [results, Try.results58, go_sem]) rfl ⟨rfl, (Below.refl _ _).alloc (Nat.le_refl _) _⟩

set_option maxRecDepth 100000 in
set_option maxHeartbeats 2000000 in
theorem state_any (w : World) (v : Value) (s : Cg.S) (x : Int) (h : Hid (Mm.Lv w v s)) (hn : s.n ≤ 200) :
    Calls Try.prog 28 #[v, .int .i64 x] w fun e w' => e = .returned (.int .i64 ((Cg.gt s x).st : Int)) ∧ Below w.heap.size w w' := by
  have hfl := Mm.fl0
  go_enter Try.func28, Try.ntmps28
  go_wp2_with fail
  refine (of_any w v s x h hn).mono ?_
  rintro e w1 ⟨rfl, hb⟩
  go_wp2_with fail
  go_ret
  exact ⟨rfl, hb⟩

set_option maxRecDepth 100000 in
set_option maxHeartbeats 2000000 in
theorem csn_any (w : World) (v : Value) (s : Cg.S) (x : Int) (h : Hid (Mm.Lv w v s)) (hn : s.n ≤ 200) :
    Calls Try.prog 71 #[v, .int .i64 x] w fun e w' => e = .returned (.int .i64 ((Cg.gt s x).csn : Int)) ∧ Below w.heap.size w w' := by
  have hfl := Mm.fl1
  go_enter Try.func71, Try.ntmps71
  go_wp2_with fail
  refine (of_any w v s x h hn).mono ?_
  rintro e w1 ⟨rfl, hb⟩
  go_wp2_with fail
  go_ret
  exact ⟨rfl, hb⟩

set_option maxRecDepth 100000 in
set_option maxHeartbeats 2000000 in
theorem snapshot_any (w : World) (v : Value) (s : Cg.S) (x : Int) (h : Hid (Mm.Lv w v s)) (hn : s.n ≤ 200) :
    Calls Try.prog 80 #[v, .int .i64 x] w fun e w' => e = .returned (.int .i64 ((Cg.gt s x).snap : Int)) ∧ Below w.heap.size w w' := by
  have hfl := Mm.fl2
  go_enter Try.func80, Try.ntmps80
  go_wp2_with fail
  refine (of_any w v s x h hn).mono ?_
  rintro e w1 ⟨rfl, hb⟩
  go_wp2_with fail
  go_ret
  exact ⟨rfl, hb⟩

set_option maxRecDepth 100000 in
set_option maxHeartbeats 2000000 in
theorem ahead_any (w : World) (t : Cg.Tx) (k : Nat) :
    Calls Try.prog 76 #[.agg #[.int .i64 (t.st : Int), .int .i64 (t.csn : Int), .int .i64 (t.snap : Int), .bool t.rd], .int .i64 (k : Int)] w fun e w' => e = .returned (.bool (t.st == 2 && decide (t.csn ≤ k))) ∧ Below w.heap.size w w' := by
  by_cases h1 : t.st = 2
  · have g1 : ((t.st : Int) == 2) = true := by simp; omega
    rw [show (t.st == 2 && decide (t.csn ≤ k)) = decide (t.csn ≤ k) from by simp [h1]]
    by_cases h2 : t.csn ≤ k
    · have g2 : (t.csn : Int) ≤ (k : Int) := by omega
      rw [decide_eq_true h2]
      clear h1
      go_enter Try.func76, Try.ntmps76
      go_wp2
      go_ret
      exact ⟨rfl, (Below.refl _ _).alloc (Nat.le_refl _) _⟩
    · have g2 : ¬ (t.csn : Int) ≤ (k : Int) := by omega
      rw [decide_eq_false h2]
      clear h1
      go_enter Try.func76, Try.ntmps76
      go_wp2
      go_ret
      exact ⟨rfl, (Below.refl _ _).alloc (Nat.le_refl _) _⟩
  · have g1 : ((t.st : Int) == 2) = false := by simp; omega
    rw [show (t.st == 2 && decide (t.csn ≤ k)) = false from by simp [h1]]
    clear h1
    go_enter Try.func76, Try.ntmps76
    go_wp2
    go_ret
    exact ⟨rfl, (Below.refl _ _).alloc (Nat.le_refl _) _⟩

set_option maxRecDepth 100000 in
set_option maxHeartbeats 2000000 in
theorem clock_any (w : World) (v : Value) (s : Cg.S) (h : Hid (Mm.Lv w v s)) :
    Calls Try.prog 79 #[v] w fun e w' => e = .returned (.int .i64 (s.clk : Int)) ∧ Below w.heap.size w w' := by
  rcases h.out with ⟨p, rfl, hl⟩ | ⟨rfl, rfl⟩
  · have c1 := hl.clkAt
    go_enter Try.func79, Try.ntmps79
    go_wp2
    go_ret
    exact ⟨rfl, Below.refl _ _⟩
  · go_enter Try.func79, Try.ntmps79
    go_wp2
    go_ret
    exact ⟨rfl, Below.refl _ _⟩
end Go.Proofs.Ytoobljkjhpkghaa
