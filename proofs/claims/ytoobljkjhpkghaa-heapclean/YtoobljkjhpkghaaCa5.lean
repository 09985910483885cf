/- Sees, Beside. -/
import Derived.Test.YtoobljkjhpkghaaCa4
namespace Go.Proofs.Ytoobljkjhpkghaa
open Go.RowKit

set_option maxRecDepth 100000 in
set_option maxHeartbeats 2000000 in
theorem sees_any (w : World) (v : Value) (s : Cg.S) (x y : Int) (h : Hid (Mm.Lv w v s)) (hn : s.n ≤ 200) :
    Calls Try.prog 61 #[v, .int .i64 x, .int .i64 y] w fun e w' => e = .returned (.bool (Cg.sees s x y)) ∧ Below w.heap.size w w' := by
  have hfl := Mm.fl2
  by_cases h1 : (Cg.gt s x).st = 0
  · have g1 : (((Cg.gt s x).st : Int) == 0) = true := by simp; omega
    rw [show Cg.sees s x y = false from by simp [Cg.sees, h1]]
    clear h1
    go_enter Try.func61, Try.ntmps61
    go_wp2_with fail
    refine (of_any w v s x h hn).mono ?_
    rintro e w1 ⟨rfl, hb⟩
    have HB := Mm.hid hb
    clear hb
    go_wp2_with fail
    go_ret
    exact ⟨rfl, HB.out.alloc HB.out.size _⟩
  · have g1 : (((Cg.gt s x).st : Int) == 0) = false := by simp; omega
    rw [show Cg.sees s x y = (x == y || ((Cg.gt s y).st == 2 && decide ((Cg.gt s y).csn ≤ (Cg.gt s x).snap))) from by simp [Cg.sees, h1]]
    clear h1
    by_cases h2 : x = y
    · have g2 : (x == y) = true := by simp [h2]
      rw [g2, Bool.true_or]
      clear h2
      go_enter Try.func61, Try.ntmps61
      go_wp2_with fail
      refine (of_any w v s x h hn).mono ?_
      rintro e w1 ⟨rfl, hb⟩
      have HB := Mm.hid hb
      clear hb
      go_wp2_with fail
      go_quiet (fail)
      go_wp2_with fail
      go_ret
      exact ⟨rfl, Mm.belDN (HB.out.alloc HB.out.size _) _⟩
    · have g2 : (x == y) = false := by simp [h2]
      rw [g2, Bool.false_or]
      clear h2
      go_enter Try.func61, Try.ntmps61
      go_wp2_with fail
      refine (of_any w v s x h hn).mono ?_
      rintro e w1 ⟨rfl, hb⟩
      have HB := Mm.hid (hb.alloc hb.size (.cells #[.int .i64 ((Cg.gt s x).st : Int), .int .i64 ((Cg.gt s x).csn : Int), .int .i64 ((Cg.gt s x).snap : Int), .bool (Cg.gt s x).rd] 88))
      have HV := Mm.hid (h.out.below HB.out)
      clear hb
      go_wp2_with fail
      obtain ⟨B, hB⟩ : ∃ B, w1.heap.size = B := ⟨_, rfl⟩
      obtain ⟨W, hW⟩ : ∃ W, w1.alloc (.cells #[.int .i64 ((Cg.gt s x).st : Int), .int .i64 ((Cg.gt s x).csn : Int), .int .i64 ((Cg.gt s x).snap : Int), .bool (Cg.gt s x).rd] 88) = W := ⟨_, rfl⟩
      have hc : W.cell? ⟨B, 2, none⟩ = some (.int .i64 ((Cg.gt s x).snap : Int)) := by rw [← hW, ← hB]; exact Mm.cellOf (Mm.newAt _ _ rfl) rfl
      rw [hW] at HB HV ⊢
      rw [hB]
      clear hW hB
      have HBd := Mm.hid HB.out.drew
      have HVd : Hid (Mm.Lv W.drew v s) := Mm.hid (HV.out.below (Below.refl _ _).drew)
      have hcl := World.block_lt_of_cell? W _ hc
      have HS0 : Hid (W.drew.cell? ⟨B, 2, none⟩ = some (.int .i64 ((Cg.gt s x).snap : Int))) := Mm.hid hc
      have HL : Hid (B < W.drew.heap.size) := Mm.hid hcl
      clear HB HV hc hcl
      go_region_held3 (fun w' => w'.cell? ⟨B, 2, none⟩ = some (.int .i64 ((Cg.gt s x).snap : Int))) (first | (with_reducible exact HS0.out) | (with_reducible exact HS2.out) | (with_reducible exact HS3.out)) ((first
        | (go_at_call 58
           refine (of_any _ v s y HVd hn).mono ?_
           rintro e w2 ⟨rfl, hb2⟩
           have HB2 := Mm.hid (HBd.out.trans (hb2.mono HBd.out.size))
           have HS2 : Hid (w2.cell? ⟨B, 2, none⟩ = some (.int .i64 ((Cg.gt s x).snap : Int))) := Mm.hid ((hb2.cell (p := ⟨B, 2, none⟩) HL.out).trans HS0.out)
           have HL2 : Hid (B < w2.heap.size) := Mm.hid (Nat.lt_of_lt_of_le HL.out hb2.size)
           clear hb2)
        | (go_at_call 76
           refine (ahead_any _ (Cg.gt s y) (Cg.gt s x).snap).mono ?_
           rintro e w3 ⟨rfl, hb3⟩
           have HB3 := Mm.hid (HB2.out.trans (hb3.mono HB2.out.size))
           have HS3 : Hid (w3.cell? ⟨B, 2, none⟩ = some (.int .i64 ((Cg.gt s x).snap : Int))) := Mm.hid ((hb3.cell (p := ⟨B, 2, none⟩) HL2.out).trans HS2.out)
           clear hb3)))
      all_goals
        go_wp2_with fail
        go_ret
        exact ⟨rfl, HB3.out⟩