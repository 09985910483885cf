/- Sees, Beside. -/
import Derived.Test.YtdbbamjijhaeoaaCa4
namespace Go.Proofs.Ytdbbamjijhaeoaa
open Go.RowKit

set_option maxRecDepth 100000 in
set_option maxHeartbeats 2000000 in
theorem sees_any (w : World) (v : Value) (s : Cg.S) (x y : Int) (h : Hid (Mm.Lv w v s)) (hn : s.n ≤ 200) :
    Calls Try.prog 12 #[v, .int .i64 x, .int .i64 y] w fun e w' => e = .returned (.bool (Cg.sees s x y)) ∧ Below w.heap.size w w' := by
  have hfl := Mm.fl2
  by_cases h1 : (Cg.gt s x).st = 0
  · have g1 : (((Cg.gt s x).st : Int) == 0) = true := by simp; omega
    rw [show Cg.sees s x y = false from by simp [Cg.sees, h1]]
    clear h1
    go_enter Try.func12, Try.ntmps12
    go_wp2_with fail
    refine (of_any w v s x h hn).mono ?_
    rintro e w1 ⟨rfl, hb⟩
    have HB := Mm.hid hb
    clear hb
    go_wp2_with fail
    go_ret
    exact ⟨rfl, HB.out.alloc HB.out.size _⟩
  · have g1 : (((Cg.gt s x).st : Int) == 0) = false := by simp; omega
    rw [show Cg.sees s x y = (x == y || ((Cg.gt s y).st == 2 && decide ((Cg.gt s y).csn ≤ (Cg.gt s x).snap))) from by simp [Cg.sees, h1]]
    clear h1
    by_cases h2 : x = y
    · have g2 : (x == y) = true := by simp [h2]
      rw [g2, Bool.true_or]
      clear h2
      go_enter Try.func12, Try.ntmps12
      go_wp2_with fail
      refine (of_any w v s x h hn).mono ?_
      rintro e w1 ⟨rfl, hb⟩
      have HB := Mm.hid hb
      clear hb
      go_wp2_with fail
      go_quiet (fail)
      go_wp2_with fail
      go_ret
      exact ⟨rfl, Mm.belDN (HB.out.alloc HB.out.size _) _⟩
    · have g2 : (x == y) = false := by simp [h2]
      rw [g2, Bool.false_or]
      clear h2
      go_enter Try.func12, Try.ntmps12
      go_wp2_with fail
      refine (of_any w v s x h hn).mono ?_
      rintro e w1 ⟨rfl, hb⟩
      have HB := Mm.hid (hb.alloc hb.size (.cells #[.int .i64 ((Cg.gt s x).st : Int), .int .i64 ((Cg.gt s x).csn : Int), .int .i64 ((Cg.gt s x).snap : Int), .bool (Cg.gt s x).rd] 53))
      have HV := Mm.hid (h.out.below HB.out)
      clear hb
      go_wp2_with fail
      obtain ⟨B, hB⟩ : ∃ B, w1.heap.size = B := ⟨_, rfl⟩
      obtain ⟨W, hW⟩ : ∃ W, w1.alloc (.cells #[.int .i64 ((Cg.gt s x).st : Int), .int .i64 ((Cg.gt s x).csn : Int), .int .i64 ((Cg.gt s x).snap : Int), .bool (Cg.gt s x).rd] 53) = W := ⟨_, rfl⟩
      have hc : W.cell? ⟨B, 2, none⟩ = some (.int .i64 ((Cg.gt s x).snap : Int)) := by rw [← hW, ← hB]; exact Mm.cellOf (Mm.newAt _ _ rfl) rfl
      rw [hW] at HB HV ⊢
      rw [hB]
      clear hW hB
      have HBd := Mm.hid HB.out.drew
      have HVd : Hid (Mm.Lv W.drew v s) := Mm.hid (HV.out.below (Below.refl _ _).drew)
      have hcl := World.block_lt_of_cell? W _ hc
      have HS0 : Hid (W.drew.cell? ⟨B, 2, none⟩ = some (.int .i64 ((Cg.gt s x).snap : Int))) := Mm.hid hc
      have HL : Hid (B < W.drew.heap.size) := Mm.hid hcl
      clear HB HV hc hcl
      go_region_held3 (fun w' => w'.cell? ⟨B, 2, none⟩ = some (.int .i64 ((Cg.gt s x).snap : Int))) (first | (with_reducible exact HS0.out) | (with_reducible exact HS2.out) | (with_reducible exact HS3.out)) ((first
        | (go_at_call 33
           refine (of_any _ v s y HVd hn).mono ?_
           rintro e w2 ⟨rfl, hb2⟩
           have HB2 := Mm.hid (HBd.out.trans (hb2.mono HBd.out.size))
           have HS2 : Hid (w2.cell? ⟨B, 2, none⟩ = some (.int .i64 ((Cg.gt s x).snap : Int))) := Mm.hid ((hb2.cell (p := ⟨B, 2, none⟩) HL.out).trans HS0.out)
           have HL2 : Hid (B < w2.heap.size) := Mm.hid (Nat.lt_of_lt_of_le HL.out hb2.size)
           clear hb2)
        | (go_at_call 34
           refine (ahead_any _ (Cg.gt s y) (Cg.gt s x).snap).mono ?_
           rintro e w3 ⟨rfl, hb3⟩
           have HB3 := Mm.hid (HB2.out.trans (hb3.mono HB2.out.size))
           have HS3 : Hid (w3.cell? ⟨B, 2, none⟩ = some (.int .i64 ((Cg.gt s x).snap : Int))) := Mm.hid ((hb3.cell (p := ⟨B, 2, none⟩) HL2.out).trans HS2.out)
           clear hb3)))
      all_goals
        go_wp2_with fail
        go_ret
        exact ⟨rfl, HB3.out⟩

set_option maxRecDepth 100000 in
set_option maxHeartbeats 2000000 in
theorem beside_any (w : World) (v : Value) (s : Cg.S) (x y : Int) (h : Hid (Mm.Lv w v s)) (hn : s.n ≤ 200) :
    Calls Try.prog 14 #[v, .int .i64 x, .int .i64 y] w fun e w' => e = .returned (.bool (Cg.beside s x y)) ∧ Below w.heap.size w w' := by
  obtain ⟨b1, hb1⟩ : ∃ b, Cg.counts (Cg.gt s x) = b := ⟨_, rfl⟩
  obtain ⟨b2, hb2⟩ : ∃ b, Cg.counts (Cg.gt s y) = b := ⟨_, rfl⟩
  obtain ⟨b3, hb3⟩ : ∃ b, Cg.sees s x y = b := ⟨_, rfl⟩
  obtain ⟨b4, hb4⟩ : ∃ b, Cg.sees s y x = b := ⟨_, rfl⟩
  rw [show Cg.beside s x y = (b1 && b2 && !b3 && !b4) from by rw [← hb1, ← hb2, ← hb3, ← hb4]; rfl]
  have C1 : Hid (∀ wz, Calls Try.prog 35 #[.agg #[.int .i64 ((Cg.gt s x).st : Int), .int .i64 ((Cg.gt s x).csn : Int), .int .i64 ((Cg.gt s x).snap : Int), .bool (Cg.gt s x).rd]] wz fun e w' => e = .returned (.bool b1) ∧ Below wz.heap.size wz w') := Mm.hid (fun wz => hb1 ▸ counts_any wz _)
  have C2 : Hid (∀ wz, Calls Try.prog 35 #[.agg #[.int .i64 ((Cg.gt s y).st : Int), .int .i64 ((Cg.gt s y).csn : Int), .int .i64 ((Cg.gt s y).snap : Int), .bool (Cg.gt s y).rd]] wz fun e w' => e = .returned (.bool b2) ∧ Below wz.heap.size wz w') := Mm.hid (fun wz => hb2 ▸ counts_any wz _)
  have C3 : Hid (∀ wz, Hid (Mm.Lv wz v s) → Calls Try.prog 12 #[v, .int .i64 x, .int .i64 y] wz fun e w' => e = .returned (.bool b3) ∧ Below wz.heap.size wz w') := Mm.hid (fun wz hz => hb3 ▸ sees_any wz v s x y hz hn)
  have C4 : Hid (∀ wz, Hid (Mm.Lv wz v s) → Calls Try.prog 12 #[v, .int .i64 y, .int .i64 x] wz fun e w' => e = .returned (.bool b4) ∧ Below wz.heap.size wz w') := Mm.hid (fun wz hz => hb4 ▸ sees_any wz v s y x hz hn)
  clear hb1 hb2 hb3 hb4
  cases b1
  · go_enter Try.func14, Try.ntmps14
    go_wp2_with fail
    refine (of_any w v s x h hn).mono ?_
    rintro e w1 ⟨rfl, hb⟩
    have HB := Mm.hid hb
    clear hb
    go_wp2_with fail
    refine (C1.out _).mono ?_
    rintro e w2 ⟨rfl, hb⟩
    have HB2 := Mm.hid (HB.out.trans (hb.mono HB.out.size))
    clear hb
    go_wp2_with fail
    go_ret
    exact ⟨rfl, HB2.out⟩
  · cases b2
    · go_enter Try.func14, Try.ntmps14
      go_wp2_with fail
      refine (of_any w v s x h hn).mono ?_
      rintro e w1 ⟨rfl, hb⟩
      have HB := Mm.hid hb
      clear hb
      go_wp2_with fail
      refine (C1.out _).mono ?_
      rintro e w2 ⟨rfl, hb⟩
      have HB2 := Mm.hid (HB.out.trans (hb.mono HB.out.size))
      have HV2 := Mm.hid (h.out.below HB2.out)
      clear hb
      go_wp2_with fail
      refine (of_any _ v s y HV2 hn).mono ?_
      rintro e w3 ⟨rfl, hb⟩
      have HB3 := Mm.hid (HB2.out.trans (hb.mono HB2.out.size))
      clear hb
      go_wp2_with fail
      refine (C2.out _).mono ?_
      rintro e w4 ⟨rfl, hb⟩
      have HB4 := Mm.hid (HB3.out.trans (hb.mono HB3.out.size))
      clear hb
      go_wp2_with fail
      go_ret
      exact ⟨rfl, HB4.out⟩
    · cases b3
      · go_enter Try.func14, Try.ntmps14
        go_wp2_with fail
        refine (of_any w v s x h hn).mono ?_
        rintro e w1 ⟨rfl, hb⟩
        have HB := Mm.hid hb
        clear hb
        go_wp2_with fail
        refine (C1.out _).mono ?_
        rintro e w2 ⟨rfl, hb⟩
        have HB2 := Mm.hid (HB.out.trans (hb.mono HB.out.size))
        have HV2 := Mm.hid (h.out.below HB2.out)
        clear hb
        go_wp2_with fail
        refine (of_any _ v s y HV2 hn).mono ?_
        rintro e w3 ⟨rfl, hb⟩
        have HB3 := Mm.hid (HB2.out.trans (hb.mono HB2.out.size))
        clear hb
        go_wp2_with fail
        refine (C2.out _).mono ?_
        rintro e w4 ⟨rfl, hb⟩
        have HB4 := Mm.hid (HB3.out.trans (hb.mono HB3.out.size))
        have HV4 := Mm.hid (h.out.below HB4.out)
        clear hb
        go_wp2_with fail
        refine (C3.out _ HV4).mono ?_
        rintro e w5 ⟨rfl, hb⟩
        have HB5 := Mm.hid (HB4.out.trans (hb.mono HB4.out.size))
        have HV5 := Mm.hid (h.out.below HB5.out)
        clear hb
        go_wp2_with fail
        refine (C4.out _ HV5).mono ?_
        rintro e w6 ⟨rfl, hb⟩
        have HB6 := Mm.hid (HB5.out.trans (hb.mono HB5.out.size))
        clear hb
        go_wp2_with fail
        go_ret
        exact ⟨rfl, HB6.out⟩
      · go_enter Try.func14, Try.ntmps14
        go_wp2_with fail
        refine (of_any w v s x h hn).mono ?_
        rintro e w1 ⟨rfl, hb⟩
        have HB := Mm.hid hb
        clear hb
        go_wp2_with fail
        refine (C1.out _).mono ?_
        rintro e w2 ⟨rfl, hb⟩
        have HB2 := Mm.hid (HB.out.trans (hb.mono HB.out.size))
        have HV2 := Mm.hid (h.out.below HB2.out)
        clear hb
        go_wp2_with fail
        refine (of_any _ v s y HV2 hn).mono ?_
        rintro e w3 ⟨rfl, hb⟩
        have HB3 := Mm.hid (HB2.out.trans (hb.mono HB2.out.size))
        clear hb
        go_wp2_with fail
        refine (C2.out _).mono ?_
        rintro e w4 ⟨rfl, hb⟩
        have HB4 := Mm.hid (HB3.out.trans (hb.mono HB3.out.size))
        have HV4 := Mm.hid (h.out.below HB4.out)
        clear hb
        go_wp2_with fail
        refine (C3.out _ HV4).mono ?_
        rintro e w5 ⟨rfl, hb⟩
        have HB5 := Mm.hid (HB4.out.trans (hb.mono HB4.out.size))
        clear hb
        go_wp2_with fail
        go_ret
        exact ⟨rfl, HB5.out⟩
end Go.Proofs.Ytdbbamjijhaeoaa
