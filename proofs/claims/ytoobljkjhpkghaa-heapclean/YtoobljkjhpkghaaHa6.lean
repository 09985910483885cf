/- seen, Sees, tids, All, Visible, Get. -/
import Derived.Test.YtoobljkjhpkghaaHa5
namespace Go.Proofs.Ytoobljkjhpkghaa
open Go.RowKit

namespace Hp
/-- Does one see a version? -/
def seen (s : Cg.S) (x : Int) (v : Ver) : Bool := Cg.sees s x v.xmin && !((Cg.gt s v.xmax).st != 3 && Cg.sees s x v.xmax)
/-- A version in a box. -/
def Bx (w : World) (q : Nat) (v : Ver) : Prop := w.heap[q]? = some (.cells #[.int .i64 (v.tid : Int), .int .i64 v.xmin, .int .i64 v.xmax, .slice v.p v.xs.length v.c] 100 (0, 0))
theorem Bx.below {w w' : World} {q : Nat} {v : Ver} (h : Bx w q v) (hb : Below w.heap.size w w') : Bx w' q v := (hb.block q (Mm.heapLt h)).trans h
theorem Bx.c1 {w : World} {q : Nat} {v : Ver} (h : Bx w q v) : w.cell? ⟨q, 1, none⟩ = some (.int .i64 v.xmin) := Mm.cellOf h rfl
theorem Bx.c2 {w : World} {q : Nat} {v : Ver} (h : Bx w q v) : w.cell? ⟨q, 2, none⟩ = some (.int .i64 v.xmax) := Mm.cellOf h rfl
theorem Bx.c0 {w : World} {q : Nat} {v : Ver} (h : Bx w q v) : w.cell? ⟨q, 0, none⟩ = some (.int .i64 (v.tid : Int)) := Mm.cellOf h rfl
theorem Bx.c3 {w : World} {q : Nat} {v : Ver} (h : Bx w q v) : w.cell? ⟨q, 3, none⟩ = some (.slice v.p v.xs.length v.c) := Mm.cellOf h rfl
end Hp

set_option maxRecDepth 100000 in
set_option maxHeartbeats 2000000 in
theorem seen_any (w : World) (lv : Value) (s : Cg.S) (u : Hp.Ver) (x : Int) (h : Hid (Mm.Lv w lv s)) (hn : s.n ≤ 200) :
    Calls Try.prog 60 #[.agg #[.int .i64 (u.tid : Int), .int .i64 u.xmin, .int .i64 u.xmax, .slice u.p u.xs.length u.c], lv, .int .i64 x] w fun e w' => e = .returned (.bool (Hp.seen s x u)) ∧ Below w.heap.size w w' := by
  obtain ⟨W0, hW0⟩ : ∃ W0, w.alloc (.cells #[.int .i64 (u.tid : Int), .int .i64 u.xmin, .int .i64 u.xmax, .slice u.p u.xs.length u.c] 100) = W0 := ⟨_, rfl⟩
  have HB0 : Hid (Below w.heap.size w W0) := Vl.hid (hW0 ▸ (Below.refl _ w).alloc (Nat.le_refl _) _)
  have HX : Hid (Hp.Bx W0 w.heap.size u) := Vl.hid (hW0 ▸ Mm.newAt w _ rfl)
  have c2 := HX.out.c2
  have hqlt := Mm.heapLt HX.out
  have HL0 := Vl.hid (h.out.below HB0.out)
  unfold Hp.seen
  obtain ⟨b1, hb1⟩ : ∃ b, b = ((Cg.gt s u.xmax).st != 3) := ⟨_, rfl⟩
  obtain ⟨b2, hb2⟩ : ∃ b, b = Cg.sees s x u.xmax := ⟨_, rfl⟩
  obtain ⟨b3, hb3⟩ : ∃ b, b = Cg.sees s x u.xmin := ⟨_, rfl⟩
  rw [← hb1, ← hb2, ← hb3]
  have g1 : ((((Cg.gt s u.xmax).st : Int)) != 3) = b1 := by rw [hb1, Bool.eq_iff_iff]; simp; omega
  have C2 : Hid (∀ wz, Hid (Mm.Lv wz lv s) → Calls Try.prog 61 #[lv, .int .i64 x, .int .i64 u.xmax] wz fun e w' => e = .returned (.bool b2) ∧ Below wz.heap.size wz w') := Vl.hid (fun wz hz => hb2 ▸ sees_any wz lv s x u.xmax hz hn)
  have C3 : Hid (∀ wz, Hid (Mm.Lv wz lv s) → Calls Try.prog 61 #[lv, .int .i64 x, .int .i64 u.xmin] wz fun e w' => e = .returned (.bool b3) ∧ Below wz.heap.size wz w') := Vl.hid (fun wz hz => hb3 ▸ sees_any wz lv s x u.xmin hz hn)
  clear hb1 hb2 hb3
  cases b3
  · cases b1
    · go_enter Try.func60, Try.ntmps60
      go_wp2_with fail
      refine (state_any W0 lv s u.xmax HL0 hn).mono ?_
      rintro e w1 ⟨rfl, hb⟩
      have HB1 := Vl.hid (HB0.out.trans (hb.mono HB0.out.size))
      have HX1 := Vl.hid (HX.out.below hb)
      have HL1 := Vl.hid (HL0.out.below hb)
      have k2 := HX1.out.c2
      have k1 := HX1.out.c1
      have hq1 := Mm.heapLt HX1.out
      clear hb
      go_wp2_with fail
      refine (C3.out _ HL1).mono ?_
      rintro e w3 ⟨rfl, hb⟩
      have HB3 := Vl.hid (HB1.out.trans (hb.mono HB1.out.size))
      clear hb
      go_wp2_with fail
      go_ret
      exact ⟨rfl, HB3.out⟩
    · cases b2
      · go_enter Try.func60, Try.ntmps60
        go_wp2_with fail
        refine (state_any W0 lv s u.xmax HL0 hn).mono ?_
        rintro e w1 ⟨rfl, hb⟩
        have HB1 := Vl.hid (HB0.out.trans (hb.mono HB0.out.size))
        have HX1 := Vl.hid (HX.out.below hb)
        have HL1 := Vl.hid (HL0.out.below hb)
        have k2 := HX1.out.c2
        have k1 := HX1.out.c1
        have hq1 := Mm.heapLt HX1.out
        clear hb
        go_wp2_with fail
        refine (C2.out _ HL1).mono ?_
        rintro e w2 ⟨rfl, hb⟩
        have HB2 := Vl.hid (HB1.out.trans (hb.mono HB1.out.size))
        have HX2 := Vl.hid (HX1.out.below hb)
        have HL2 := Vl.hid (HL1.out.below hb)
        have j1 := HX2.out.c1
        have hq2 := Mm.heapLt HX2.out
        clear hb
        go_wp2_with fail
        refine (C3.out _ HL2).mono ?_
        rintro e w3 ⟨rfl, hb⟩
        have HB3 := Vl.hid (HB2.out.trans (hb.mono HB2.out.size))
        clear hb
        go_wp2_with fail
        go_ret
        exact ⟨rfl, HB3.out⟩
      · go_enter Try.func60, Try.ntmps60
        go_wp2_with fail
        refine (state_any W0 lv s u.xmax HL0 hn).mono ?_
        rintro e w1 ⟨rfl, hb⟩
        have HB1 := Vl.hid (HB0.out.trans (hb.mono HB0.out.size))
        have HX1 := Vl.hid (HX.out.below hb)
        have HL1 := Vl.hid (HL0.out.below hb)
        have k2 := HX1.out.c2
        have k1 := HX1.out.c1
        have hq1 := Mm.heapLt HX1.out
        clear hb
        go_wp2_with fail
        refine (C2.out _ HL1).mono ?_
        rintro e w2 ⟨rfl, hb⟩
        have HB2 := Vl.hid (HB1.out.trans (hb.mono HB1.out.size))
        have HX2 := Vl.hid (HX1.out.below hb)
        have HL2 := Vl.hid (HL1.out.below hb)
        have j1 := HX2.out.c1
        have hq2 := Mm.heapLt HX2.out
        clear hb
        go_wp2_with fail
        refine (C3.out _ HL2).mono ?_
        rintro e w3 ⟨rfl, hb⟩
        have HB3 := Vl.hid (HB2.out.trans (hb.mono HB2.out.size))
        clear hb
        go_wp2_with fail
        go_ret
        exact ⟨rfl, HB3.out⟩
  · cases b1
    · go_enter Try.func60, Try.ntmps60
      go_wp2_with fail
      refine (state_any W0 lv s u.xmax HL0 hn).mono ?_
      rintro e w1 ⟨rfl, hb⟩
      have HB1 := Vl.hid (HB0.out.trans (hb.mono HB0.out.size))
      have HX1 := Vl.hid (HX.out.below hb)
      have HL1 := Vl.hid (HL0.out.below hb)
      have k2 := HX1.out.c2
      have k1 := HX1.out.c1
      have hq1 := Mm.heapLt HX1.out
      clear hb
      go_wp2_with fail
      refine (C3.out _ HL1).mono ?_
      rintro e w3 ⟨rfl, hb⟩
      have HB3 := Vl.hid (HB1.out.trans (hb.mono HB1.out.size))
      clear hb
      go_wp2_with fail
      go_ret
      exact ⟨rfl, HB3.out⟩
    · cases b2
      · go_enter Try.func60, Try.ntmps60
        go_wp2_with fail
        refine (state_any W0 lv s u.xmax HL0 hn).mono ?_
        rintro e w1 ⟨rfl, hb⟩
        have HB1 := Vl.hid (HB0.out.trans (hb.mono HB0.out.size))
        have HX1 := Vl.hid (HX.out.below hb)
        have HL1 := Vl.hid (HL0.out.below hb)
        have k2 := HX1.out.c2
        have k1 := HX1.out.c1
        have hq1 := Mm.heapLt HX1.out
        clear hb
        go_wp2_with fail
        refine (C2.out _ HL1).mono ?_
        rintro e w2 ⟨rfl, hb⟩
        have HB2 := Vl.hid (HB1.out.trans (hb.mono HB1.out.size))
        have HX2 := Vl.hid (HX1.out.below hb)
        have HL2 := Vl.hid (HL1.out.below hb)
        have j1 := HX2.out.c1
        have hq2 := Mm.heapLt HX2.out
        clear hb
        go_wp2_with fail
        refine (C3.out _ HL2).mono ?_
        rintro e w3 ⟨rfl, hb⟩
        have HB3 := Vl.hid (HB2.out.trans (hb.mono HB2.out.size))
        clear hb
        go_wp2_with fail
        go_ret
        exact ⟨rfl, HB3.out⟩
      · go_enter Try.func60, Try.ntmps60
        go_wp2_with fail
        refine (state_any W0 lv s u.xmax HL0 hn).mono ?_
        rintro e w1 ⟨rfl, hb⟩
        have HB1 := Vl.hid (HB0.out.trans (hb.mono HB0.out.size))
        have HX1 := Vl.hid (HX.out.below hb)
        have HL1 := Vl.hid (HL0.out.below hb)
        have k2 := HX1.out.c2
        have k1 := HX1.out.c1
        have hq1 := Mm.heapLt HX1.out
        clear hb
        go_wp2_with fail
        refine (C2.out _ HL1).mono ?_
        rintro e w2 ⟨rfl, hb⟩
        have HB2 := Vl.hid (HB1.out.trans (hb.mono HB1.out.size))
        have HX2 := Vl.hid (HX1.out.below hb)
        have HL2 := Vl.hid (HL1.out.below hb)
        have j1 := HX2.out.c1
        have hq2 := Mm.heapLt HX2.out
        clear hb
        go_wp2_with fail
        refine (C3.out _ HL2).mono ?_
        rintro e w3 ⟨rfl, hb⟩
        have HB3 := Vl.hid (HB2.out.trans (hb.mono HB2.out.size))
        clear hb
        go_wp2_with fail
        go_ret
        exact ⟨rfl, HB3.out⟩
end Go.Proofs.Ytoobljkjhpkghaa
