/- Two rows of numbers compared; a row of one number; wakes. -/
import Derived.Test.YtoobljkjhpkghaaHb0
namespace Go.Proofs.Ytoobljkjhpkghaa
open Go.RowKit

namespace Mm
def IIn (w : World) (q : Option Addr) (l : List Int) : Prop := ∀ (j : Nat) (x : Int), l[j]? = some x → ∃ b o, q = some ⟨b, o, none⟩ ∧ b < w.heap.size ∧ w.cell? ⟨b, o + j, none⟩ = some (.int .i64 x)
theorem IIn.below {w w' : World} {q : Option Addr} {l : List Int} (h : IIn w q l) (hb : Below w.heap.size w w') : IIn w' q l := fun j x hx => by
  obtain ⟨b, o, h1, h2, h3⟩ := h j x hx
  exact ⟨b, o, h1, Nat.lt_of_lt_of_le h2 hb.size, (belAt hb _ h2).trans h3⟩
theorem Own.nin {w : World} {base : Nat} {v : Value} {l : List Nat} (h : Own w base 3 v (nts l)) : ∃ q c, v = .slice q (l.map (fun n : Nat => (n : Int))).length c ∧ IIn w q (l.map (fun n : Nat => (n : Int))) := by
  obtain ⟨q, c, h1, h2, -, -, -⟩ := h.shape
  refine ⟨q, c, by rw [h1, nts_len, List.length_map], fun j x hx => ?_⟩
  rw [List.getElem?_map] at hx
  cases hy : l[j]? with
  | none => rw [hy] at hx; cases hx
  | some y =>
    rw [hy] at hx
    cases hx
    obtain ⟨g, c', e1, -, e3, -, -⟩ := h.at (nts_at hy)
    rw [h1] at e1
    injection e1 with e1
    exact ⟨g, 0, e1, World.block_lt_of_cell? _ _ e3, by rw [Nat.zero_add]; exact e3⟩
theorem nts_its (l : List Nat) : nts l = its (l.map (fun n : Nat => (n : Int))) := by simp [nts, its]
theorem Own.iin {w : World} {base : Nat} {v : Value} {l : List Int} (h : Own w base 3 v (its l)) : ∃ q c, v = .slice q l.length c ∧ l.length ≤ c ∧ IIn w q l := by
  obtain ⟨q, c, h1, h2, -, -, -⟩ := h.shape
  refine ⟨q, c, by rw [h1, its_len], by rw [its_len] at h2; exact h2, fun j x hx => ?_⟩
  obtain ⟨g, c', e1, -, e3, -, -⟩ := h.at (its_at hx)
  rw [h1] at e1
  injection e1 with e1
  exact ⟨g, 0, e1, World.block_lt_of_cell? _ _ e3, by rw [Nat.zero_add]; exact e3⟩
/-- One number, laid just now. -/
theorem iin_one {w : World} {g : Nat} {x : Int} (h : w.heap[g]? = some (.cells #[.int .i64 x] 3 (0, 0))) : IIn w (some ⟨g, 0, none⟩) [x] := fun j y hy => by
  match j, hy with
  | 0, hy => simp at hy; subst hy; exact ⟨g, 0, rfl, heapLt h, cellOf h rfl⟩
end Mm

set_option maxRecDepth 100000 in
set_option maxHeartbeats 2000000 in
theorem ints_any (la lb : List Int) (pa pb : Option Addr) (ca cb : Nat) (w : World) (ha : Hid (Mm.IIn w pa la)) (hb : Hid (Mm.IIn w pb lb)) (hn : la.length ≤ 1000000) :
    Calls Try.prog 18 #[.slice pa la.length ca, .slice pb lb.length cb] w fun e w' => e = .returned (.bool (decide (la = lb))) ∧ Below w.heap.size w w' := by
  by_cases hl : la.length = lb.length
  · obtain ⟨n, hnn⟩ : ∃ n, n = la.length := ⟨_, rfl⟩
    rw [← hl, ← hnn]
    rw [← hnn] at hn
    have HN := Mm.hid hnn
    have HL := Mm.hid hl
    clear hl hnn
    go_enter Try.func18, Try.ntmps18
    go_wp2_with fail
    go_loopw [5] (fun vi wr => ∃ k : Nat, k ≤ n ∧ vi = .int .i64 (k : Int) ∧ Hid (∀ j : Nat, j < k → la[j]? = lb[j]?) ∧ Hid (Below w.heap.size w wr)) (fun vi _ => n - (RowKit.intOf vi).toNat)
    case atStart => exact ⟨0, by omega, rfl, fun j h => absurd h (Nat.not_lt_zero j), Below.refl _ _⟩
    case round =>
      obtain ⟨k, hk, rfl, HI, HB⟩ := hrel
      by_cases hlt : k < n
      · obtain ⟨a, ha1⟩ : ∃ a, la[k]? = some a := ⟨_, List.getElem?_eq_getElem (by rw [← HN.out]; exact hlt)⟩
        obtain ⟨b, hb1⟩ : ∃ b, lb[k]? = some b := ⟨_, List.getElem?_eq_getElem (by rw [← HL.out, ← HN.out]; exact hlt)⟩
        obtain ⟨g1, o1, rfl, _, hc1⟩ := (ha.out.below HB.out) k a ha1
        obtain ⟨g2, o2, rfl, _, hc2⟩ := (hb.out.below HB.out) k b hb1
        have HA := Mm.hid (And.intro ha1 hb1)
        have g01 : (0 : Int) ≤ (k : Int) := by omega
        have g02 : (k : Int) < (n : Int) := by omega
        have HCC : Hid (wr.drew.cell? ⟨g1, o1 + k, none⟩ = some (.int .i64 a) ∧ wr.drew.cell? ⟨g2, o2 + k, none⟩ = some (.int .i64 b)) := Mm.hid ⟨hc1, hc2⟩
        clear ha1 hb1 hc1 hc2
        by_cases e : a = b
        · have he : (a == b) = true := by simpa using e
          have HE := Mm.hid e
          clear e
          go_wp2_with fail
          go_region_held3 (fun w' => w'.cell? ⟨g1, o1 + k, none⟩ = some (.int .i64 a) ∧ w'.cell? ⟨g2, o2 + k, none⟩ = some (.int .i64 b)) (with_reducible exact HCC.out) (fail)
          go_wp2_with fail
          refine ⟨⟨k + 1, by omega, by go_num, fun j hj => ?_, HB.out.drew⟩, by simp [RowKit.intOf]; omega⟩
          by_cases ej : j = k
          · subst ej; rw [HA.out.1, HA.out.2, HE.out]
          · exact HI.out j (by omega)
        · have he : (a == b) = false := by simpa using e
          have HE : Hid (la ≠ lb) := Mm.hid (fun h => e (by have h1 := HA.out.1; rw [h, HA.out.2] at h1; injection h1 with h1; exact h1.symm))
          clear e
          go_wp2_with fail
          go_region_held3 (fun w' => w'.cell? ⟨g1, o1 + k, none⟩ = some (.int .i64 a) ∧ w'.cell? ⟨g2, o2 + k, none⟩ = some (.int .i64 b)) (with_reducible exact HCC.out) (fail)
          go_wp2_with fail
          go_ret
          exact ⟨by rw [decide_eq_false HE.out]; rfl, HB.out.drew⟩
      · have HE : Hid (la = lb) := Mm.hid (List.ext_getElem? (fun j => by
          by_cases hj : j < k
          · exact HI.out j hj
          · rw [List.getElem?_eq_none (by have := HN.out; omega), List.getElem?_eq_none (by have := HN.out; have := HL.out; omega)]))
        go_wp2_with fail
        go_ret
        exact ⟨by rw [decide_eq_true HE.out]; rfl, HB.out⟩
  · have hne : ((la.length : Int) == (lb.length : Int)) = false := by simp; omega
    have HE : Hid (la ≠ lb) := Mm.hid (fun h => hl (by rw [h]))
    clear hl
    go_enter Try.func18, Try.ntmps18
    go_wp2_with fail
    go_ret
    exact ⟨by rw [decide_eq_false HE.out]; rfl, Below.refl _ _⟩


theorem ints_gen (la lb : List Int) (pa pb : Option Addr) (na nb ca cb : Nat) (w : World) (ha : Hid (Mm.IIn w pa la)) (hb : Hid (Mm.IIn w pb lb)) (h1 : Hid (na = la.length)) (h2 : Hid (nb = lb.length)) (hn : la.length ≤ 1000000) :
    Calls Try.prog 18 #[.slice pa na ca, .slice pb nb cb] w fun e w' => e = .returned (.bool (decide (la = lb))) ∧ Below w.heap.size w w' := by
  rw [h1.out, h2.out]
  exact ints_any la lb pa pb ca cb w ha hb hn

def Hp.v1 (x : Int) : Vl.V := ⟨2, x, 0, ⟨#[]⟩⟩

set_option maxRecDepth 100000 in
set_option maxHeartbeats 2000000 in
theorem one_any (x : Int) (w : World) :
    Calls Try.prog 34 #[.int .i64 x] w fun e w' => e = .returned (.slice (some ⟨w.heap.size, 0, none⟩) 1 1) ∧ Vl.RowIn w' (some ⟨w.heap.size, 0, none⟩) [Hp.v1 x] ∧ Below w.heap.size w w' := by
  go_enter Try.func34, Try.ntmps34
  go_wp2_with fail
  go_ret
  refine ⟨rfl, Or.inr ⟨w.heap.size, 0, rfl, by simp, fun j u hu => ?_⟩, (Below.refl _ _).alloc (Nat.le_refl _) _⟩
  rw [Nat.zero_add]
  refine Mm.cellOf (Mm.newAt w _ rfl) ?_
  rw [← hu, show Vl.cellsV [Hp.v1 x] = [.int .i64 2, .int .i64 x, .float .f64 0, .string ⟨#[]⟩] from rfl, List.getElem?_toArray]

namespace Hp
def a1 : Cg.S := Cg.begS Cg.s0 false
def a2 : Cg.S := Cg.begS a1 false
theorem a2_inv : Cg.Inv a2 := (Cg.inv0.begS false).begS false
def wk (q : Option Addr) (d : Nat) : R := ⟨[⟨0, 1, 0, q, d, [v1 5]⟩], 1⟩
theorem wk_eq (q : Option Addr) (d : Nat) : insS r0 1 q d [v1 5] = wk q d := rfl
theorem v1_small (x : Int) : ∀ v ∈ [v1 x], v.s.size ≤ 100000 := fun v hv => by rw [List.mem_singleton.1 hv]; exact Nat.zero_le _
/-- A relation that the log's calls leave alone. -/
theorem Rn.tch {w w' : World} {base b p : Nat} {r : R} (h : Rn w base b r) (ht : Mm.Tch p w w') (hp : p < base) : Rn w' base b r := h.keep (fun g hg hl => ht.block g hl (by omega))
end Hp

set_option maxRecDepth 100000 in
set_option maxHeartbeats 2000000 in
theorem wakes_any (w : World) :
    Calls Try.prog 12 #[] w fun e w' => e = .returned (.bool true) ∧ Below w.heap.size w w' := by
  go_enter Try.func12, Try.ntmps12
  go_wp2_with fail
  refine (new_any w).mono ?_
  rintro e w1 ⟨rfl, hl, hb⟩
  obtain ⟨p, hp⟩ : ∃ p, p = w.heap.size := ⟨_, rfl⟩
  rw [← hp] at hl ⊢
  have HP := Vl.hid hp
  have HL1 := Vl.hid hl
  have HB1 := Vl.hid hb
  clear hl hb hp
  go_wp2_with fail
  refine (hnew_any w1 (p + 1) (by have := HL1.out.lt; omega)).mono ?_
  rintro e w2 ⟨rfl, hr, hb⟩
  obtain ⟨b, hbb⟩ : ∃ b, b = w1.heap.size := ⟨_, rfl⟩
  rw [← hbb] at hr ⊢
  have HR2 := Vl.hid hr
  have HL2 := Vl.hid (HL1.out.below hb)
  have HB2 := Vl.hid (HB1.out.trans (hb.mono HB1.out.size))
  clear hr hb hbb
  go_wp2_with fail
  refine (begin_any w2 p Cg.s0 false HL2 (by decide)).mono ?_
  rintro e w3 ⟨rfl, hl, hb⟩
  have HL3 : Hid (Mm.Lg w3 p Hp.a1) := Vl.hid hl
  have HR3 := Vl.hid (HR2.out.tch hb (Nat.lt_succ_self p))
  have HB3 := Vl.hid (HB2.out.trans (hb.bel (Nat.le_of_eq HP.out.symm) HB2.out.size))
  clear hl hb
  rw [show (Cg.begA Cg.s0 : Int) = 1 from rfl, show (Cg.begE Cg.s0 : Int) = 0 from rfl]
  go_wp2_with fail
  refine (begin_any w3 p Hp.a1 false HL3 (by decide)).mono ?_
  rintro e w4 ⟨rfl, hl, hb⟩
  have HL4 : Hid (Mm.Lg w4 p Hp.a2) := Vl.hid hl
  have HR4 := Vl.hid (HR3.out.tch hb (Nat.lt_succ_self p))
  have HB4 := Vl.hid (HB3.out.trans (hb.bel (Nat.le_of_eq HP.out.symm) HB3.out.size))
  clear hl hb
  rw [show (Cg.begA Hp.a1 : Int) = 2 from rfl, show (Cg.begE Hp.a1 : Int) = 0 from rfl]
  go_wp2_with fail
  refine (one_any 5 w4).mono ?_
  rintro e w5 ⟨rfl, hrow, hb⟩
  have HO5 := Vl.hid hrow
  have HR5 := Vl.hid (HR4.out.below hb)
  have HL5 := Vl.hid (HL4.out.below hb)
  have HB5 := Vl.hid (HB4.out.trans (hb.mono HB4.out.size))
  clear hrow hb
  go_wp2_with fail
  refine (insert_any w5 (p + 1) b Hp.r0 1 (some ⟨w4.heap.size, 0, none⟩) 1 [Hp.v1 5] HR5 (Vl.hid Hp.inv0) (by decide) (fun h => nomatch h) (Vl.hid (Hp.v1_small 5)) HO5).mono ?_
  rintro e w6 ⟨q, d, rfl, hr, hb, hsz⟩
  have HR6 : Hid (Hp.Rn w6 (p + 1) b (Hp.wk q d)) := Vl.hid hr
  have HV6 : Hid (Hp.Rv w6 (p + 1) (.pointer (some ⟨b, 0, none⟩)) (Hp.wk q d)) := Vl.hid (Or.inl ⟨b, rfl, hr⟩)
  have HI : Hid (Hp.Inv (Hp.wk q d)) := Vl.hid (Hp.inv0.insS 1 q d [Hp.v1 5])
  have HL6 : Hid (Mm.Lv w6 (.pointer (some ⟨p, 0, none⟩)) Hp.a2) := Vl.hid (Or.inl ⟨p, rfl, HL5.out.keep (hb.block p (by omega))⟩)
  have HB6 := Vl.hid (HB5.out.trans (hb.mono (by have := HP.out; omega)))
  clear hr hb hsz
  rw [show (Hp.insA Hp.r0 1 : Int) = 0 from rfl, show (Hp.insE Hp.r0 1 : Int) = 0 from rfl]
  go_wp2_with fail
  refine (unseen_any w6 (p + 1) _ _ (Hp.wk q d) Hp.a2 2 0 HV6 HI HL6 (by decide)).mono ?_
  rintro e w7 ⟨v7, rfl, ho, hb⟩
  rw [show Hp.unsL Hp.a2 (Hp.wk q d) 2 0 = [1] from rfl] at ho
  obtain ⟨q7, c7, rfl, -, hin⟩ := ho.iin
  have HIN := Vl.hid hin
  have HR7 := Vl.hid (HR6.out.below hb)
  have HV7 := Vl.hid (HV6.out.below hb)
  have HL7 := Vl.hid (HL6.out.below hb)
  have HB7 := Vl.hid (HB6.out.trans (hb.mono HB6.out.size))
  clear ho hb hin
  go_wp2_with fail
  refine (may_any w7 (p + 1) b _ (Hp.wk q d) Hp.a2 2 0 HR7 HI HL7 (by decide)).mono ?_
  rintro e w8 ⟨rfl, hb⟩
  have HV8 := Vl.hid (HV7.out.below hb)
  have HL8 := Vl.hid (HL7.out.below hb)
  have HIN8 := Vl.hid (HIN.out.below hb)
  have HB8 := Vl.hid (HB7.out.trans (hb.mono HB7.out.size))
  clear hb
  rw [show (Hp.mayE Hp.a2 (Hp.wk q d) 2 0 : Int) = 60 from rfl, show Hp.mayW Hp.a2 (Hp.wk q d) 2 0 = 0 from rfl]
  go_wp2_with fail
  refine (get_any w8 (p + 1) _ (Hp.wk q d) 0 HV8 HI).mono ?_
  rintro e w9 ⟨p9, c9, rfl, -, hb⟩
  have HV9 := Vl.hid (HV8.out.below hb)
  have HL9 := Vl.hid (HL8.out.below hb)
  have HIN9 := Vl.hid (HIN8.out.below hb)
  have HB9 := Vl.hid (HB8.out.trans (hb.mono HB8.out.size))
  clear hb
  rw [show (Hp.fndD (Hp.wk q d).vs 0).xmin = 1 from rfl, show (Hp.fndD (Hp.wk q d).vs 0).xmax = 0 from rfl, show (Hp.fndD (Hp.wk q d).vs 0).xs.length = 1 from rfl, show (Hp.fnd (Hp.wk q d).vs 0).isSome = true from rfl]
  go_wp2_with fail
  have HV10 : Hid (Hp.Rv (w9.alloc (.cells #[.int .i64 1, .int .i64 0, .slice p9 1 c9] 79)) (p + 1) (.pointer (some ⟨b, 0, none⟩)) (Hp.wk q d)) := Vl.hid (HV9.out.below ((Below.refl _ _).alloc (Nat.le_refl _) _))
  have HL10 : Hid (Mm.Lv (w9.alloc (.cells #[.int .i64 1, .int .i64 0, .slice p9 1 c9] 79)) (.pointer (some ⟨p, 0, none⟩)) Hp.a2) := Vl.hid (HL9.out.below ((Below.refl _ _).alloc (Nat.le_refl _) _))
  have HIN10 : Hid (Mm.IIn (w9.alloc (.cells #[.int .i64 1, .int .i64 0, .slice p9 1 c9] 79)) q7 [1]) := Vl.hid (HIN9.out.below ((Below.refl _ _).alloc (Nat.le_refl _) _))
  have HB10 : Hid (Below w.heap.size w (w9.alloc (.cells #[.int .i64 1, .int .i64 0, .slice p9 1 c9] 79))) := Vl.hid (HB9.out.alloc HB9.out.size _)
  have HX10 : Hid ((w9.alloc (.cells #[.int .i64 1, .int .i64 0, .slice p9 1 c9] 79)).heap[w9.heap.size]? = some (.cells #[.int .i64 1, .int .i64 0, .slice p9 1 c9] 79 (0, 0))) := Vl.hid (Mm.newAt w9 _ rfl)
  refine (hsees_any _ (p + 1) _ _ (Hp.wk q d) Hp.a2 1 0 HV10 HI HL10 (by decide)).mono ?_
  rintro e w11 ⟨rfl, hb⟩
  have HV11 := Vl.hid (HV10.out.below hb)
  have HL11 := Vl.hid (HL10.out.below hb)
  have HIN11 := Vl.hid (HIN10.out.below hb)
  have HB11 := Vl.hid (HB10.out.trans (hb.mono HB10.out.size))
  have HX11 := Vl.hid ((hb.block _ (Mm.heapLt HX10.out)).trans HX10.out)
  clear hb
  rw [show Hp.seesV Hp.a2 (Hp.wk q d) 1 0 = true from rfl]
  go_wp2_with fail
  refine (hsees_any _ (p + 1) _ _ (Hp.wk q d) Hp.a2 2 0 HV11 HI HL11 (by decide)).mono ?_
  rintro e w12 ⟨rfl, hb⟩
  have HIN12 := Vl.hid (HIN11.out.below hb)
  have HB12 := Vl.hid (HB11.out.trans (hb.mono HB11.out.size))
  have HX12 := Vl.hid ((hb.block _ (Mm.heapLt HX11.out)).trans HX11.out)
  clear hb
  rw [show Hp.seesV Hp.a2 (Hp.wk q d) 2 0 = false from rfl]
  go_wp2_with fail
  refine (ints_gen [1] [1] q7 (some ⟨w12.heap.size, 0, none⟩) 1 1 c7 1 _ (Vl.hid (HIN12.out.below ((Below.refl _ _).alloc (Nat.le_refl _) _))) (Vl.hid (Mm.iin_one (Mm.newAt w12 _ rfl))) (Vl.hid rfl) (Vl.hid rfl) (by decide)).mono ?_
  rintro e w13 ⟨rfl, hb⟩
  have hx13 := (hb.block _ (by have := Mm.heapLt HX12.out; simp; omega)).trans ((Mm.oldAt w12 _ (Mm.heapLt HX12.out)).trans HX12.out)
  have HB13 := Vl.hid (HB12.out.trans (((Below.refl _ w12).alloc (Nat.le_refl _) _).trans (hb.mono (by simp)) |>.mono HB12.out.size))
  have j0 : w13.cell? ⟨w9.heap.size, 0, none⟩ = some (.int .i64 1) := Mm.cellOf hx13 rfl
  have j2 : w13.cell? ⟨w9.heap.size, 2, none⟩ = some (.slice p9 1 c9) := Mm.cellOf hx13 rfl
  have jlt := Mm.heapLt hx13
  clear hb hx13
  rw [show decide (([1] : List Int) = [1]) = true from rfl]
  go_wp2_with fail
  go_ret
  exact ⟨rfl, HB13.out⟩
end Go.Proofs.Ytoobljkjhpkghaa
