/- Which version has a number: all, place, version. -/
import Derived.Test.YtoobljkjhpkghaaHa3
namespace Go.Proofs.Ytoobljkjhpkghaa
open Go.RowKit

set_option maxRecDepth 100000 in
set_option maxHeartbeats 2000000 in
theorem isNaN_int (x : Int) (w : World) :
    Calls Try.prog 78 #[.int .i64 x] w fun e w' => e = .returned (.bool false) ∧ w' = w := by
  go_enter Try.func78, Try.ntmps78
  go_wp2
  go_ret
  exact ⟨by simp, rfl⟩

namespace Hp
def cmpI (a b : Int) : Int := if a < b then -1 else if b < a then 1 else 0
end Hp

set_option maxRecDepth 100000 in
set_option maxHeartbeats 2000000 in
theorem compareI_any (x y : Int) (w : World) :
    Calls Try.prog 69 #[.int .i64 x, .int .i64 y] w fun e w' => e = .returned (.int .i64 (Hp.cmpI x y)) ∧ w' = w := by
  unfold Hp.cmpI
  by_cases h1 : x < y
  · rw [if_pos h1]
    go_enter Try.func69, Try.ntmps69
    go_wp2_with (go_at_call 78; refine (isNaN_int _ _).mono ?_; rintro e w' ⟨rfl, rfl⟩)
    go_ret
    exact ⟨rfl, rfl⟩
  · rw [if_neg h1]
    by_cases h2 : y < x
    · rw [if_pos h2]
      go_enter Try.func69, Try.ntmps69
      go_wp2_with (go_at_call 78; refine (isNaN_int _ _).mono ?_; rintro e w' ⟨rfl, rfl⟩)
      go_ret
      exact ⟨rfl, rfl⟩
    · rw [if_neg h2]
      go_enter Try.func69, Try.ntmps69
      go_wp2_with (go_at_call 78; refine (isNaN_int _ _).mono ?_; rintro e w' ⟨rfl, rfl⟩)
      go_ret
      exact ⟨rfl, rfl⟩

set_option maxRecDepth 100000 in
set_option maxHeartbeats 2000000 in
theorem placeLit_any (a b c : Int) (s : Option Addr) (l k : Nat) (t : Int) (w : World) :
    Calls Try.prog 68 #[.agg #[.int .i64 a, .int .i64 b, .int .i64 c, .slice s l k], .int .i64 t] w fun e w' => e = .returned (.int .i64 (Hp.cmpI a t)) ∧ Below w.heap.size w w' := by
  go_enter Try.func68, Try.ntmps68
  go_wp2_with fail
  refine (compareI_any _ _ _).mono ?_
  rintro e w1 ⟨rfl, rfl⟩
  go_wp2_with fail
  go_ret
  exact ⟨rfl, (Below.refl _ _).alloc (Nat.le_refl _) _⟩

namespace Hp
/-- How many versions stand ahead of a number. -/
def pos (l : List Ver) (t : Int) : Nat := l.countP (fun v => decide ((v.tid : Int) < t))
theorem pos_at : ∀ (l : List Ver) (t : Int) (i : Nat), i ≤ l.length → (∀ (j : Nat) (v : Ver), j < i → l[j]? = some v → (v.tid : Int) < t) → (∀ (j : Nat) (v : Ver), i ≤ j → l[j]? = some v → t ≤ (v.tid : Int)) → pos l t = i
  | [], t, i, hi, _, _ => by simp at hi; simp [pos, hi]
  | a :: r, t, 0, _, _, h2 => by
    unfold pos
    rw [List.countP_eq_zero]
    intro v hv
    obtain ⟨j, hj⟩ := List.getElem?_of_mem hv
    have := h2 j v (Nat.zero_le _) hj
    simp; omega
  | a :: r, t, i + 1, hi, h1, h2 => by
    have ha := h1 0 a (by omega) rfl
    have ih := pos_at r t i (by simpa using hi) (fun j v hj hv => h1 (j + 1) v (by omega) (by simpa using hv)) (fun j v hj hv => h2 (j + 1) v (by omega) (by simpa using hv))
    unfold pos at ih ⊢
    rw [List.countP_cons_of_pos (by simpa using ha), ih]
/-- The version of a number stands there. -/
theorem fnd_at {l : List Ver} (hu : l.Pairwise (fun a b => a.tid < b.tid)) {j : Nat} {v : Ver} (h : l[j]? = some v) : fnd l (v.tid : Int) = some v := by
  induction l generalizing j with
  | nil => simp at h
  | cons a r ih =>
    unfold fnd
    rw [List.find?_cons]
    cases j with
    | zero => simp at h; subst h; simp
    | succ j =>
      have hv : r[j]? = some v := by simpa using h
      have := (List.pairwise_cons.1 hu).1 v (List.mem_of_getElem? hv)
      have e : ((a.tid : Int) == (v.tid : Int)) = false := by simp; omega
      rw [e]
      exact ih (List.pairwise_cons.1 hu).2 hv
theorem fnd_none {l : List Ver} {t : Int} (h : ∀ (j : Nat) (v : Ver), l[j]? = some v → (v.tid : Int) ≠ t) : fnd l t = none := by
  unfold fnd
  rw [List.find?_eq_none]
  intro v hv
  obtain ⟨j, hj⟩ := List.getElem?_of_mem hv
  simpa using h j v hj
theorem fnd_mem {l : List Ver} {t : Int} {v : Ver} (h : fnd l t = some v) : v ∈ l ∧ (v.tid : Int) = t := ⟨List.mem_of_find?_eq_some h, by simpa using List.find?_some h⟩
theorem mono {l : List Ver} (hu : l.Pairwise (fun a b => a.tid < b.tid)) {i j : Nat} {a b : Ver} (h : i ≤ j) (hi : l[i]? = some a) (hj : l[j]? = some b) : a.tid ≤ b.tid := by
  by_cases e : i = j
  · subst e; rw [hi] at hj; cases hj; exact Nat.le_refl _
  · obtain ⟨h1, h2⟩ := List.getElem?_eq_some_iff.1 hi
    obtain ⟨h3, h4⟩ := List.getElem?_eq_some_iff.1 hj
    have := List.pairwise_iff_getElem.1 hu i j h1 h3 (by omega)
    rw [h2, h4] at this
    omega
/-- Versions lie where a slice says. -/
theorem liesAt {w : World} {p : Option Addr} {l : List Ver} (h : Vl.Lies w p (cellsR l)) {j : Nat} {v : Ver} (hv : l[j]? = some v) : ∃ b o, p = some ⟨b, o, none⟩ ∧ b < w.heap.size ∧ w.cell? ⟨b, o + j * 4, none⟩ = some (.int .i64 (v.tid : Int)) ∧ w.cell? ⟨b, o + j * 4 + 1, none⟩ = some (.int .i64 v.xmin) ∧ w.cell? ⟨b, o + j * 4 + 2, none⟩ = some (.int .i64 v.xmax) ∧ w.cell? ⟨b, o + j * 4 + 3, none⟩ = some (.slice v.p v.xs.length v.c) := by
  obtain ⟨c0, c1, c2, c3⟩ := cellsR_at l j v hv
  rcases h with h | ⟨b, o, h1, h2, h3⟩
  · rw [List.length_eq_zero_iff.1 h] at c0; simp at c0
  · exact ⟨b, o, h1, h2, h3 _ _ c0, by rw [Nat.add_assoc]; exact h3 _ _ c1, by rw [Nat.add_assoc]; exact h3 _ _ c2, by rw [Nat.add_assoc]; exact h3 _ _ c3⟩
end Hp

set_option maxRecDepth 100000 in
set_option maxHeartbeats 2000000 in
theorem search_any (l : List Hp.Ver) (t : Int) (p : Option Addr) (n c : Nat) (w : World) (hn : l.length = n) (hn2 : n ≤ 100000) (H : Hid (Vl.Lies w p (Hp.cellsR l))) (hu : Hid (l.Pairwise (fun a b => a.tid < b.tid))) :
    Calls Try.prog 67 #[.slice p n c, .int .i64 t, .func (.func 68) #[] #[]] w fun e w' => e = .returned (.tuple #[.int .i64 (Hp.pos l t : Int), .bool (Hp.fnd l t).isSome]) ∧ Below w.heap.size w w' := by
  have HN := Vl.hid hn
  clear hn
  go_enter Try.func67, Try.ntmps67
  go_wp2_with fail
  go_loopw [9, 10, 11] (fun v9 v10 _ wr => ∃ lo hi : Nat, v9 = .int .i64 (lo : Int) ∧ v10 = .int .i64 (hi : Int) ∧ lo ≤ hi ∧ hi ≤ n ∧ Hid ((∀ (j : Nat) (v : Hp.Ver), j < lo → l[j]? = some v → (v.tid : Int) < t) ∧ (∀ (j : Nat) (v : Hp.Ver), hi ≤ j → l[j]? = some v → t ≤ (v.tid : Int))) ∧ Hid (Below w.heap.size w wr)) (fun v9 v10 _ _ => (RowKit.intOf v10).toNat - (RowKit.intOf v9).toNat)
  case atStart => exact ⟨0, n, rfl, rfl, Nat.zero_le _, Nat.le_refl _, Vl.hid ⟨fun j v h _ => absurd h (Nat.not_lt_zero j), fun j v h hv => by have := (List.getElem?_eq_some_iff.1 hv).1; have := HN.out; omega⟩, Vl.hid (Below.refl _ _)⟩
  case round =>
    obtain ⟨lo, hi, rfl, rfl, hlh, hin, HI, HB⟩ := hrel
    rename World => wr
    by_cases hlt : lo < hi
    · obtain ⟨v, hv⟩ : ∃ v, l[(lo + hi) / 2]? = some v := ⟨l[(lo + hi) / 2]'(by rw [HN.out]; omega), List.getElem?_eq_getElem _⟩
      obtain ⟨b, o, rfl, hb, d0, d1, d2, d3⟩ := Hp.liesAt (H.out.below HB.out) hv
      have HV := Vl.hid hv
      clear hv
      have g1 : (0 : Int) ≤ ((lo : Int) + (hi : Int)) / 2 := by omega
      have g2 : ((lo : Int) + (hi : Int)) / 2 < (n : Int) := by omega
      have g3 : (((lo : Int) + (hi : Int)) / 2).toNat = (lo + hi) / 2 := by omega
      by_cases hx : (v.tid : Int) < t
      · have HC : Hid (Hp.cmpI (v.tid : Int) t = -1) := Vl.hid (by unfold Hp.cmpI; rw [if_pos hx])
        have HI2 : Hid (∀ (j : Nat) (u : Hp.Ver), j < (lo + hi) / 2 + 1 → l[j]? = some u → (u.tid : Int) < t) := Vl.hid (fun j u hj hu2 => by
          have := Hp.mono hu.out (i := j) (j := (lo + hi) / 2) (by omega) hu2 HV.out
          omega)
        clear hx
        go_wp2_with fail
        refine (placeLit_any (v.tid : Int) v.xmin v.xmax v.p v.xs.length v.c t wr).mono ?_
        rintro e w2 ⟨rfl, hb2⟩
        have HB2 := Vl.hid (HB.out.trans (hb2.mono HB.out.size))
        clear hb2
        rw [HC.out]
        go_wp2_with fail
        exact ⟨⟨(lo + hi) / 2 + 1, hi, by go_num, rfl, by omega, hin, Vl.hid ⟨HI2.out, HI.out.2⟩, HB2⟩, by simp [RowKit.intOf]; omega⟩
      · have HC : Hid (Hp.cmpI (v.tid : Int) t = 0 ∨ Hp.cmpI (v.tid : Int) t = 1) := Vl.hid (by unfold Hp.cmpI; rw [if_neg hx]; split <;> simp)
        have HI2 : Hid (∀ (j : Nat) (u : Hp.Ver), (lo + hi) / 2 ≤ j → l[j]? = some u → t ≤ (u.tid : Int)) := Vl.hid (fun j u hj hu2 => by
          have := Hp.mono hu.out (i := (lo + hi) / 2) (j := j) (by omega) HV.out hu2
          omega)
        clear hx
        go_wp2_with fail
        refine (placeLit_any (v.tid : Int) v.xmin v.xmax v.p v.xs.length v.c t wr).mono ?_
        rintro e w2 ⟨rfl, hb2⟩
        have HB2 := Vl.hid (HB.out.trans (hb2.mono HB.out.size))
        clear hb2
        obtain ⟨z, hz⟩ : ∃ z, z = Hp.cmpI (v.tid : Int) t := ⟨_, rfl⟩
        have hz0 : ¬ z < 0 := by have := HC.out; omega
        rw [← hz]
        clear hz
        go_wp2_with fail
        exact ⟨⟨lo, (lo + hi) / 2, rfl, by go_num, by omega, by omega, Vl.hid ⟨HI.out.1, HI2.out⟩, HB2⟩, by simp [RowKit.intOf]; omega⟩
    · obtain rfl : hi = lo := by omega
      have HP : Hid (Hp.pos l t = hi) := Vl.hid (Hp.pos_at l t hi (by rw [HN.out]; exact hin) HI.out.1 HI.out.2)
      by_cases hl : hi < n
      · obtain ⟨v, hv⟩ : ∃ v, l[hi]? = some v := ⟨l[hi]'(by rw [HN.out]; omega), List.getElem?_eq_getElem _⟩
        obtain ⟨b, o, rfl, hb, d0, d1, d2, d3⟩ := Hp.liesAt (H.out.below HB.out) hv
        have HV := Vl.hid hv
        clear hv
        by_cases hx : (v.tid : Int) = t
        · have HC : Hid (Hp.cmpI (v.tid : Int) t = 0) := Vl.hid (by unfold Hp.cmpI; rw [if_neg (by omega), if_neg (by omega)])
          have HF : Hid ((Hp.fnd l t).isSome = true) := Vl.hid (by rw [← hx, Hp.fnd_at hu.out HV.out]; rfl)
          clear hx
          go_wp2_with fail
          refine (placeLit_any (v.tid : Int) v.xmin v.xmax v.p v.xs.length v.c t wr).mono ?_
          rintro e w2 ⟨rfl, hb2⟩
          have HB2 := Vl.hid (HB.out.trans (hb2.mono HB.out.size))
          clear hb2
          rw [HC.out]
          go_wp2_with fail
          go_ret2
          exact ⟨by rw [HP.out, HF.out]; rfl, HB2.out⟩
        · have HC : Hid (Hp.cmpI (v.tid : Int) t = 1) := Vl.hid (by have := HI.out.2 hi v (Nat.le_refl _) HV.out; unfold Hp.cmpI; rw [if_neg (by omega), if_pos (by omega)])
          have HF : Hid ((Hp.fnd l t).isSome = false) := Vl.hid (by
            rw [Hp.fnd_none (fun j u hu2 => ?_)]
            · rfl
            · by_cases hj : j < hi
              · have := HI.out.1 j u hj hu2; omega
              · have := Hp.mono hu.out (i := hi) (j := j) (by omega) HV.out hu2
                have := HI.out.2 hi v (Nat.le_refl _) HV.out
                omega)
          clear hx
          go_wp2_with fail
          refine (placeLit_any (v.tid : Int) v.xmin v.xmax v.p v.xs.length v.c t wr).mono ?_
          rintro e w2 ⟨rfl, hb2⟩
          have HB2 := Vl.hid (HB.out.trans (hb2.mono HB.out.size))
          clear hb2
          rw [HC.out]
          go_wp2_with fail
          go_ret2
          exact ⟨by rw [HP.out, HF.out]; rfl, HB2.out⟩
      · have HF : Hid ((Hp.fnd l t).isSome = false) := Vl.hid (by
          rw [Hp.fnd_none (fun j u hu2 => ?_)]
          · rfl
          · have := (List.getElem?_eq_some_iff.1 hu2).1
            have := HN.out
            have := HI.out.1 j u (by omega) hu2; omega)
        go_wp2_with fail
        go_ret2
        exact ⟨by rw [HP.out, HF.out]; rfl, HB.out⟩

/-- A relation, or none. -/
def Hp.Rv (w : World) (base : Nat) (v : Value) (r : Hp.R) : Prop := (∃ b, v = .pointer (some ⟨b, 0, none⟩) ∧ Hp.Rn w base b r) ∨ (v = .pointer none ∧ r = Hp.r0)
theorem Hp.Rv.below {w w' : World} {base : Nat} {v : Value} {r : Hp.R} (h : Hp.Rv w base v r) (hb : Below w.heap.size w w') : Hp.Rv w' base v r := by
  rcases h with ⟨b, h1, h2⟩ | h
  · exact Or.inl ⟨b, h1, h2.below hb⟩
  · exact Or.inr h
/-- The rows of versions. -/
structure Hp.Rows (w : World) (base : Nat) (r : Hp.R) : Prop where
  rows : ∀ v ∈ r.vs, w.ownsRow base 50 4 v.rv v.xs.length (Vl.cellsV v.xs)
  small : ∀ v ∈ r.vs, v.xs.length ≤ 1000000
theorem Hp.Rows.below {w w' : World} {base : Nat} {r : Hp.R} (h : Hp.Rows w base r) (hb : Below w.heap.size w w') : Hp.Rows w' base r := ⟨fun v hv => Vl.own_below (h.rows v hv) hb, h.small⟩

set_option maxRecDepth 100000 in
set_option maxHeartbeats 2000000 in
theorem all0_any (w : World) (base : Nat) (v : Value) (r : Hp.R) (hR : Hid (Hp.Rv w base v r)) :
    Calls Try.prog 63 #[v] w fun e w' => ∃ p c, e = .returned (.slice p r.vs.length c) ∧ r.vs.length ≤ c ∧ Vl.Lies w p (Hp.cellsR r.vs) ∧ Hp.Rows w base r ∧ w' = w := by
  rcases hR.out with ⟨b, rfl, sv, hl⟩ | ⟨rfl, rfl⟩
  · have c0 := hl.c0
    have hlt := Mm.heapLt hl.blk
    obtain ⟨p, c, rfl, hc, hlies⟩ := Vl.lies_own hl.own
    have HL := Vl.hid (And.intro hc (And.intro hlies (Hp.Rows.mk hl.rows hl.small)))
    obtain ⟨L, hL⟩ : ∃ L, L = r.vs.length := ⟨_, rfl⟩
    rw [← hL] at c0 HL ⊢
    clear hl hc hlies hL
    go_enter Try.func63, Try.ntmps63
    go_wp2_with fail
    go_ret
    exact ⟨p, c, rfl, HL.out.1, HL.out.2.1, HL.out.2.2, rfl⟩
  · go_enter Try.func63, Try.ntmps63
    go_wp2_with fail
    go_ret
    exact ⟨none, 0, rfl, Nat.le_refl _, Or.inl rfl, ⟨fun v h => by simp [Hp.r0] at h, fun v h => by simp [Hp.r0] at h⟩, rfl⟩

set_option maxRecDepth 100000 in
set_option maxHeartbeats 2000000 in
theorem place_any (w : World) (base : Nat) (v : Value) (r : Hp.R) (t : Int) (hR : Hid (Hp.Rv w base v r)) (hI : Hid (Hp.Inv r)) :
    Calls Try.prog 45 #[v, .int .i64 t] w fun e w' => e = .returned (.tuple #[.int .i64 (Hp.pos r.vs t : Int), .bool (Hp.fnd r.vs t).isSome]) ∧ Below w.heap.size w w' := by
  go_enter Try.func45, Try.ntmps45
  go_wp2_with fail
  refine (all0_any w base v r hR).mono ?_
  rintro e w1 ⟨p, c, rfl, hc, hl, hrows, rfl⟩
  have HL := Vl.hid hl
  have hlen := hI.out.len
  obtain ⟨L, hL⟩ : ∃ L, L = r.vs.length := ⟨_, rfl⟩
  rw [← hL] at hc hlen ⊢
  have HS := Vl.hid hL
  clear hl hrows hL
  go_wp2_with fail
  refine (search_any r.vs t p L c w1 HS.out.symm (by omega) HL (Vl.hid hI.out.up)).mono ?_
  rintro e w2 ⟨rfl, hb2⟩
  go_wp2_with fail
  go_ret2
  exact ⟨rfl, hb2⟩
end Go.Proofs.Ytoobljkjhpkghaa
