/- LockPlays: the reference's lists, plain. -/
import Derived.Test.YthaenobciefjiaaDoorZ15
import Derived.Test.YthaenobciefjiaaDoorYA
namespace Go.Proofs.YthaenobciefjiaaDoor
open Go.RowKit

namespace Lk
theorem foldr_rec {α : Type} {motive : List α → Prop} (h0 : motive []) (h1 : ∀ l a, motive l → motive (l ++ [a])) : ∀ l, motive l := fun l => by
  have : ∀ r : List α, motive r.reverse := fun r => by
    induction r with
    | nil => exact h0
    | cons a r ih => rw [List.reverse_cons]; exact h1 _ _ ih
  have h := this l.reverse
  rwa [List.reverse_reverse] at h
theorem setR_lt {l : List Hd} (hl : ∀ y ∈ l, y.ok) (h : Int) (n : Bytes) : setR l h n < 512 := by
  induction l using foldr_rec with
  | h0 => show 0 < 512; omega
  | h1 l y ih =>
    rw [setR_snoc]
    have h1 := ih (fun z hz => hl z (List.mem_append_left _ hz))
    have h2 := hl y (by simp)
    unfold setF
    by_cases c : hdB h n y = true
    · rw [if_pos c]; exact Nat.or_lt_two_pow (n := 9) h1 (bit_lt h2.1).2
    · rw [if_neg c]; exact h1
theorem setR_zero {l : List Hd} (hl : ∀ y ∈ l, y.ok) (h : Int) (n : Bytes) : setR l h n ≠ 0 ↔ ∃ y ∈ l, hdB h n y = true := by
  induction l using foldr_rec with
  | h0 => simp [setR_nil]
  | h1 l y ih =>
    rw [setR_snoc]
    have h1 := ih (fun z hz => hl z (List.mem_append_left _ hz))
    have h2 := hl y (by simp)
    unfold setF
    by_cases c : hdB h n y = true
    · rw [if_pos c]
      refine ⟨fun _ => ⟨y, by simp, c⟩, fun _ e => ?_⟩
      have h3 := congrArg (fun k => k.testBit y.md.toNat) e
      simp only [Nat.testBit_or, Nat.zero_testBit] at h3
      unfold bit at h3
      rw [Nat.testBit_two_pow_self, Bool.or_true] at h3
      cases h3
    · rw [if_neg c, h1]
      constructor
      · rintro ⟨z, hz, e⟩
        exact ⟨z, List.mem_append_left _ hz, e⟩
      · rintro ⟨z, hz, e⟩
        rcases List.mem_append.1 hz with hz | hz
        · exact ⟨z, hz, e⟩
        · rw [List.mem_singleton.1 hz] at e; exact absurd e c
theorem any_bitC {k m : Int} (hk : 1 ≤ k ∧ k ≤ 8) : Md.anyB (bit k : Int) m = Md.barsB m k := by
  rw [Bool.eq_iff_iff, any_iff]
  constructor
  · rintro ⟨j, _, _, h, hb⟩
    rw [in_bit hk] at h
    rw [← of_decide_eq_true h]; exact hb
  · intro h
    refine ⟨k.toNat, by omega, by omega, ?_, ?_⟩
    · rw [in_bit hk]; simp; omega
    · rw [show ((k.toNat : Nat) : Int) = k from by omega]; exact h
theorem setR_any {l : List Hd} (hl : ∀ y ∈ l, y.ok) (h : Int) (n : Bytes) (m : Int) : Md.anyB (setR l h n : Int) m = true ↔ ∃ y ∈ l, hdB h n y = true ∧ Md.barsB y.md m = true := by
  induction l using foldr_rec with
  | h0 =>
    rw [setR_nil, show ((0 : Nat) : Int) = 0 from rfl, any0]; simp
  | h1 l y ih =>
    rw [setR_snoc]
    have h0 := fun z hz => hl z (List.mem_append_left _ hz)
    have h1 := ih h0
    have h2 := hl y (by simp)
    unfold setF
    by_cases c : hdB h n y = true
    · rw [if_pos c, any_or (setR_lt h0 h n) (bit_lt h2.1).2, Bool.or_eq_true, h1, any_bitC h2.1, bars_comm]
      constructor
      · rintro (⟨z, hz, e⟩ | e)
        · exact ⟨z, List.mem_append_left _ hz, e⟩
        · exact ⟨y, by simp, c, e⟩
      · rintro ⟨z, hz, e⟩
        rcases List.mem_append.1 hz with hz | hz
        · exact Or.inl ⟨z, hz, e⟩
        · rw [List.mem_singleton.1 hz] at e; exact Or.inr e.2
    · rw [if_neg c, h1]
      constructor
      · rintro ⟨z, hz, e⟩
        exact ⟨z, List.mem_append_left _ hz, e⟩
      · rintro ⟨z, hz, e⟩
        rcases List.mem_append.1 hz with hz | hz
        · exact ⟨z, hz, e⟩
        · rw [List.mem_singleton.1 hz] at e; exact absurd e.1 c
theorem in_bit_iff {v : Nat} {m : Int} (hv : v < 512) : inS v m.toNat = true ↔ v &&& bit m ≠ 0 := by
  have l : Md.low (v : Int) = v := by unfold Md.low; omega
  have t : inS v m.toNat = v.testBit m.toNat := by
    unfold inS Md.inB
    rw [l, Nat.testBit_eq_decide_div_mod_eq]
    rfl
  rw [t]
  unfold bit
  have e : (v &&& 2 ^ m.toNat).testBit m.toNat = v.testBit m.toNat := by rw [Nat.testBit_and, Nat.testBit_two_pow_self, Bool.and_true]
  constructor
  · intro h h0
    rw [h0, Nat.zero_testBit] at e
    rw [h] at e; cases e
  · intro h
    cases hb : v.testBit m.toNat
    · exfalso
      refine h (Nat.eq_of_testBit_eq fun j => ?_)
      rw [Nat.testBit_and, Nat.testBit_two_pow, Nat.zero_testBit]
      by_cases ej : m.toNat = j
      · rw [← ej, hb]; rfl
      · simp [ej]
    · rfl
variable {s s' : St} {x m : Int} {nm : Bytes}
/-- Barred here is barred there. -/
theorem bar_iff {has A : List Hd} (hset : ∀ x n, s.set x n = setR has x n) (hnh : ∀ o n, s.hol o = false → s.set o n = 0) (hf : ∀ y ∈ has, y.ok) (ha : ahead s x nm = (A.filter (fun y => y.nm == nm)).map (·.ho)) (hw : ∀ z ∈ A, wm s z.ho = z.md) (hx : ∀ z ∈ A, z.ho ≠ x) (o : Int) :
    barB s x nm m o = true ↔ BarsR has A ⟨nm, x, m⟩ o := by
  have e1 : barH s x nm m o = true ↔ ∃ y ∈ has, hitB ⟨nm, x, m⟩ y = true ∧ y.ho = o := by
    unfold barH hitB
    rw [Bool.and_eq_true, Bool.and_eq_true, hset, setR_any hf]
    constructor
    · rintro ⟨⟨h1, h2⟩, y, hy, h3, h4⟩
      unfold hdB at h3
      rw [Bool.and_eq_true] at h3
      have h5 : y.ho = o := by simpa using h3.1
      refine ⟨y, hy, ?_, h5⟩
      rw [Bool.and_eq_true, Bool.and_eq_true]
      exact ⟨⟨h3.2, by rw [h5]; exact h1⟩, h4⟩
    · rintro ⟨y, hy, h, rfl⟩
      rw [Bool.and_eq_true, Bool.and_eq_true] at h
      have h3 : hdB y.ho nm y = true := by unfold hdB; rw [h.1.1]; simp
      refine ⟨⟨h.1.2, ?_⟩, y, hy, h3, h.2⟩
      cases hh : s.hol y.ho
      · have := hnh y.ho nm hh
        rw [hset] at this
        exact absurd this ((setR_zero hf _ _).2 ⟨y, hy, h3⟩)
      · rfl
  have e2 : ((ahead s x nm).contains o && Md.barsB (wm s o) m) = true ↔ ∃ y ∈ A, hitB ⟨nm, x, m⟩ y = true ∧ y.ho = o := by
    unfold hitB
    rw [Bool.and_eq_true, List.contains_iff_mem, ha, List.mem_map]
    constructor
    · rintro ⟨⟨y, hy, rfl⟩, h⟩
      obtain ⟨h1, h2⟩ := List.mem_filter.1 hy
      refine ⟨y, h1, ?_, rfl⟩
      rw [Bool.and_eq_true, Bool.and_eq_true]
      exact ⟨⟨h2, by simpa using hx y h1⟩, by rw [← hw y h1]; exact h⟩
    · rintro ⟨y, hy, h, rfl⟩
      rw [Bool.and_eq_true, Bool.and_eq_true] at h
      exact ⟨⟨y, List.mem_filter.2 ⟨hy, h.1.1⟩, rfl⟩, by rw [hw y hy]; exact h.2⟩
  unfold barB BarsR
  rw [Bool.or_eq_true, e1, Bool.and_eq_true, e2, decide_eq_true_eq, hset]

/-- Where x's request stands. -/
theorem find_of {A : List Hd} (hn : (A.map (·.ho)).Nodup) {z : Hd} (hz : z ∈ A) : A.find? (fun y => y.ho == z.ho) = some z := by
  induction A with
  | nil => cases hz
  | cons a A ih =>
    rw [List.map_cons, List.nodup_cons] at hn
    rcases List.mem_cons.1 hz with e | e
    · subst e; simp
    · have : a.ho ≠ z.ho := fun e2 => hn.1 (by rw [e2]; exact List.mem_map_of_mem e)
      rw [List.find?_cons_of_neg (by simpa using this)]
      exact ih hn.2 e
theorem find_no {A : List Hd} {x : Int} (h : ∀ z ∈ A, z.ho ≠ x) : A.find? (fun y => y.ho == x) = none := by
  rw [List.find?_eq_none]
  intro z hz
  simpa using h z hz
theorem find_drop {A B : List Hd} {y : Hd} {x : Int} (h : y.ho ≠ x) : (A ++ y :: B).find? (fun z => z.ho == x) = (A ++ B).find? (fun z => z.ho == x) := by
  rw [List.find?_append, List.find?_append, List.find?_cons_of_neg (by simpa using h)]

/-- A table here and the reference's lists, between two requests of a queue. -/
structure Mid (s : St) (nm : Bytes) (has A B : List Hd) : Prop where
  set : ∀ x n, s.set x n = setR has x n
  nh : ∀ o n, s.hol o = false → s.set o n = 0
  want : ∀ x, s.want x = ((A ++ B).find? (fun y => y.ho == x)).map (fun y => (y.nm, y.md))
  q : ∀ n, s.q n = ((if n = nm then A else A ++ B).filter (fun y => y.nm == n)).map (·.ho)
  nd : ((A ++ B).map (·.ho)).Nodup
  hf : ∀ y ∈ has, y.ok
  qf : ∀ y ∈ A ++ B, y.ok
theorem Mid.wmA {has A B : List Hd} (h : Mid s nm has A B) {z : Hd} (hz : z ∈ A ++ B) : s.want z.ho = some (z.nm, z.md) ∧ wm s z.ho = z.md := by
  have e : s.want z.ho = some (z.nm, z.md) := by rw [h.want, find_of h.nd hz]; rfl
  exact ⟨e, by unfold wm; rw [e]; rfl⟩
theorem Mid.apart {has A B : List Hd} {y : Hd} (h : Mid s nm has A (y :: B)) : (∀ z ∈ A, z.ho ≠ y.ho) ∧ ∀ z ∈ B, z.ho ≠ y.ho := by
  have hn := h.nd
  rw [List.map_append, List.map_cons] at hn
  obtain ⟨_, h2, h3⟩ := List.nodup_append.1 hn
  exact ⟨fun z hz => h3 _ (List.mem_map_of_mem hz) _ (List.mem_cons_self ..), fun z hz e => (List.nodup_cons.1 h2).1 (by rw [← e]; exact List.mem_map_of_mem hz)⟩
theorem Mid.barred {has A B : List Hd} {y : Hd} (h : Mid s nm has A (y :: B)) (hy : y.nm = nm) : barredP s y.ho nm y.md ↔ barsRb has A y = true := by
  rw [barsRb_iff]
  have ha : ahead s y.ho nm = (A.filter (fun z => z.nm == nm)).map (·.ho) := by
    unfold ahead
    rw [h.q, if_pos rfl]
    refine (tw_out (l := (A.filter (fun z => z.nm == nm)).map (·.ho)) (fun hm => ?_)).1
    obtain ⟨z, hz, e⟩ := List.mem_map.1 hm
    exact h.apart.1 z (List.mem_filter.1 hz).1 e
  unfold barredP
  have e := fun o => bar_iff (m := y.md) h.set h.nh h.hf ha (fun z hz => (h.wmA (List.mem_append_left _ hz)).2) h.apart.1 o
  subst hy
  exact ⟨fun ⟨o, ho⟩ => ⟨o, (e o).1 ho⟩, fun ⟨o, ho⟩ => ⟨o, (e o).2 ho⟩⟩

theorem serve_mid {B : List Hd} : ∀ {s s' : St} {has A : List Hd} {l L : List Int}, Serve nm s l s' L → Mid s nm has A B → l = (B.filter (fun y => y.nm == nm)).map (·.ho) →
    L = (serveT nm has A B).2.2 ∧ Mid s' nm (serveT nm has A B).1 (serveT nm has A B).2.1 [] := by
  induction B with
  | nil =>
    intro s s' has A l L hS hM hl
    simp at hl
    subst hl
    cases hS
    exact ⟨rfl, hM⟩
  | cons y B ih =>
    intro s s' has A l L hS hM hl
    have eAB : (A ++ [y]) ++ B = A ++ y :: B := by simp
    by_cases hy : y.nm = nm
    · rw [List.filter_cons_of_pos (by simpa using hy), List.map_cons] at hl
      subst hl
      have hyw := hM.wmA (z := y) (by simp)
      cases hS with
      | wait hm hb hs =>
        have hm2 := hyw.1.symm.trans hm
        injection hm2 with hm2
        injection hm2 with _ hm2
        subst hm2
        rw [serveT_wait (Or.inr ((hM.barred hy).1 hb))]
        refine ih hs ⟨hM.set, hM.nh, fun x => by rw [eAB]; exact hM.want x, fun n => ?_, by rw [eAB]; exact hM.nd, hM.hf, by rw [eAB]; exact hM.qf⟩ rfl
        show (if n = nm then s.q nm ++ [y.ho] else s.q n) = _
        by_cases e : n = nm
        · subst e
          rw [if_pos rfl, if_pos rfl, hM.q, if_pos rfl, List.filter_append, List.map_append, List.filter_cons_of_pos (by simpa using hy)]
          rfl
        · rw [if_neg e, if_neg e, eAB, hM.q, if_neg e]
      | get hm hb hs =>
        have hm2 := hyw.1.symm.trans hm
        injection hm2 with hm2
        injection hm2 with _ hm2
        subst hm2
        have hb' : barsRb has A y = false := by
          rw [Bool.eq_false_iff]
          exact fun e => hb ((hM.barred hy).2 e)
        rw [serveT_get hy hb']
        have hset : ∀ x n, (gotS s y.ho nm y.md).set x n = setR (has ++ [y]) x n := fun x n => by
          show (if x = y.ho ∧ n = nm then s.set y.ho nm ||| bit y.md else s.set x n) = _
          rw [setR_snoc]
          unfold setF hdB
          by_cases e : x = y.ho ∧ n = nm
          · obtain ⟨rfl, rfl⟩ := e
            rw [if_pos ⟨rfl, rfl⟩, if_pos (by simp [hy]), hM.set]
          · rw [if_neg e, if_neg (by
              simp only [Bool.and_eq_true, beq_iff_eq]
              exact fun h => e ⟨h.1.symm, by rw [← h.2]; exact hy⟩), hM.set]
        have hM2 : Mid (gotS s y.ho nm y.md) nm (has ++ [y]) A B := by
          refine ⟨hset, fun o n ho => ?_, fun x => ?_, fun n => ?_, ?_, fun z hz => ?_, fun z hz => hM.qf z ?_⟩
          · have ho' : (if o = y.ho then true else s.hol o) = false := ho
            by_cases e : o = y.ho
            · rw [if_pos e] at ho'; cases ho'
            · rw [if_neg e] at ho'
              show (if o = y.ho ∧ n = nm then s.set y.ho nm ||| bit y.md else s.set o n) = 0
              rw [if_neg (fun h => e h.1)]
              exact hM.nh o n ho'
          · show (if x = y.ho then none else s.want x) = _
            by_cases e : x = y.ho
            · subst e
              rw [if_pos rfl, find_no (fun z hz => by
                rcases List.mem_append.1 hz with hz | hz
                · exact hM.apart.1 z hz
                · exact hM.apart.2 z hz)]
              rfl
            · rw [if_neg e, hM.want, find_drop (fun h => e h.symm)]
          · show s.q n = _
            rw [hM.q]
            by_cases e : n = nm
            · rw [if_pos e, if_pos e]
            · rw [if_neg e, if_neg e, List.filter_append, List.filter_append, List.filter_cons_of_neg (by simp; exact fun h => e (h.symm.trans hy))]
          · have hn := hM.nd
            rw [List.map_append, List.map_cons] at hn
            rw [List.map_append]
            exact hn.sublist (List.Sublist.append (List.Sublist.refl _) (List.sublist_cons_self _ _))
          · rcases List.mem_append.1 hz with hz | hz
            · exact hM.hf z hz
            · rw [List.mem_singleton.1 hz]; exact hM.qf y (by simp)
          · rcases List.mem_append.1 hz with hz | hz
            · exact List.mem_append_left _ hz
            · exact List.mem_append_right _ (List.mem_cons_of_mem _ hz)
        obtain ⟨h1, h2⟩ := ih hs hM2 rfl
        exact ⟨by rw [h1], h2⟩
    · rw [List.filter_cons_of_neg (by simpa using hy)] at hl
      rw [serveT_wait (Or.inl hy)]
      refine ih hS ⟨hM.set, hM.nh, fun x => by rw [eAB]; exact hM.want x, fun n => ?_, by rw [eAB]; exact hM.nd, hM.hf, by rw [eAB]; exact hM.qf⟩ hl
      rw [hM.q]
      by_cases e : n = nm
      · rw [if_pos e, if_pos e, List.filter_append, List.filter_cons_of_neg (by rw [e]; simpa using hy)]; simp
      · rw [if_neg e, if_neg e, eAB]
end Lk

end Go.Proofs.YthaenobciefjiaaDoor

/- LockPlays: a table and the reference's lists. -/
namespace Go.Proofs.YthaenobciefjiaaDoor
open Go.RowKit

namespace Lk
variable {s s' : St} {r : Rt} {x m E : Int} {nm : Bytes}
structure Rf (s : St) (r : Rt) : Prop where
  set : ∀ x n, s.set x n = setR r.has x n
  nh : ∀ o n, s.hol o = false → s.set o n = 0
  want : ∀ x, s.want x = (r.qu.find? (fun y => y.ho == x)).map (fun y => (y.nm, y.md))
  q : ∀ n, s.q n = (r.qu.filter (fun y => y.nm == n)).map (·.ho)
  nd : (r.qu.map (·.ho)).Nodup
  hf : ∀ y ∈ r.has, y.ok
  qf : ∀ y ∈ r.qu, y.ok
theorem Rf.start : Rf st0 ⟨[], []⟩ := ⟨fun _ _ => rfl, fun _ _ _ => rfl, fun _ => rfl, fun _ => rfl, List.nodup_nil, (fun _ h => nomatch h), (fun _ h => nomatch h)⟩
theorem Rf.mid (h : Rf s r) (nm : Bytes) : Mid (emptyS s nm) nm r.has [] r.qu := by
  refine ⟨h.set, h.nh, h.want, fun n => ?_, h.nd, h.hf, h.qf⟩
  show (if n = nm then [] else s.q n) = _
  by_cases e : n = nm
  · rw [if_pos e, if_pos e]; rfl
  · rw [if_neg e, if_neg e]; exact h.q n
theorem Mid.rf {has A : List Hd} (h : Mid s nm has A []) : Rf s ⟨has, A⟩ := by
  have e : A ++ [] = A := List.append_nil A
  refine ⟨h.set, h.nh, fun x => ?_, fun n => ?_, ?_, h.hf, ?_⟩
  · rw [h.want, e]
  · rw [h.q, e]; simp
  · have := h.nd; rwa [e] at this
  · have := h.qf; rwa [e] at this
theorem Rf.wantOf (h : Rf s r) {z : Hd} (hz : z ∈ r.qu) : s.want z.ho = some (z.nm, z.md) := by rw [h.want, find_of h.nd hz]; rfl
theorem Rf.wmOf (h : Rf s r) {z : Hd} (hz : z ∈ r.qu) : wm s z.ho = z.md := by unfold wm; rw [h.wantOf hz]; rfl
theorem Rf.noneOf (h : Rf s r) (hw : s.want x = none) : ∀ z ∈ r.qu, z.ho ≠ x := fun z hz e => by
  subst e; rw [h.wantOf hz] at hw; cases hw

theorem okR_eq (x : Int) (nm : Bytes) (m : Int) : okR x nm m = okArg x nm m := rfl
theorem okArg_ok (h : okArg x nm m = true) : Hd.ok ⟨nm, x, m⟩ := by
  unfold okArg at h
  simp only [Bool.and_eq_true, decide_eq_true_eq] at h
  exact ⟨isB_iff.1 h.1.2, h.2, h.1.1.1, h.1.1.2⟩
theorem Rf.barred (h : Rf s r) (hw : s.want x = none) : barredP s x nm m ↔ barsRb r.has r.qu ⟨nm, x, m⟩ = true := by
  rw [barsRb_iff]
  have hx := h.noneOf hw
  have ha : ahead s x nm = (r.qu.filter (fun z => z.nm == nm)).map (·.ho) := by
    unfold ahead
    rw [h.q]
    refine (tw_out (l := (r.qu.filter (fun z => z.nm == nm)).map (·.ho)) (fun hm => ?_)).1
    obtain ⟨z, hz, e⟩ := List.mem_map.1 hm
    exact hx z (List.mem_filter.1 hz).1 e
  have e := fun o => bar_iff (m := m) h.set h.nh h.hf ha (fun z hz => h.wmOf hz) hx o
  exact ⟨fun ⟨o, ho⟩ => ⟨o, (e o).1 ho⟩, fun ⟨o, ho⟩ => ⟨o, (e o).2 ho⟩⟩
theorem take_rf (hT : TakeR s x nm m E s') (h : Rf s r) : E = (takeT r x nm m).1 ∧ Rf s' (takeT r x nm m).2 := by
  have hf : s.want x = none → (r.qu.find? (fun y => y.ho == x)) = none := fun hw => by
    have := h.want x
    rw [hw] at this
    cases hh : r.qu.find? (fun y => y.ho == x)
    · rfl
    · rw [hh] at this; cases this
  unfold takeT
  try rw [okR_eq]
  cases hT with
  | arg h1 => rw [if_pos h1]; exact ⟨rfl, h⟩
  | state h1 h2 =>
    have e : (r.qu.find? (fun y => y.ho == x)).isSome = true := by
      have := h.want x
      cases hh : r.qu.find? (fun y => y.ho == x)
      · rw [hh] at this; exact absurd this h2
      · rfl
    rw [if_neg (by rw [h1]; decide), if_pos e]
    exact ⟨rfl, h⟩
  | has h1 h2 h3 =>
    rw [if_neg (by rw [h1]; decide), hf h2, if_neg (by decide), if_pos (by rw [← h.set]; exact h3)]
    exact ⟨rfl, h⟩
  | waits h1 h2 h3 h4 =>
    rw [if_neg (by rw [h1]; decide), hf h2, if_neg (by decide), if_neg (by rw [← h.set]; exact fun e => e h3), if_pos ((h.barred h2).1 h4)]
    refine ⟨rfl, h.set, h.nh, fun y => ?_, fun n => ?_, ?_, h.hf, fun z hz => ?_⟩
    · show (if y = x then some (nm, m) else s.want y) = _
      dsimp only
      rw [List.find?_append]
      by_cases e : y = x
      · subst e
        rw [if_pos rfl, hf h2]
        simp
      · rw [if_neg e, List.find?_cons_of_neg (by simpa using fun h => e h.symm), List.find?_nil, Option.or_none, h.want]
    · show (if n = nm then s.q nm ++ [x] else s.q n) = _
      dsimp only
      rw [List.filter_append, List.map_append]
      by_cases e : n = nm
      · subst e
        rw [if_pos rfl, h.q, List.filter_cons_of_pos (by simp)]; rfl
      · rw [if_neg e, h.q, List.filter_cons_of_neg (by simpa using fun h => e h.symm)]; simp
    · dsimp only
      rw [List.map_append]
      refine List.nodup_append.2 ⟨h.nd, by simp, fun a ha b hb e => ?_⟩
      obtain ⟨z, hz, rfl⟩ := List.mem_map.1 ha
      simp at hb
      exact h.noneOf h2 z hz (e.trans hb)
    · rcases List.mem_append.1 hz with hz | hz
      · exact h.qf z hz
      · rw [List.mem_singleton.1 hz]; exact okArg_ok h1
  | gets h1 h2 h3 h4 =>
    rw [if_neg (by rw [h1]; decide), hf h2, if_neg (by decide), if_neg (by rw [← h.set]; exact fun e => e h3), if_neg (fun e => h4 ((h.barred h2).2 e))]
    refine ⟨rfl, fun y n => ?_, fun o n ho => ?_, h.want, h.q, h.nd, fun z hz => ?_, h.qf⟩
    · show (if y = x ∧ n = nm then s.set x nm ||| bit m else s.set y n) = _
      dsimp only
      rw [setR_snoc]
      unfold setF hdB
      by_cases e : y = x ∧ n = nm
      · obtain ⟨rfl, rfl⟩ := e
        rw [if_pos ⟨rfl, rfl⟩, if_pos (by simp), h.set]
      · rw [if_neg e, if_neg (by
          simp only [Bool.and_eq_true, beq_iff_eq]
          exact fun h => e ⟨h.1.symm, h.2.symm⟩), h.set]
    · have ho' : (if o = x then true else s.hol o) = false := ho
      by_cases e : o = x
      · rw [if_pos e] at ho'; cases ho'
      · rw [if_neg e] at ho'
        show (if o = x ∧ n = nm then s.set x nm ||| bit m else s.set o n) = 0
        rw [if_neg (fun h => e h.1)]
        exact h.nh o n ho'
    · rcases List.mem_append.1 hz with hz | hz
      · exact h.hf z hz
      · rw [List.mem_singleton.1 hz]; exact okArg_ok h1
theorem takeT_len (r : Rt) (x : Int) (nm : Bytes) (m : Int) : (takeT r x nm m).2.has.length + (takeT r x nm m).2.qu.length ≤ r.has.length + r.qu.length + 1 := by
  unfold takeT
  try rw [okR_eq]
  split
  · exact Nat.le_succ _
  · split
    · exact Nat.le_succ _
    · split
      · exact Nat.le_succ _
      · split
        · simp; omega
        · simp; omega

theorem setR_leave (l : List Hd) (x y : Int) (n : Bytes) : setR (l.filter (fun z => z.ho != x)) y n = if y = x then 0 else setR l y n := by
  induction l using foldr_rec with
  | h0 => simp [setR_nil]
  | h1 l a ih =>
    rw [List.filter_append]
    by_cases e : a.ho = x
    · rw [List.filter_cons_of_neg (by simpa using e), List.filter_nil, List.append_nil, ih, setR_snoc]
      by_cases e2 : y = x
      · rw [if_pos e2, if_pos e2]
      · rw [if_neg e2, if_neg e2]
        unfold setF hdB
        rw [if_neg (by
          simp only [Bool.and_eq_true, beq_iff_eq]
          exact fun h => e2 (h.1.symm.trans e))]
    · rw [List.filter_cons_of_pos (by simpa using e), List.filter_nil, setR_snoc, ih, setR_snoc]
      by_cases e2 : y = x
      · rw [if_pos e2, if_pos e2]
        unfold setF hdB
        rw [if_neg (by
          simp only [Bool.and_eq_true, beq_iff_eq]
          exact fun h => e (h.1.trans e2))]
      · rw [if_neg e2, if_neg e2]
theorem leave_rf (h : Rf s r) (x : Int) : Rf (leaveS s x) (leaveT r x) := by
  refine ⟨fun y n => ?_, fun o n ho => ?_, fun y => ?_, fun n => ?_, ?_, fun z hz => h.hf z (List.mem_filter.1 hz).1, fun z hz => h.qf z (List.mem_filter.1 hz).1⟩
  · show (if y = x then 0 else s.set y n) = setR (r.has.filter _) y n
    rw [setR_leave, h.set]
  · have ho' : (if o = x then false else s.hol o) = false := ho
    show (if o = x then 0 else s.set o n) = 0
    by_cases e : o = x
    · rw [if_pos e]
    · rw [if_neg e] at ho' ⊢
      exact h.nh o n ho'
  · show (if y = x then none else s.want y) = ((r.qu.filter _).find? _).map _
    rw [List.find?_filter]
    by_cases e : y = x
    · subst e
      rw [if_pos rfl, List.find?_eq_none.2 (fun z _ => by simp)]
      rfl
    · rw [if_neg e, h.want]
      congr 2
      funext z
      by_cases e2 : z.ho = y
      · simp [e2, e]
      · simp [e2]
  · show (if (s.want x).map (·.1) = some n then (s.q n).erase x else s.q n) = ((r.qu.filter _).filter _).map _
    rw [h.q]
    have hs : ((r.qu.filter (fun y => y.nm == n)).map (·.ho)).Nodup := h.nd.sublist ((List.filter_sublist).map _)
    have e1 : ((r.qu.filter (fun y => y.ho != x)).filter (fun y => y.nm == n)).map (·.ho) = ((r.qu.filter (fun y => y.nm == n)).map (·.ho)).filter (fun o => o != x) := by
      rw [List.filter_map, List.filter_filter, List.filter_filter]
      congr 2
      funext y
      simp [Bool.and_comm]
    rw [e1]
    by_cases e : (s.want x).map (·.1) = some n
    · rw [if_pos e, hs.erase_eq_filter]
    · rw [if_neg e]
      refine (List.filter_eq_self.2 (fun o ho => ?_)).symm
      obtain ⟨z, hz, rfl⟩ := List.mem_map.1 ho
      obtain ⟨h1, h2⟩ := List.mem_filter.1 hz
      have h3 := h.wantOf h1
      simp only [bne_iff_ne, ne_eq]
      intro e2
      rw [← e2, h3] at e
      exact e (by simpa using h2)
  · exact h.nd.sublist ((List.filter_sublist).map _)
theorem leaveT_len (r : Rt) (x : Int) : (leaveT r x).has.length + (leaveT r x).qu.length ≤ r.has.length + r.qu.length :=
  Nat.add_le_add (List.length_filter_le _ _) (List.length_filter_le _ _)

theorem rel_rf {L : List Bytes} {out : List Int} (hR : Rel s L s' out) : ∀ {r : Rt}, Rf s r → out = (relT L r).2 ∧ Rf s' (relT L r).1 := by
  induction hR with
  | nil s => exact fun h => ⟨rfl, h⟩
  | @cons s nm L s1 s2 L1 L2 h1 h2 ih =>
    intro r h
    obtain ⟨e1, M1⟩ := serve_mid h1 (h.mid nm) (h.q nm)
    obtain ⟨e2, R2⟩ := ih M1.rf
    exact ⟨by rw [relT, e1, e2], R2⟩
theorem relT_len : ∀ (L : List Bytes) (r : Rt), (relT L r).1.has.length + (relT L r).1.qu.length = r.has.length + r.qu.length ∧ (relT L r).2.length + (relT L r).1.qu.length = r.qu.length
  | [], r => by simp [relT]
  | n :: ns, r => by
    have h1 := serveT_len (nm := n) r.qu r.has []
    have h2 := relT_len ns ⟨(serveT n r.has [] r.qu).1, (serveT n r.has [] r.qu).2.1⟩
    simp only [List.length_nil] at h1
    rw [relT]
    simp only [List.length_append] at h2 ⊢
    omega

/-- Names. -/
theorem names_rf (h : Rf s r) (n : Bytes) : (n.length ≤ maxLen ∧ (s.q n ≠ [] ∨ ∃ h, s.hol h = true ∧ s.set h n ≠ 0)) ↔ ∃ y ∈ r.has ++ r.qu, y.nm = n := by
  constructor
  · rintro ⟨_, hq | ⟨o, _, ho⟩⟩
    · rw [h.q] at hq
      obtain ⟨z, hz⟩ := List.exists_mem_of_ne_nil _ (fun e => hq (by rw [e]; rfl) : (r.qu.filter (fun y => y.nm == n)) ≠ [])
      obtain ⟨h1, h2⟩ := List.mem_filter.1 hz
      exact ⟨z, List.mem_append_right _ h1, by simpa using h2⟩
    · rw [h.set] at ho
      obtain ⟨z, hz, e⟩ := (setR_zero h.hf _ _).1 ho
      unfold hdB at e
      rw [Bool.and_eq_true] at e
      exact ⟨z, List.mem_append_left _ hz, by simpa using e.2⟩
  · rintro ⟨z, hz, rfl⟩
    have hl : ∀ y : Hd, y.ok → y.nm.length ≤ maxLen := fun y hy => Nat.le_trans hy.2.1 (by unfold maxLen; omega)
    rcases List.mem_append.1 hz with hz | hz
    · refine ⟨hl z (h.hf z hz), Or.inr ⟨z.ho, ?_, ?_⟩⟩
      · cases hh : s.hol z.ho
        · have := h.nh z.ho z.nm hh
          rw [h.set] at this
          exact absurd this ((setR_zero h.hf _ _).2 ⟨z, hz, by simp [hdB]⟩)
        · rfl
      · rw [h.set]; exact (setR_zero h.hf _ _).2 ⟨z, hz, by simp [hdB]⟩
    · refine ⟨hl z (h.qf z hz), Or.inl (fun e => ?_)⟩
      rw [h.q] at e
      have : z ∈ r.qu.filter (fun y => y.nm == z.nm) := List.mem_filter.2 ⟨hz, by simp⟩
      rw [List.map_eq_nil_iff.1 e] at this
      cases this
/-- Of which names a holder's things are. -/
theorem touch_rf (h : Rf s r) (x : Int) (n : Bytes) : (n.length ≤ maxLen ∧ (s.set x n ≠ 0 ∨ (s.want x).map (·.1) = some n)) ↔ ∃ y ∈ r.has ++ r.qu, y.ho = x ∧ y.nm = n := by
  have hl : ∀ y : Hd, y.ok → y.nm.length ≤ maxLen := fun y hy => Nat.le_trans hy.2.1 (by unfold maxLen; omega)
  constructor
  · rintro ⟨_, hq | hq⟩
    · rw [h.set] at hq
      obtain ⟨z, hz, e⟩ := (setR_zero h.hf _ _).1 hq
      unfold hdB at e
      rw [Bool.and_eq_true] at e
      exact ⟨z, List.mem_append_left _ hz, by simpa using e.1, by simpa using e.2⟩
    · rw [h.want] at hq
      cases hh : r.qu.find? (fun y => y.ho == x) with
      | none => rw [hh] at hq; cases hq
      | some z =>
        rw [hh] at hq
        injection hq with hq
        exact ⟨z, List.mem_append_right _ (List.mem_of_find?_eq_some hh), by simpa using List.find?_some hh, hq⟩
  · rintro ⟨z, hz, rfl, rfl⟩
    rcases List.mem_append.1 hz with hz | hz
    · exact ⟨hl z (h.hf z hz), Or.inl (by rw [h.set]; exact (setR_zero h.hf _ _).2 ⟨z, hz, by simp [hdB]⟩)⟩
    · exact ⟨hl z (h.qf z hz), Or.inr (by rw [h.wantOf hz]; rfl)⟩
/-- For whom a request waits. -/
theorem for_rf (h : Rf s r) {i : Nat} {y : Hd} (hy : r.qu[i]? = some y) (o : Int) : barB s y.ho y.nm y.md o = true ↔ BarsR r.has (r.qu.take i) y o := by
  have hi := (List.getElem?_eq_some_iff.1 hy).1
  have e0 : r.qu = r.qu.take i ++ y :: r.qu.drop (i + 1) := by
    rw [← (List.getElem?_eq_some_iff.1 hy).2, List.getElem_cons_drop, List.take_append_drop]
  have hx : ∀ z ∈ r.qu.take i, z.ho ≠ y.ho := fun z hz => by
    have hn := h.nd
    rw [e0, List.map_append, List.map_cons] at hn
    exact (List.nodup_append.1 hn).2.2 _ (List.mem_map_of_mem hz) _ (List.mem_cons_self ..)
  have ha : ahead s y.ho y.nm = ((r.qu.take i).filter (fun z => z.nm == y.nm)).map (·.ho) := by
    have hm : y.ho ∉ ((r.qu.take i).filter (fun z => z.nm == y.nm)).map (·.ho) := fun hm => by
      obtain ⟨z, hz, e⟩ := List.mem_map.1 hm
      exact hx z (List.mem_filter.1 hz).1 e
    unfold ahead
    rw [h.q]
    conv => lhs; rw [e0]
    rw [List.filter_append, List.map_append, List.filter_cons_of_pos (by simp), List.map_cons, ← List.singleton_append, ← List.append_assoc, tw_in _ (by simp)]
    exact (tw_out hm).2
  exact bar_iff h.set h.nh h.hf ha (fun z hz => h.wmOf (List.mem_of_mem_take hz)) hx o
/-- A call of the reference's that stores into its table. -/
theorem Ob.refd {X Y : List Nat} {w W W' : World} {p N : Nat} {s : St} {bs bw bq T : Nat} (h : Ob X w W p N s bs bw bq) (hT : T ∈ X) (hlo : w.heap.size ≤ T) (hg : W.grownBy W' (some T)) (hy : ∀ b ∈ Y, W.heap.size ≤ b ∧ b < W'.heap.size) : Ob (Y ++ X) w W' p N s bs bw bq := by
  obtain ⟨F, hO, hk⟩ := h
  have hO' := hO.kept hg.size (fun b hb hf => hg.block b hb (fun e => hf (by injection e with e; rw [e]; exact hk T hT))) (hO.bel.grown hg hO.bel.size (fun j hj => by injection hj with hj; rw [← hj]; exact hlo))
  exact ⟨_, hO', fun b hb => (List.mem_append.1 hb).elim (fun e => Or.inr (hy b e)) (fun e => Or.inl (hk b e))⟩
end Lk

end Go.Proofs.YthaenobciefjiaaDoor
