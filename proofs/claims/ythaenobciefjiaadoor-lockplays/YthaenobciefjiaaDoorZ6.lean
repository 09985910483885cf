/- One holder has one name, others wait for it: plain. -/
import Derived.Test.YthaenobciefjiaaDoorZ3
namespace Go.Proofs.YthaenobciefjiaaDoor
open Go.RowKit

namespace Lk
variable {s s' : St} {a : Int} {v : Nat} {l : List Int} {E : Int} {x m : Int}
/-- Holder a alone has modes, of one name; those of l wait for it, for the last mode, in this order. -/
structure Qs (s : St) (a : Int) (v : Nat) (l : List Int) : Prop where
  set : ∀ h n, s.set h n = if h = a ∧ n = T then v else 0
  hol : v ≠ 0 → s.hol a = true
  want : ∀ h, s.want h = if h ∈ l then some (T, 8) else none
  q : ∀ n, s.q n = if n = T then l else []
theorem Qs.at_a (h : Qs s a v l) : s.set a T = v := by rw [h.set, if_pos ⟨rfl, rfl⟩]
theorem Qs.at_x (h : Qs s a v l) (hx : x ≠ a) (n : Bytes) : s.set x n = 0 := by rw [h.set, if_neg (fun e => hx e.1)]
theorem Qs.qT (h : Qs s a v l) : s.q T = l := by rw [h.q, if_pos rfl]
theorem okT (hx : 1 ≤ x ∧ x ≤ 200) (hm : 1 ≤ m ∧ m ≤ 8) : okArg x T m = true := by
  unfold okArg
  rw [isB_iff.2 hm]
  simp [hx.1, hx.2, T]
theorem any_ne {v : Nat} (h : Md.anyB (v : Int) m = true) : v ≠ 0 := fun e => by rw [e] at h; have := any0 m; simp at h; rw [this] at h; cases h
theorem Qs.start (hm : 1 ≤ m ∧ m ≤ 8) (hx : 1 ≤ x ∧ x ≤ 200) (h : TakeR st0 x T m E s') : E = 0 ∧ Qs s' x (bit m) [] := by
  obtain ⟨rfl, rfl⟩ := h.get_of (okT hx hm) rfl (Nat.zero_and _) (fun ⟨o, ho⟩ => by simp [barB, barH, st0, ahead] at ho)
  refine ⟨rfl, fun h n => ?_, fun _ => ?_, fun h => rfl, fun n => ?_⟩
  · show (if h = x ∧ n = T then 0 ||| bit m else 0) = _
    rw [Nat.zero_or]
  · show (if x = x then true else false) = true
    rw [if_pos rfl]
  · show ([] : List Int) = _
    by_cases e : n = T <;> simp [e]
theorem Qs.bar (h : Qs s a v l) (hv : Md.anyB (v : Int) m = true) (hx : x ≠ a) : barredP s x T m := by
  refine ⟨a, ?_⟩
  unfold barB barH
  rw [h.at_a, hv, h.hol (any_ne hv)]
  have : (a != x) = true := by simpa using fun e => hx e.symm
  rw [this]; rfl
theorem Qs.wait (h : Qs s a v l) (hv : Md.anyB (v : Int) 8 = true) (hx : x ≠ a) (hl : x ∉ l) (ho : 1 ≤ x ∧ x ≤ 200) (hT : TakeR s x T 8 E s') : E = 75 ∧ Qs s' a v (l ++ [x]) := by
  obtain ⟨rfl, rfl⟩ := hT.wait_of (okT ho (by omega)) (by rw [h.want, if_neg hl]) (by rw [h.at_x hx]; exact Nat.zero_and _) (h.bar hv hx)
  refine ⟨rfl, h.set, h.hol, fun y => ?_, fun n => ?_⟩
  · show (if y = x then some (T, 8) else s.want y) = _
    rw [h.want]
    by_cases e : y = x
    · simp [e]
    · simp [e]
  · show (if n = T then s.q T ++ [x] else s.q n) = _
    rw [h.q, h.q, if_pos rfl]
    by_cases e : n = T <;> simp [e]
theorem Qs.again (h : Qs s a v l) (hl : x ∈ l) (ho : 1 ≤ x ∧ x ≤ 200) (hT : TakeR s x T 8 E s') : E = 76 ∧ s' = s :=
  hT.state_of (okT ho (by omega)) (by rw [h.want, if_pos hl]; exact fun e => nomatch e)
/-- Who has a name alone gets what it wants of it. -/
theorem alone (hs : s.set x T ≠ 0) (ho : ∀ o, o ≠ x → s.set o T = 0) : ¬ barredP s x T m := fun ⟨o, h⟩ => by
  unfold barB barH at h
  by_cases e : o = x
  · subst e
    simp [hs] at h
  · rw [ho o e] at h
    have := any0 m
    simp [hs, this] at h
/-- All that are in the queue wait on. -/
theorem serve_rest {b : Int} : ∀ {l : List Int} {s s' : St} {L : List Int}, Serve T s l s' L → (s.set b T = 256 ∧ s.hol b = true) → (∀ x ∈ l, s.want x = some (T, 8) ∧ x ≠ b) → L = [] ∧ s'.set = s.set ∧ s'.hol = s.hol ∧ s'.want = s.want ∧ ∀ n, s'.q n = if n = T then s.q T ++ l else s.q n
  | [], s, s', L, h, _, _ => by
    obtain ⟨rfl, rfl⟩ := h.nil_of
    refine ⟨rfl, rfl, rfl, rfl, fun n => ?_⟩
    by_cases e : n = T <;> simp [e]
  | x :: l, s, s', L, h, hb, hl => by
    obtain ⟨h1, h2⟩ := hl x (List.mem_cons_self ..)
    have hbar : barredP s x T 8 := ⟨b, by
      unfold barB barH
      rw [hb.1, hb.2]
      have : (b != x) = true := by simpa using fun e => h2 e.symm
      rw [this, show Md.anyB ((256 : Nat) : Int) 8 = true by decide +kernel]
      rfl⟩
    have h3 := h.wait_of h1 hbar
    obtain ⟨r1, r2, r3, r4, r5⟩ := serve_rest h3 hb (fun y hy => hl y (List.mem_cons_of_mem _ hy))
    refine ⟨r1, r2, r3, r4, fun n => ?_⟩
    rw [r5]
    by_cases e : n = T
    · subst e
      show (if T = T then (if T = T then s.q T ++ [x] else s.q T) ++ l else _) = _
      simp
    · show (if n = T then _ else (if n = T then s.q T ++ [x] else s.q n)) = _
      simp [e]
/-- The next one's turn. -/
theorem Qs.turn {b : Int} {out : List Int} (h : Qs s a 256 (b :: l)) (ha : a ∉ b :: l) (hd : (b :: l).Nodup) (hR : Rel (leaveS s a) [T] s' out) : out = [b] ∧ Qs s' b 256 l := by
  have hwa : s.want a = none := by rw [h.want, if_neg ha]
  have h1 := hR.one_of
  have hq : (leaveS s a).q T = b :: l := by
    show (if (s.want a).map (·.1) = some T then _ else s.q T) = _
    rw [hwa, h.qT]; rfl
  rw [hq] at h1
  have hba : b ≠ a := fun e => ha (by rw [e]; exact List.mem_cons_self ..)
  have hw : ∀ x ∈ b :: l, (leaveS s a).want x = some (T, 8) := fun x hx => by
    show (if x = a then none else s.want x) = _
    rw [if_neg (fun e => ha (by rw [← e]; exact hx)), h.want, if_pos hx]
  have hz : ∀ o, (leaveS s a).set o T = 0 := fun o => by
    show (if o = a then 0 else s.set o T) = 0
    by_cases e : o = a
    · rw [if_pos e]
    · rw [if_neg e, h.at_x e]
  obtain ⟨L', rfl, h2⟩ := h1.get_of (m := 8) (hw b (List.mem_cons_self ..)) (fun ⟨o, ho⟩ => by
    have hz2 : (emptyS (leaveS s a) T).set o T = 0 := hz o
    have hq2 : (emptyS (leaveS s a) T).q T = [] := by simp [emptyS]
    simp [barB, barH, hz2, ahead, hq2, any0] at ho)
  obtain ⟨hd1, hd2⟩ := List.nodup_cons.1 hd
  have hsb : (gotS (emptyS (leaveS s a) T) b T 8).set b T = 256 := by
    show (if b = b ∧ T = T then (leaveS s a).set b T ||| bit 8 else _) = _
    rw [if_pos ⟨rfl, rfl⟩, hz, Nat.zero_or]; rfl
  obtain ⟨r1, r2, r3, r4, r5⟩ := serve_rest h2 ⟨hsb, by show (if b = b then true else _) = true; rw [if_pos rfl]⟩ (fun x hx => by
    have hxb : x ≠ b := fun e => hd1 (by rw [← e]; exact hx)
    refine ⟨?_, hxb⟩
    show (if x = b then none else (leaveS s a).want x) = _
    rw [if_neg hxb]
    exact hw x (List.mem_cons_of_mem _ hx))
  subst r1
  refine ⟨rfl, fun y n => ?_, fun _ => ?_, fun y => ?_, fun n => ?_⟩
  · rw [r2]
    show (if y = b ∧ n = T then (leaveS s a).set b T ||| bit 8 else if y = a then 0 else s.set y n) = _
    by_cases e : y = b ∧ n = T
    · rw [if_pos e, if_pos e, hz, Nat.zero_or]; rfl
    · rw [if_neg e, if_neg e]
      by_cases e2 : y = a
      · rw [if_pos e2]
      · rw [if_neg e2, h.at_x e2]
  · rw [r3]
    show (if b = b then true else _) = true
    rw [if_pos rfl]
  · rw [r4]
    show (if y = b then none else if y = a then none else s.want y) = _
    by_cases e : y = b
    · rw [if_pos e, if_neg (by rw [e]; exact hd1)]
    · rw [if_neg e]
      by_cases e2 : y = a
      · rw [if_pos e2, if_neg (fun h => ha (by rw [← e2]; exact List.mem_cons_of_mem _ h))]
      · rw [if_neg e2, h.want]
        simp [e]
  · rw [r5]
    by_cases e : n = T
    · simp [e, gotS, giveS, holS, unwantS, emptyS]
    · simp [e, gotS, giveS, holS, unwantS, emptyS, leaveS, hwa, h.q]
/-- The last one's. -/
theorem Qs.last {out : List Int} (h : Qs s a 256 []) (hR : Rel (leaveS s a) [T] s' out) : out = [] ∧ (∀ y n, s'.set y n = 0) ∧ (∀ n, s'.q n = []) := by
  have hwa : s.want a = none := by rw [h.want]; rfl
  have hq : ∀ n, (leaveS s a).q n = [] := fun n => by
    show (if (s.want a).map (·.1) = some n then _ else s.q n) = _
    rw [hwa, h.q]
    by_cases e : n = T <;> simp [e]
  have h1 := hR.one_of
  rw [hq] at h1
  obtain ⟨rfl, rfl⟩ := h1.nil_of
  refine ⟨rfl, fun y n => ?_, fun n => ?_⟩
  · show (if y = a then 0 else s.set y n) = 0
    by_cases e : y = a
    · rw [if_pos e]
    · rw [if_neg e, h.at_x e]
  · show (if n = T then [] else (leaveS s a).q n) = []
    by_cases e : n = T
    · rw [if_pos e]
    · rw [if_neg e, hq]
theorem Qs.names {L : List Bytes} (h : Qs s a v l) (hv : v ≠ 0) (ha : a ∉ l) (hU : Rs.Up (· ≤ ·) L) (hm : ∀ n, n ∈ L ↔ n.length ≤ maxLen ∧ (s.set a n ≠ 0 ∨ (s.want a).map (·.1) = some n)) : L = [T] :=
  up_one hU (fun n => by
    rw [hm n, h.want, if_neg ha, h.set]
    by_cases e : n = T
    · subst e; simp [T, maxLen, hv]
    · simp [e])
theorem Qs.wq (h : Qs s a v l) (ha : a ∉ l) (hd : l.Nodup) : Wq (leaveS s a) := by
  have hwa : s.want a = none := by rw [h.want, if_neg ha]
  have hq : ∀ n, (leaveS s a).q n = if n = T then l else [] := fun n => by
    show (if (s.want a).map (·.1) = some n then _ else s.q n) = _
    rw [hwa, h.q]; rfl
  refine ⟨fun nm x hx => ?_, fun nm => ?_⟩
  · rw [hq] at hx
    by_cases e : nm = T
    · rw [if_pos e] at hx
      refine ⟨8, ?_, by omega, by omega⟩
      show (if x = a then none else s.want x) = _
      rw [if_neg (fun e => ha (by rw [← e]; exact hx)), h.want, if_pos hx, e]
    · rw [if_neg e] at hx; cases hx
  · rw [hq]
    by_cases e : nm = T
    · rw [if_pos e]; exact hd
    · rw [if_neg e]; exact List.nodup_nil
theorem Qs.tot (h : Qs s a v l) (ha : a ∉ l) (L : List Bytes) (hL : L.Nodup) : tot (leaveS s a).q L ≤ l.length := by
  have hwa : s.want a = none := by rw [h.want, if_neg ha]
  have hq : ∀ n, (leaveS s a).q n = if n = T then l else [] := fun n => by
    show (if (s.want a).map (·.1) = some n then _ else s.q n) = _
    rw [hwa, h.q]; rfl
  exact tot_le (fun nm hn => by rw [hq, if_neg hn]) (by rw [hq, if_pos rfl]; exact Nat.le_refl _) L hL
end Lk

end Go.Proofs.YthaenobciefjiaaDoor
