/- LockApart: who waits is barred, plain. -/
import Derived.Test.YthaenobciefjiaaDoorZ14
namespace Go.Proofs.YthaenobciefjiaaDoor
open Go.RowKit

namespace Lk
variable {s s' : St} {x y m E : Int} {nm : Bytes} {out : List Int}
theorem tw_in {y : Int} : ∀ {l : List Int} (r : List Int), y ∈ l → (l ++ r).takeWhile (fun o => o != y) = l.takeWhile (fun o => o != y)
  | [], _, h => nomatch h
  | a :: l, r, h => by
    by_cases e : a = y
    · subst e; simp
    · have he : (a != y) = true := by simpa using e
      have hm : y ∈ l := by
        rcases List.mem_cons.1 h with h | h
        · exact absurd h.symm e
        · exact h
      rw [List.cons_append, List.takeWhile_cons_of_pos (by simpa using e), List.takeWhile_cons_of_pos (by simpa using e), tw_in r hm]
theorem tw_out {y : Int} : ∀ {l : List Int}, y ∉ l → l.takeWhile (fun o => o != y) = l ∧ (l ++ [y]).takeWhile (fun o => o != y) = l
  | [], _ => ⟨rfl, by simp⟩
  | a :: l, h => by
    have e : a ≠ y := fun e => h (by rw [e]; exact List.mem_cons_self ..)
    obtain ⟨h1, h2⟩ := tw_out (l := l) (fun e => h (List.mem_cons_of_mem _ e))
    rw [List.cons_append, List.takeWhile_cons_of_pos (by simpa using e), List.takeWhile_cons_of_pos (by simpa using e), h1, h2]
    exact ⟨rfl, rfl⟩
theorem tw_sub {y o : Int} {l : List Int} (h : o ∈ l.takeWhile (fun o => o != y)) : o ∈ l := (List.takeWhile_sublist _).subset h
/-- Modes more: what barred bars. -/
theorem any_grow {t : St} (hs : Ap s) (hm : 1 ≤ m ∧ m ≤ 8) (hts : t.set = fun y k => if y = x ∧ k = nm then s.set x nm ||| bit m else s.set y k) (o : Int) (n : Bytes) (k : Int) (h : Md.anyB (s.set o n : Int) k = true) : Md.anyB (t.set o n : Int) k = true := by
  rw [hts]
  by_cases e : o = x ∧ n = nm
  · simp only [if_pos e]
    rw [e.1, e.2] at h
    rw [any_or (hs.lo x nm) (bit_lt hm).2, h]; rfl
  · simp only [if_neg e]; exact h
/-- Who waits is barred, of the names that are not to come. -/
def Wp (s : St) (P : Bytes → Prop) : Prop := ∀ y n m, s.want y = some (n, m) → s.set y n &&& bit m = 0 ∧ (¬ P n → barredP s y n m)
theorem Wp.wb (h : Wp s (fun _ => False)) : Wb s := fun y n m hy => ⟨(h y n m hy).1, (h y n m hy).2 id⟩
theorem Wb.wp (h : Wb s) (P : Bytes → Prop) : Wp s P := fun y n m hy => ⟨(h y n m hy).1, fun _ => (h y n m hy).2⟩
theorem wm_of {o : Int} {n : Bytes} {k : Int} (h : s.want o = some (n, k)) : wm s o = k := by unfold wm; rw [h]; rfl
theorem TakeR.wb (h : TakeR s x nm m E s') (hI : Inv s) (hA : Ap s) (hW : Wb s) : Ap s' ∧ Wb s' := by
  cases h with
  | arg _ => exact ⟨hA, hW⟩
  | state _ _ => exact ⟨hA, hW⟩
  | has _ _ _ => exact ⟨hA, hW⟩
  | gets ha hw hb hnb =>
    obtain ⟨_, hm, _⟩ := ok_iff ha
    refine ⟨hA.give hm hnb rfl rfl, fun y n k hy => ?_⟩
    have hyx : y ≠ x := fun e => by
      have hy' : s.want y = some (n, k) := hy
      rw [e, hw] at hy'; cases hy'
    have hset : (giveS (holS s x) x nm (s.set x nm ||| bit m)).set y n = s.set y n := if_neg (fun e => hyx e.1)
    obtain ⟨h1, h2⟩ := hW y n k hy
    rw [hset]
    refine ⟨h1, bar_mono (s := s) (any_grow hA hm rfl) (fun o _ _ ho => ?_) (fun h => hset.trans h) (fun o ho _ => Or.inl ⟨ho, rfl⟩) h2⟩
    show (if o = x then true else s.hol o) = true
    by_cases e : o = x
    · rw [if_pos e]
    · rw [if_neg e]; exact ho
  | waits ha hw hb hbar =>
    have hxq : ∀ n, x ∉ s.q n := fun n hx => by
      obtain ⟨m', h4, _⟩ := hI.wq.w n x hx
      rw [hw] at h4; cases h4
    have hwn : ∀ y, (waitS s x nm m).want y = if y = x then some (nm, m) else s.want y := fun _ => rfl
    have hqn : ∀ n, (waitS s x nm m).q n = if n = nm then s.q nm ++ [x] else s.q n := fun _ => rfl
    have hwm : ∀ o n, o ∈ s.q n → wm (waitS s x nm m) o = wm s o := fun o n ho => by
      unfold wm
      rw [hwn, if_neg (fun e => hxq n (by rw [← e]; exact ho))]
    refine ⟨⟨hA.lo, hA.nh, hA.free⟩, fun y n k hy => ?_⟩
    rw [hwn] at hy
    by_cases e : y = x
    · rw [if_pos e] at hy
      injection hy with hy
      injection hy with e1 e2
      subst e1; subst e2; subst e
      refine ⟨hb, bar_mono (s := s) (fun _ _ _ h => h) (fun _ _ _ h => h) id (fun o ho _ => Or.inl ⟨?_, hwm o nm (tw_sub ho)⟩) hbar⟩
      have h1 : ahead (waitS s y nm m) y nm = s.q nm := by
        unfold ahead
        rw [hqn, if_pos rfl]
        exact (tw_out (hxq nm)).2
      rw [h1]; exact tw_sub ho
    · rw [if_neg e] at hy
      obtain ⟨h1, h2⟩ := hW y n k hy
      refine ⟨h1, bar_mono (s := s) (fun _ _ _ h => h) (fun _ _ _ h => h) id (fun o ho _ => Or.inl ⟨?_, hwm o n (tw_sub ho)⟩) h2⟩
      have h3 : ahead (waitS s x nm m) y n = ahead s y n := by
        unfold ahead
        rw [hqn]
        by_cases e2 : n = nm
        · rw [if_pos e2, ← e2]; exact tw_in _ (hI.wi y _ hy).1
        · rw [if_neg e2]
      rw [h3]; exact ho
/-- Through a queue. -/
theorem Serve.wp {P : Bytes → Prop} {l L : List Int} (h : Serve nm s l s' L) : ¬ P nm → (∀ y ∈ l, ∃ k, s.want y = some (nm, k) ∧ 1 ≤ k ∧ k ≤ 8) → l.Nodup → (∀ y ∈ l, y ∉ s.q nm) → (∀ n y, y ∈ s.q n → ∃ k, s.want y = some (n, k)) → (∀ y n k, s.want y = some (n, k) → y ∈ s.q n ∨ (n = nm ∧ y ∈ l)) → Ap s →
    (∀ y n k, s.want y = some (n, k) → s.set y n &&& bit k = 0 ∧ (¬ P n → y ∉ l → barredP s y n k)) → Ap s' ∧ Wp s' P := by
  induction h with
  | nil s => exact fun _ _ _ _ _ _ hA hW => ⟨hA, fun y n k hy => ⟨(hW y n k hy).1, fun hp => (hW y n k hy).2 hp (fun e => nomatch e)⟩⟩
  | @wait s x m l s' L hm hb hs ih =>
    intro hP hl hd hq hqw hwq hA hW
    obtain ⟨d1, d2⟩ := List.nodup_cons.1 hd
    have hxq := hq x (List.mem_cons_self ..)
    have hqn : ∀ n, (enqS s nm x).q n = if n = nm then s.q nm ++ [x] else s.q n := fun _ => rfl
    have hmem : ∀ n y, y ∈ (enqS s nm x).q n ↔ (y ∈ s.q n ∨ (n = nm ∧ y = x)) := fun n y => by
      rw [hqn]
      by_cases e : n = nm
      · subst e; rw [if_pos rfl, List.mem_append, List.mem_singleton]; simp
      · rw [if_neg e]; simp [e]
    refine ih hP (fun y hy => hl y (List.mem_cons_of_mem _ hy)) d2 (fun y hy h => ?_) (fun n y hy => ?_) (fun y n k hy => ?_) ⟨hA.lo, hA.nh, hA.free⟩ (fun y n k hy => ?_)
    · rcases (hmem nm y).1 h with h | ⟨_, h⟩
      · exact hq y (List.mem_cons_of_mem _ hy) h
      · rw [h] at hy; exact d1 hy
    · rcases (hmem n y).1 hy with h | ⟨h, h'⟩
      · exact hqw n y h
      · rw [h, h']; exact ⟨m, hm⟩
    · rcases hwq y n k hy with h | ⟨h1, h2⟩
      · exact Or.inl ((hmem n y).2 (Or.inl h))
      · rcases List.mem_cons.1 h2 with h2 | h2
        · exact Or.inl ((hmem n y).2 (Or.inr ⟨h1, h2⟩))
        · exact Or.inr ⟨h1, h2⟩
    · obtain ⟨w1, w2⟩ := hW y n k hy
      refine ⟨w1, fun hp hyl => ?_⟩
      by_cases e : y = x
      · subst e
        have hy' : s.want y = some (n, k) := hy
        rw [hm] at hy'
        injection hy' with hy'
        injection hy' with e1 e2
        subst e1; subst e2
        refine bar_mono (s := s) (fun _ _ _ h => h) (fun _ _ _ h => h) id (fun o ho _ => Or.inl ⟨?_, rfl⟩) hb
        have h1 : ahead (enqS s nm y) y nm = s.q nm := by
          unfold ahead
          rw [hqn, if_pos rfl]
          exact (tw_out hxq).2
        rw [h1]; exact tw_sub ho
      · refine bar_mono (s := s) (fun _ _ _ h => h) (fun _ _ _ h => h) id (fun o ho _ => Or.inl ⟨?_, rfl⟩) (w2 hp (fun h => by
          rcases List.mem_cons.1 h with h | h
          · exact e h
          · exact hyl h))
        have hyq : y ∈ s.q n := by
          rcases hwq y n k hy with h | ⟨h1, h2⟩
          · exact h
          · rcases List.mem_cons.1 h2 with h2 | h2
            · exact absurd h2 e
            · exact absurd h2 hyl
        have h3 : ahead (enqS s nm x) y n = ahead s y n := by
          unfold ahead
          rw [hqn]
          by_cases e2 : n = nm
          · rw [if_pos e2, ← e2]; exact tw_in _ hyq
          · rw [if_neg e2]
        rw [h3]; exact ho
  | @get s x m l s' L hm hb hs ih =>
    intro hP hl hd hq hqw hwq hA hW
    obtain ⟨d1, d2⟩ := List.nodup_cons.1 hd
    have hxq := hq x (List.mem_cons_self ..)
    obtain ⟨k0, hk0, hm8⟩ := hl x (List.mem_cons_self ..)
    have hm8 : 1 ≤ m ∧ m ≤ 8 := by
      rw [hm] at hk0
      injection hk0 with hk0
      injection hk0 with _ hk0
      rw [hk0]; exact hm8
    have hwn : ∀ y, (gotS s x nm m).want y = if y = x then none else s.want y := fun _ => rfl
    have hsn : (gotS s x nm m).set = fun y k => if y = x ∧ k = nm then s.set x nm ||| bit m else s.set y k := rfl
    have hhn : (gotS s x nm m).hol = fun y => if y = x then true else s.hol y := rfl
    have hnx : ∀ n, x ∉ s.q n := fun n h => by
      obtain ⟨k, h1⟩ := hqw n x h
      rw [hm] at h1
      injection h1 with h1
      injection h1 with h1
      rw [← h1] at h; exact hxq h
    have hwk : ∀ y n k, (gotS s x nm m).want y = some (n, k) → y ≠ x ∧ s.want y = some (n, k) := fun y n k hy => by
      rw [hwn] at hy
      by_cases e : y = x
      · rw [if_pos e] at hy; cases hy
      · rw [if_neg e] at hy; exact ⟨e, hy⟩
    refine ih hP (fun y hy => ?_) d2 (fun y hy h => hq y (List.mem_cons_of_mem _ hy) h) (fun n y hy => ?_) (fun y n k hy => ?_) (hA.give hm8 hb hsn hhn) (fun y n k hy => ?_)
    · obtain ⟨k, h1, h2⟩ := hl y (List.mem_cons_of_mem _ hy)
      exact ⟨k, by rw [hwn, if_neg (fun e => d1 (by rw [← e]; exact hy))]; exact h1, h2⟩
    · obtain ⟨k, h1⟩ := hqw n y hy
      exact ⟨k, by rw [hwn, if_neg (fun e => hnx n (by rw [← e]; exact hy))]; exact h1⟩
    · obtain ⟨h1, h2⟩ := hwk y n k hy
      rcases hwq y n k h2 with h | ⟨h3, h4⟩
      · exact Or.inl h
      · rcases List.mem_cons.1 h4 with h4 | h4
        · exact absurd h4 h1
        · exact Or.inr ⟨h3, h4⟩
    · obtain ⟨h1, h2⟩ := hwk y n k hy
      obtain ⟨w1, w2⟩ := hW y n k h2
      have hset : (gotS s x nm m).set y n = s.set y n := if_neg (fun e => h1 e.1)
      rw [hset]
      refine ⟨w1, fun hp hyl => bar_mono (s := s) (any_grow hA hm8 hsn) (fun o _ _ ho => ?_) (fun h => hset.trans h) (fun o ho _ => Or.inl ⟨ho, ?_⟩) (w2 hp (fun h => by
        rcases List.mem_cons.1 h with h | h
        · exact h1 h
        · exact hyl h))⟩
      · rw [hhn]
        by_cases e : o = x
        · simp [e]
        · simp [e, ho]
      · unfold wm
        rw [hwn, if_neg (fun e => hnx n (by rw [← e]; exact tw_sub ho))]
/-- Through all names. -/
theorem Rel.wp {L : List Bytes} {out : List Int} (h : Rel s L s' out) : Inv s → L.Nodup → Ap s → Wp s (fun n => n ∈ L) → Ap s' ∧ Wb s' := by
  induction h with
  | nil s => exact fun _ _ hA hW => ⟨hA, Wp.wb (fun y n k hy => ⟨(hW y n k hy).1, fun _ => (hW y n k hy).2 (fun e => nomatch e)⟩)⟩
  | @cons s nm r s1 s2 L1 L2 h1 h2 ih =>
    intro hI hd hA hW
    obtain ⟨d1, d2⟩ := List.nodup_cons.1 hd
    have hqe : ∀ n y, y ∈ (emptyS s nm).q n ↔ (n ≠ nm ∧ y ∈ s.q n) := fun n y => by
      show y ∈ (if n = nm then [] else s.q n) ↔ _
      by_cases e : n = nm
      · rw [if_pos e]; simp [e]
      · rw [if_neg e]; simp [e]
    have R1 := (Rel.cons h1 (Rel.nil s1)).rf hI (List.nodup_cons.2 ⟨by simp, List.nodup_nil⟩)
    obtain ⟨A1, W1⟩ := h1.wp (P := fun n => n ∈ r) d1 (fun y hy => hI.wq.w nm y hy) (hI.wq.d nm) (fun y _ h => ((hqe nm y).1 h).1 rfl) (fun n y hy => by
        obtain ⟨k, h3, _⟩ := hI.wq.w n y ((hqe n y).1 hy).2
        exact ⟨k, h3⟩) (fun y n k hy => by
        have h3 := (hI.wi y _ hy).1
        by_cases e : n = nm
        · exact Or.inr ⟨e, by rw [← e]; exact h3⟩
        · exact Or.inl ((hqe n y).2 ⟨e, h3⟩)) ⟨hA.lo, hA.nh, hA.free⟩ (fun y n k hy => ⟨(hW y n k hy).1, fun hp hyl => by
        have hne : n ≠ nm := fun e => hyl (by rw [← e]; exact (hI.wi y _ hy).1)
        have hb := (hW y n k hy).2 (fun h => by
          rcases List.mem_cons.1 h with h | h
          · exact hne h
          · exact hp h)
        refine bar_mono (s := s) (fun _ _ _ h => h) (fun _ _ _ h => h) id (fun o ho _ => Or.inl ⟨?_, rfl⟩) hb
        have h3 : ahead (emptyS s nm) y n = ahead s y n := by
          unfold ahead
          show (if n = nm then [] else s.q n).takeWhile _ = _
          rw [if_neg hne]
        rw [h3]; exact ho⟩)
    exact ih R1.2 d2 A1 W1
theorem leave_ap (hA : Ap s) (x : Int) : Ap (leaveS s x) := by
  refine ⟨fun y n => ?_, fun y n hy => ?_, fun a b n hab => ?_⟩
  · rw [leave_set]
    by_cases e : y = x
    · rw [if_pos e]; omega
    · rw [if_neg e]; exact hA.lo y n
  · rw [leave_set]
    have hy' : (if y = x then false else s.hol y) = false := hy
    by_cases e : y = x
    · rw [if_pos e]
    · rw [if_neg e] at hy' ⊢; exact hA.nh y n hy'
  · rw [leave_set, leave_set]
    by_cases ea : a = x
    · rw [if_pos ea]; exact Free.zero _
    · rw [if_neg ea]
      by_cases eb : b = x
      · rw [if_pos eb]; exact (Free.zero _).symm
      · rw [if_neg eb]; exact hA.free a b n hab
theorem leave_wp {L : List Bytes} (hI : Inv s) (hW : Wb s) (x : Int) (hm : ∀ n, n ∈ L ↔ n.length ≤ maxLen ∧ (s.set x n ≠ 0 ∨ (s.want x).map (·.1) = some n)) : Wp (leaveS s x) (fun n => n ∈ L) := fun y n k hy => by
  rw [leave_want] at hy
  have hyx : y ≠ x := fun e => by rw [if_pos e] at hy; cases hy
  rw [if_neg hyx] at hy
  obtain ⟨h1, h2⟩ := hW y n k hy
  refine ⟨by rw [leave_set, if_neg hyx]; exact h1, fun hn => ?_⟩
  have hnl : n.length ≤ maxLen := Nat.le_trans (hI.wi y _ hy).2 (by unfold maxLen; omega)
  have hx0 : s.set x n = 0 := by
    rcases Nat.eq_zero_or_pos (s.set x n) with e | e
    · exact e
    · exact absurd ((hm n).2 ⟨hnl, Or.inl (by omega)⟩) hn
  have hxw : ¬ (s.want x).map (·.1) = some n := fun e => hn ((hm n).2 ⟨hnl, Or.inr e⟩)
  have hq : (leaveS s x).q n = s.q n := if_neg hxw
  have hxq : x ∉ s.q n := fun h => by
    obtain ⟨k', h3, _⟩ := hI.wq.w n x h
    exact hxw (by rw [h3]; rfl)
  obtain ⟨o, ho⟩ := h2
  have hox : o ≠ x := fun e => by
    subst e
    unfold barB barH at ho
    rw [hx0] at ho
    have h4 : (ahead s y n).contains o = false := by
      rw [Bool.eq_false_iff]
      exact fun h => hxq (tw_sub (List.contains_iff_mem.1 h))
    have := any0 k
    rw [h4, show (((0 : Nat) : Int)) = 0 from rfl, this] at ho
    simp at ho
  refine ⟨o, ?_⟩
  have e1 : (leaveS s x).hol o = s.hol o := if_neg hox
  have e2 : (leaveS s x).set o n = s.set o n := if_neg hox
  have e3 : (leaveS s x).set y n = s.set y n := if_neg hyx
  have e4 : ahead (leaveS s x) y n = ahead s y n := by unfold ahead; rw [hq]
  have e5 : wm (leaveS s x) o = wm s o := by unfold wm; rw [leave_want, if_neg hox]
  unfold barB barH at ho ⊢
  rw [e1, e2, e3, e4, e5]
  exact ho
theorem and_in {v : Nat} (hv : v < 512) (h : v &&& bit m = 0) : inS v m.toNat = false := by
  have l : Md.low (v : Int) = v := by unfold Md.low; omega
  have t : inS v m.toNat = v.testBit m.toNat := by
    unfold inS Md.inB
    rw [l, Nat.testBit_eq_decide_div_mod_eq]
    rfl
  rw [t]
  have h1 := congrArg (fun n => n.testBit m.toNat) h
  simp only [Nat.testBit_and, Nat.zero_testBit] at h1
  unfold bit at h1
  rw [Nat.testBit_two_pow_self, Bool.and_true] at h1
  exact h1
end Lk

end Go.Proofs.YthaenobciefjiaaDoor
