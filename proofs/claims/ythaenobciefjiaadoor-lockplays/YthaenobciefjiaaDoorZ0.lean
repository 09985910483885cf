/- Takes and releases, plain: what a state comes to. -/
import Derived.Test.YthaenobciefjiaaDoorA21
namespace Go.Proofs.YthaenobciefjiaaDoor
open Go.RowKit

namespace Lk
variable {s s' : St} {x m E : Int} {nm : Bytes}
theorem TakeR.get_of (h : TakeR s x nm m E s') (ha : okArg x nm m = true) (hw : s.want x = none) (hs : s.set x nm &&& bit m = 0) (hb : ¬ barredP s x nm m) : E = 0 ∧ s' = giveS (holS s x) x nm (s.set x nm ||| bit m) := by
  cases h with
  | arg h => rw [ha] at h; cases h
  | state _ h => exact absurd hw h
  | has _ _ h => exact absurd hs h
  | waits _ _ _ h => exact absurd h hb
  | gets => exact ⟨rfl, rfl⟩
theorem TakeR.wait_of (h : TakeR s x nm m E s') (ha : okArg x nm m = true) (hw : s.want x = none) (hs : s.set x nm &&& bit m = 0) (hb : barredP s x nm m) : E = 75 ∧ s' = waitS s x nm m := by
  cases h with
  | arg h => rw [ha] at h; cases h
  | state _ h => exact absurd hw h
  | has _ _ h => exact absurd hs h
  | waits => exact ⟨rfl, rfl⟩
  | gets _ _ _ h => exact absurd hb h
theorem TakeR.state_of (h : TakeR s x nm m E s') (ha : okArg x nm m = true) (hw : s.want x ≠ none) : E = 76 ∧ s' = s := by
  cases h with
  | arg h => rw [ha] at h; cases h
  | state _ h => exact ⟨rfl, rfl⟩
  | has _ h _ => exact absurd h hw
  | waits _ h _ _ => exact absurd h hw
  | gets _ h _ _ => exact absurd h hw
theorem Serve.nil_of {s' : St} {L : List Int} (h : Serve nm s [] s' L) : s' = s ∧ L = [] := by
  cases h; exact ⟨rfl, rfl⟩
theorem Serve.wait_of {l : List Int} {L : List Int} (h : Serve nm s (x :: l) s' L) (hw : s.want x = some (nm, m)) (hb : barredP s x nm m) : Serve nm (enqS s nm x) l s' L := by
  cases h with
  | wait _ _ h => exact h
  | get hm hn _ =>
    rw [hw] at hm
    injection hm with hm
    injection hm with _ hm
    subst hm
    exact absurd hb hn
theorem Serve.get_of {l : List Int} {L : List Int} (h : Serve nm s (x :: l) s' L) (hw : s.want x = some (nm, m)) (hb : ¬ barredP s x nm m) : ∃ L', L = x :: L' ∧ Serve nm (gotS s x nm m) l s' L' := by
  cases h with
  | wait hm hn _ =>
    rw [hw] at hm
    injection hm with hm
    injection hm with _ hm
    subst hm
    exact absurd hn hb
  | get hm _ h =>
    rw [hw] at hm
    injection hm with hm
    injection hm with _ hm
    subst hm
    exact ⟨_, rfl, h⟩
theorem Rel.nil_of {out : List Int} (h : Rel s [] s' out) : s' = s ∧ out = [] := by
  cases h; exact ⟨rfl, rfl⟩
theorem Rel.one_of {out : List Int} (h : Rel s [nm] s' out) : Serve nm (emptyS s nm) (s.q nm) s' out := by
  cases h with
  | cons h1 h2 =>
    obtain ⟨rfl, rfl⟩ := h2.nil_of
    rw [List.append_nil]; exact h1
theorem up_one {L : List Bytes} (h : Rs.Up (· ≤ ·) L) (hm : ∀ n, n ∈ L ↔ n = nm) : L = [nm] :=
  Rs.one Rs.le_an h (List.pairwise_singleton _ _) (fun x => by rw [hm x]; simp)
theorem up_none {L : List Bytes} (hm : ∀ n, ¬ n ∈ L) : L = [] := List.eq_nil_iff_forall_not_mem.2 hm
theorem upI_one {L : List Int} {a : Int} (h : Rs.Up (· ≤ ·) L) (hm : ∀ n, n ∈ L ↔ n = a) : L = [a] :=
  Rs.one (fun _ _ => Int.le_antisymm) h (List.pairwise_singleton _ _) (fun x => by rw [hm x]; simp)
/-- The name of one letter. -/
def T : Bytes := [116]
def U : Bytes := [117]
theorem any0 (m : Int) : Md.anyB 0 m = false := by
  rcases Md.cases m with rfl | rfl | rfl | rfl | rfl | rfl | rfl | rfl | ⟨-, -, -, -, -, -, -, -, -, hw, hl⟩
  case inr.inr.inr.inr.inr.inr.inr.inr => unfold Md.anyB; rw [hw]; decide +kernel
  all_goals decide +kernel
theorem any_bit {a : Int} (h : 1 ≤ a ∧ a ≤ 8) (m : Int) : Md.anyB ((bit a : Nat) : Int) m = Md.barsB m a := by
  rw [← Md.bars_eq m a h]
  have e : ((bit a : Nat) : Int) = 2 ^ a.toNat := by
    have : a = 1 ∨ a = 2 ∨ a = 3 ∨ a = 4 ∨ a = 5 ∨ a = 6 ∨ a = 7 ∨ a = 8 := by omega
    rcases this with rfl | rfl | rfl | rfl | rfl | rfl | rfl | rfl <;> rfl
  rw [e]
theorem bars_comm (a b : Int) : Md.barsB a b = Md.barsB b a := by
  by_cases hb : Md.isB b = true
  · by_cases ha : Md.isB a = true
    · have h1 := isB_iff.1 ha
      have h2 := isB_iff.1 hb
      have h1 : a = 1 ∨ a = 2 ∨ a = 3 ∨ a = 4 ∨ a = 5 ∨ a = 6 ∨ a = 7 ∨ a = 8 := by omega
      have h2 : b = 1 ∨ b = 2 ∨ b = 3 ∨ b = 4 ∨ b = 5 ∨ b = 6 ∨ b = 7 ∨ b = 8 := by omega
      rcases h1 with rfl | rfl | rfl | rfl | rfl | rfl | rfl | rfl <;> rcases h2 with rfl | rfl | rfl | rfl | rfl | rfl | rfl | rfl <;> rfl
    · rw [Md.bars_no b a (by simpa using ha)]
      rcases Md.cases a with rfl | rfl | rfl | rfl | rfl | rfl | rfl | rfl | ⟨-, -, -, -, -, -, -, -, -, hw, hl⟩
      case inr.inr.inr.inr.inr.inr.inr.inr => unfold Md.barsB; rw [hl]; rfl
      all_goals exact absurd rfl ha
  · rw [Md.bars_no a b (by simpa using hb)]
    rcases Md.cases b with rfl | rfl | rfl | rfl | rfl | rfl | rfl | rfl | ⟨-, -, -, -, -, -, -, -, -, hw, hl⟩
    case inr.inr.inr.inr.inr.inr.inr.inr => unfold Md.barsB; rw [hl]; rfl
    all_goals exact absurd rfl hb

/-- What the statements' own check comes to. -/
def k1 : St := giveS (holS st0 1) 1 T (st0.set 1 T ||| bit 3)
def k2 : St := waitS k1 2 T 5
def k3 : St := waitS k2 3 T 3
theorem take1 (h : TakeR st0 1 T 3 E s') : E = 0 ∧ s' = k1 :=
  h.get_of (by decide) rfl (by decide) (fun ⟨o, ho⟩ => by simp [barB, barH, st0, ahead] at ho)
theorem take2 (h : TakeR k1 2 T 5 E s') : E = 75 ∧ s' = k2 :=
  h.wait_of (by decide) rfl (by decide) ⟨1, by decide +kernel⟩
theorem take3 (h : TakeR k2 3 T 3 E s') : E = 75 ∧ s' = k3 :=
  h.wait_of (by decide) rfl (by decide) ⟨2, by decide +kernel⟩
theorem k3_bar (o : Int) : barB k3 3 T 3 o = true ↔ o = 2 := by
  by_cases e2 : o = 2
  · subst e2; simp; decide +kernel
  by_cases e1 : o = 1
  · subst e1; simp; decide +kernel
  have h1 : barH k3 3 T 3 o = false := by
    have : k3.hol o = false := by show (if o = 1 then true else false) = false; rw [if_neg e1]
    simp [barH, this]
  have h2 : ahead k3 3 T = [2] := by decide
  simp [barB, h1, h2, e2]
theorem for3 {L : List Int} (h : Rs.Up (· ≤ ·) L) (hm : ∀ o, o ∈ L ↔ ∃ r, k3.want 3 = some r ∧ barB k3 3 r.1 r.2 o = true) : L = [2] :=
  upI_one h (fun o => by
    rw [hm o]
    constructor
    · rintro ⟨r, h1, h2⟩
      have : r = (T, 3) := by
        have h3 : k3.want 3 = some (T, 3) := rfl
        rw [h3] at h1; injection h1 with h1; exact h1.symm
      subst this
      exact (k3_bar o).1 h2
    · rintro rfl
      exact ⟨(T, 3), rfl, (k3_bar 2).2 rfl⟩)
theorem names1 {L : List Bytes} (h : Rs.Up (· ≤ ·) L) (hm : ∀ n, n ∈ L ↔ n.length ≤ maxLen ∧ (k3.set 1 n ≠ 0 ∨ (k3.want 1).map (·.1) = some n)) : L = [T] :=
  up_one h (fun n => by
    rw [hm n]
    have e1 : k3.want 1 = none := rfl
    rw [e1]
    have e2 : k3.set 1 n = if n = T then 8 else 0 := by
      show (if (1 : Int) = 1 ∧ n = T then _ else _) = _
      by_cases e : n = T
      · rw [if_pos ⟨rfl, e⟩, if_pos e]; rfl
      · rw [if_neg (fun h => e h.2), if_neg e]; rfl
    rw [e2]
    by_cases e : n = T
    · subst e; simp [T, maxLen]
    · simp [e])
theorem serve1 {out : List Int} (h : Rel (leaveS k3 1) [T] s' out) : out = [2] ∧ s'.set 2 T = 32 := by
  have h1 := h.one_of
  have hq : (leaveS k3 1).q T = [2, 3] := by decide
  rw [hq] at h1
  obtain ⟨L', rfl, h2⟩ := h1.get_of (m := 5) (by decide) (fun ⟨o, ho⟩ => by
    have hz : ∀ y, (emptyS (leaveS k3 1) T).hol y = false := fun y => by
      show (if y = 1 then false else if y = 1 then true else false) = false
      by_cases e : y = 1 <;> simp [e]
    have hq2 : (emptyS (leaveS k3 1) T).q T = [] := by decide
    simp [barB, barH, hz o, ahead, hq2] at ho)
  have h3 := h2.wait_of (m := 3) (by decide) ⟨2, by decide +kernel⟩
  obtain ⟨rfl, rfl⟩ := h3.nil_of
  exact ⟨rfl, by decide +kernel⟩
theorem wq1 : Wq (leaveS k3 1) := by
  have hq : ∀ nm, (leaveS k3 1).q nm = if nm = T then [2, 3] else [] := fun nm => by
    by_cases e : nm = T
    · subst e; rw [if_pos rfl]; decide
    · rw [if_neg e]
      show (if (k3.want 1).map (·.1) = some nm then (k3.q nm).erase 1 else k3.q nm) = []
      have e1 : k3.want 1 = none := rfl
      rw [e1]
      simp only [Option.map_none, reduceCtorEq, if_false]
      show (if nm = T then _ else if nm = T then _ else ([] : List Int)) = []
      rw [if_neg e, if_neg e]
  refine ⟨fun nm h hh => ?_, fun nm => ?_⟩
  · rw [hq] at hh
    by_cases e : nm = T
    · rw [if_pos e] at hh
      subst e
      simp at hh
      rcases hh with rfl | rfl
      · exact ⟨5, by decide, by omega, by omega⟩
      · exact ⟨3, by decide, by omega, by omega⟩
    · rw [if_neg e] at hh; cases hh
  · rw [hq]
    by_cases e : nm = T
    · rw [if_pos e]; decide
    · rw [if_neg e]; exact List.nodup_nil
theorem tot_zero {q : Bytes → List Int} : ∀ {L : List Bytes}, (∀ z ∈ L, q z = []) → tot q L = 0
  | [], _ => rfl
  | a :: l, h => by
    have e : tot q (a :: l) = (q a).length + tot q l := by simp [tot]
    rw [e, h a (List.mem_cons_self ..), tot_zero (fun z hz => h z (List.mem_cons_of_mem _ hz))]; rfl
/-- A bound of what is gone through. -/
theorem tot_le {q : Bytes → List Int} {n : Nat} (h : ∀ nm, nm ≠ T → q nm = []) (hn : (q T).length ≤ n) : ∀ L : List Bytes, L.Nodup → tot q L ≤ n
  | [], _ => Nat.zero_le _
  | a :: l, hd => by
    obtain ⟨h1, h2⟩ := List.nodup_cons.1 hd
    have e : tot q (a :: l) = (q a).length + tot q l := by simp [tot]
    rw [e]
    by_cases ha : a = T
    · have : tot q l = 0 := tot_zero (fun z hz => h z (fun e => by rw [ha, ← e] at h1; exact h1 hz))
      rw [this, ha]; omega
    · rw [h a ha]
      have := tot_le h hn l h2
      simpa using this
end Lk

end Go.Proofs.YthaenobciefjiaaDoor
