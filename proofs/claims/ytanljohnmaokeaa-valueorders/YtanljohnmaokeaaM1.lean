/- Orders by a number: whole numbers, floats, strings, values, rows: plain. -/
import Derived.Test.YtanljohnmaokeaaV0
namespace Go.Proofs.Ytanljohnmaokeaa
namespace Vl

/-- A comparison that is one of a total order (with ties). -/
structure CmpOk {α : Type} (cf : α → α → Int) : Prop where
  bd : ∀ a b, cf a b = -1 ∨ cf a b = 0 ∨ cf a b = 1
  flip : ∀ a b, cf b a = -cf a b
  tr : ∀ a b c, cf a b ≤ 0 → cf b c ≤ 0 → cf a c ≤ 0

theorem CmpOk.self {α : Type} {cf : α → α → Int} (h : CmpOk cf) (a : α) : cf a a = 0 := by have := h.flip a a; omega
theorem CmpOk.zero {α : Type} {cf : α → α → Int} (h : CmpOk cf) {a b c : α} (h1 : cf a b ≤ 0) (h2 : cf b c ≤ 0) (h3 : cf a c = 0) : cf a b = 0 ∧ cf b c = 0 := by
  have e1 := h.flip a b
  have e2 := h.flip b c
  have e3 := h.flip a c
  have t1 := h.tr b c a h2 (by omega)
  have t2 := h.tr c a b (by omega) h1
  omega
theorem CmpOk.pull {α β : Type} {cf : α → α → Int} (h : CmpOk cf) (g : β → α) : CmpOk (fun a b => cf (g a) (g b)) := ⟨fun _ _ => h.bd _ _, fun _ _ => h.flip _ _, fun _ _ _ => h.tr _ _ _⟩

/-- The first that tells decides. -/
def lex {α : Type} (c1 c2 : α → α → Int) (a b : α) : Int := if c1 a b != 0 then c1 a b else c2 a b
theorem lex_ne {α : Type} {c1 c2 : α → α → Int} {a b : α} (h : c1 a b ≠ 0) : lex c1 c2 a b = c1 a b := by unfold lex; rw [if_pos (by simpa using h)]
theorem lex_eq {α : Type} {c1 c2 : α → α → Int} {a b : α} (h : c1 a b = 0) : lex c1 c2 a b = c2 a b := by unfold lex; rw [if_neg (by simpa using h)]
theorem CmpOk.lex {α : Type} {c1 c2 : α → α → Int} (h1 : CmpOk c1) (h2 : CmpOk c2) : CmpOk (Vl.lex c1 c2) := by
  refine ⟨fun a b => ?_, fun a b => ?_, fun a b c hab hbc => ?_⟩
  · by_cases h : c1 a b = 0
    · rw [lex_eq h]; exact h2.bd a b
    · rw [lex_ne h]; exact h1.bd a b
  · have e := h1.flip a b
    by_cases h : c1 a b = 0
    · rw [lex_eq h, lex_eq (by omega : c1 b a = 0)]; exact h2.flip a b
    · rw [lex_ne h, lex_ne (by omega : c1 b a ≠ 0)]; exact e
  · have k1 : c1 a b ≤ 0 := by
      by_cases h : c1 a b = 0
      · omega
      · rw [lex_ne h] at hab; exact hab
    have k2 : c1 b c ≤ 0 := by
      by_cases h : c1 b c = 0
      · omega
      · rw [lex_ne h] at hbc; exact hbc
    have k3 := h1.tr a b c k1 k2
    by_cases h : c1 a c = 0
    · obtain ⟨z1, z2⟩ := h1.zero k1 k2 h
      rw [lex_eq z1] at hab; rw [lex_eq z2] at hbc; rw [lex_eq h]
      exact h2.tr a b c hab hbc
    · rw [lex_ne h]; exact k3

/-- Lists, the first that differ decides; fewer ahead of more. -/
def cmpL {α : Type} (cf : α → α → Int) : List α → List α → Int
  | [], [] => 0
  | [], _ :: _ => -1
  | _ :: _, [] => 1
  | a :: as, b :: bs => if cf a b != 0 then cf a b else cmpL cf as bs
theorem cmpL_ne {α : Type} {cf : α → α → Int} {a b : α} {as bs : List α} (h : cf a b ≠ 0) : cmpL cf (a :: as) (b :: bs) = cf a b := by unfold cmpL; rw [if_pos (by simpa using h)]
theorem cmpL_eq {α : Type} {cf : α → α → Int} {a b : α} {as bs : List α} (h : cf a b = 0) : cmpL cf (a :: as) (b :: bs) = cmpL cf as bs := by
  conv => lhs; unfold cmpL
  rw [if_neg (by simpa using h)]
theorem CmpOk.list {α : Type} {cf : α → α → Int} (h : CmpOk cf) : CmpOk (cmpL cf) := by
  have hbd : ∀ a b, cmpL cf a b = -1 ∨ cmpL cf a b = 0 ∨ cmpL cf a b = 1 := by
    intro a
    induction a with
    | nil => intro b; cases b <;> simp [cmpL]
    | cons x a ih =>
      intro b
      cases b with
      | nil => simp [cmpL]
      | cons y b =>
        by_cases e : cf x y = 0
        · rw [cmpL_eq e]; exact ih b
        · rw [cmpL_ne e]; exact h.bd x y
  have hfl : ∀ a b, cmpL cf b a = -cmpL cf a b := by
    intro a
    induction a with
    | nil => intro b; cases b <;> simp [cmpL]
    | cons x a ih =>
      intro b
      cases b with
      | nil => simp [cmpL]
      | cons y b =>
        have f := h.flip x y
        by_cases e : cf x y = 0
        · rw [cmpL_eq e, cmpL_eq (by omega : cf y x = 0)]; exact ih b
        · rw [cmpL_ne e, cmpL_ne (by omega : cf y x ≠ 0)]; exact f
  have htr : ∀ a b c, cmpL cf a b ≤ 0 → cmpL cf b c ≤ 0 → cmpL cf a c ≤ 0 := by
    intro a
    induction a with
    | nil => intro b c _ _; cases c <;> simp [cmpL]
    | cons x a ih =>
      intro b c hab hbc
      cases b with
      | nil => simp [cmpL] at hab
      | cons y b =>
        cases c with
        | nil => simp [cmpL] at hbc
        | cons z c =>
          have k1 : cf x y ≤ 0 := by
            by_cases e : cf x y = 0
            · omega
            · rw [cmpL_ne e] at hab; exact hab
          have k2 : cf y z ≤ 0 := by
            by_cases e : cf y z = 0
            · omega
            · rw [cmpL_ne e] at hbc; exact hbc
          have k3 := h.tr x y z k1 k2
          by_cases e : cf x z = 0
          · obtain ⟨z1, z2⟩ := h.zero k1 k2 e
            rw [cmpL_eq z1] at hab; rw [cmpL_eq z2] at hbc; rw [cmpL_eq e]
            exact ih b c hab hbc
          · rw [cmpL_ne e]; exact k3
  exact ⟨hbd, hfl, htr⟩
/-- Of two lists as long as each other nothing differs just if all are alike. -/
theorem cmpL_zero {α : Type} {cf : α → α → Int} : ∀ {a b : List α}, cmpL cf a b = 0 → a.length = b.length ∧ ∀ j (h1 : j < a.length) (h2 : j < b.length), cf a[j] b[j] = 0
  | [], [], _ => ⟨rfl, fun j h => absurd h (Nat.not_lt_zero j)⟩
  | [], _ :: _, h => by simp [cmpL] at h
  | _ :: _, [], h => by simp [cmpL] at h
  | x :: a, y :: b, h => by
    by_cases e : cf x y = 0
    · rw [cmpL_eq e] at h
      obtain ⟨l, r⟩ := cmpL_zero h
      refine ⟨by simp [l], fun j h1 h2 => ?_⟩
      cases j with
      | zero => exact e
      | succ j => exact r j (by simpa using h1) (by simpa using h2)
    · rw [cmpL_ne e] at h; exact absurd h e
/-- Behind k pairs that are alike. -/
theorem cmpL_drop {α : Type} {cf : α → α → Int} : ∀ (k : Nat) (a b : List α), k ≤ a.length → k ≤ b.length → (∀ j (h1 : j < a.length) (h2 : j < b.length), j < k → cf a[j] b[j] = 0) → cmpL cf a b = cmpL cf (a.drop k) (b.drop k)
  | 0, a, b, _, _, _ => by simp
  | k + 1, [], b, h, _, _ => absurd h (Nat.not_succ_le_zero k)
  | k + 1, _ :: _, [], _, h, _ => absurd h (Nat.not_succ_le_zero k)
  | k + 1, x :: a, y :: b, h1, h2, h => by
    have h0 : cf x y = 0 := h 0 (by simp) (by simp) (by omega)
    rw [cmpL_eq h0]
    exact cmpL_drop k a b (by simpa using h1) (by simpa using h2) (fun j g1 g2 gj => h (j + 1) (by simpa using g1) (by simpa using g2) (by omega))

theorem cmpZ_ok : CmpOk cmpZ := by
  refine ⟨cmpZ_bd, cmpZ_flip, fun a b c => ?_⟩
  unfold cmpZ
  split <;> split <;> split <;> (try split) <;> (try split) <;> (try split) <;> omega
theorem cmpI_ok : CmpOk Fl.cmpI := by
  refine ⟨fun a b => ?_, fun a b => ?_, fun a b c => ?_⟩
  · have := Fl.cmpI_bd a b; omega
  · rw [Fl.cmpI_eq, Fl.cmpI_eq a b]; split <;> (try split) <;> (try split) <;> (try split) <;> omega
  · rw [Fl.cmpI_eq, Fl.cmpI_eq b c, Fl.cmpI_eq a c]; split <;> split <;> split <;> (try split) <;> (try split) <;> (try split) <;> omega
theorem bytes_tr : ∀ a b c : List UInt8, Lib.compareBytes a b ≤ 0 → Lib.compareBytes b c ≤ 0 → Lib.compareBytes a c ≤ 0 := by
  have e : ∀ a b : List UInt8, Lib.compareBytes a b = cmpL (fun x y : UInt8 => cmpZ (x.toNat : Int) (y.toNat : Int)) a b := by
    intro a
    induction a with
    | nil => intro b; cases b <;> simp [cmpL, Lib.compareBytes]
    | cons x a ih =>
      intro b
      cases b with
      | nil => simp [cmpL, Lib.compareBytes]
      | cons y b =>
        unfold Lib.compareBytes
        by_cases h1 : x < y
        · have h1' : x.toNat < y.toNat := UInt8.lt_iff_toNat_lt.1 h1
          have hz : cmpZ (x.toNat : Int) (y.toNat : Int) = -1 := cmpZ_lt (by omega)
          rw [if_pos h1, cmpL_ne (by show cmpZ _ _ ≠ 0; omega)]; exact hz.symm
        · have h1' : ¬ x.toNat < y.toNat := fun h => h1 (UInt8.lt_iff_toNat_lt.2 h)
          by_cases h2 : y < x
          · have h2' : y.toNat < x.toNat := UInt8.lt_iff_toNat_lt.1 h2
            have hz : cmpZ (x.toNat : Int) (y.toNat : Int) = 1 := cmpZ_gt (by omega)
            rw [if_neg h1, if_pos h2, cmpL_ne (by show cmpZ _ _ ≠ 0; omega)]; exact hz.symm
          · have h2' : ¬ y.toNat < x.toNat := fun h => h2 (UInt8.lt_iff_toNat_lt.2 h)
            have hz : (fun x y : UInt8 => cmpZ (x.toNat : Int) (y.toNat : Int)) x y = 0 := cmpZ_eq (by omega)
            rw [if_neg h1, if_neg h2, cmpL_eq (cf := fun x y : UInt8 => cmpZ (x.toNat : Int) (y.toNat : Int)) hz]; exact ih b
  have ok := CmpOk.list (cmpZ_ok.pull (fun x : UInt8 => (x.toNat : Int)))
  intro a b c h1 h2
  rw [e] at h1 h2 ⊢
  exact ok.tr a b c h1 h2
theorem cmpS_ok : CmpOk cmpS := ⟨cmpS_bd, cmpS_flip, fun _ _ _ => bytes_tr _ _ _⟩
theorem cmpV_lex (a b : V) : cmpV a b = lex (fun a b : V => cmpZ a.k b.k) (lex (fun a b : V => cmpZ a.n b.n) (lex (fun a b : V => Fl.cmpI a.f b.f) (fun a b : V => cmpS a.s b.s))) a b := rfl
theorem cmpV_ok : CmpOk cmpV := by
  have h := CmpOk.lex (cmpZ_ok.pull V.k) (CmpOk.lex (cmpZ_ok.pull V.n) (CmpOk.lex (cmpI_ok.pull V.f) (cmpS_ok.pull V.s)))
  exact h
/-- By the bits of F. -/
def cmpB (a b : V) : Int := cmpZ (a.f : Int) (b.f : Int)
theorem cmpB_ok : CmpOk cmpB := cmpZ_ok.pull (fun v : V => (v.f : Int))
/-- Rows: by their values, then by bits. -/
def cmpR (a b : List V) : Int := lex (cmpL cmpV) (cmpL cmpB) a b
theorem cmpR_ok : CmpOk cmpR := CmpOk.lex cmpV_ok.list cmpB_ok.list
theorem cmpV_zero {a b : V} (h : cmpV a b = 0) : a.k = b.k ∧ a.n = b.n ∧ a.s = b.s := by
  rcases Int.lt_trichotomy a.k b.k with c | c | c
  · rw [cmpV_k1 c] at h; omega
  · rcases Int.lt_trichotomy a.n b.n with d | d | d
    · rw [cmpV_n1 c d] at h; omega
    · cases hf : (Fl.cmpI a.f b.f != 0)
      · rw [cmpV_s c d hf] at h
        exact ⟨c, d, (cmpS_eq _ _).1 h⟩
      · rw [cmpV_f c d hf] at h
        rw [h] at hf; simp at hf
    · rw [cmpV_n2 c d] at h; omega
  · rw [cmpV_k2 c] at h; omega
/-- Rows that nothing tells apart are one. -/
theorem cmpR_zero {a b : List V} (h : cmpR a b = 0) : a = b := by
  unfold cmpR at h
  by_cases h1 : cmpL cmpV a b = 0
  · rw [lex_eq h1] at h
    obtain ⟨l, r⟩ := cmpL_zero h1
    obtain ⟨_, r2⟩ := cmpL_zero h
    refine List.ext_getElem l (fun j g1 g2 => ?_)
    have e1 := cmpV_zero (r j g1 g2)
    have e2 := r2 j g1 g2
    have e3 : a[j].f = b[j].f := by unfold cmpB cmpZ at e2; split at e2 <;> (try split at e2) <;> omega
    cases ha : a[j]
    cases hb : b[j]
    rw [ha, hb] at e1 e3
    simp only at e1 e3
    rw [e1.1, e1.2.1, e1.2.2, e3]
  · rw [lex_ne h1] at h; exact absurd h h1

end Vl
end Go.Proofs.Ytanljohnmaokeaa
