/- What leaves keep to. -/
import Derived.Test.YtjnaafgiokdcbaaLa6
namespace Go.Proofs.Ytjnaafgiokdcbaa
namespace Lf
def Rl (P Q : Pg) : Prop := lt P.b Q.b = true ∧ ∀ k ∈ P.ks, lt k Q.b = true
theorem sum_ks (l : List Pg) : (l.map (fun P => P.ks.length)).sum = (l.map (fun P => P.ks.length)).sum := rfl
theorem up_ins {ks A B : List ByteArray} {k : ByteArray} (hu : Up ks) (hk : Kp ks k A B) (hn : B.head? ≠ some k) : Up (A ++ k :: B) := by
  unfold Up at *
  rw [hk.e] at hu
  obtain ⟨h1, h2, h3⟩ := List.pairwise_append.1 hu
  have hb : ∀ b ∈ B, lt k b = true := by
    intro b hb
    cases B with
    | nil => cases hb
    | cons c r =>
      have hc : lt k c = true := by
        cases hh : lt k c with
        | true => rfl
        | false => exact absurd (by rw [lt_tri hh (hk.hi c (by simp))]; rfl) hn
      rcases List.mem_cons.1 hb with e | hb
      · rw [e]; exact hc
      · exact lt_tr hc ((List.pairwise_cons.1 h2).1 b hb)
  refine List.pairwise_append.2 ⟨h1, List.pairwise_cons.2 ⟨hb, h2⟩, fun a ha b hb2 => ?_⟩
  rcases List.mem_cons.1 hb2 with e | hb2
  · rw [e]; exact hk.lo a ha
  · exact h3 a ha b hb2
theorem up_rem {ks A B : List ByteArray} {k : ByteArray} (hu : Up ks) (hk : Kp ks k A (k :: B)) : Up (A ++ B) := by
  unfold Up at *
  rw [hk.e] at hu
  exact hu.sublist (List.Sublist.append (List.Sublist.refl _) (List.sublist_cons_self _ _))
theorem up_at {l : List ByteArray} (hu : Up l) {i j : Nat} {a b : ByteArray} (hij : i < j) (ha : l[i]? = some a) (hb : l[j]? = some b) : lt a b = true := by
  obtain ⟨p1, p2⟩ := List.getElem?_eq_some_iff.1 ha
  obtain ⟨p3, p4⟩ := List.getElem?_eq_some_iff.1 hb
  have := List.pairwise_iff_getElem.1 hu i j p1 p3 hij
  rw [p2, p4] at this
  exact this
theorem pw_mid {r : Pg → Pg → Prop} {L R : List Pg} {P : Pg} : (L ++ P :: R).Pairwise r ↔ L.Pairwise r ∧ R.Pairwise r ∧ (∀ X ∈ L, r X P) ∧ (∀ Y ∈ R, r P Y) ∧ ∀ X ∈ L, ∀ Y ∈ R, r X Y := by
  rw [List.pairwise_append, List.pairwise_cons]
  constructor
  · rintro ⟨h1, ⟨h2, h3⟩, h4⟩
    exact ⟨h1, h3, fun X hX => h4 X hX P (by simp), h2, fun X hX Y hY => h4 X hX Y (by simp [hY])⟩
  · rintro ⟨h1, h3, h4, h2, h5⟩
    refine ⟨h1, ⟨h2, h3⟩, fun X hX Y hY => ?_⟩
    rcases List.mem_cons.1 hY with e | hY
    · rw [e]; exact h4 X hX
    · exact h5 X hX Y hY
theorem mem_mid {L R : List Pg} {P Q : Pg} : Q ∈ L ++ P :: R ↔ Q ∈ L ∨ Q = P ∨ Q ∈ R := by simp
theorem no_empty {s : S} (hI : Inv s) {L R : List Pg} {P Q : Pg} (he : s.pgs = L ++ P :: R) (hQ : Q ∈ L ∨ Q ∈ R) : Q.ks ≠ [] := fun e => by
  have hm : Q ∈ s.pgs := by rw [he, mem_mid]; rcases hQ with h | h; exact Or.inl h; exact Or.inr (Or.inr h)
  have h1 := hI.full Q hm e
  rw [he, List.length_append, List.length_cons] at h1
  rcases hQ with h | h
  · have := List.length_pos_of_mem h; omega
  · have := List.length_pos_of_mem h; omega
theorem half_le (l : List ByteArray) (h : 2 ≤ l.length) : 1 ≤ half l ∧ half l < l.length := by unfold half; omega
/-- All of it but how many keys a leaf may have. -/
theorem insP_weak {s : S} {k : ByteArray} {L R : List Pg} {P : Pg} {A B : List ByteArray} (hI : Inv s) (hs : Spl s k L P R) (hk : Kp P.ks k A B) (hn : B.head? ≠ some k) :
    (L ++ withKs P (A ++ k :: B) :: R).Pairwise Rl ∧ (L ++ withKs P (A ++ k :: B) :: R).Pairwise (fun P Q => P.n ≠ Q.n) ∧ Up (A ++ k :: B) ∧ (∀ x ∈ A ++ k :: B, lt x P.b = false) := by
  have hPm := hs.mem
  obtain ⟨u1, u2, u3⟩ := hI.ks P hPm
  have hb := hI.bd
  have hd := hI.nd
  rw [hs.e] at hb hd
  obtain ⟨b1, b2, b3, b4, b5⟩ := pw_mid.1 hb
  obtain ⟨d1, d2, d3, d4, d5⟩ := pw_mid.1 hd
  have hin : ∀ x ∈ A ++ k :: B, x = k ∨ x ∈ P.ks := fun x hx => by
    rw [hk.e]
    rcases List.mem_append.1 hx with h | h
    · exact Or.inr (by simp [h])
    · rcases List.mem_cons.1 h with h | h
      · exact Or.inl h
      · exact Or.inr (by simp [h])
  refine ⟨pw_mid.2 ⟨b1, b2, fun X hX => b3 X hX, fun Y hY => ⟨(b4 Y hY).1, fun x hx => ?_⟩, b5⟩, pw_mid.2 ⟨d1, d2, d3, d4, d5⟩, up_ins u1 hk hn, fun x hx => ?_⟩
  · rcases hin x hx with e | h
    · rw [e]; exact hs.hi Y hY
    · exact (b4 Y hY).2 x h
  · rcases hin x hx with e | h
    · rw [e]; exact hs.at_
    · exact (u2 x h).1
theorem head_mid {L R : List Pg} {P P' : Pg} (hb : P'.b = P.b) (h : ∃ X r, L ++ P :: R = X :: r ∧ X.b = ⟨#[]⟩) (R' : List Pg) : ∃ X r, L ++ P' :: R' = X :: r ∧ X.b = ⟨#[]⟩ := by
  obtain ⟨X, r, e, h0⟩ := h
  cases L with
  | nil =>
    simp at e
    exact ⟨P', R', rfl, by rw [hb, e.1]; exact h0⟩
  | cons Y L =>
    simp at e
    exact ⟨Y, _, rfl, by rw [e.1]; exact h0⟩
theorem ins_inv {s : S} {k : ByteArray} {L R : List Pg} {P : Pg} {A B : List ByteArray} (hI : Inv s) (hs : Spl s k L P R) (hk : Kp P.ks k A B) (hn : B.head? ≠ some k) (hz : k.size ≤ 1024) : Inv (insS s L P R (A ++ k :: B)) := by
  obtain ⟨w1, w2, w3, w4⟩ := insP_weak hI hs hk hn
  have hPm := hs.mem
  obtain ⟨u1, u2, u3⟩ := hI.ks P hPm
  have hlen : (A ++ k :: B).length = P.ks.length + 1 := by rw [hk.e]; simp; omega
  have hsz : ∀ x ∈ A ++ k :: B, x.size ≤ 1024 := fun x hx => by
    rcases List.mem_append.1 hx with h | h
    · exact (u2 x (by rw [hk.e]; simp [h])).2
    · rcases List.mem_cons.1 h with h | h
      · rw [h]; exact hz
      · exact (u2 x (by rw [hk.e]; simp [h])).2
  have hold : ∀ Q, Q ∈ L ∨ Q ∈ R → Q ∈ s.pgs := fun Q hQ => by rw [hs.e, mem_mid]; rcases hQ with h | h; exact Or.inl h; exact Or.inr (Or.inr h)
  have hcnt : s.count = (L.map (fun P => P.ks.length)).sum + (P.ks.length + (R.map (fun P => P.ks.length)).sum) := by rw [hI.cnt, hs.e]; simp
  have hln := hI.ln
  rw [hs.e, List.length_append, List.length_cons] at hln
  have hh0 := hI.h0
  rw [hs.e] at hh0
  unfold insS partS
  by_cases hf : (withKs P (A ++ k :: B)).ks.length ≤ (insP s L P R (A ++ k :: B)).fan
  · rw [if_pos hf]
    refine ⟨hI.f1, hI.f2, w2, fun Q hQ => ?_, head_mid (P := P) (P' := withKs P (A ++ k :: B)) rfl hh0 R, w1, fun Q hQ => ?_, fun Q hQ e => ?_, ?_, ?_⟩
    · rcases mem_mid.1 hQ with h | h | h
      · exact hI.nr Q (hold Q (Or.inl h))
      · rw [h]; exact hI.nr P hPm
      · exact hI.nr Q (hold Q (Or.inr h))
    · rcases mem_mid.1 hQ with h | h | h
      · exact hI.ks Q (hold Q (Or.inl h))
      · rw [h]; exact ⟨w3, fun x hx => ⟨w4 x hx, hsz x hx⟩, hf⟩
      · exact hI.ks Q (hold Q (Or.inr h))
    · rcases mem_mid.1 hQ with h | h | h
      · exact absurd e (no_empty hI hs.e (Or.inl h))
      · rw [h] at e
        have : (A ++ k :: B) = [] := e
        rw [this] at hlen; simp at hlen
      · exact absurd e (no_empty hI hs.e (Or.inr h))
    · show s.count + 1 = _
      show _ = ((L ++ withKs P (A ++ k :: B) :: R).map (fun P => P.ks.length)).sum
      rw [List.map_append, List.map_cons, List.sum_append, List.sum_cons, show (withKs P (A ++ k :: B)).ks.length = P.ks.length + 1 from hlen]
      omega
    · show (L ++ withKs P (A ++ k :: B) :: R).length ≤ s.last
      rw [List.length_append, List.length_cons]; exact hln
  · rw [if_neg hf]
    have hf' : s.fan < (A ++ k :: B).length := Nat.lt_of_not_le hf
    have h2 : 2 ≤ (A ++ k :: B).length := by have := hI.f1; omega
    obtain ⟨p1, p2⟩ := half_le _ h2
    obtain ⟨hh, hhh⟩ : ∃ x, x = half (A ++ k :: B) := ⟨_, rfl⟩
    obtain ⟨m, hm⟩ : ∃ m, (A ++ k :: B)[hh]? = some m := ⟨(A ++ k :: B)[hh]'(by rw [hhh]; exact p2), List.getElem?_eq_getElem _⟩
    have eU : upper (insP s L P R (A ++ k :: B)) (withKs P (A ++ k :: B)) = ⟨s.last + 1, m, (A ++ k :: B).drop hh⟩ := by
      show (⟨s.last + 1, (A ++ k :: B).getD (half (A ++ k :: B)) ⟨#[]⟩, (A ++ k :: B).drop (half (A ++ k :: B))⟩ : Pg) = _
      rw [← hhh, List.getD_eq_getElem?_getD, hm]; rfl
    have eL : lower (withKs P (A ++ k :: B)) = ⟨P.n, P.b, (A ++ k :: B).take hh⟩ := by
      show (⟨P.n, P.b, (A ++ k :: B).take (half (A ++ k :: B))⟩ : Pg) = _
      rw [← hhh]
    rw [eU, eL]
    obtain ⟨l, hl⟩ : ∃ l, A ++ k :: B = l := ⟨_, rfl⟩
    rw [hl] at hm w1 w2 w3 w4 hlen hsz p1 p2 hhh hf' h2 ⊢
    have hml : m ∈ l := List.mem_of_getElem? hm
    have hlo : ∀ x ∈ l.take hh, lt x m = true := fun x hx => by
      obtain ⟨j, hj⟩ := List.getElem?_of_mem hx
      rw [List.getElem?_take] at hj
      split at hj
      · exact up_at w3 (by assumption) hj hm
      · cases hj
    have hup : ∀ x ∈ l.drop hh, lt x m = false := fun x hx => by
      obtain ⟨j, hj⟩ := List.getElem?_of_mem hx
      rw [List.getElem?_drop] at hj
      rcases Nat.eq_zero_or_pos j with h0 | h0
      · subst h0; rw [Nat.add_zero, hm] at hj; cases hj; exact lt_irr _
      · exact lt_as (up_at w3 (by omega) hm hj)
    have hbm : lt P.b m = true := by
      obtain ⟨x0, hx0⟩ : ∃ x, l[0]? = some x := ⟨l[0]'(by omega), List.getElem?_eq_getElem _⟩
      exact le_lt (w4 x0 (List.mem_of_getElem? hx0)) (up_at w3 (by omega) hx0 hm)
    obtain ⟨r1, r2, r3, r4, r5⟩ := pw_mid.1 w1
    obtain ⟨n1, n2, n3, n4, n5⟩ := pw_mid.1 w2
    have hnew : ∀ Q, Q ∈ L ∨ Q ∈ R → Q.n ≠ s.last + 1 := fun Q hQ => by have := (hI.nr Q (hold Q hQ)).2; omega
    have hPn : P.n ≠ s.last + 1 := by have := (hI.nr P hPm).2; omega
    refine ⟨hI.f1, hI.f2, ?_, fun Q hQ => ?_, ?_, ?_, fun Q hQ => ?_, fun Q hQ e => ?_, ?_, ?_⟩
    · refine pw_mid.2 ⟨n1, List.pairwise_cons.2 ⟨fun Y hY => (hnew Y (Or.inr hY)).symm, n2⟩, n3, fun Y hY => ?_, fun X hX Y hY => ?_⟩
      · rcases List.mem_cons.1 hY with e | hY
        · rw [e]; exact hPn
        · exact n4 Y hY
      · rcases List.mem_cons.1 hY with e | hY
        · rw [e]; exact hnew X (Or.inl hX)
        · exact n5 X hX Y hY
    · have hlast : ∀ Q ∈ s.pgs, 1 ≤ Q.n ∧ Q.n ≤ s.last + 1 := fun Q hQ => ⟨(hI.nr Q hQ).1, Nat.le_succ_of_le (hI.nr Q hQ).2⟩
      rcases mem_mid.1 hQ with h | h | h
      · exact hlast Q (hold Q (Or.inl h))
      · rw [h]; exact hlast P hPm
      · rcases List.mem_cons.1 h with h | h
        · rw [h]; exact ⟨by simp, Nat.le_refl _⟩
        · exact hlast Q (hold Q (Or.inr h))
    · exact head_mid (P := P) (P' := ⟨P.n, P.b, l.take hh⟩) rfl hh0 _
    · refine pw_mid.2 ⟨r1, List.pairwise_cons.2 ⟨fun Y hY => ?_, r2⟩, fun X hX => r3 X hX, fun Y hY => ?_, fun X hX Y hY => ?_⟩
      · exact ⟨(r4 Y hY).2 m hml, fun x hx => (r4 Y hY).2 x (List.mem_of_mem_drop hx)⟩
      · rcases List.mem_cons.1 hY with e | hY
        · rw [e]; exact ⟨hbm, hlo⟩
        · exact ⟨(r4 Y hY).1, fun x hx => (r4 Y hY).2 x (List.mem_of_mem_take hx)⟩
      · rcases List.mem_cons.1 hY with e | hY
        · rw [e]; exact ⟨lt_tr (r3 X hX).1 hbm, fun x hx => lt_tr ((r3 X hX).2 x hx) hbm⟩
        · exact r5 X hX Y hY
    · rcases mem_mid.1 hQ with h | h | h
      · exact hI.ks Q (hold Q (Or.inl h))
      · rw [h]
        refine ⟨w3.sublist (List.take_sublist _ _), fun x hx => ⟨w4 x (List.mem_of_mem_take hx), hsz x (List.mem_of_mem_take hx)⟩, ?_⟩
        show (l.take hh).length ≤ s.fan
        rw [List.length_take]
        have : l.length ≤ s.fan + 1 := by omega
        unfold half at hhh; omega
      · rcases List.mem_cons.1 h with h | h
        · rw [h]
          refine ⟨w3.sublist (List.drop_sublist _ _), fun x hx => ⟨hup x hx, hsz x (List.mem_of_mem_drop hx)⟩, ?_⟩
          show (l.drop hh).length ≤ s.fan
          rw [List.length_drop]; omega
        · exact hI.ks Q (hold Q (Or.inr h))
    · exfalso
      rcases mem_mid.1 hQ with h | h | h
      · exact no_empty hI hs.e (Or.inl h) e
      · rw [h] at e
        have e' : l.take hh = [] := e
        have := congrArg List.length e'
        rw [List.length_take, List.length_nil] at this; omega
      · rcases List.mem_cons.1 h with h | h
        · rw [h] at e
          have e' : l.drop hh = [] := e
          have := congrArg List.length e'
          rw [List.length_drop, List.length_nil] at this; omega
        · exact no_empty hI hs.e (Or.inr h) e
    · show s.count + 1 = ((L ++ (⟨P.n, P.b, l.take hh⟩ : Pg) :: ⟨s.last + 1, m, l.drop hh⟩ :: R).map (fun P => P.ks.length)).sum
      rw [List.map_append, List.map_cons, List.map_cons, List.sum_append, List.sum_cons, List.sum_cons]
      show _ = _ + ((l.take hh).length + ((l.drop hh).length + _))
      rw [List.length_take, List.length_drop]; omega
    · show (L ++ (⟨P.n, P.b, l.take hh⟩ : Pg) :: ⟨s.last + 1, m, l.drop hh⟩ :: R).length ≤ s.last + 1
      rw [List.length_append, List.length_cons, List.length_cons]; omega
theorem rem_inv {s : S} {k : ByteArray} {L R : List Pg} {P : Pg} {A B : List ByteArray} (hI : Inv s) (hs : Spl s k L P R) (hk : Kp P.ks k A (k :: B)) : Inv (remS s L P R (A ++ B)) := by
  have hPm := hs.mem
  obtain ⟨u1, u2, u3⟩ := hI.ks P hPm
  have hb := hI.bd
  have hd := hI.nd
  rw [hs.e] at hb hd
  obtain ⟨b1, b2, b3, b4, b5⟩ := pw_mid.1 hb
  obtain ⟨d1, d2, d3, d4, d5⟩ := pw_mid.1 hd
  have hin : ∀ x ∈ A ++ B, x ∈ P.ks := fun x hx => by
    rw [hk.e]
    rcases List.mem_append.1 hx with h | h
    · simp [h]
    · simp [h]
  have hlen : (A ++ B).length + 1 = P.ks.length := by rw [hk.e]; simp; omega
  have hold : ∀ Q, Q ∈ L ∨ Q ∈ R → Q ∈ s.pgs := fun Q hQ => by rw [hs.e, mem_mid]; rcases hQ with h | h; exact Or.inl h; exact Or.inr (Or.inr h)
  have hcnt : s.count = (L.map (fun P => P.ks.length)).sum + (P.ks.length + (R.map (fun P => P.ks.length)).sum) := by rw [hI.cnt, hs.e]; simp
  have hln := hI.ln
  rw [hs.e, List.length_append, List.length_cons] at hln
  have hh0 := hI.h0
  rw [hs.e] at hh0
  unfold remS joinS
  by_cases hf : (withKs P (A ++ B)).ks ≠ [] ∨ L ++ R = []
  · rw [if_pos hf]
    refine ⟨hI.f1, hI.f2, pw_mid.2 ⟨d1, d2, d3, d4, d5⟩, fun Q hQ => ?_, head_mid (P := P) (P' := withKs P (A ++ B)) rfl hh0 R, pw_mid.2 ⟨b1, b2, b3, fun Y hY => ⟨(b4 Y hY).1, fun x hx => (b4 Y hY).2 x (hin x hx)⟩, b5⟩, fun Q hQ => ?_, fun Q hQ e => ?_, ?_, ?_⟩
    · rcases mem_mid.1 hQ with h | h | h
      · exact hI.nr Q (hold Q (Or.inl h))
      · rw [h]; exact hI.nr P hPm
      · exact hI.nr Q (hold Q (Or.inr h))
    · rcases mem_mid.1 hQ with h | h | h
      · exact hI.ks Q (hold Q (Or.inl h))
      · rw [h]; exact ⟨up_rem u1 hk, fun x hx => u2 x (hin x hx), by show (A ++ B).length ≤ s.fan; omega⟩
      · exact hI.ks Q (hold Q (Or.inr h))
    · rcases mem_mid.1 hQ with h | h | h
      · exact absurd e (no_empty hI hs.e (Or.inl h))
      · rw [h] at e
        rcases hf with hf | hf
        · exact absurd e hf
        · obtain ⟨e1, e2⟩ := List.append_eq_nil_iff.1 hf
          show (L ++ withKs P (A ++ B) :: R).length = 1
          rw [e1, e2]; rfl
      · exact absurd e (no_empty hI hs.e (Or.inr h))
    · show s.count - 1 = ((L ++ withKs P (A ++ B) :: R).map (fun P => P.ks.length)).sum
      rw [List.map_append, List.map_cons, List.sum_append, List.sum_cons]
      show _ = _ + ((A ++ B).length + _)
      omega
    · show (L ++ withKs P (A ++ B) :: R).length ≤ s.last
      rw [List.length_append, List.length_cons]; exact hln
  · rw [if_neg hf]
    have hLR : L ++ R ≠ [] := fun e => hf (Or.inr e)
    have hAB : A ++ B = [] := by
      cases hx : A ++ B with
      | nil => rfl
      | cons a r => exact absurd (Or.inl (by show (A ++ B) ≠ []; rw [hx]; simp)) hf
    have hbd : (L ++ R).Pairwise Rl := List.pairwise_append.2 ⟨b1, b2, b5⟩
    have hnd : (L ++ R).Pairwise (fun P Q => P.n ≠ Q.n) := List.pairwise_append.2 ⟨d1, d2, d5⟩
    have hmem : ∀ Q ∈ L ++ R, Q ∈ s.pgs ∧ Q.ks ≠ [] := fun Q hQ => ⟨hold Q (List.mem_append.1 hQ), no_empty hI hs.e (List.mem_append.1 hQ)⟩
    have hsum : s.count - 1 = ((L ++ R).map (fun P => P.ks.length)).sum := by
      rw [List.map_append, List.sum_append]
      have : P.ks.length = 1 := by rw [← hlen, hAB]; rfl
      omega
    have hlen2 : (L ++ R).length ≤ s.last := by rw [List.length_append]; omega
    obtain ⟨T, hT⟩ : ∃ T, L ++ R = T := ⟨_, rfl⟩
    rw [hT] at hLR hbd hnd hmem hsum hlen2 ⊢
    cases T with
    | nil => exact absurd rfl hLR
    | cons Q r =>
      obtain ⟨c1, c2⟩ := List.pairwise_cons.1 hbd
      obtain ⟨e1, e2⟩ := List.pairwise_cons.1 hnd
      refine ⟨hI.f1, hI.f2, List.pairwise_cons.2 ⟨e1, e2⟩, fun X hX => ?_, ⟨_, _, rfl, rfl⟩, List.pairwise_cons.2 ⟨fun Y hY => ⟨?_, (c1 Y hY).2⟩, c2⟩, fun X hX => ?_, fun X hX e => ?_, ?_, ?_⟩
      · rcases List.mem_cons.1 hX with h | h
        · rw [h]; exact hI.nr Q (hmem Q (by simp)).1
        · exact hI.nr X (hmem X (by simp [h])).1
      · exact le_lt (lt_emp Q.b) (c1 Y hY).1
      · rcases List.mem_cons.1 hX with h | h
        · rw [h]
          obtain ⟨k1, k2, k3⟩ := hI.ks Q (hmem Q (by simp)).1
          exact ⟨k1, fun x hx => ⟨lt_emp x, (k2 x hx).2⟩, k3⟩
        · exact hI.ks X (hmem X (by simp [h])).1
      · rcases List.mem_cons.1 hX with h | h
        · rw [h] at e; exact absurd e (hmem Q (by simp)).2
        · exact absurd e (hmem X (by simp [h])).2
      · exact hsum
      · exact hlen2
theorem sm_of {s : S} (hI : Inv s) (h1 : s.last ≤ 5000) (h2 : s.count ≤ 5000) : Sm s :=
  ⟨by have := hI.ln; omega, fun P hP => by have := (hI.ks P hP).2.2; have := hI.f2; omega, by omega, by omega, by have := hI.f2; omega, fun P hP => by have := (hI.nr P hP).2; omega, by rw [← hI.cnt]; omega⟩
theorem sm_insP {s : S} {k : ByteArray} {L R : List Pg} {P : Pg} {A B : List ByteArray} (hI : Inv s) (hs : Spl s k L P R) (hk : Kp P.ks k A B) (h1 : s.last ≤ 5000) (h2 : s.count ≤ 5000) : Sm (insP s L P R (A ++ k :: B)) := by
  have hlen : (A ++ k :: B).length = P.ks.length + 1 := by rw [hk.e]; simp; omega
  have hold : ∀ Q, Q ∈ L ∨ Q ∈ R → Q ∈ s.pgs := fun Q hQ => by rw [hs.e, mem_mid]; rcases hQ with h | h; exact Or.inl h; exact Or.inr (Or.inr h)
  have hS := sm_of hI h1 h2
  have hcnt : s.count = (L.map (fun P => P.ks.length)).sum + (P.ks.length + (R.map (fun P => P.ks.length)).sum) := by rw [hI.cnt, hs.e]; simp
  have hln := hI.ln
  rw [hs.e, List.length_append, List.length_cons] at hln
  refine ⟨?_, fun Q hQ => ?_, hS.la, by show s.count + 1 ≤ _; omega, hS.fa, fun Q hQ => ?_, ?_⟩
  · show (L ++ withKs P (A ++ k :: B) :: R).length ≤ _
    rw [List.length_append, List.length_cons]; omega
  · rcases mem_mid.1 hQ with h | h | h
    · exact hS.kl Q (hold Q (Or.inl h))
    · rw [h]
      show (A ++ k :: B).length ≤ _
      have := (hI.ks P hs.mem).2.2; have := hI.f2; omega
    · exact hS.kl Q (hold Q (Or.inr h))
  · rcases mem_mid.1 hQ with h | h | h
    · exact hS.nn Q (hold Q (Or.inl h))
    · rw [h]; exact hS.nn P hs.mem
    · exact hS.nn Q (hold Q (Or.inr h))
  · show ((L ++ withKs P (A ++ k :: B) :: R).map (fun P => P.ks.length)).sum ≤ _
    rw [List.map_append, List.map_cons, List.sum_append, List.sum_cons, show (withKs P (A ++ k :: B)).ks.length = P.ks.length + 1 from hlen]
    omega
theorem sm_remP {s : S} {k : ByteArray} {L R : List Pg} {P : Pg} {A B : List ByteArray} (hI : Inv s) (hs : Spl s k L P R) (hk : Kp P.ks k A (k :: B)) (h1 : s.last ≤ 5000) (h2 : s.count ≤ 5000) : Sm (remP s L P R (A ++ B)) := by
  have hlen : (A ++ B).length + 1 = P.ks.length := by rw [hk.e]; simp; omega
  have hold : ∀ Q, Q ∈ L ∨ Q ∈ R → Q ∈ s.pgs := fun Q hQ => by rw [hs.e, mem_mid]; rcases hQ with h | h; exact Or.inl h; exact Or.inr (Or.inr h)
  have hS := sm_of hI h1 h2
  have hcnt : s.count = (L.map (fun P => P.ks.length)).sum + (P.ks.length + (R.map (fun P => P.ks.length)).sum) := by rw [hI.cnt, hs.e]; simp
  have hln := hI.ln
  rw [hs.e, List.length_append, List.length_cons] at hln
  refine ⟨?_, fun Q hQ => ?_, hS.la, by show s.count - 1 ≤ _; omega, hS.fa, fun Q hQ => ?_, ?_⟩
  · show (L ++ withKs P (A ++ B) :: R).length ≤ _
    rw [List.length_append, List.length_cons]; omega
  · rcases mem_mid.1 hQ with h | h | h
    · exact hS.kl Q (hold Q (Or.inl h))
    · rw [h]
      show (A ++ B).length ≤ _
      have := (hI.ks P hs.mem).2.2; have := hI.f2; omega
    · exact hS.kl Q (hold Q (Or.inr h))
  · rcases mem_mid.1 hQ with h | h | h
    · exact hS.nn Q (hold Q (Or.inl h))
    · rw [h]; exact hS.nn P hs.mem
    · exact hS.nn Q (hold Q (Or.inr h))
  · show ((L ++ withKs P (A ++ B) :: R).map (fun P => P.ks.length)).sum ≤ _
    rw [List.map_append, List.map_cons, List.sum_append, List.sum_cons]
    show _ + ((A ++ B).length + _) ≤ _
    omega
theorem ins_last (s : S) (L : List Pg) (P : Pg) (R : List Pg) (ks : List ByteArray) : (insS s L P R ks).last ≤ s.last + 1 ∧ (insS s L P R ks).count = s.count + 1 ∧ (insS s L P R ks).fan = s.fan := by
  unfold insS partS
  split
  · exact ⟨Nat.le_succ _, rfl, rfl⟩
  · exact ⟨Nat.le_refl _, rfl, rfl⟩
theorem rem_last (s : S) (L : List Pg) (P : Pg) (R : List Pg) (ks : List ByteArray) : (remS s L P R ks).last = s.last ∧ (remS s L P R ks).count = s.count - 1 ∧ (remS s L P R ks).fan = s.fan := by
  unfold remS joinS
  split
  · exact ⟨rfl, rfl, rfl⟩
  · exact ⟨rfl, rfl, rfl⟩
end Lf
end Go.Proofs.Ytjnaafgiokdcbaa
