/- What leaves keep to. -/
import Derived.Test.YtjnaafgiokdcbaaGreatDoorGC
import Derived.Test.YtjnaafgiokdcbaaGreatDoorGD
namespace Go.Proofs.YtjnaafgiokdcbaaGreatDoor
namespace Lf
def Rl (P Q : Pg) : Prop := lt P.b Q.b = true ∧ ∀ k ∈ P.ks, lt k Q.b = true
theorem sum_ks (l : List Pg) : (l.map (fun P => P.ks.length)).sum = (l.map (fun P => P.ks.length)).sum := rfl
theorem up_ins {ks A B : List ByteArray} {k : ByteArray} (hu : Up ks) (hk : Kp ks k A B) (hn : B.head? ≠ some k) : Up (A ++ k :: B) := by
  unfold Up at *
  rw [hk.e] at hu
  obtain ⟨h1, h2, h3⟩ := List.pairwise_append.1 hu
  have hb : ∀ b ∈ B, lt k b = true := by
    intro b hb
    cases B with
    | nil => cases hb
    | cons c r =>
      have hc : lt k c = true := by
        cases hh : lt k c with
        | true => rfl
        | false => exact absurd (by rw [lt_tri hh (hk.hi c (by simp))]; rfl) hn
      rcases List.mem_cons.1 hb with e | hb
      · rw [e]; exact hc
      · exact lt_tr hc ((List.pairwise_cons.1 h2).1 b hb)
  refine List.pairwise_append.2 ⟨h1, List.pairwise_cons.2 ⟨hb, h2⟩, fun a ha b hb2 => ?_⟩
  rcases List.mem_cons.1 hb2 with e | hb2
  · rw [e]; exact hk.lo a ha
  · exact h3 a ha b hb2
theorem up_rem {ks A B : List ByteArray} {k : ByteArray} (hu : Up ks) (hk : Kp ks k A (k :: B)) : Up (A ++ B) := by
  unfold Up at *
  rw [hk.e] at hu
  exact hu.sublist (List.Sublist.append (List.Sublist.refl _) (List.sublist_cons_self _ _))
theorem up_at {l : List ByteArray} (hu : Up l) {i j : Nat} {a b : ByteArray} (hij : i < j) (ha : l[i]? = some a) (hb : l[j]? = some b) : lt a b = true := by
  obtain ⟨p1, p2⟩ := List.getElem?_eq_some_iff.1 ha
  obtain ⟨p3, p4⟩ := List.getElem?_eq_some_iff.1 hb
  have := List.pairwise_iff_getElem.1 hu i j p1 p3 hij
  rw [p2, p4] at this
  exact this
theorem pw_mid {r : Pg → Pg → Prop} {L R : List Pg} {P : Pg} : (L ++ P :: R).Pairwise r ↔ L.Pairwise r ∧ R.Pairwise r ∧ (∀ X ∈ L, r X P) ∧ (∀ Y ∈ R, r P Y) ∧ ∀ X ∈ L, ∀ Y ∈ R, r X Y := by
  rw [List.pairwise_append, List.pairwise_cons]
  constructor
  · rintro ⟨h1, ⟨h2, h3⟩, h4⟩
    exact ⟨h1, h3, fun X hX => h4 X hX P (by simp), h2, fun X hX Y hY => h4 X hX Y (by simp [hY])⟩
  · rintro ⟨h1, h3, h4, h2, h5⟩
    refine ⟨h1, ⟨h2, h3⟩, fun X hX Y hY => ?_⟩
    rcases List.mem_cons.1 hY with e | hY
    · rw [e]; exact h4 X hX
    · exact h5 X hX Y hY
theorem mem_mid {L R : List Pg} {P Q : Pg} : Q ∈ L ++ P :: R ↔ Q ∈ L ∨ Q = P ∨ Q ∈ R := by simp
theorem no_empty {s : S} (hI : Inv s) {L R : List Pg} {P Q : Pg} (he : s.pgs = L ++ P :: R) (hQ : Q ∈ L ∨ Q ∈ R) : Q.ks ≠ [] := fun e => by
  have hm : Q ∈ s.pgs := by rw [he, mem_mid]; rcases hQ with h | h; exact Or.inl h; exact Or.inr (Or.inr h)
  have h1 := hI.full Q hm e
  rw [he, List.length_append, List.length_cons] at h1
  rcases hQ with h | h
  · have := List.length_pos_of_mem h; omega
  · have := List.length_pos_of_mem h; omega
theorem half_le (l : List ByteArray) (h : 2 ≤ l.length) : 1 ≤ half l ∧ half l < l.length := by unfold half; omega
/-- All of it but how many keys a leaf may have. -/
theorem insP_weak {s : S} {k : ByteArray} {L R : List Pg} {P : Pg} {A B : List ByteArray} (hI : Inv s) (hs : Spl s k L P R) (hk : Kp P.ks k A B) (hn : B.head? ≠ some k) :
    (L ++ withKs P (A ++ k :: B) :: R).Pairwise Rl ∧ (L ++ withKs P (A ++ k :: B) :: R).Pairwise (fun P Q => P.n ≠ Q.n) ∧ Up (A ++ k :: B) ∧ (∀ x ∈ A ++ k :: B, lt x P.b = false) := by
  have hPm := hs.mem
  obtain ⟨u1, u2, u3⟩ := hI.ks P hPm
  have hb := hI.bd
  have hd := hI.nd
  rw [hs.e] at hb hd
  obtain ⟨b1, b2, b3, b4, b5⟩ := pw_mid.1 hb
  obtain ⟨d1, d2, d3, d4, d5⟩ := pw_mid.1 hd
  have hin : ∀ x ∈ A ++ k :: B, x = k ∨ x ∈ P.ks := fun x hx => by
    rw [hk.e]
    rcases List.mem_append.1 hx with h | h
    · exact Or.inr (by simp [h])
    · rcases List.mem_cons.1 h with h | h
      · exact Or.inl h
      · exact Or.inr (by simp [h])
  refine ⟨pw_mid.2 ⟨b1, b2, fun X hX => b3 X hX, fun Y hY => ⟨(b4 Y hY).1, fun x hx => ?_⟩, b5⟩, pw_mid.2 ⟨d1, d2, d3, d4, d5⟩, up_ins u1 hk hn, fun x hx => ?_⟩
  · rcases hin x hx with e | h
    · rw [e]; exact hs.hi Y hY
    · exact (b4 Y hY).2 x h
  · rcases hin x hx with e | h
    · rw [e]; exact hs.at_
    · exact (u2 x h).1
theorem head_mid {L R : List Pg} {P P' : Pg} (hb : P'.b = P.b) (h : ∃ X r, L ++ P :: R = X :: r ∧ X.b = ⟨#[]⟩) (R' : List Pg) : ∃ X r, L ++ P' :: R' = X :: r ∧ X.b = ⟨#[]⟩ := by
  obtain ⟨X, r, e, h0⟩ := h
  cases L with
  | nil =>
    simp at e
    exact ⟨P', R', rfl, by rw [hb, e.1]; exact h0⟩
  | cons Y L =>
    simp at e
    exact ⟨Y, _, rfl, by rw [e.1]; exact h0⟩
theorem ins_inv {s : S} {k : ByteArray} {L R : List Pg} {P : Pg} {A B : List ByteArray} (hI : Inv s) (hs : Spl s k L P R) (hk : Kp P.ks k A B) (hn : B.head? ≠ some k) (hz : k.size ≤ 1024) : Inv (insS s L P R (A ++ k :: B)) := by
  obtain ⟨w1, w2, w3, w4⟩ := insP_weak hI hs hk hn
  have hPm := hs.mem
  obtain ⟨u1, u2, u3⟩ := hI.ks P hPm
  have hlen : (A ++ k :: B).length = P.ks.length + 1 := by rw [hk.e]; simp; omega
  have hsz : ∀ x ∈ A ++ k :: B, x.size ≤ 1024 := fun x hx => by
    rcases List.mem_append.1 hx with h | h
    · exact (u2 x (by rw [hk.e]; simp [h])).2
    · rcases List.mem_cons.1 h with h | h
      · rw [h]; exact hz
      · exact (u2 x (by rw [hk.e]; simp [h])).2
  have hold : ∀ Q, Q ∈ L ∨ Q ∈ R → Q ∈ s.pgs := fun Q hQ => by rw [hs.e, mem_mid]; rcases hQ with h | h; exact Or.inl h; exact Or.inr (Or.inr h)
  have hcnt : s.count = (L.map (fun P => P.ks.length)).sum + (P.ks.length + (R.map (fun P => P.ks.length)).sum) := by rw [hI.cnt, hs.e]; simp
  have hln := hI.ln
  rw [hs.e, List.length_append, List.length_cons] at hln
  have hh0 := hI.h0
  rw [hs.e] at hh0
  unfold insS partS
  by_cases hf : (withKs P (A ++ k :: B)).ks.length ≤ (insP s L P R (A ++ k :: B)).fan
  · rw [if_pos hf]
    refine ⟨hI.f1, hI.f2, w2, fun Q hQ => ?_, head_mid (P := P) (P' := withKs P (A ++ k :: B)) rfl hh0 R, w1, fun Q hQ => ?_, fun Q hQ e => ?_, ?_, ?_⟩
    · rcases mem_mid.1 hQ with h | h | h
      · exact hI.nr Q (hold Q (Or.inl h))
      · rw [h]; exact hI.nr P hPm
      · exact hI.nr Q (hold Q (Or.inr h))
    · rcases mem_mid.1 hQ with h | h | h
      · exact hI.ks Q (hold Q (Or.inl h))
      · rw [h]; exact ⟨w3, fun x hx => ⟨w4 x hx, hsz x hx⟩, hf⟩
      · exact hI.ks Q (hold Q (Or.inr h))
    · rcases mem_mid.1 hQ with h | h | h
      · exact absurd e (no_empty hI hs.e (Or.inl h))
      · rw [h] at e
        have : (A ++ k :: B) = [] := e
        rw [this] at hlen; simp at hlen
      · exact absurd e (no_empty hI hs.e (Or.inr h))
    · show s.count + 1 = _
      show _ = ((L ++ withKs P (A ++ k :: B) :: R).map (fun P => P.ks.length)).sum
      rw [List.map_append, List.map_cons, List.sum_append, List.sum_cons, show (withKs P (A ++ k :: B)).ks.length = P.ks.length + 1 from hlen]
      omega
    · show (L ++ withKs P (A ++ k :: B) :: R).length ≤ s.last
      rw [List.length_append, List.length_cons]; exact hln
  · rw [if_neg hf]
    have hf' : s.fan < (A ++ k :: B).length := Nat.lt_of_not_le hf
    have h2 : 2 ≤ (A ++ k :: B).length := by have := hI.f1; omega
    obtain ⟨p1, p2⟩ := half_le _ h2
    obtain ⟨hh, hhh⟩ : ∃ x, x = half (A ++ k :: B) := ⟨_, rfl⟩
    obtain ⟨m, hm⟩ : ∃ m, (A ++ k :: B)[hh]? = some m := ⟨(A ++ k :: B)[hh]'(by rw [hhh]; exact p2), List.getElem?_eq_getElem _⟩
    have eU : upper (insP s L P R (A ++ k :: B)) (withKs P (A ++ k :: B)) = ⟨s.last + 1, m, (A ++ k :: B).drop hh⟩ := by
      show (⟨s.last + 1, (A ++ k :: B).getD (half (A ++ k :: B)) ⟨#[]⟩, (A ++ k :: B).drop (half (A ++ k :: B))⟩ : Pg) = _
      rw [← hhh, List.getD_eq_getElem?_getD, hm]; rfl
    have eL : lower (withKs P (A ++ k :: B)) = ⟨P.n, P.b, (A ++ k :: B).take hh⟩ := by
      show (⟨P.n, P.b, (A ++ k :: B).take (half (A ++ k :: B))⟩ : Pg) = _
      rw [← hhh]
    rw [eU, eL]
    obtain ⟨l, hl⟩ : ∃ l, A ++ k :: B = l := ⟨_, rfl⟩
    rw [hl] at hm w1 w2 w3 w4 hlen hsz p1 p2 hhh hf' h2 ⊢
    have hml : m ∈ l := List.mem_of_getElem? hm
    have hlo : ∀ x ∈ l.take hh, lt x m = true := fun x hx => by
      obtain ⟨j, hj⟩ := List.getElem?_of_mem hx
      rw [List.getElem?_take] at hj
      split at hj
      · exact up_at w3 (by assumption) hj hm
      · cases hj
    have hup : ∀ x ∈ l.drop hh, lt x m = false := fun x hx => by
      obtain ⟨j, hj⟩ := List.getElem?_of_mem hx
      rw [List.getElem?_drop] at hj
      rcases Nat.eq_zero_or_pos j with h0 | h0
      · subst h0; rw [Nat.add_zero, hm] at hj; cases hj; exact lt_irr _
      · exact lt_as (up_at w3 (by omega) hm hj)
    have hbm : lt P.b m = true := by
      obtain ⟨x0, hx0⟩ : ∃ x, l[0]? = some x := ⟨l[0]'(by omega), List.getElem?_eq_getElem _⟩
      exact le_lt (w4 x0 (List.mem_of_getElem? hx0)) (up_at w3 (by omega) hx0 hm)
    obtain ⟨r1, r2, r3, r4, r5⟩ := pw_mid.1 w1
    obtain ⟨n1, n2, n3, n4, n5⟩ := pw_mid.1 w2
    have hnew : ∀ Q, Q ∈ L ∨ Q ∈ R → Q.n ≠ s.last + 1 := fun Q hQ => by have := (hI.nr Q (hold Q hQ)).2; omega
    have hPn : P.n ≠ s.last + 1 := by have := (hI.nr P hPm).2; omega
    refine ⟨hI.f1, hI.f2, ?_, fun Q hQ => ?_, ?_, ?_, fun Q hQ => ?_, fun Q hQ e => ?_, ?_, ?_⟩
    · refine pw_mid.2 ⟨n1, List.pairwise_cons.2 ⟨fun Y hY => (hnew Y (Or.inr hY)).symm, n2⟩, n3, fun Y hY => ?_, fun X hX Y hY => ?_⟩
      · rcases List.mem_cons.1 hY with e | hY
        · rw [e]; exact hPn
        · exact n4 Y hY
      · rcases List.mem_cons.1 hY with e | hY
        · rw [e]; exact hnew X (Or.inl hX)
        · exact n5 X hX Y hY
    · have hlast : ∀ Q ∈ s.pgs, 1 ≤ Q.n ∧ Q.n ≤ s.last + 1 := fun Q hQ => ⟨(hI.nr Q hQ).1, Nat.le_succ_of_le (hI.nr Q hQ).2⟩
      rcases mem_mid.1 hQ with h | h | h
      · exact hlast Q (hold Q (Or.inl h))
      · rw [h]; exact hlast P hPm
      · rcases List.mem_cons.1 h with h | h
        · rw [h]; exact ⟨by simp, Nat.le_refl _⟩
        · exact hlast Q (hold Q (Or.inr h))
    · exact head_mid (P := P) (P' := ⟨P.n, P.b, l.take hh⟩) rfl hh0 _
    · refine pw_mid.2 ⟨r1, List.pairwise_cons.2 ⟨fun Y hY => ?_, r2⟩, fun X hX => r3 X hX, fun Y hY => ?_, fun X hX Y hY => ?_⟩
      · exact ⟨(r4 Y hY).2 m hml, fun x hx => (r4 Y hY).2 x (List.mem_of_mem_drop hx)⟩
      · rcases List.mem_cons.1 hY with e | hY
        · rw [e]; exact ⟨hbm, hlo⟩
        · exact ⟨(r4 Y hY).1, fun x hx => (r4 Y hY).2 x (List.mem_of_mem_take hx)⟩
      · rcases List.mem_cons.1 hY with e | hY
        · rw [e]; exact ⟨lt_tr (r3 X hX).1 hbm, fun x hx => lt_tr ((r3 X hX).2 x hx) hbm⟩
        · exact r5 X hX Y hY
    · rcases mem_mid.1 hQ with h | h | h
      · exact hI.ks Q (hold Q (Or.inl h))
      · rw [h]
        refine ⟨w3.sublist (List.take_sublist _ _), fun x hx => ⟨w4 x (List.mem_of_mem_take hx), hsz x (List.mem_of_mem_take hx)⟩, ?_⟩
        show (l.take hh).length ≤ s.fan
        rw [List.length_take]
        have : l.length ≤ s.fan + 1 := by omega
        unfold half at hhh; omega
      · rcases List.mem_cons.1 h with h | h
        · rw [h]
          refine ⟨w3.sublist (List.drop_sublist _ _), fun x hx => ⟨hup x hx, hsz x (List.mem_of_mem_drop hx)⟩, ?_⟩
          show (l.drop hh).length ≤ s.fan
          rw [List.length_drop]; omega
        · exact hI.ks Q (hold Q (Or.inr h))
    · exfalso
      rcases mem_mid.1 hQ with h | h | h
      · exact no_empty hI hs.e (Or.inl h) e
      · rw [h] at e
        have e' : l.take hh = [] := e
        have := congrArg List.length e'
        rw [List.length_take, List.length_nil] at this; omega
      · rcases List.mem_cons.1 h with h | h
        · rw [h] at e
          have e' : l.drop hh = [] := e
          have := congrArg List.length e'
          rw [List.length_drop, List.length_nil] at this; omega
        · exact no_empty hI hs.e (Or.inr h) e
    · show s.count + 1 = ((L ++ (⟨P.n, P.b, l.take hh⟩ : Pg) :: ⟨s.last + 1, m, l.drop hh⟩ :: R).map (fun P => P.ks.length)).sum
      rw [List.map_append, List.map_cons, List.map_cons, List.sum_append, List.sum_cons, List.sum_cons]
      show _ = _ + ((l.take hh).length + ((l.drop hh).length + _))
      rw [List.length_take, List.length_drop]; omega
    · show (L ++ (⟨P.n, P.b, l.take hh⟩ : Pg) :: ⟨s.last + 1, m, l.drop hh⟩ :: R).length ≤ s.last + 1
      rw [List.length_append, List.length_cons, List.length_cons]; omega
theorem rem_inv {s : S} {k : ByteArray} {L R : List Pg} {P : Pg} {A B : List ByteArray} (hI : Inv s) (hs : Spl s k L P R) (hk : Kp P.ks k A (k :: B)) : Inv (remS s L P R (A ++ B)) := by
  have hPm := hs.mem
  obtain ⟨u1, u2, u3⟩ := hI.ks P hPm
  have hb := hI.bd
  have hd := hI.nd
  rw [hs.e] at hb hd
  obtain ⟨b1, b2, b3, b4, b5⟩ := pw_mid.1 hb
  obtain ⟨d1, d2, d3, d4, d5⟩ := pw_mid.1 hd
  have hin : ∀ x ∈ A ++ B, x ∈ P.ks := fun x hx => by
    rw [hk.e]
    rcases List.mem_append.1 hx with h | h
    · simp [h]
    · simp [h]
  have hlen : (A ++ B).length + 1 = P.ks.length := by rw [hk.e]; simp; omega
  have hold : ∀ Q, Q ∈ L ∨ Q ∈ R → Q ∈ s.pgs := fun Q hQ => by rw [hs.e, mem_mid]; rcases hQ with h | h; exact Or.inl h; exact Or.inr (Or.inr h)
  have hcnt : s.count = (L.map (fun P => P.ks.length)).sum + (P.ks.length + (R.map (fun P => P.ks.length)).sum) := by rw [hI.cnt, hs.e]; simp
  have hln := hI.ln
  rw [hs.e, List.length_append, List.length_cons] at hln
  have hh0 := hI.h0
  rw [hs.e] at hh0
  unfold remS joinS
  by_cases hf : (withKs P (A ++ B)).ks ≠ [] ∨ L ++ R = []
  · rw [if_pos hf]
    refine ⟨hI.f1, hI.f2, pw_mid.2 ⟨d1, d2, d3, d4, d5⟩, fun Q hQ => ?_, head_mid (P := P) (P' := withKs P (A ++ B)) rfl hh0 R, pw_mid.2 ⟨b1, b2, b3, fun Y hY => ⟨(b4 Y hY).1, fun x hx => (b4 Y hY).2 x (hin x hx)⟩, b5⟩, fun Q hQ => ?_, fun Q hQ e => ?_, ?_, ?_⟩
    · rcases mem_mid.1 hQ with h | h | h
      · exact hI.nr Q (hold Q (Or.inl h))
      · rw [h]; exact hI.nr P hPm
      · exact hI.nr Q (hold Q (Or.inr h))
    · rcases mem_mid.1 hQ with h | h | h
      · exact hI.ks Q (hold Q (Or.inl h))
      · rw [h]; exact ⟨up_rem u1 hk, fun x hx => u2 x (hin x hx), by show (A ++ B).length ≤ s.fan; omega⟩
      · exact hI.ks Q (hold Q (Or.inr h))
    · rcases mem_mid.1 hQ with h | h | h
      · exact absurd e (no_empty hI hs.e (Or.inl h))
      · rw [h] at e
        rcases hf with hf | hf
        · exact absurd e hf
        · obtain ⟨e1, e2⟩ := List.append_eq_nil_iff.1 hf
          show (L ++ withKs P (A ++ B) :: R).length = 1
          rw [e1, e2]; rfl
      · exact absurd e (no_empty hI hs.e (Or.inr h))
    · show s.count - 1 = ((L ++ withKs P (A ++ B) :: R).map (fun P => P.ks.length)).sum
      rw [List.map_append, List.map_cons, List.sum_append, List.sum_cons]
      show _ = _ + ((A ++ B).length + _)
      omega
    · show (L ++ withKs P (A ++ B) :: R).length ≤ s.last
      rw [List.length_append, List.length_cons]; exact hln
  · rw [if_neg hf]
    have hLR : L ++ R ≠ [] := fun e => hf (Or.inr e)
    have hAB : A ++ B = [] := by
      cases hx : A ++ B with
      | nil => rfl
      | cons a r => exact absurd (Or.inl (by show (A ++ B) ≠ []; rw [hx]; simp)) hf
    have hbd : (L ++ R).Pairwise Rl := List.pairwise_append.2 ⟨b1, b2, b5⟩
    have hnd : (L ++ R).Pairwise (fun P Q => P.n ≠ Q.n) := List.pairwise_append.2 ⟨d1, d2, d5⟩
    have hmem : ∀ Q ∈ L ++ R, Q ∈ s.pgs ∧ Q.ks ≠ [] := fun Q hQ => ⟨hold Q (List.mem_append.1 hQ), no_empty hI hs.e (List.mem_append.1 hQ)⟩
    have hsum : s.count - 1 = ((L ++ R).map (fun P => P.ks.length)).sum := by
      rw [List.map_append, List.sum_append]
      have : P.ks.length = 1 := by rw [← hlen, hAB]; rfl
      omega
    have hlen2 : (L ++ R).length ≤ s.last := by rw [List.length_append]; omega
    obtain ⟨T, hT⟩ : ∃ T, L ++ R = T := ⟨_, rfl⟩
    rw [hT] at hLR hbd hnd hmem hsum hlen2 ⊢
    cases T with
    | nil => exact absurd rfl hLR
    | cons Q r =>
      obtain ⟨c1, c2⟩ := List.pairwise_cons.1 hbd
      obtain ⟨e1, e2⟩ := List.pairwise_cons.1 hnd
      refine ⟨hI.f1, hI.f2, List.pairwise_cons.2 ⟨e1, e2⟩, fun X hX => ?_, ⟨_, _, rfl, rfl⟩, List.pairwise_cons.2 ⟨fun Y hY => ⟨?_, (c1 Y hY).2⟩, c2⟩, fun X hX => ?_, fun X hX e => ?_, ?_, ?_⟩
      · rcases List.mem_cons.1 hX with h | h
        · rw [h]; exact hI.nr Q (hmem Q (by simp)).1
        · exact hI.nr X (hmem X (by simp [h])).1
      · exact le_lt (lt_emp Q.b) (c1 Y hY).1
      · rcases List.mem_cons.1 hX with h | h
        · rw [h]
          obtain ⟨k1, k2, k3⟩ := hI.ks Q (hmem Q (by simp)).1
          exact ⟨k1, fun x hx => ⟨lt_emp x, (k2 x hx).2⟩, k3⟩
        · exact hI.ks X (hmem X (by simp [h])).1
      · rcases List.mem_cons.1 hX with h | h
        · rw [h] at e; exact absurd e (hmem Q (by simp)).2
        · exact absurd e (hmem X (by simp [h])).2
      · exact hsum
      · exact hlen2
theorem sm_of {s : S} (hI : Inv s) (h1 : s.last ≤ 5000) (h2 : s.count ≤ 5000) : Sm s :=
  ⟨by have := hI.ln; omega, fun P hP => by have := (hI.ks P hP).2.2; have := hI.f2; omega, by omega, by omega, by have := hI.f2; omega, fun P hP => by have := (hI.nr P hP).2; omega, by rw [← hI.cnt]; omega⟩
theorem sm_insP {s : S} {k : ByteArray} {L R : List Pg} {P : Pg} {A B : List ByteArray} (hI : Inv s) (hs : Spl s k L P R) (hk : Kp P.ks k A B) (h1 : s.last ≤ 5000) (h2 : s.count ≤ 5000) : Sm (insP s L P R (A ++ k :: B)) := by
  have hlen : (A ++ k :: B).length = P.ks.length + 1 := by rw [hk.e]; simp; omega
  have hold : ∀ Q, Q ∈ L ∨ Q ∈ R → Q ∈ s.pgs := fun Q hQ => by rw [hs.e, mem_mid]; rcases hQ with h | h; exact Or.inl h; exact Or.inr (Or.inr h)
  have hS := sm_of hI h1 h2
  have hcnt : s.count = (L.map (fun P => P.ks.length)).sum + (P.ks.length + (R.map (fun P => P.ks.length)).sum) := by rw [hI.cnt, hs.e]; simp
  have hln := hI.ln
  rw [hs.e, List.length_append, List.length_cons] at hln
  refine ⟨?_, fun Q hQ => ?_, hS.la, by show s.count + 1 ≤ _; omega, hS.fa, fun Q hQ => ?_, ?_⟩
  · show (L ++ withKs P (A ++ k :: B) :: R).length ≤ _
    rw [List.length_append, List.length_cons]; omega
  · rcases mem_mid.1 hQ with h | h | h
    · exact hS.kl Q (hold Q (Or.inl h))
    · rw [h]
      show (A ++ k :: B).length ≤ _
      have := (hI.ks P hs.mem).2.2; have := hI.f2; omega
    · exact hS.kl Q (hold Q (Or.inr h))
  · rcases mem_mid.1 hQ with h | h | h
    · exact hS.nn Q (hold Q (Or.inl h))
    · rw [h]; exact hS.nn P hs.mem
    · exact hS.nn Q (hold Q (Or.inr h))
  · show ((L ++ withKs P (A ++ k :: B) :: R).map (fun P => P.ks.length)).sum ≤ _
    rw [List.map_append, List.map_cons, List.sum_append, List.sum_cons, show (withKs P (A ++ k :: B)).ks.length = P.ks.length + 1 from hlen]
    omega
theorem sm_remP {s : S} {k : ByteArray} {L R : List Pg} {P : Pg} {A B : List ByteArray} (hI : Inv s) (hs : Spl s k L P R) (hk : Kp P.ks k A (k :: B)) (h1 : s.last ≤ 5000) (h2 : s.count ≤ 5000) : Sm (remP s L P R (A ++ B)) := by
  have hlen : (A ++ B).length + 1 = P.ks.length := by rw [hk.e]; simp; omega
  have hold : ∀ Q, Q ∈ L ∨ Q ∈ R → Q ∈ s.pgs := fun Q hQ => by rw [hs.e, mem_mid]; rcases hQ with h | h; exact Or.inl h; exact Or.inr (Or.inr h)
  have hS := sm_of hI h1 h2
  have hcnt : s.count = (L.map (fun P => P.ks.length)).sum + (P.ks.length + (R.map (fun P => P.ks.length)).sum) := by rw [hI.cnt, hs.e]; simp
  have hln := hI.ln
  rw [hs.e, List.length_append, List.length_cons] at hln
  refine ⟨?_, fun Q hQ => ?_, hS.la, by show s.count - 1 ≤ _; omega, hS.fa, fun Q hQ => ?_, ?_⟩
  · show (L ++ withKs P (A ++ B) :: R).length ≤ _
    rw [List.length_append, List.length_cons]; omega
  · rcases mem_mid.1 hQ with h | h | h
    · exact hS.kl Q (hold Q (Or.inl h))
    · rw [h]
      show (A ++ B).length ≤ _
      have := (hI.ks P hs.mem).2.2; have := hI.f2; omega
    · exact hS.kl Q (hold Q (Or.inr h))
  · rcases mem_mid.1 hQ with h | h | h
    · exact hS.nn Q (hold Q (Or.inl h))
    · rw [h]; exact hS.nn P hs.mem
    · exact hS.nn Q (hold Q (Or.inr h))
  · show ((L ++ withKs P (A ++ B) :: R).map (fun P => P.ks.length)).sum ≤ _
    rw [List.map_append, List.map_cons, List.sum_append, List.sum_cons]
    show _ + ((A ++ B).length + _) ≤ _
    omega
theorem ins_last (s : S) (L : List Pg) (P : Pg) (R : List Pg) (ks : List ByteArray) : (insS s L P R ks).last ≤ s.last + 1 ∧ (insS s L P R ks).count = s.count + 1 ∧ (insS s L P R ks).fan = s.fan := by
  unfold insS partS
  split
  · exact ⟨Nat.le_succ _, rfl, rfl⟩
  · exact ⟨Nat.le_refl _, rfl, rfl⟩
theorem rem_last (s : S) (L : List Pg) (P : Pg) (R : List Pg) (ks : List ByteArray) : (remS s L P R ks).last = s.last ∧ (remS s L P R ks).count = s.count - 1 ∧ (remS s L P R ks).fan = s.fan := by
  unfold remS joinS
  split
  · exact ⟨rfl, rfl, rfl⟩
  · exact ⟨rfl, rfl, rfl⟩
end Lf

end Go.Proofs.YtjnaafgiokdcbaaGreatDoor

/- Lists of numbers and of texts compared; is a number in a list? -/
namespace Go.Proofs.YtjnaafgiokdcbaaGreatDoor
open Go.RowKit

namespace Mm
def IIn (w : World) (q : Option Addr) (l : List Int) : Prop := ∀ (j : Nat) (x : Int), l[j]? = some x → ∃ b o, q = some ⟨b, o, none⟩ ∧ b < w.heap.size ∧ w.cell? ⟨b, o + j, none⟩ = some (.int .i64 x)
theorem IIn.below {w w' : World} {q : Option Addr} {l : List Int} (h : IIn w q l) (hb : Below w.heap.size w w') : IIn w' q l := fun j x hx => by
  obtain ⟨b, o, h1, h2, h3⟩ := h j x hx
  exact ⟨b, o, h1, Nat.lt_of_lt_of_le h2 hb.size, (belAt hb _ h2).trans h3⟩
theorem Own.nin {w : World} {base : Nat} {v : Value} {l : List Nat} (h : Own w base 3 v (nts l)) : ∃ q c, v = .slice q (l.map (fun n : Nat => (n : Int))).length c ∧ IIn w q (l.map (fun n : Nat => (n : Int))) := by
  obtain ⟨q, c, h1, h2, -, -, -⟩ := h.shape
  refine ⟨q, c, by rw [h1, nts_len, List.length_map], fun j x hx => ?_⟩
  rw [List.getElem?_map] at hx
  cases hy : l[j]? with
  | none => rw [hy] at hx; cases hx
  | some y =>
    rw [hy] at hx
    cases hx
    obtain ⟨g, c', e1, -, e3, -, -⟩ := h.at (nts_at hy)
    rw [h1] at e1
    injection e1 with e1
    exact ⟨g, 0, e1, World.block_lt_of_cell? _ _ e3, by rw [Nat.zero_add]; exact e3⟩
theorem nts_its (l : List Nat) : nts l = its (l.map (fun n : Nat => (n : Int))) := by simp [nts, its]
theorem Own.iin {w : World} {base : Nat} {v : Value} {l : List Int} (h : Own w base 3 v (its l)) : ∃ q c, v = .slice q l.length c ∧ l.length ≤ c ∧ IIn w q l := by
  obtain ⟨q, c, h1, h2, -, -, -⟩ := h.shape
  refine ⟨q, c, by rw [h1, its_len], by rw [its_len] at h2; exact h2, fun j x hx => ?_⟩
  obtain ⟨g, c', e1, -, e3, -, -⟩ := h.at (its_at hx)
  rw [h1] at e1
  injection e1 with e1
  exact ⟨g, 0, e1, World.block_lt_of_cell? _ _ e3, by rw [Nat.zero_add]; exact e3⟩
/-- One number, laid just now. -/
theorem iin_one {w : World} {g : Nat} {x : Int} (h : w.heap[g]? = some (.cells #[.int .i64 x] 3 (0, 0))) : IIn w (some ⟨g, 0, none⟩) [x] := fun j y hy => by
  match j, hy with
  | 0, hy => simp at hy; subst hy; exact ⟨g, 0, rfl, heapLt h, cellOf h rfl⟩
end Mm

set_option maxRecDepth 100000 in
set_option maxHeartbeats 2000000 in
theorem ints_any (la lb : List Int) (pa pb : Option Addr) (ca cb : Nat) (w : World) (ha : Hid (Mm.IIn w pa la)) (hb : Hid (Mm.IIn w pb lb)) (hn : la.length ≤ 1000000) :
    Calls Tryz.prog 19 #[.slice pa la.length ca, .slice pb lb.length cb] w fun e w' => e = .returned (.bool (decide (la = lb))) ∧ Below w.heap.size w w' := by
  by_cases hl : la.length = lb.length
  · obtain ⟨n, hnn⟩ : ∃ n, n = la.length := ⟨_, rfl⟩
    rw [← hl, ← hnn]
    rw [← hnn] at hn
    have HN := Mm.hid hnn
    have HL := Mm.hid hl
    clear hl hnn
    go_enter Tryz.func19, Tryz.ntmps19
    go_wp2_with fail
    go_loopw [5] (fun vi wr => ∃ k : Nat, k ≤ n ∧ vi = .int .i64 (k : Int) ∧ Hid (∀ j : Nat, j < k → la[j]? = lb[j]?) ∧ Hid (Below w.heap.size w wr)) (fun vi _ => n - (RowKit.intOf vi).toNat)
    case atStart => exact ⟨0, by omega, rfl, fun j h => absurd h (Nat.not_lt_zero j), Below.refl _ _⟩
    case round =>
      obtain ⟨k, hk, rfl, HI, HB⟩ := hrel
      by_cases hlt : k < n
      · obtain ⟨a, ha1⟩ : ∃ a, la[k]? = some a := ⟨_, List.getElem?_eq_getElem (by rw [← HN.out]; exact hlt)⟩
        obtain ⟨b, hb1⟩ : ∃ b, lb[k]? = some b := ⟨_, List.getElem?_eq_getElem (by rw [← HL.out, ← HN.out]; exact hlt)⟩
        obtain ⟨g1, o1, rfl, _, hc1⟩ := (ha.out.below HB.out) k a ha1
        obtain ⟨g2, o2, rfl, _, hc2⟩ := (hb.out.below HB.out) k b hb1
        have HA := Mm.hid (And.intro ha1 hb1)
        have g01 : (0 : Int) ≤ (k : Int) := by omega
        have g02 : (k : Int) < (n : Int) := by omega
        have HCC : Hid (wr.drew.cell? ⟨g1, o1 + k, none⟩ = some (.int .i64 a) ∧ wr.drew.cell? ⟨g2, o2 + k, none⟩ = some (.int .i64 b)) := Mm.hid ⟨hc1, hc2⟩
        clear ha1 hb1 hc1 hc2
        by_cases e : a = b
        · have he : (a == b) = true := by simpa using e
          have HE := Mm.hid e
          clear e
          go_wp2_with fail
          go_region_held3 (fun w' => w'.cell? ⟨g1, o1 + k, none⟩ = some (.int .i64 a) ∧ w'.cell? ⟨g2, o2 + k, none⟩ = some (.int .i64 b)) (with_reducible exact HCC.out) (fail)
          go_wp2_with fail
          refine ⟨⟨k + 1, by omega, by go_num, fun j hj => ?_, HB.out.drew⟩, by simp [RowKit.intOf]; omega⟩
          by_cases ej : j = k
          · subst ej; rw [HA.out.1, HA.out.2, HE.out]
          · exact HI.out j (by omega)
        · have he : (a == b) = false := by simpa using e
          have HE : Hid (la ≠ lb) := Mm.hid (fun h => e (by have h1 := HA.out.1; rw [h, HA.out.2] at h1; injection h1 with h1; exact h1.symm))
          clear e
          go_wp2_with fail
          go_region_held3 (fun w' => w'.cell? ⟨g1, o1 + k, none⟩ = some (.int .i64 a) ∧ w'.cell? ⟨g2, o2 + k, none⟩ = some (.int .i64 b)) (with_reducible exact HCC.out) (fail)
          go_wp2_with fail
          go_ret
          exact ⟨by rw [decide_eq_false HE.out]; rfl, HB.out.drew⟩
      · have HE : Hid (la = lb) := Mm.hid (List.ext_getElem? (fun j => by
          by_cases hj : j < k
          · exact HI.out j hj
          · rw [List.getElem?_eq_none (by have := HN.out; omega), List.getElem?_eq_none (by have := HN.out; have := HL.out; omega)]))
        go_wp2_with fail
        go_ret
        exact ⟨by rw [decide_eq_true HE.out]; rfl, HB.out⟩
  · have hne : ((la.length : Int) == (lb.length : Int)) = false := by simp; omega
    have HE : Hid (la ≠ lb) := Mm.hid (fun h => hl (by rw [h]))
    clear hl
    go_enter Tryz.func19, Tryz.ntmps19
    go_wp2_with fail
    go_ret
    exact ⟨by rw [decide_eq_false HE.out]; rfl, Below.refl _ _⟩


theorem ints_gen (la lb : List Int) (pa pb : Option Addr) (na nb ca cb : Nat) (w : World) (ha : Hid (Mm.IIn w pa la)) (hb : Hid (Mm.IIn w pb lb)) (h1 : Hid (na = la.length)) (h2 : Hid (nb = lb.length)) (hn : la.length ≤ 1000000) :
    Calls Tryz.prog 19 #[.slice pa na ca, .slice pb nb cb] w fun e w' => e = .returned (.bool (decide (la = lb))) ∧ Below w.heap.size w w' := by
  rw [h1.out, h2.out]
  exact ints_any la lb pa pb ca cb w ha hb hn


namespace Lf
def SIn (w : World) (q : Option Addr) (l : List ByteArray) : Prop := ∀ (j : Nat) (x : ByteArray), l[j]? = some x → ∃ b o, q = some ⟨b, o, none⟩ ∧ b < w.heap.size ∧ w.cell? ⟨b, o + j, none⟩ = some (.string x)
theorem SIn.below {w w' : World} {q : Option Addr} {l : List ByteArray} (h : SIn w q l) (hb : Below w.heap.size w w') : SIn w' q l := fun j x hx => by
  obtain ⟨b, o, h1, h2, h3⟩ := h j x hx
  exact ⟨b, o, h1, Nat.lt_of_lt_of_le h2 hb.size, (Mm.belAt hb _ h2).trans h3⟩
theorem own_sin {w : World} {base : Nat} {v : Value} {l : List ByteArray} (h : Mm.Own w base 9 v (strs l)) : ∃ q c, v = .slice q l.length c ∧ l.length ≤ c ∧ SIn w q l := by
  obtain ⟨q, c, h1, h2, -, -, -⟩ := h.shape
  refine ⟨q, c, by rw [h1, strs_len], by rw [strs_len] at h2; exact h2, fun j x hx => ?_⟩
  obtain ⟨g, c', e1, -, e3, -, -⟩ := h.at (strs_at hx)
  rw [h1] at e1
  injection e1 with e1
  exact ⟨g, 0, e1, World.block_lt_of_cell? _ _ e3, by rw [Nat.zero_add]; exact e3⟩
end Lf


set_option maxRecDepth 100000 in
set_option maxHeartbeats 2000000 in
theorem hask_any (l : List Int) (p : Option Addr) (n c : Nat) (x : Int) (w : World) (ha : Hid (Mm.IIn w p l)) (hn : Hid (l.length = n)) (hnb : n ≤ 1000000) :
    Calls Tryz.prog 28 #[.slice p n c, .int .i64 x] w fun e w' => e = .returned (.bool (decide (x ∈ l))) ∧ w' = w := by
  go_enter Tryz.func28, Tryz.ntmps28
  go_wp2_with fail
  go_loopw [5] (fun vi wr => ∃ k : Nat, k ≤ n ∧ vi = .int .i64 (k : Int) ∧ Hid (∀ (j : Nat) y, j < k → l[j]? = some y → y ≠ x) ∧ Hid (wr = w)) (fun vi _ => n - (RowKit.intOf vi).toNat)
  case atStart => exact ⟨0, by omega, rfl, fun j y h => absurd h (Nat.not_lt_zero j), rfl⟩
  case round =>
    obtain ⟨k, hk, rfl, HI, HB⟩ := hrel
    have HBe := HB.out
    subst HBe
    by_cases hlt : k < n
    · obtain ⟨a, ha1⟩ : ∃ a, l[k]? = some a := ⟨_, List.getElem?_eq_getElem (by rw [hn.out]; exact hlt)⟩
      obtain ⟨g1, o1, rfl, _, hc1⟩ := ha.out k a ha1
      have HA := Mm.hid ha1
      have g01 : (0 : Int) ≤ (k : Int) := by omega
      have g02 : (k : Int) < (n : Int) := by omega
      clear ha1
      by_cases e : a = x
      · have he : (a == x) = true := by simpa using e
        have HE : Hid (decide (x ∈ l) = true) := Mm.hid (decide_eq_true (by rw [← e]; exact List.mem_of_getElem? HA.out))
        subst e
        go_wp2_with fail
        go_ret
        exact ⟨by rw [HE.out]; rfl, rfl⟩
      · have he : (a == x) = false := by simpa using e
        have HI2 : Hid (∀ (j : Nat) y, j < k + 1 → l[j]? = some y → y ≠ x) := Mm.hid (fun j y hj hy => by
          rcases Nat.lt_or_ge j k with h1 | h1
          · exact HI.out j y h1 hy
          · have h2 : j = k := by omega
            rw [h2, HA.out] at hy
            cases hy; exact e)
        clear e
        go_wp2_with fail
        exact ⟨⟨k + 1, by omega, by go_num, HI2, by first | trivial | exact Mm.hid rfl⟩, by simp [RowKit.intOf]; omega⟩
    · have HE : Hid (decide (x ∈ l) = false) := Mm.hid (decide_eq_false (fun hm => by
        obtain ⟨j, hj⟩ := List.getElem?_of_mem hm
        exact HI.out j x (by have := (List.getElem?_eq_some_iff.1 hj).1; have := hn.out; omega) hj rfl))
      go_wp2_with fail
      go_ret
      exact ⟨by rw [HE.out]; rfl, rfl⟩

end Go.Proofs.YtjnaafgiokdcbaaGreatDoor

/- Leaves as the laws use them. -/
namespace Go.Proofs.YtjnaafgiokdcbaaGreatDoor
open Go.RowKit

namespace Lf
def Lq (h : Nat) (w : World) (tag : Nat → Option Tg) (p : Nat) (s : S) (N : Nat) : Prop := (∃ bl kv rv, Mem h w tag p s bl kv rv) ∧ Inv s ∧ s.last ≤ N + 1 ∧ s.count ≤ N
theorem Lq.below {h : Nat} {w w' : World} {tag : Nat → Option Tg} {p : Nat} {s : S} {N : Nat} (H : Lq h w tag p s N) (hb : Below w.heap.size w w') : Lq h w' tag p s N := by
  obtain ⟨⟨bl, kv, rv, hM⟩, h2⟩ := H
  exact ⟨⟨bl, kv, rv, hM.below hb⟩, h2⟩
theorem Lq.drew {h : Nat} {w : World} {tag : Nat → Option Tg} {p : Nat} {s : S} {N : Nat} (H : Lq h w tag p s N) : Lq h w.drew tag p s N := by
  obtain ⟨⟨bl, kv, rv, hM⟩, h2⟩ := H
  exact ⟨⟨bl, kv, rv, hM.drew⟩, h2⟩
theorem Lq.keep {h : Nat} {w w' : World} {tag : Nat → Option Tg} {p : Nat} {s : S} {N : Nat} (H : Lq h w tag p s N) (hz : w.heap.size ≤ w'.heap.size) (hk : ∀ b l, tag b = some l → w'.heap[b]? = w.heap[b]?) : Lq h w' tag p s N := by
  obtain ⟨⟨bl, kv, rv, hM⟩, h2⟩ := H
  exact ⟨⟨bl, kv, rv, hM.keep hz hk⟩, h2⟩
theorem Lq.sm {h : Nat} {w : World} {tag : Nat → Option Tg} {p : Nat} {s : S} {N : Nat} (H : Lq h w tag p s N) (hN : N ≤ 4900) : Sm s := sm_of H.2.1 (by have := H.2.2.1; omega) (by have := H.2.2.2; omega)
theorem Lq.top {h : Nat} {w : World} {tag : Nat → Option Tg} {p : Nat} {s : S} {N : Nat} (H : Lq h w tag p s N) : ∀ b, w.heap.size ≤ b → tag b = none := by obtain ⟨⟨bl, kv, rv, hM⟩, _⟩ := H; exact hM.top
theorem Lq.bot {h : Nat} {w : World} {tag : Nat → Option Tg} {p : Nat} {s : S} {N : Nat} (H : Lq h w tag p s N) : ∀ b, b < h → tag b = none := by obtain ⟨⟨bl, kv, rv, hM⟩, _⟩ := H; exact hM.bot
theorem Lq.ne {h : Nat} {w : World} {tag : Nat → Option Tg} {p : Nat} {s : S} {N : Nat} (H : Lq h w tag p s N) : s.pgs ≠ [] := by obtain ⟨P, r, e, _⟩ := H.2.1.h0; rw [e]; simp
/-- What Insert, what Remove tells, and what is left. -/
inductive InsR (s : S) (k : ByteArray) : S → Nat → Nat → Nat → Nat → Prop
  | long : 1024 < k.size → InsR s k s 0 0 0 2
  | twice {L R P A B} : Spl s k L P R → Kp P.ks k A B → B.head? = some k → k.size ≤ 1024 → InsR s k s 0 0 0 62
  | ok {L R P A B L' P' R'} : Spl s k L P R → Kp P.ks k A B → B.head? ≠ some k → k.size ≤ 1024 → Spl (insS s L P R (A ++ k :: B)) k L' P' R' → InsR s k (insS s L P R (A ++ k :: B)) P'.n (partM s (withKs P (A ++ k :: B))).1 (partM s (withKs P (A ++ k :: B))).2 0
inductive RemR (s : S) (k : ByteArray) : S → Nat → Nat → Nat → Nat → Prop
  | none {L R P A B} : Spl s k L P R → Kp P.ks k A B → B.head? ≠ some k → RemR s k s 0 0 0 60
  | ok {L R P A B} : Spl s k L P R → Kp P.ks k A (k :: B) → RemR s k (remS s L P R (A ++ B)) P.n (joinM L (withKs P (A ++ B)) R).1 (joinM L (withKs P (A ++ B)) R).2 0
def leafOf (s : S) (k : ByteArray) : Pg := ((s.pgs.filter (fun P => !lt k P.b)).getLast?).getD ⟨0, ⟨#[]⟩, []⟩
theorem leaf_spl {s : S} {k : ByteArray} {L R : List Pg} {P : Pg} (h : Spl s k L P R) : leafOf s k = P := by
  unfold leafOf
  have e1 : (L.filter (fun P => !lt k P.b)) = L := List.filter_eq_self.2 (fun Q hQ => by simp [h.lo Q hQ])
  have e2 : (R.filter (fun P => !lt k P.b)) = [] := List.filter_eq_nil_iff.2 (fun Q hQ => by simp [h.hi Q hQ])
  rw [h.e, List.filter_append, List.filter_cons, e1, e2]
  simp [h.at_]
def inKs (ks : List ByteArray) (k : ByteArray) : Bool := ks.any (fun x => decide (x = k))
theorem inKs_iff {ks : List ByteArray} {k : ByteArray} : inKs ks k = true ↔ k ∈ ks := by
  unfold inKs
  rw [List.any_eq_true]
  constructor
  · rintro ⟨x, hx, e⟩; rw [← of_decide_eq_true e]; exact hx
  · intro hk; exact ⟨k, hk, decide_eq_true rfl⟩
end Lf

variable {h : Nat} {w : World} {tag : Nat → Option Lf.Tg} {p : Nat} {s : Lf.S} {N : Nat}

theorem insert_q (H : Hid (Lf.Lq h w tag p s N)) (hN : N ≤ 4000) (hh : h ≤ w.heap.size) (k : ByteArray) :
    Calls Tryz.prog 33 #[.pointer (some ⟨p, 0, none⟩), .string k] w fun e w' => ∃ s' l f t er, e = .returned (.tuple #[.int .i64 ((l : Nat) : Int), .agg #[.int .i64 ((f : Nat) : Int), .int .i64 ((t : Nat) : Int)], .int .i64 ((er : Nat) : Int)]) ∧ Lf.InsR s k s' l f t er ∧ ∃ tag', Lf.Lq h w' tag' p s' (N + 1) ∧ Lf.Ev tag tag' w w' := by
  obtain ⟨⟨bl, kv, rv, hM⟩, hI, h1, h2⟩ := H.out
  have hS := Lf.sm_of hI (by omega) (by omega)
  rcases Nat.lt_or_ge 1024 k.size with hk | hk
  · refine (insert_long p k hk w).mono ?_
    rintro e w' ⟨rfl, hb⟩
    exact ⟨s, 0, 0, 0, 2, rfl, .long hk, tag, ⟨⟨bl, kv, rv, hM.below hb⟩, hI, by omega, by omega⟩, Lf.Ev.below hb⟩
  · obtain ⟨L, P, R, hs⟩ := Lf.spl_ex hI k
    obtain ⟨A, B, hp⟩ := Lf.kp_ex (hI.ks P hs.mem).1 k
    by_cases hb : B.head? = some k
    · refine (insert_twice (Mm.hid hM) (Mm.hid hs) (Mm.hid hS) (Mm.hid hp) (Mm.hid hb) hk).mono ?_
      rintro e w' ⟨rfl, hbl⟩
      exact ⟨s, 0, 0, 0, 62, rfl, .twice hs hp hb hk, tag, ⟨⟨bl, kv, rv, hM.below hbl⟩, hI, by omega, by omega⟩, Lf.Ev.below hbl⟩
    · have hI2 := Lf.ins_inv hI hs hp hb hk
      obtain ⟨l1, l2, _⟩ := Lf.ins_last s L P R (A ++ k :: B)
      obtain ⟨L', P', R', hs2⟩ := Lf.spl_ex hI2 k
      refine (insert_any (Mm.hid hM) hh (Mm.hid hs) (Mm.hid hS) (Mm.hid hI) (Mm.hid hp) (Mm.hid hb) hk (Mm.hid (Lf.sm_insP hI hs hp (by omega) (by omega))) (Mm.hid (Lf.sm_of hI2 (by omega) (by omega))) (Mm.hid hs2)).mono ?_
      rintro e w' ⟨rfl, tag', bl', kv', rv', hM', hE⟩
      exact ⟨_, _, _, _, 0, rfl, .ok hs hp hb hk hs2, tag', ⟨⟨bl', kv', rv', hM'⟩, hI2, by omega, by omega⟩, hE⟩
theorem remove_q (H : Hid (Lf.Lq h w tag p s N)) (hN : N ≤ 4000) (k : ByteArray) :
    Calls Tryz.prog 36 #[.pointer (some ⟨p, 0, none⟩), .string k] w fun e w' => ∃ s' l f t er, e = .returned (.tuple #[.int .i64 ((l : Nat) : Int), .agg #[.int .i64 ((f : Nat) : Int), .int .i64 ((t : Nat) : Int)], .int .i64 ((er : Nat) : Int)]) ∧ Lf.RemR s k s' l f t er ∧ ∃ tag', Lf.Lq h w' tag' p s' (N + 1) ∧ Lf.Ev tag tag' w w' := by
  obtain ⟨⟨bl, kv, rv, hM⟩, hI, h1, h2⟩ := H.out
  have hS := Lf.sm_of hI (by omega) (by omega)
  obtain ⟨L, P, R, hs⟩ := Lf.spl_ex hI k
  obtain ⟨A, B, hp⟩ := Lf.kp_ex (hI.ks P hs.mem).1 k
  by_cases hb : B.head? = some k
  · cases B with
    | nil => cases hb
    | cons b B =>
      simp at hb; subst hb
      have hI2 := Lf.rem_inv hI hs hp
      obtain ⟨l1, l2, _⟩ := Lf.rem_last s L P R (A ++ B)
      refine (remove_any (Mm.hid hM) (Mm.hid hs) (Mm.hid hS) (Mm.hid hI) (Mm.hid hp) (Mm.hid (Lf.sm_remP hI hs hp (by omega) (by omega)))).mono ?_
      rintro e w' ⟨rfl, tag', bl', kv', rv', hM', hE⟩
      exact ⟨_, _, _, _, 0, rfl, .ok hs hp, tag', ⟨⟨bl', kv', rv', hM'⟩, hI2, by omega, by omega⟩, hE⟩
  · refine (remove_none (Mm.hid hM) (Mm.hid hs) (Mm.hid hS) (Mm.hid hp) (Mm.hid hb)).mono ?_
    rintro e w' ⟨rfl, hbl⟩
    exact ⟨s, 0, 0, 0, 60, rfl, .none hs hp hb, tag, ⟨⟨bl, kv, rv, hM.below hbl⟩, hI, by omega, by omega⟩, Lf.Ev.below hbl⟩
theorem of_q (H : Hid (Lf.Lq h w tag p s N)) (hN : N ≤ 4900) (k : ByteArray) :
    Calls Tryz.prog 56 #[.pointer (some ⟨p, 0, none⟩), .string k] w fun e w' => e = .returned (.int .i64 ((Lf.leafOf s k).n : Int)) ∧ Below w.heap.size w w' := by
  obtain ⟨L, P, R, hs⟩ := Lf.spl_ex H.out.2.1 k
  rw [Lf.leaf_spl hs]
  obtain ⟨⟨bl, kv, rv, hM⟩, hI, h1, h2⟩ := H.out
  exact leafof_any (Mm.hid hM) (Mm.hid hs) (Mm.hid (H.out.sm hN))
theorem has_q (H : Hid (Lf.Lq h w tag p s N)) (hN : N ≤ 4900) (k : ByteArray) :
    Calls Tryz.prog 44 #[.pointer (some ⟨p, 0, none⟩), .string k] w fun e w' => e = .returned (.bool (Lf.inKs (Lf.leafOf s k).ks k)) ∧ Below w.heap.size w w' := by
  obtain ⟨L, P, R, hs⟩ := Lf.spl_ex H.out.2.1 k
  rw [Lf.leaf_spl hs]
  obtain ⟨⟨bl, kv, rv, hM⟩, hI, h1, h2⟩ := H.out
  obtain ⟨A, B, hp⟩ := Lf.kp_ex (hI.ks P hs.mem).1 k
  have e : Lf.inKs P.ks k = decide (B.head? = some k) := by
    rw [Bool.eq_iff_iff, Lf.inKs_iff, decide_eq_true_iff]
    exact hp.mem (hI.ks P hs.mem).1
  rw [e]
  exact has_any (Mm.hid hM) (Mm.hid hs) (Mm.hid (H.out.sm hN)) (Mm.hid hp)
theorem len_q (H : Hid (Lf.Lq h w tag p s N)) :
    Calls Tryz.prog 46 #[.pointer (some ⟨p, 0, none⟩)] w fun e w' => e = .returned (.int .i64 (s.count : Int)) ∧ Below w.heap.size w w' := by
  obtain ⟨⟨bl, kv, rv, hM⟩, _⟩ := H.out
  exact len_any (Mm.hid hM)
theorem all_q (H : Hid (Lf.Lq h w tag p s N)) (hN : N ≤ 4900) :
    Calls Tryz.prog 47 #[.pointer (some ⟨p, 0, none⟩)] w fun e w' => ∃ v, e = .returned v ∧ Mm.Own w' w.heap.size 3 v (Mm.nts (Lf.nums s.pgs)) ∧ Below w.heap.size w w' := by
  obtain ⟨⟨bl, kv, rv, hM⟩, _⟩ := H.out
  exact all_any (Mm.hid hM) (Mm.hid (H.out.sm hN)) H.out.ne

/-- What Range tells. -/
def Lf.spanK (s : Lf.S) (frm to : ByteArray) : List ByteArray := if to ≠ ⟨#[]⟩ ∧ Lf.lt frm to = false then [] else Lf.rngK frm to (s.pgs.dropWhile (fun P => !decide (P.n = (Lf.leafOf s frm).n)))
def Lf.spanL (s : Lf.S) (frm to : ByteArray) : List Nat := if to ≠ ⟨#[]⟩ ∧ Lf.lt frm to = false then [] else Lf.rngL to (s.pgs.dropWhile (fun P => !decide (P.n = (Lf.leafOf s frm).n)))
theorem Lf.drop_spl {s : Lf.S} {k : ByteArray} {L R : List Lf.Pg} {P : Lf.Pg} (hI : Lf.Inv s) (hs : Lf.Spl s k L P R) : s.pgs.dropWhile (fun P => !decide (P.n = (Lf.leafOf s k).n)) = P :: R := by
  rw [Lf.leaf_spl hs]
  have hd := hI.nd
  rw [hs.e] at hd
  obtain ⟨n1, _⟩ := Lf.nd_mid hd
  rw [hs.e]
  clear hd hs
  induction L with
  | nil => simp
  | cons X L ih =>
    rw [List.cons_append, List.dropWhile_cons_of_pos (by simp [n1 X (by simp)])]
    exact ih (fun Q hQ => n1 Q (by simp [hQ]))
theorem range_q (H : Hid (Lf.Lq h w tag p s N)) (hN : N ≤ 4900) (frm to : ByteArray) :
    Calls Tryz.prog 62 #[.pointer (some ⟨p, 0, none⟩), .string frm, .string to] w fun e w' => ∃ v1 v2, e = .returned (.tuple #[v1, v2]) ∧ Lf.Two w w' v1 v2 (Lf.spanK s frm to) (Lf.spanL s frm to) := by
  obtain ⟨L, P, R, hs⟩ := Lf.spl_ex H.out.2.1 frm
  have hI := H.out.2.1
  unfold Lf.spanK Lf.spanL
  rw [Lf.drop_spl hI hs]
  obtain ⟨⟨bl, kv, rv, hM⟩, _⟩ := H.out
  by_cases hto : to = ⟨#[]⟩
  · subst hto
    rw [if_neg (fun h => h.1 rfl), if_neg (fun h => h.1 rfl)]
    exact rangeE_any (Mm.hid hM) (Mm.hid hs) (Mm.hid (H.out.sm hN))
  · cases hlt : Lf.lt frm to with
    | true =>
      rw [if_neg (fun h => by cases h.2), if_neg (fun h => by cases h.2)]
      exact rangeT_any (Mm.hid hM) (Mm.hid hs) (Mm.hid (H.out.sm hN)) (Mm.hid hI) hto (Mm.hid hlt)
    | false =>
      rw [if_pos ⟨hto, rfl⟩, if_pos ⟨hto, rfl⟩]
      refine (range_none p frm to hto hlt w).mono ?_
      rintro e w' ⟨rfl, hb⟩
      exact ⟨_, _, rfl, Mm.Own.nil _ _ _, Mm.Own.nil _ _ _, (fun _ e => nomatch e), hb⟩

end Go.Proofs.YtjnaafgiokdcbaaGreatDoor

/- wakes. -/
namespace Go.Proofs.YtjnaafgiokdcbaaGreatDoor
open Go.RowKit

namespace Lf
theorem InsR.det {s s1 s2 : S} {k : ByteArray} {l1 f1 t1 e1 l2 f2 t2 e2 : Nat} (h1 : InsR s k s1 l1 f1 t1 e1) (h2 : InsR s k s2 l2 f2 t2 e2) : s1 = s2 ∧ l1 = l2 ∧ f1 = f2 ∧ t1 = t2 ∧ e1 = e2 := by
  cases h1 with
  | long a =>
    cases h2 with
    | long _ => exact ⟨rfl, rfl, rfl, rfl, rfl⟩
    | twice _ _ _ b => omega
    | ok _ _ _ b _ => omega
  | twice a1 a2 a3 a4 =>
    cases h2 with
    | long b => omega
    | twice _ _ _ b => exact ⟨rfl, rfl, rfl, rfl, rfl⟩
    | ok b1 b2 b3 b4 _ =>
      obtain ⟨_, e, _⟩ := a1.uniq b1
      rw [e] at a2
      exact absurd (by rw [← (a2.uniq b2).2]; exact a3) b3
  | ok a1 a2 a3 a4 a5 =>
    cases h2 with
    | long b => omega
    | twice b1 b2 b3 b4 =>
      obtain ⟨_, e, _⟩ := a1.uniq b1
      rw [e] at a2
      exact absurd (by rw [(a2.uniq b2).2]; exact b3) a3
    | ok b1 b2 b3 b4 b5 =>
      obtain ⟨e1, e2, e3⟩ := a1.uniq b1
      subst e1; subst e2; subst e3
      obtain ⟨e4, e5⟩ := a2.uniq b2
      subst e4; subst e5
      obtain ⟨_, e6, _⟩ := a5.uniq b5
      subst e6
      exact ⟨rfl, rfl, rfl, rfl, rfl⟩
theorem lt_data (a b : ByteArray) : lt a b = Op.bytesLess a.data.toList b.data.toList := by unfold lt; rw [ByteArray.toList_eq, ByteArray.toList_eq]
theorem sin_two {w : World} {g : Nat} {a b : ByteArray} (h : w.heap[g]? = some (.cells #[.string a, .string b] 9 (0, 0))) : SIn w (some ⟨g, 0, none⟩) [a, b] := fun j y hy => by
  match j, hy with
  | 0, hy => simp at hy; subst hy; exact ⟨g, 0, rfl, Mm.heapLt h, Mm.cellOf h rfl⟩
  | 1, hy => simp at hy; subst hy; exact ⟨g, 0, rfl, Mm.heapLt h, Mm.cellOf h rfl⟩
theorem iin_two {w : World} {g : Nat} {a b : Int} (h : w.heap[g]? = some (.cells #[.int .i64 a, .int .i64 b] 3 (0, 0))) : Mm.IIn w (some ⟨g, 0, none⟩) [a, b] := fun j y hy => by
  match j, hy with
  | 0, hy => simp at hy; subst hy; exact ⟨g, 0, rfl, Mm.heapLt h, Mm.cellOf h rfl⟩
  | 1, hy => simp at hy; subst hy; exact ⟨g, 0, rfl, Mm.heapLt h, Mm.cellOf h rfl⟩
def kA : ByteArray := ⟨#[97]⟩
def kB : ByteArray := ⟨#[98]⟩
def kC : ByteArray := ⟨#[99]⟩
def kBB : ByteArray := ⟨#[98, 98]⟩
def p0 : Pg := ⟨1, ⟨#[]⟩, []⟩
def pA : Pg := ⟨1, ⟨#[]⟩, [kA]⟩
def pB : Pg := ⟨1, ⟨#[]⟩, [kA, kB]⟩
def pC : Pg := ⟨2, kC, [kC]⟩
def sA : S := ⟨2, 1, [pA], 1⟩
def sB : S := ⟨2, 1, [pB], 2⟩
def sC : S := ⟨2, 2, [pB, pC], 3⟩
theorem ltAB : lt kA kB = true := by rw [lt_data]; rfl
theorem ltAC : lt kA kC = true := by rw [lt_data]; rfl
theorem ltBC : lt kB kC = true := by rw [lt_data]; rfl
theorem ltBBC : lt kBB kC = true := by rw [lt_data]; rfl
theorem spl_one {s : S} {P : Pg} (h : s.pgs = [P]) (k : ByteArray) (hb : P.b = ⟨#[]⟩) : Spl s k [] P [] := ⟨h, (fun _ h => nomatch h), by rw [hb]; exact lt_emp k, (fun _ h => nomatch h)⟩
theorem insA : InsR (S0 2) kA sA 1 0 0 0 :=
  InsR.ok (L := []) (P := p0) (R := []) (A := []) (B := []) (L' := []) (P' := pA) (R' := []) (spl_one rfl kA rfl) ⟨rfl, (fun _ h => nomatch h), (fun _ h => nomatch h)⟩ (by simp) (by decide) (spl_one (s := sA) rfl kA rfl)
theorem insB : InsR sA kB sB 1 0 0 0 :=
  InsR.ok (L := []) (P := pA) (R := []) (A := [kA]) (B := []) (L' := []) (P' := pB) (R' := []) (spl_one rfl kB rfl) ⟨rfl, (fun a h => by rw [List.mem_singleton.1 h]; exact ltAB), (fun _ h => nomatch h)⟩ (by simp) (by decide) (spl_one (s := sB) rfl kB rfl)
theorem splC : Spl sC kC [pB] pC [] := ⟨rfl, (fun Q h => by rw [List.mem_singleton.1 h]; exact lt_emp kC), lt_irr _, (fun _ h => nomatch h)⟩
theorem insC : InsR sB kC sC 2 1 2 0 :=
  InsR.ok (L := []) (P := pB) (R := []) (A := [kA, kB]) (B := []) (L' := [pB]) (P' := pC) (R' := []) (spl_one rfl kC rfl) ⟨rfl, (fun a h => by
    rcases List.mem_cons.1 h with e | h
    · rw [e]; exact ltAC
    · rw [List.mem_singleton.1 h]; exact ltBC), (fun _ h => nomatch h)⟩ (by simp) (by decide) splC
theorem splA : Spl sC kA [] pB [pC] := ⟨rfl, (fun _ h => nomatch h), lt_emp kA, (fun Q h => by rw [List.mem_singleton.1 h]; exact ltAC)⟩
theorem splBB : Spl sC kBB [] pB [pC] := ⟨rfl, (fun _ h => nomatch h), lt_emp kBB, (fun Q h => by rw [List.mem_singleton.1 h]; exact ltBBC)⟩
theorem spanKC (hI : Inv sC) : spanK sC kA ⟨#[]⟩ = [kA, kB, kC] := by
  unfold spanK
  rw [if_neg (fun h => h.1 rfl), drop_spl hI splA]
  unfold rngK
  rw [takeW_all (fun j Q hQ => by unfold upTo; simp)]
  unfold keysIn
  have e : [pB, pC].flatMap (fun P => P.ks) = [kA, kB, kC] := rfl
  rw [e, List.filter_eq_self]
  intro k hk
  unfold inR
  have : lt k kA = false := by
    rcases List.mem_cons.1 hk with e | hk
    · rw [e]; exact lt_irr _
    · rcases List.mem_cons.1 hk with e | hk
      · rw [e]; exact lt_as ltAB
      · rw [List.mem_singleton.1 hk]; exact lt_as ltAC
  rw [this]; simp
theorem spanLC (hI : Inv sC) : spanL sC kA ⟨#[]⟩ = [1, 2] := by
  unfold spanL
  rw [if_neg (fun h => h.1 rfl), drop_spl hI splA]
  unfold rngL
  rw [takeW_all (fun j Q hQ => by unfold upTo; simp)]
  rfl
theorem lq0 (w : World) (fan : Nat) (h1 : 2 ≤ fan) (h2 : fan ≤ 64) : Lq w.heap.size (W0 w fan) (tag0 w.heap.size) (w.heap.size + 2) (S0 fan) 0 := ⟨⟨_, _, _, mem0 w fan⟩, inv0 h1 h2, Nat.le_refl _, Nat.le_refl _⟩
end Lf

end Go.Proofs.YtjnaafgiokdcbaaGreatDoor
