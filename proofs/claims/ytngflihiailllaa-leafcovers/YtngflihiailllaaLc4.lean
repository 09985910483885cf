/- What a change does to the leaf of any key; what a range covers. -/
import Derived.Test.YtngflihiailllaaLc2
namespace Go.Proofs.Ytngflihiailllaa
namespace Lf
def fil (k : ByteArray) (l : List Pg) : List Pg := l.filter (fun P => !lt k P.b)
def nOf (l : List Pg) (k : ByteArray) : Nat := (((fil k l).getLast?).map (fun P => P.n)).getD 0
theorem leaf_n (s : S) (k : ByteArray) : (leafOf s k).n = nOf s.pgs k := by
  unfold leafOf nOf fil
  cases ((s.pgs.filter (fun P => !lt k P.b)).getLast?) <;> rfl
theorem fil_app (k : ByteArray) (a b : List Pg) : fil k (a ++ b) = fil k a ++ fil k b := List.filter_append ..
theorem nOf_app (a b : List Pg) (k : ByteArray) : nOf (a ++ b) k = if fil k b = [] then nOf a k else nOf b k := by
  unfold nOf
  rw [fil_app]
  cases h : fil k b with
  | nil => simp
  | cons x r =>
    rw [if_neg (by simp)]
    rw [List.getLast?_append]
    cases hh : (x :: r).getLast? with
    | none => simp at hh
    | some y => rfl
theorem nOf_one (P : Pg) (k : ByteArray) : nOf [P] k = if lt k P.b = false then P.n else 0 := by
  unfold nOf fil
  cases h : lt k P.b <;> simp [h]
theorem fil_one (P : Pg) (k : ByteArray) : fil k [P] = [] ↔ lt k P.b = true := by
  unfold fil
  cases h : lt k P.b <;> simp [h]
theorem nOf_cons (P : Pg) (b : List Pg) (k : ByteArray) : nOf (P :: b) k = if fil k b = [] then (if lt k P.b = false then P.n else 0) else nOf b k := by
  have := nOf_app [P] b k
  rw [nOf_one] at this
  exact this
theorem nOf_mid (a b : List Pg) (P : Pg) (k : ByteArray) : nOf (a ++ P :: b) k = if fil k b = [] then (if lt k P.b = false then P.n else nOf a k) else nOf b k := by
  rw [show a ++ P :: b = (a ++ [P]) ++ b by simp, nOf_app, nOf_app, nOf_one]
  by_cases h : fil k b = []
  · rw [if_pos h, if_pos h]
    cases hp : lt k P.b with
    | true => rw [if_pos ((fil_one P k).2 hp)]; simp
    | false => rw [if_neg (fun e => by rw [(fil_one P k).1 e] at hp; cases hp), if_pos rfl, if_pos rfl]
  · rw [if_neg h, if_neg h]
theorem ins_leaf {s : S} {k : ByteArray} {L R : List Pg} {P : Pg} {A B : List ByteArray} (hI : Inv s) (hs : Spl s k L P R) (hk : Kp P.ks k A B) (hn : B.head? ≠ some k) (x : ByteArray) :
    (leafOf (insS s L P R (A ++ k :: B)) x).n = (leafOf s x).n ∨ ((partM s (withKs P (A ++ k :: B))).1 ≠ 0 ∧ (leafOf s x).n = (partM s (withKs P (A ++ k :: B))).1 ∧ (leafOf (insS s L P R (A ++ k :: B)) x).n = (partM s (withKs P (A ++ k :: B))).2) := by
  obtain ⟨w1, w2, w3, w4⟩ := insP_weak hI hs hk hn
  rw [leaf_n, leaf_n]
  unfold insS partS partM
  by_cases hf : (withKs P (A ++ k :: B)).ks.length ≤ (insP s L P R (A ++ k :: B)).fan
  · left
    rw [if_pos hf]
    show nOf (L ++ withKs P (A ++ k :: B) :: R) x = _
    rw [hs.e, nOf_mid, nOf_mid]
    rfl
  · rw [if_neg hf, if_neg (show ¬ (withKs P (A ++ k :: B)).ks.length ≤ s.fan from hf)]
    show nOf (L ++ lower (withKs P (A ++ k :: B)) :: upper (insP s L P R (A ++ k :: B)) (withKs P (A ++ k :: B)) :: R) x = _ ∨ _ ∧ _ ∧ nOf (L ++ lower (withKs P (A ++ k :: B)) :: upper (insP s L P R (A ++ k :: B)) (withKs P (A ++ k :: B)) :: R) x = _
    have hf' : s.fan < (A ++ k :: B).length := Nat.lt_of_not_le hf
    have h2 : 2 ≤ (A ++ k :: B).length := by have := hI.f1; omega
    obtain ⟨p1, p2⟩ := half_le _ h2
    obtain ⟨m, hm⟩ : ∃ m, (A ++ k :: B)[half (A ++ k :: B)]? = some m := ⟨(A ++ k :: B)[half (A ++ k :: B)]'p2, List.getElem?_eq_getElem _⟩
    have hbm : lt P.b m = true := by
      obtain ⟨x0, hx0⟩ : ∃ x, (A ++ k :: B)[0]? = some x := ⟨(A ++ k :: B)[0]'(by omega), List.getElem?_eq_getElem _⟩
      exact le_lt (w4 x0 (List.mem_of_getElem? hx0)) (up_at w3 (by omega) hx0 hm)
    have eb : (upper (insP s L P R (A ++ k :: B)) (withKs P (A ++ k :: B))).b = m := by
      show (A ++ k :: B).getD (half (A ++ k :: B)) ⟨#[]⟩ = m
      rw [List.getD_eq_getElem?_getD, hm]; rfl
    rw [hs.e, show L ++ lower (withKs P (A ++ k :: B)) :: upper (insP s L P R (A ++ k :: B)) (withKs P (A ++ k :: B)) :: R = (L ++ [lower (withKs P (A ++ k :: B))]) ++ upper (insP s L P R (A ++ k :: B)) (withKs P (A ++ k :: B)) :: R by simp, nOf_mid, nOf_mid, nOf_mid]
    by_cases hr : fil x R = []
    · rw [if_pos hr, if_pos hr, eb]
      rw [if_pos (show fil x ([] : List Pg) = [] from rfl)]
      cases hxm : lt x m with
      | false =>
        right
        have hxp : lt x P.b = false := by
          cases hh : lt x P.b with
          | false => rfl
          | true => rw [lt_tr hh hbm] at hxm; cases hxm
        rw [if_pos hxp, if_pos rfl]
        exact ⟨by have := (hI.nr P hs.mem).1; show P.n ≠ 0; omega, rfl, rfl⟩
      | true =>
        left
        rw [if_neg (by simp)]
        rfl
    · left
      rw [if_neg hr, if_neg hr]
theorem rem_leaf {s : S} {k : ByteArray} {L R : List Pg} {P : Pg} {A B : List ByteArray} (hI : Inv s) (hs : Spl s k L P R) (x : ByteArray) :
    (leafOf (remS s L P R (A ++ B)) x).n = (leafOf s x).n ∨ ((joinM L (withKs P (A ++ B)) R).1 ≠ 0 ∧ (leafOf s x).n = (joinM L (withKs P (A ++ B)) R).1 ∧ (leafOf (remS s L P R (A ++ B)) x).n = (joinM L (withKs P (A ++ B)) R).2) := by
  rw [leaf_n, leaf_n]
  have hb := hI.bd
  rw [hs.e] at hb
  obtain ⟨b1, b2, b3, b4, b5⟩ := pw_mid.1 hb
  have hh0 := hI.h0
  rw [hs.e] at hh0
  have hPn : P.n ≠ 0 := by have := (hI.nr P hs.mem).1; omega
  unfold remS joinS joinM
  by_cases hf : (withKs P (A ++ B)).ks ≠ [] ∨ L ++ R = []
  · left
    rw [if_pos hf]
    show nOf (L ++ withKs P (A ++ B) :: R) x = _
    rw [hs.e, nOf_mid, nOf_mid]
    rfl
  · rw [if_neg hf, if_neg hf]
    have hLR : L ++ R ≠ [] := fun e => hf (Or.inr e)
    show nOf (open1 (L ++ R)) x = _ ∨ P.n ≠ 0 ∧ _ = P.n ∧ nOf (open1 (L ++ R)) x = beside L R
    cases L with
    | nil =>
      cases R with
      | nil => exact absurd rfl hLR
      | cons Q r =>
        obtain ⟨X, t, e, h0⟩ := hh0
        have hPb : P.b = ⟨#[]⟩ := by simp at e; rw [e.1]; exact h0
        show nOf ({ Q with b := ⟨#[]⟩ } :: r) x = _ ∨ _ ∧ _ ∧ nOf ({ Q with b := ⟨#[]⟩ } :: r) x = Q.n
        rw [hs.e, nOf_mid, nOf_cons, nOf_cons, hPb, lt_emp, if_pos (rfl : false = false), if_pos (rfl : false = false)]
        by_cases hr : fil x r = []
        · rw [if_pos hr, if_pos hr]
          cases hq : lt x Q.b with
          | true =>
            right
            have : fil x (Q :: r) = [] := by
              have h := fil_app x [Q] r
              rw [(fil_one Q x).2 hq, hr] at h
              exact h
            rw [if_pos this]
            exact ⟨hPn, rfl, rfl⟩
          | false =>
            left
            have : fil x (Q :: r) ≠ [] := fun e => by
              have h := fil_app x [Q] r
              rw [show [Q] ++ r = Q :: r from rfl, e] at h
              have h2 := (List.append_eq_nil_iff.1 h.symm).1
              rw [(fil_one Q x).1 h2] at hq; cases hq
            rw [if_neg this, if_pos rfl]
        · left
          have : fil x (Q :: r) ≠ [] := fun e => by
            have h := fil_app x [Q] r
            rw [show [Q] ++ r = Q :: r from rfl, e] at h
            exact hr (List.append_eq_nil_iff.1 h.symm).2
          rw [if_neg hr, if_neg hr, if_neg this]
    | cons Y L1 =>
      obtain ⟨X, t, e, h0⟩ := hh0
      have hYb : Y.b = ⟨#[]⟩ := by simp at e; rw [e.1]; exact h0
      have eo : open1 (Y :: L1 ++ R) = Y :: L1 ++ R := by
        show ({ Y with b := ⟨#[]⟩ } : Pg) :: (L1 ++ R) = Y :: (L1 ++ R)
        rw [← hYb]
      rw [eo, hs.e, nOf_app, nOf_mid]
      by_cases hr : fil x R = []
      · rw [if_pos hr, if_pos hr]
        cases hp : lt x P.b with
        | true => left; rw [if_neg (by simp)]
        | false =>
          right
          rw [if_pos rfl]
          refine ⟨hPn, rfl, ?_⟩
          have hfl : fil x (Y :: L1) = Y :: L1 := List.filter_eq_self.2 (fun Q hQ => by
            have h1 := (b3 Q hQ).1
            have h2 : lt x Q.b = false := by
              cases hh : lt x Q.b with
              | false => rfl
              | true => rw [lt_tr hh h1] at hp; cases hp
            simp [h2])
          unfold nOf beside
          rw [hfl]
          cases hl : (Y :: L1).getLast? with
          | none => simp at hl
          | some Z => rfl
      · left
        rw [if_neg hr, if_neg hr]
theorem do_leaf {s : S} {kd : Int} {k : ByteArray} {s' : S} {l f t er : Nat} (hI : Inv s) (h : DoR s kd k s' l f t er) (x : ByteArray) : (leafOf s' x).n = (leafOf s x).n ∨ (f ≠ 0 ∧ (leafOf s x).n = f ∧ (leafOf s' x).n = t) := by
  rcases h with ⟨_, h⟩ | ⟨_, h⟩
  · cases h with
    | long _ => exact Or.inl rfl
    | twice _ _ _ _ => exact Or.inl rfl
    | ok h1 h2 h3 _ _ => exact ins_leaf hI h1 h2 h3 x
  · cases h with
    | none _ _ _ => exact Or.inl rfl
    | ok h1 _ => exact rem_leaf hI h1 x
theorem do_told {s : S} {k : ByteArray} {s' : S} {l f t : Nat} (h : DoR s 0 k s' l f t 0) : (leafOf s' k).n = l := by
  rcases h with ⟨_, h⟩ | ⟨h0, _⟩
  · cases h with
    | ok _ _ _ _ h5 => rw [leaf_spl h5]
  · exact absurd rfl h0
/-- A range is covered by leaves. -/
def Cov (s : S) (frm to : ByteArray) (C : List Nat) : Prop := ∀ k, lt k frm = false → (to = ⟨#[]⟩ ∨ lt k to = true) → (leafOf s k).n ∈ C
theorem cov_start {s : S} (hI : Inv s) {frm to : ByteArray} (hr : to = ⟨#[]⟩ ∨ lt frm to = true) : Cov s frm to (spanL s frm to) := by
  intro k hk hkt
  obtain ⟨L, P, R, hs⟩ := spl_ex hI frm
  obtain ⟨L', P', R', hs'⟩ := spl_ex hI k
  rw [leaf_spl hs']
  unfold spanL
  rw [if_neg (fun h => by rcases hr with e | e; exact h.1 e; rw [e] at h; cases h.2), drop_spl hI hs]
  have hm : P' ∈ P :: R := by
    have h1 : P' ∈ L ++ P :: R := by rw [← hs.e]; exact hs'.mem
    rcases List.mem_append.1 h1 with h1 | h1
    · exfalso
      have e := hs'.e
      rw [hs.e] at e
      -- P stands behind P', with a bound not above k
      have hPk : lt k P.b = false := le_tr hs.at_ hk
      have hb := hI.bd
      rw [hs.e] at hb
      have h2 := ((pw_mid.1 hb).2.2.1 P' h1).1
      have hP : P ∈ L' ++ P' :: R' := by rw [← e]; simp
      rcases mem_mid.1 hP with h3 | h3 | h3
      · have hb' := hI.bd
        rw [hs'.e] at hb'
        have h4 := ((pw_mid.1 hb').2.2.1 P h3).1
        rw [lt_as h4] at h2; cases h2
      · rw [h3, lt_irr] at h2; cases h2
      · rw [hs'.hi P h3] at hPk; cases hPk
    · exact h1
  unfold rngL nums
  refine List.mem_map.2 ⟨P', ?_, rfl⟩
  have hb := hI.bd
  rw [hs.e] at hb
  have hpr : (P :: R).Pairwise (fun P Q => lt P.b Q.b = true) := (List.pairwise_append.1 hb).2.1.imp (fun h => h.1)
  have hup : upTo to P' = true := by
    unfold upTo
    rcases hkt with e | e
    · rw [decide_eq_true e]; rfl
    · have : lt to P'.b = false := by
        cases hh : lt to P'.b with
        | false => rfl
        | true => have := hs'.at_; rw [lt_tr e hh] at this; cases this
      rw [this]; simp
  generalize P :: R = T at hm hpr
  induction T with
  | nil => cases hm
  | cons Q r ih =>
    obtain ⟨q1, q2⟩ := List.pairwise_cons.1 hpr
    have huQ : upTo to Q = true := by
      rcases List.mem_cons.1 hm with e | h
      · rw [← e]; exact hup
      · unfold upTo at hup ⊢
        cases hd : decide (to = (⟨#[]⟩ : ByteArray)) with
        | true => rfl
        | false =>
          rw [hd] at hup
          simp at hup
          have : lt to Q.b = false := by
            cases hh : lt to Q.b with
            | false => rfl
            | true => rw [lt_tr hh (q1 P' h)] at hup; cases hup
          rw [this]; rfl
    rw [List.takeWhile_cons_of_pos huQ]
    rcases List.mem_cons.1 hm with e | h
    · rw [e]; simp
    · exact List.mem_cons_of_mem _ (ih h q2)
theorem cov_step {s : S} {kd : Int} {k : ByteArray} {s' : S} {l f t er : Nat} (hI : Inv s) (h : DoR s kd k s' l f t er) {frm to : ByteArray} {C : List Nat} (hC : Cov s frm to C) : Cov s' frm to (if f ≠ 0 ∧ f ∈ C then C ++ [t] else C) := by
  intro x h1 h2
  have hx := hC x h1 h2
  rcases do_leaf hI h x with e | ⟨e0, e1, e2⟩
  · rw [e]
    split
    · exact List.mem_append_left _ hx
    · exact hx
  · rw [e1] at hx
    rw [if_pos ⟨e0, hx⟩, e2]
    simp
end Lf
end Go.Proofs.Ytngflihiailllaa
