/- An index, plain: entries as keys, and what lies between two of them. -/
import Derived.Test.YtjnaafgiokdcbaaGreatDoorGF
import Derived.Test.YtjnaafgiokdcbaaGreatDoorHG
namespace Go.Proofs.YtjnaafgiokdcbaaGreatDoor
open Go.RowKit
namespace Ix
open Vl Ky

/-- An entry's key. -/
def ent (p : V × Nat) : ByteArray := ⟨(keyL p.1 ++ beL p.2 2).toArray⟩
structure Gd (p : V × Nat) : Prop where
  g : GoodV p.1
  n : p.2 < 65536
theorem ent_list (p : V × Nat) : (ent p).data.toList = keyL p.1 ++ beL p.2 2 := rfl
theorem ent_is {p : V × Nat} (h : Gd p) : EntIs (ent p).data.toList (some p) := ⟨h.g, h.n, rfl⟩
theorem ent_inj {p q : V × Nat} (hp : Gd p) (hq : Gd q) (h : ent p = ent q) : p = q := by
  have h1 := ent_is hp
  rw [h] at h1
  exact Option.some.inj (EntIs.one h1 (ent_is hq))
theorem ent_size {p : V × Nat} (h : Gd p) : (ent p).size ≤ 517 := by
  have h1 := keyB_size h.g
  rw [size_list, keyB_list] at h1
  rw [size_list, ent_list, List.length_append, beL_length]
  omega
theorem entE_cases (v : V) (n : Int) : entE v n = 0 ∨ entE v n = 1 ∨ entE v n = 11 := by
  unfold entE
  cases goodB v.k v.n v.f v.s with
  | false => exact Or.inr (Or.inr rfl)
  | true =>
    rw [if_pos rfl]
    by_cases hn : n < 0 ∨ 65535 < n
    · rw [if_pos hn]; exact Or.inr (Or.inl rfl)
    · rw [if_neg hn]; exact Or.inl rfl
theorem entB_ok {v : V} {n : Int} (hv : In v) (h : entE v n = 0) : ∃ m : Nat, n = (m : Int) ∧ Gd (v, m) ∧ entB v n = ent (v, m) := by
  unfold entE at h
  cases hg : goodB v.k v.n v.f v.s with
  | false => rw [hg] at h; cases h
  | true =>
    rw [hg, if_pos rfl] at h
    by_cases hn : n < 0 ∨ 65535 < n
    · rw [if_pos hn] at h; cases h
    · refine ⟨n.toNat, by omega, ⟨hv.good hg, by show n.toNat < 65536; omega⟩, ?_⟩
      unfold entB
      rw [hg, if_pos rfl, if_neg hn]
      apply ext_list
      rw [append_list, keyB_list]; rfl
theorem entE_good {v : V} {n : Nat} (hv : GoodV v) (hn : n < 65536) : entE v (n : Int) = 0 := by
  unfold entE
  rw [hv.g, if_pos rfl, if_neg (by omega)]
theorem entB_good {v : V} {n : Nat} (hv : GoodV v) (hn : n < 65536) : entB v (n : Int) = ent (v, n) := by
  obtain ⟨m, e1, _, e3⟩ := entB_ok hv.inn (entE_good hv hn)
  rw [e3]
  congr 2
  omega
theorem entE_bad {v : V} (n : Int) (h : goodB v.k v.n v.f v.s = false) : entE v n = 11 := by unfold entE; rw [h]; rfl
theorem entE_least {v : V} : entE v 0 = 0 ↔ goodB v.k v.n v.f v.s = true := by
  unfold entE
  cases goodB v.k v.n v.f v.s <;> simp
theorem aft_good {v : V} (hv : GoodV v) : (aftB v).data.toList = keyL v ++ (beL 65535 2 ++ [0]) := by
  unfold aftB
  rw [hv.g, if_pos rfl, append_list, show (65535 : Int) = ((65535 : Nat) : Int) from rfl, entB_good hv (by decide), ent_list, List.append_assoc]
theorem lt_cmp (a b : ByteArray) : Lf.lt a b = decide (Lib.compareBytes a.data.toList b.data.toList < 0) := by rw [Lf.lt_data, lss_cmp]
theorem ent_cmp {p q : V × Nat} (hp : Gd p) (hq : Gd q) : Lib.compareBytes (ent p).data.toList (ent q).data.toList = if cmpV p.1 q.1 = 0 then cmpZ p.2 q.2 else cmpV p.1 q.1 := by
  rw [ent_list, ent_list, key_cmp hp.g hq.g, cmp_be 2 _ _ hp.n hq.n]
theorem lt_least {q : V × Nat} {v : V} (hq : Gd q) (hv : GoodV v) : Lf.lt (ent q) (ent (v, 0)) = decide (cmpV q.1 v < 0) := by
  rw [lt_cmp, ent_cmp hq ⟨hv, Nat.zero_lt_succ _⟩]
  refine decide_eq_decide.2 ?_
  show (if cmpV q.1 v = 0 then cmpZ (q.2 : Int) ((0 : Nat) : Int) else cmpV q.1 v) < 0 ↔ _
  split
  · unfold cmpZ
    split
    · omega
    · split <;> omega
  · exact Iff.rfl
theorem lt_after {q : V × Nat} {v : V} (hq : Gd q) (hv : GoodV v) : Lf.lt (ent q) (aftB v) = decide (¬ 0 < cmpV q.1 v) := by
  have e := cmp_num 2 q.2 65535 [] [0] hq.n (by decide)
  rw [List.append_nil] at e
  rw [lt_cmp, ent_list, aft_good hv, key_cmp hq.g hv, e]
  refine decide_eq_decide.2 ?_
  have hn := hq.n
  split
  · rename_i h0
    have h3 : (if cmpZ (q.2 : Int) ((65535 : Nat) : Int) = 0 then Lib.compareBytes [] [0] else cmpZ (q.2 : Int) ((65535 : Nat) : Int)) < 0 := by
      have h2 : Lib.compareBytes [] [0] = -1 := by decide
      rw [h2]
      unfold cmpZ
      repeat' split
      all_goals omega
    exact ⟨fun _ => by omega, fun _ => h3⟩
  · omega
theorem lt_ent {p q : V × Nat} (hp : Gd p) (hq : Gd q) (h : Lf.lt (ent p) (ent q) = true) (he : p.1 = q.1) : p.2 < q.2 := by
  rw [lt_cmp, ent_cmp hp hq, he, cmpV_self, if_pos rfl] at h
  have := of_decide_eq_true h
  unfold cmpZ at this
  split at this
  · omega
  · split at this <;> omega
theorem ent_ne (p : V × Nat) : ent p ≠ ⟨#[]⟩ := fun e => by
  have := congrArg (fun b : ByteArray => b.data.toList) e
  simp [ent_list, keyL] at this
theorem aft_ne {v : V} (hv : GoodV v) : aftB v ≠ ⟨#[]⟩ := fun e => by
  have h1 := aft_good hv
  rw [e] at h1
  simp [keyL] at h1

/-- The number of an entry. -/
def tidV : Option (V × Nat) → Nat
  | none => 0
  | some p => p.2
open Classical in
noncomputable def tidOf (k : ByteArray) : Nat := if h : ∃ p, EntIs k.data.toList (some p) then (Classical.choose h).2 else 0
theorem tid_is {k : ByteArray} {o : Option (V × Nat)} (h : EntIs k.data.toList o) : tidOf k = tidV o := by
  cases o with
  | none =>
    unfold tidOf
    rw [dif_neg (fun ⟨p, hp⟩ => by cases EntIs.one h hp)]
    rfl
  | some p =>
    unfold tidOf
    have hx : ∃ p, EntIs k.data.toList (some p) := ⟨p, h⟩
    rw [dif_pos hx, Option.some.inj (EntIs.one (Classical.choose_spec hx) h)]
    rfl
theorem tid_ent {p : V × Nat} (h : Gd p) : tidOf (ent p) = p.2 := tid_is (ent_is h)

/-- What lies between two keys, among all. -/
theorem span_fil {s : Lf.S} (hI : Lf.Inv s) {frm tto : ByteArray} (hto : tto ≠ ⟨#[]⟩) : Lf.spanK s frm tto = (Lf.flat s.pgs).filter (fun k => !Lf.lt k frm && Lf.lt k tto) := by
  have eR : (fun k => !Lf.lt k frm && Lf.lt k tto) = Lf.inR frm tto := by
    funext k
    unfold Lf.inR
    rw [decide_eq_false hto, Bool.false_or]
  rw [eR]
  obtain ⟨L, P, R, hs⟩ := Lf.spl_ex hI frm
  unfold Lf.spanK
  cases hlt : Lf.lt frm tto with
  | true =>
    rw [if_neg (fun h => by cases h.2), Lf.drop_spl hI hs]
    unfold Lf.rngK Lf.keysIn
    have hb := hI.bd
    have hk : ∀ Q ∈ s.pgs, ∀ k ∈ Q.ks, Lf.lt k Q.b = false := fun Q hQ k hk => ((hI.ks Q hQ).2.1 k hk).1
    rw [hs.e] at hb hk ⊢
    have hL : (Lf.flat L).filter (Lf.inR frm tto) = [] := List.filter_eq_nil_iff.2 (fun k hk => by
      obtain ⟨Q, hQ, hkQ⟩ := List.mem_flatMap.1 hk
      have h1 := ((Lf.pw_mid.1 hb).2.2.1 Q hQ).2 k hkQ
      unfold Lf.inR
      rw [Lf.lt_le h1 hs.at_]; simp)
    rw [Lf.flat_app, List.filter_append, hL, List.nil_append]
    have hb2 := (List.pairwise_append.1 hb).2.1
    have hk2 : ∀ Q ∈ P :: R, ∀ k ∈ Q.ks, Lf.lt k Q.b = false := fun Q hQ => hk Q (List.mem_append_right _ hQ)
    clear hb hk hL hs
    generalize P :: R = T at hb2 hk2
    induction T with
    | nil => rfl
    | cons Q r ih =>
      obtain ⟨b1, b2⟩ := List.pairwise_cons.1 hb2
      cases hu : Lf.upTo tto Q with
      | true =>
        rw [List.takeWhile_cons_of_pos hu]
        show ((Q.ks ++ List.flatMap (fun P => P.ks) (List.takeWhile (Lf.upTo tto) r)).filter _) = ((Q.ks ++ Lf.flat r).filter _)
        rw [List.filter_append, List.filter_append, ih b2 (fun X hX => hk2 X (by simp [hX]))]
      | false =>
        rw [List.takeWhile_cons_of_neg (by rw [hu]; decide)]
        symm
        refine List.filter_eq_nil_iff.2 (fun k hk => ?_)
        unfold Lf.upTo at hu
        rw [decide_eq_false hto, Bool.false_or] at hu
        have h1 : Lf.lt tto Q.b = true := by cases h : Lf.lt tto Q.b with | true => rfl | false => rw [h] at hu; cases hu
        obtain ⟨X, hX, hkX⟩ := List.mem_flatMap.1 hk
        have h2 : Lf.lt tto X.b = true := by
          rcases List.mem_cons.1 hX with e | hX
          · rw [e]; exact h1
          · exact Lf.lt_tr h1 (b1 X hX).1
        have h3 := Lf.lt_as (Lf.lt_le h2 (hk2 X hX k hkX))
        unfold Lf.inR
        rw [h3, decide_eq_false hto]; simp
  | false =>
    rw [if_pos ⟨hto, rfl⟩]
    symm
    refine List.filter_eq_nil_iff.2 (fun k _ hin => ?_)
    unfold Lf.inR at hin
    rw [decide_eq_false hto, Bool.false_or, Bool.and_eq_true] at hin
    have h1 : Lf.lt k frm = false := by cases h : Lf.lt k frm with | false => rfl | true => rw [h] at hin; cases hin.1
    rw [Lf.le_lt h1 hin.2] at hlt; cases hlt

theorem flatMap_sub {l m : List Lf.Pg} (h : l.Sublist m) : (l.flatMap (fun P => P.ks)).Sublist (m.flatMap (fun P => P.ks)) := by
  induction h with
  | slnil => exact List.nil_sublist _
  | cons a _ ih => exact ih.trans (List.sublist_append_right _ _)
  | cons_cons a _ ih => exact (List.Sublist.refl _).append ih
theorem span_sub {s : Lf.S} (_ : Lf.Inv s) (frm tto : ByteArray) : (Lf.spanK s frm tto).Sublist (Lf.flat s.pgs) := by
  unfold Lf.spanK
  split
  · exact List.nil_sublist _
  · unfold Lf.rngK Lf.keysIn
    refine List.filter_sublist.trans ?_
    have h1 : (List.takeWhile (Lf.upTo tto) (s.pgs.dropWhile (fun P => !decide (P.n = (Lf.leafOf s frm).n)))).Sublist s.pgs := (List.takeWhile_sublist _).trans (List.dropWhile_sublist _)
    exact flatMap_sub h1
theorem spanK_cnt {s : Lf.S} (hI : Lf.Inv s) (frm tto : ByteArray) : (Lf.spanK s frm tto).length ≤ s.count := by
  rw [hI.cnt, ← Lf.flat_len]
  exact (span_sub hI frm tto).length_le
theorem spanK_size {s : Lf.S} (hI : Lf.Inv s) {frm tto k : ByteArray} (hk : k ∈ Lf.spanK s frm tto) : k.size ≤ 1024 := by
  obtain ⟨P, hP, hkP⟩ := List.mem_flatMap.1 ((span_sub hI frm tto).subset hk)
  exact ((hI.ks P hP).2.1 k hkP).2

/-- What Insert, what Remove does to all keys. -/
theorem ins_flat {s s' : Lf.S} {k : ByteArray} {l f t er : Nat} (h : Lf.InsR s k s' l f t er) : (er = 0 ∧ ∃ A B, Lf.flat s.pgs = A ++ B ∧ Lf.flat s'.pgs = A ++ k :: B) ∨ (er ≠ 0 ∧ s' = s ∧ (1024 < k.size ∨ k ∈ Lf.flat s.pgs)) := by
  cases h with
  | long a => exact Or.inr ⟨by decide, rfl, Or.inl a⟩
  | @twice L R P A B a1 a2 a3 a4 =>
    refine Or.inr ⟨by decide, rfl, Or.inr (List.mem_flatMap.2 ⟨P, a1.mem, ?_⟩)⟩
    rw [a2.e]
    cases B with
    | nil => cases a3
    | cons b B => simp at a3; subst a3; simp
  | @ok L R P A B L' R' P' a1 a2 a3 a4 a5 =>
    refine Or.inl ⟨rfl, Lf.flat L ++ A, B ++ Lf.flat R, ?_, ?_⟩
    · rw [a1.e, Lf.flat_app, show Lf.flat (P :: R) = P.ks ++ Lf.flat R from rfl, a2.e]; simp
    · clear a5
      unfold Lf.insS Lf.partS Lf.insP
      split
      · show Lf.flat (L ++ Lf.withKs P (A ++ k :: B) :: R) = _
        rw [Lf.flat_app, show Lf.flat (Lf.withKs P (A ++ k :: B) :: R) = (A ++ k :: B) ++ Lf.flat R from rfl]; simp
      · show Lf.flat (L ++ Lf.lower (Lf.withKs P (A ++ k :: B)) :: Lf.upper _ (Lf.withKs P (A ++ k :: B)) :: R) = _
        rw [Lf.flat_app]
        show Lf.flat L ++ (List.take (Lf.half (A ++ k :: B)) (A ++ k :: B) ++ (List.drop (Lf.half (A ++ k :: B)) (A ++ k :: B) ++ Lf.flat R)) = _
        rw [← List.append_assoc (List.take _ _), List.take_append_drop]; simp
theorem open_flat (l : List Lf.Pg) : Lf.flat (Lf.open1 l) = Lf.flat l := by cases l <;> rfl
theorem rem_flat {s s' : Lf.S} {k : ByteArray} {l f t er : Nat} (hI : Lf.Inv s) (h : Lf.RemR s k s' l f t er) : (er = 0 ∧ ∃ A B, Lf.flat s.pgs = A ++ k :: B ∧ Lf.flat s'.pgs = A ++ B) ∨ (er ≠ 0 ∧ s' = s ∧ k ∉ Lf.flat s.pgs) := by
  cases h with
  | @none L R P A B a1 a2 a3 =>
    refine Or.inr ⟨by decide, rfl, fun hm => ?_⟩
    obtain ⟨X, hX, hkX⟩ := List.mem_flatMap.1 hm
    obtain ⟨i, hi⟩ := List.mem_iff_getElem?.1 hX
    have e := (Lf.own_leaf hI hi hkX).symm.trans (Lf.leaf_spl a1)
    rw [e] at hkX
    exact a3 ((a2.mem (hI.ks P a1.mem).1).1 hkX)
  | @ok L R P A B a1 a2 =>
    refine Or.inl ⟨rfl, Lf.flat L ++ A, B ++ Lf.flat R, ?_, ?_⟩
    · rw [a1.e, Lf.flat_app, show Lf.flat (P :: R) = P.ks ++ Lf.flat R from rfl, a2.e]; simp
    · unfold Lf.remS Lf.joinS Lf.remP
      split
      · show Lf.flat (L ++ Lf.withKs P (A ++ B) :: R) = _
        rw [Lf.flat_app, show Lf.flat (Lf.withKs P (A ++ B) :: R) = (A ++ B) ++ Lf.flat R from rfl]; simp
      · rename_i hn
        have h0 : A ++ B = [] := by
          have : (Lf.withKs P (A ++ B)).ks = [] := Classical.byContradiction (fun e => hn (Or.inl e))
          exact this
        show Lf.flat (Lf.open1 (L ++ R)) = _
        rw [open_flat, Lf.flat_app]
        obtain ⟨e1, e2⟩ := List.append_eq_nil_iff.1 h0
        rw [e1, e2]; simp

/-- The entries of an index, in their order. -/
structure Et (s : Lf.S) (E : List (V × Nat)) : Prop where
  g : ∀ p ∈ E, Gd p
  e : Lf.flat s.pgs = E.map ent
theorem et0 (fan : Nat) : Et (Lf.S0 fan) [] := ⟨(fun _ h => nomatch h), rfl⟩
theorem et_ins {s s' : Lf.S} {E : List (V × Nat)} {p : V × Nat} {l f t er : Nat} (h : Et s E) (hp : Gd p) (hr : Lf.InsR s (ent p) s' l f t er) : (er = 0 ∧ ∃ A B, E = A ++ B ∧ Et s' (A ++ p :: B)) ∨ (er ≠ 0 ∧ s' = s ∧ p ∈ E) := by
  rcases ins_flat hr with ⟨e0, A, B, e1, e2⟩ | ⟨e0, e1, e2⟩
  · rw [h.e] at e1
    obtain ⟨A', B', e3, e4, e5⟩ := List.map_eq_append_iff.1 e1
    refine Or.inl ⟨e0, A', B', e3, fun q hq => ?_, by rw [e2, ← e4, ← e5]; simp⟩
    rw [e3] at h
    rcases List.mem_append.1 hq with hq | hq
    · exact h.g q (List.mem_append_left _ hq)
    · rcases List.mem_cons.1 hq with e | hq
      · rw [e]; exact hp
      · exact h.g q (List.mem_append_right _ hq)
  · refine Or.inr ⟨e0, e1, ?_⟩
    rcases e2 with e2 | e2
    · have := ent_size hp; omega
    · rw [h.e] at e2
      obtain ⟨q, hq, e⟩ := List.mem_map.1 e2
      rw [← ent_inj (h.g q hq) hp e]; exact hq
theorem et_rem {s s' : Lf.S} {E : List (V × Nat)} {p : V × Nat} {l f t er : Nat} (hI : Lf.Inv s) (h : Et s E) (hp : Gd p) (hr : Lf.RemR s (ent p) s' l f t er) : (er = 0 ∧ ∃ A B, E = A ++ p :: B ∧ Et s' (A ++ B)) ∨ (er ≠ 0 ∧ s' = s ∧ p ∉ E) := by
  rcases rem_flat hI hr with ⟨e0, A, B, e1, e2⟩ | ⟨e0, e1, e2⟩
  · rw [h.e] at e1
    obtain ⟨A', B', e3, e4, e5⟩ := List.map_eq_append_iff.1 e1
    obtain ⟨q, B2, e6, e7, e8⟩ := List.map_eq_cons_iff.1 e5
    subst e6
    have eq : q = p := ent_inj (h.g q (by rw [e3]; simp)) hp e7
    subst eq
    refine Or.inl ⟨e0, A', B2, e3, fun x hx => h.g x (by rw [e3]; rcases List.mem_append.1 hx with hx | hx <;> simp [hx]), by rw [e2, ← e4, ← e8]; simp⟩
  · exact Or.inr ⟨e0, e1, fun hm => e2 (by rw [h.e]; exact List.mem_map.2 ⟨p, hm, rfl⟩)⟩
theorem Et.up {s : Lf.S} {E : List (V × Nat)} (h : Et s E) (hI : Lf.Inv s) : E.Pairwise (fun p q => Lf.lt (ent p) (ent q) = true) := by
  have := Lf.flat_up hI
  unfold Lf.Up at this
  rw [h.e, List.pairwise_map] at this
  exact this
theorem fil_map {E : List (V × Nat)} (f : ByteArray → Bool) (g : V × Nat → Bool) (h : ∀ p ∈ E, f (ent p) = g p) : (E.map ent).filter f = (E.filter g).map ent := by
  induction E with
  | nil => rfl
  | cons p E ih =>
    have ih' := ih (fun q hq => h q (by simp [hq]))
    have h0 := h p (by simp)
    cases hg : g p with
    | true => rw [List.map_cons, List.filter_cons_of_pos (by rw [h0, hg]), List.filter_cons_of_pos hg, ih']; rfl
    | false => rw [List.map_cons, List.filter_cons_of_neg (by rw [h0, hg]; decide), List.filter_cons_of_neg (by rw [hg]; decide), ih']
theorem tids_map {E : List (V × Nat)} (h : ∀ p ∈ E, Gd p) : (E.map ent).map tidOf = E.map (fun p => p.2) := by
  rw [List.map_map]
  exact List.map_congr_left (fun p hp => tid_ent (h p hp))
/-- What is found by a value; what between two. -/
def sameF (v : V) (p : V × Nat) : Bool := decide (cmpV p.1 v = 0)
def betwF (v x : V) (p : V × Nat) : Bool := !decide (cmpV p.1 v < 0) && decide (cmpV p.1 x < 0)
theorem find_keys {s : Lf.S} {E : List (V × Nat)} {v : V} (h : Et s E) (hI : Lf.Inv s) (hv : GoodV v) : Lf.spanK s (entB v 0) (aftB v) = (E.filter (sameF v)).map ent := by
  rw [show (0 : Int) = ((0 : Nat) : Int) from rfl, entB_good hv (by decide), span_fil hI (aft_ne hv), h.e]
  refine fil_map _ _ (fun p hp => ?_)
  rw [lt_least (h.g p hp) hv, lt_after (h.g p hp) hv]
  unfold sameF
  rw [Bool.eq_iff_iff]
  simp
  omega
theorem range_keys {s : Lf.S} {E : List (V × Nat)} {v x : V} (h : Et s E) (hI : Lf.Inv s) (hv : GoodV v) (hx : GoodV x) : Lf.spanK s (entB v 0) (entB x 0) = (E.filter (betwF v x)).map ent := by
  rw [show (0 : Int) = ((0 : Nat) : Int) from rfl, entB_good hv (by decide), entB_good hx (by decide), span_fil hI (ent_ne _), h.e]
  refine fil_map _ _ (fun p hp => ?_)
  rw [lt_least (h.g p hp) hv, lt_least (h.g p hp) hx]
  rfl
theorem find_tids {s : Lf.S} {E : List (V × Nat)} {v : V} (h : Et s E) (hI : Lf.Inv s) (hv : GoodV v) : (Lf.spanK s (entB v 0) (aftB v)).map tidOf = (E.filter (sameF v)).map (fun p => p.2) := by
  rw [find_keys h hI hv]
  exact tids_map (fun p hp => h.g p (List.mem_filter.1 hp).1)
theorem range_tids {s : Lf.S} {E : List (V × Nat)} {v x : V} (h : Et s E) (hI : Lf.Inv s) (hv : GoodV v) (hx : GoodV x) : (Lf.spanK s (entB v 0) (entB x 0)).map tidOf = (E.filter (betwF v x)).map (fun p => p.2) := by
  rw [range_keys h hI hv hx]
  exact tids_map (fun p hp => h.g p (List.mem_filter.1 hp).1)
end Ix

end Go.Proofs.YtjnaafgiokdcbaaGreatDoor
