/- Keys that come in their order, plain. -/
import Derived.Test.YtngflihiailllaaLc3
namespace Go.Proofs.Ytngflihiailllaa
namespace Lf
def chr (i : Nat) : ByteArray := ⟨#[UInt8.ofNat i]⟩
theorem chr_list (i : Nat) : (chr i).toList = [UInt8.ofNat i] := by
  rw [ByteArray.toList_eq]; rfl
theorem chr_lt {a b : Nat} (h : a < b) (hb : b < 256) : lt (chr a) (chr b) = true := by
  rw [lt_eq, chr_list, chr_list]
  refine decide_eq_true ?_
  rw [List.cons_lt_cons_iff]
  refine Or.inl ?_
  rw [UInt8.lt_iff_toNat_lt, UInt8.toNat_ofNat', UInt8.toNat_ofNat']
  omega
structure Hv (s : S) (f i : Nat) : Prop where
  fan : s.fan = f
  inv : Inv s
  num : ∀ (j : Nat) P, s.pgs[j]? = some P → P.n = j + 1
  last : s.last = s.pgs.length
  half : ∃ L P, s.pgs = L ++ [P] ∧ ∀ Q ∈ L, Q.ks.length = (f + 2) / 2
  lt : ∀ P ∈ s.pgs, ∀ k ∈ P.ks, lt k (chr i) = true
  b : ∀ P ∈ s.pgs, Lf.lt (chr i) P.b = false
  cnt : s.count = i
theorem hv0 {f : Nat} (h1 : 2 ≤ f) (h2 : f ≤ 64) : Hv (S0 f) f 0 :=
  ⟨rfl, inv0 h1 h2, (by
    intro j P hP
    match j, hP with
    | 0, hP => simp [S0] at hP; rw [← hP]
    | j + 1, hP => simp [S0] at hP), rfl, ⟨[], _, rfl, (fun _ h => nomatch h)⟩, (by
    intro P hP k hk
    have e : P = ⟨1, ⟨#[]⟩, []⟩ := List.mem_singleton.1 hP
    subst e
    exact nomatch hk), (by
    intro P hP
    have e : P = ⟨1, ⟨#[]⟩, []⟩ := List.mem_singleton.1 hP
    subst e
    exact lt_emp _), rfl⟩
theorem hv_ins {s : S} {f i : Nat} (H : Hv s f i) (hi : i < 255) {s' : S} {l fr t er : Nat} (h : InsR s (chr i) s' l fr t er) : er = 0 ∧ Hv s' f (i + 1) := by
  have hup := chr_lt (Nat.lt_succ_self i) (by omega : i + 1 < 256)
  cases h with
  | long h1 => exact absurd h1 (by show ¬ 1024 < 1; omega)
  | twice hs hk hb _ =>
    have hm : chr i ∈ _ := (hk.mem (H.inv.ks _ hs.mem).1).2 hb
    have := H.lt _ hs.mem _ hm
    rw [lt_irr] at this; cases this
  | @ok L R P A B L' P' R' hs hk hn hz hs' =>
    refine ⟨rfl, ?_⟩
    have hR : R = [] := by
      cases R with
      | nil => rfl
      | cons Q r =>
        have h1 := hs.hi Q (by simp)
        rw [H.b Q (by rw [hs.e]; simp)] at h1; cases h1
    have hB : B = [] := by
      cases B with
      | nil => rfl
      | cons x r =>
        have h1 := hk.hi x (by simp)
        rw [H.lt P hs.mem x (by rw [hk.e]; simp)] at h1; cases h1
    subst hR hB
    have hA : P.ks = A := by rw [hk.e, List.append_nil]
    have hI' := ins_inv H.inv hs hk hn hz
    obtain ⟨_, n2, n3⟩ := ins_last s L P [] (A ++ [chr i])
    obtain ⟨L0, P0, e0, hh⟩ := H.half
    have e1 : L0 ++ [P0] = L ++ [P] := e0.symm.trans hs.e
    obtain ⟨rfl, e2⟩ := List.append_inj' e1 rfl
    have e3 : P0 = P := by injection e2
    subst e3
    have hlen := (H.inv.ks P0 hs.mem).2.2
    rw [H.fan, hA] at hlen
    have hnum : P0.n = L0.length + 1 := H.num L0.length P0 (by rw [hs.e]; simp)
    have hkL : ∀ Q ∈ L0 ++ [P0], ∀ k ∈ Q.ks, lt k (chr (i + 1)) = true := fun Q hQ k hk => lt_tr (H.lt Q (by rw [hs.e]; exact hQ) k hk) hup
    have hbL : ∀ Q ∈ L0 ++ [P0], lt (chr (i + 1)) Q.b = false := fun Q hQ => by
      cases hc : lt (chr (i + 1)) Q.b with
      | false => rfl
      | true =>
        have h1 := H.b Q (by rw [hs.e]; exact hQ)
        rw [lt_tr hup hc] at h1; cases h1
    have hkA : ∀ k ∈ A ++ [chr i], lt k (chr (i + 1)) = true := fun k hk => by
      rcases List.mem_append.1 hk with hk | hk
      · exact hkL P0 (by simp) k (by rw [hA]; exact hk)
      · rw [List.mem_singleton.1 hk]; exact hup
    have f2 := H.inv.f1
    rw [H.fan] at f2
    have hnL : ∀ (j : Nat) P, L0[j]? = some P → P.n = j + 1 := fun j P hP => H.num j P (by rw [hs.e, List.getElem?_append_left (List.getElem?_eq_some_iff.1 hP).1]; exact hP)
    rcases Nat.lt_or_ge f (A ++ [chr i]).length with hc | hc
    · have e : insS s L0 P0 [] (A ++ [chr i]) = { insP s L0 P0 [] (A ++ [chr i]) with last := s.last + 1, pgs := L0 ++ lower (withKs P0 (A ++ [chr i])) :: upper (insP s L0 P0 [] (A ++ [chr i])) (withKs P0 (A ++ [chr i])) :: [] } := by
        unfold insS partS
        rw [if_neg (by show ¬ (A ++ [chr i]).length ≤ s.fan; rw [H.fan]; omega)]
        rfl
      rw [e] at hI' n2 n3 ⊢
      have hln : (A ++ [chr i]).length = f + 1 := (by have h9 : (A ++ [chr i]).length = A.length + 1 := List.length_append; omega)
      have hhalf : Lf.half (A ++ [chr i]) = (f + 2) / 2 := by unfold Lf.half; rw [hln]
      have hup2 : ∀ x, x = (A ++ [chr i]).getD (Lf.half (A ++ [chr i])) ⟨#[]⟩ → x ∈ A ++ [chr i] := fun x hx => by
        rw [List.getD_eq_getElem?_getD, List.getElem?_eq_getElem (by rw [hhalf, hln]; omega)] at hx
        rw [hx]; exact List.getElem_mem _
      refine ⟨n3.trans H.fan, hI', fun j Q hQ => ?_, ?_, ⟨L0 ++ [lower (withKs P0 (A ++ [chr i]))], upper (insP s L0 P0 [] (A ++ [chr i])) (withKs P0 (A ++ [chr i])), (by show _ ++ [_, _] = _; simp), fun Q hQ => ?_⟩, fun Q hQ k hk => ?_, fun Q hQ => ?_, n2.trans (by rw [H.cnt])⟩
      · have hQ' : (L0 ++ [lower (withKs P0 (A ++ [chr i])), upper (insP s L0 P0 [] (A ++ [chr i])) (withKs P0 (A ++ [chr i]))])[j]? = some Q := hQ
        rcases Nat.lt_or_ge j L0.length with hj | hj
        · rw [List.getElem?_append_left hj] at hQ'
          exact hnL j Q hQ'
        · rw [List.getElem?_append_right hj] at hQ'
          match hd : j - L0.length, hQ' with
          | 0, hQ' =>
            simp at hQ'
            rw [← hQ']
            show P0.n = _
            omega
          | 1, hQ' =>
            simp at hQ'
            rw [← hQ']
            show s.last + 1 = _
            rw [H.last, hs.e]
            simp; omega
          | n + 2, hQ' => simp at hQ'
      · show s.last + 1 = (L0 ++ [_, _]).length
        rw [H.last, hs.e]; simp
      · rcases List.mem_append.1 hQ with hQ | hQ
        · exact hh Q hQ
        · rw [List.mem_singleton.1 hQ]
          show ((A ++ [chr i]).take (Lf.half (A ++ [chr i]))).length = _
          rw [List.length_take, hhalf, hln]; omega
      · have hQ' : Q ∈ L0 ++ [lower (withKs P0 (A ++ [chr i])), upper (insP s L0 P0 [] (A ++ [chr i])) (withKs P0 (A ++ [chr i]))] := hQ
        rcases List.mem_append.1 hQ' with hQ' | hQ'
        · exact hkL Q (by simp [hQ']) k hk
        · rcases List.mem_cons.1 hQ' with e9 | hQ'
          · rw [e9] at hk
            exact hkA k (List.mem_of_mem_take hk)
          · rw [List.mem_singleton.1 hQ'] at hk
            exact hkA k (List.mem_of_mem_drop hk)
      · have hQ' : Q ∈ L0 ++ [lower (withKs P0 (A ++ [chr i])), upper (insP s L0 P0 [] (A ++ [chr i])) (withKs P0 (A ++ [chr i]))] := hQ
        rcases List.mem_append.1 hQ' with hQ' | hQ'
        · exact hbL Q (by simp [hQ'])
        · rcases List.mem_cons.1 hQ' with e9 | hQ'
          · rw [e9]
            exact hbL P0 (by simp)
          · rw [List.mem_singleton.1 hQ']
            exact lt_as (hkA _ (hup2 _ rfl))
    · have e : insS s L0 P0 [] (A ++ [chr i]) = insP s L0 P0 [] (A ++ [chr i]) := by
        unfold insS partS
        rw [if_pos (by show (A ++ [chr i]).length ≤ s.fan; rw [H.fan]; omega)]
      rw [e] at hI' n2 n3 ⊢
      refine ⟨n3.trans H.fan, hI', fun j Q hQ => ?_, ?_, ⟨L0, _, rfl, hh⟩, fun Q hQ k hk => ?_, fun Q hQ => ?_, n2.trans (by rw [H.cnt])⟩
      · have hQ' : (L0 ++ [withKs P0 (A ++ [chr i])])[j]? = some Q := hQ
        rcases Nat.lt_or_ge j L0.length with hj | hj
        · rw [List.getElem?_append_left hj] at hQ'
          exact hnL j Q hQ'
        · rw [List.getElem?_append_right hj] at hQ'
          match hd : j - L0.length, hQ' with
          | 0, hQ' =>
            simp at hQ'
            rw [← hQ']
            show P0.n = _
            omega
          | n + 1, hQ' => simp at hQ'
      · show s.last = (L0 ++ [_]).length
        rw [H.last, hs.e]; simp
      · have hQ' : Q ∈ L0 ++ [withKs P0 (A ++ [chr i])] := hQ
        rcases List.mem_append.1 hQ' with hQ' | hQ'
        · exact hkL Q (by simp [hQ']) k hk
        · rw [List.mem_singleton.1 hQ'] at hk
          exact hkA k hk
      · have hQ' : Q ∈ L0 ++ [withKs P0 (A ++ [chr i])] := hQ
        rcases List.mem_append.1 hQ' with hQ' | hQ'
        · exact hbL Q (by simp [hQ'])
        · rw [List.mem_singleton.1 hQ']
          exact hbL P0 (by simp)
/-- What the law asks of the leaves. -/
theorem Hv.told {s : S} {f i : Nat} (H : Hv s f i) : 1 ≤ s.pgs.length ∧ (∀ j, j < s.pgs.length → ∃ P, s.pgs[j]? = some P ∧ P.n = j + 1 ∧ ksOf s.pgs ((j : Int) + 1) = P.ks ∧ (j + 1 < s.pgs.length → P.ks.length = (f + 2) / 2) ∧ (j + 1 = s.pgs.length → P.ks.length + (f + 2) / 2 * j = i)) := by
  obtain ⟨L, P, e, hh⟩ := H.half
  refine ⟨by rw [e]; simp, fun j hj => ?_⟩
  obtain ⟨Q, hQ⟩ : ∃ Q, s.pgs[j]? = some Q := ⟨_, List.getElem?_eq_getElem hj⟩
  have hn := H.num j Q hQ
  refine ⟨Q, hQ, hn, ?_, fun h1 => ?_, fun h1 => ?_⟩
  · have := keys_of H.inv hQ
    rw [hn] at this
    rw [← this]
    simp
  · rw [e] at hQ h1
    rw [List.getElem?_append_left (by simp at h1; omega)] at hQ
    exact hh Q (List.mem_of_getElem? hQ)
  · rw [e] at hQ h1
    have hjl : j = L.length := by simp at h1; omega
    subst hjl
    simp at hQ
    subst hQ
    have h2 := H.inv.cnt
    rw [H.cnt, e, List.map_append, List.sum_append] at h2
    have h3 : ∀ (l : List Pg), (∀ Q ∈ l, Q.ks.length = (f + 2) / 2) → (l.map (fun P => P.ks.length)).sum = (f + 2) / 2 * l.length := by
      intro l
      induction l with
      | nil => intro _; simp
      | cons x r ih =>
        intro hl
        rw [List.map_cons, List.sum_cons, ih (fun Q hQ => hl Q (by simp [hQ])), hl x (by simp), List.length_cons, Nat.mul_succ]
        omega
    rw [h3 L hh, List.map_cons, List.map_nil, List.sum_cons, List.sum_nil] at h2
    generalize (f + 2) / 2 * L.length = z at h2 ⊢
    omega
end Lf
end Go.Proofs.Ytngflihiailllaa
