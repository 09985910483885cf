/- The reference's Free walked. -/
import Derived.Test.YthikdfcndppoaaaWf3
namespace Go.Proofs.Ythikdfcndppoaaa
open Go.RowKit

namespace Mm
/-- Free ones so far. -/
structure Fk (l : Kn.El) (N : List Int) (j : Nat) (f : List Int) : Prop where
  up : Kn.Rising f
  mem : ∀ y, y ∈ f ↔ (y ∈ N.take j ∧ ∀ e ∈ l, e.1 ≠ y)
theorem Fk.start (l : Kn.El) (N : List Int) : Fk l N 0 [] := ⟨List.Pairwise.nil, fun y => by simp⟩
theorem Fk.skip {l : Kn.El} {N : List Int} {y : Int} {j : Nat} {f : List Int} (h : Fk l N j f) (hy : N[j]? = some y) (hn : ¬ ∀ e ∈ l, e.1 ≠ y) : Fk l N (j + 1) f :=
  ⟨h.up, fun z => by
    rw [h.mem z, take_snoc' hy, List.mem_append, List.mem_singleton]
    constructor
    · rintro ⟨h1, h2⟩; exact ⟨.inl h1, h2⟩
    · rintro ⟨h1 | rfl, h2⟩
      · exact ⟨h1, h2⟩
      · exact absurd h2 hn⟩
theorem Fk.add {l : Kn.El} {N : List Int} {y : Int} {j : Nat} {f : List Int} (h : Fk l N j f) (hN : Kn.Rising N) (hy : N[j]? = some y) (hn : ∀ e ∈ l, e.1 ≠ y) : Fk l N (j + 1) (f ++ [y]) := by
  refine ⟨List.pairwise_append.2 ⟨h.up, List.pairwise_singleton _ _, fun a ha b hb => ?_⟩, fun z => ?_⟩
  · rw [List.mem_singleton.1 hb]
    obtain ⟨i, hi⟩ := List.getElem?_of_mem ((h.mem a).1 ha).1
    rw [List.getElem?_take] at hi
    split at hi
    · have h1 := List.getElem?_eq_some_iff.1 hi
      have h2 := List.getElem?_eq_some_iff.1 hy
      have := (List.pairwise_iff_getElem.1 hN) i j h1.1 h2.1 (by assumption)
      rw [h1.2, h2.2] at this
      exact this
    · cases hi
  · rw [List.mem_append, h.mem z, take_snoc' hy, List.mem_append, List.mem_singleton]
    constructor
    · rintro (⟨h1, h2⟩ | rfl)
      · exact ⟨.inl h1, h2⟩
      · exact ⟨.inr rfl, hn⟩
    · rintro ⟨h1 | rfl, h2⟩
      · exact .inl ⟨h1, h2⟩
      · exact .inr rfl
theorem Fk.len {l : Kn.El} {N : List Int} {j : Nat} {f : List Int} (h : Fk l N j f) : f.length ≤ N.length :=
  nodup_sub f N (rising_nodup h.up) (fun x hx => List.mem_of_mem_take ((h.mem x).1 hx).1)
theorem Fk.done {l : Kn.El} {N : List Int} {j : Nat} {f : List Int} (h : Fk l N j f) (hnd : ∀ x, x ∈ N ↔ Kn.Nd l x) (hj : j = N.length) : Kn.IsFree l f :=
  ⟨h.up, fun x => by rw [h.mem x, hj, List.take_length, hnd]⟩
end Mm

set_option maxRecDepth 100000 in
set_option maxHeartbeats 4000000 in
theorem refFree_any (w : World) (q : Option Addr) (c n : Nat) (l : Kn.El) (hl : Hid (Mm.EIn w q l)) (hn : Hid (n = l.length)) (hn1 : n < 100) :
    Calls Try.prog 14 #[.slice q n c] w fun e w' => ∃ (q' : Option Addr) (c' : Nat) (f : List Int), e = .returned (.slice q' f.length c') ∧ Mm.IIn w' q' f ∧ f.length < 10000 ∧ Kn.IsFree l f ∧ Below w.heap.size w w' := by
  go_enter Try.func14, Try.ntmps14
  go_wp2_with fail
  refine (nodes_any w q c n l hl hn (by omega)).mono ?_
  rintro e w1 ⟨vN, N, rfl, hoN, hnl, hup, hnd, hb1⟩
  obtain ⟨qN, cN, eN, hiN, hcN, _⟩ := hoN.iin
  obtain ⟨LN, hLN⟩ : ∃ LN, LN = N.length := ⟨_, rfl⟩
  rw [← hLN] at eN hcN hnl
  have HUP := Mm.hid hup
  have HND := Mm.hid hnd
  have HB1 := Mm.hid hb1
  have HIN := Mm.hid hiN
  have HLN := Mm.hid hLN
  have HE1 := Mm.hid (hl.out.below hb1)
  clear hoN hup hnd hb1 hiN hLN
  subst eN
  go_wp2_with fail
  go_loopw [3, 5] (fun v3 v5 wr => ∃ (i : Nat) (f : List Int), i ≤ LN ∧ v5 = .int .i64 (i : Int) ∧ Hid (Mm.Own wr w1.heap.size 3 v3 (Mm.its f)) ∧ Hid (Mm.Fk l N i f) ∧ Hid (Below w1.heap.size w1 wr)) (fun _ v5 _ => LN - (RowKit.intOf v5).toNat)
  case atStart => exact ⟨0, [], by omega, rfl, Mm.Own.nil _ _ _, Mm.Fk.start _ _, Below.refl _ _⟩
  case round =>
    obtain ⟨i, f, hi, rfl, HO, HF, HB⟩ := hrel
    rename World => wr
    by_cases hlt : i < LN
    · obtain ⟨x, hx⟩ : ∃ x, N[i]? = some x := ⟨_, List.getElem?_eq_getElem (by rw [← HLN.out]; exact hlt)⟩
      obtain ⟨b, o, eq, _, _⟩ := (HIN.out.below HB.out) i x hx
      have HI := Mm.hid hx
      have HII := Mm.hid HIN.out
      clear hx
      subst eq
      have gi0 : (0 : Int) ≤ (i : Int) := by omega
      have gi1 : (i : Int) < (LN : Int) := by omega
      go_wp2_with fail
      go_loopw [6, 7] (fun v6 v7 wq => ∃ (k : Nat) (ld : Bool), k ≤ n ∧ v7 = .int .i64 (k : Int) ∧ v6 = .bool ld ∧ Hid (ld = true ↔ ∃ e ∈ l.take k, e.1 = x) ∧ Hid (Mm.Own wq w1.heap.size 3 u3 (Mm.its f)) ∧ Hid (Below w1.heap.size w1 wq)) (fun _ v7 _ => n - (RowKit.intOf v7).toNat)
      case atStart => exact ⟨0, false, by omega, rfl, rfl, Mm.hid (by simp), HO, HB⟩
      case round =>
        obtain ⟨k, ld, hk, rfl, rfl, HL, HOq, HBq⟩ := hrel
        rename World => wq
        by_cases hkn : k < n
        · obtain ⟨e, he⟩ : ∃ e, l[k]? = some e := ⟨_, List.getElem?_eq_getElem (by rw [← hn.out]; exact hkn)⟩
          obtain ⟨a, z⟩ := e
          have HEE := Mm.hid HE1.out
          obtain ⟨b2, o2, eq2, _, d1, d2⟩ := (HE1.out.below HBq.out) k (a, z) he
          obtain ⟨b3, o3, eq3, _, d3⟩ := (HII.out.below HBq.out) i x HI.out
          cases eq3
          subst eq2
          simp only at d1 d2
          have HE := Mm.hid he
          have gk0 : (0 : Int) ≤ (k : Int) := by omega
          have gk1 : (k : Int) < (n : Int) := by omega
          clear he
          have step : ∀ ld2 : Bool, (ld2 = true ↔ (ld = true ∨ a = x)) → (ld2 = true ↔ ∃ e ∈ l.take (k + 1), e.1 = x) := fun ld2 h => by
            rw [h, HL.out, Mm.take_snoc' HE.out]
            constructor
            · rintro (⟨e, h1, h2⟩ | h1)
              · exact ⟨e, List.mem_append_left _ h1, h2⟩
              · exact ⟨(a, z), by simp, h1⟩
            · rintro ⟨e, h1, h2⟩
              rcases List.mem_append.1 h1 with h1 | h1
              · exact .inl ⟨e, h1, h2⟩
              · rw [List.mem_singleton.1 h1] at h2; exact .inr h2
          have HST := Mm.hid step
          clear step
          cases ld
          · by_cases hax : a = x
            · have hb : (a == x) = true := by simpa using hax
              have HAX := Mm.hid hax
              clear hax
              go_wp2_with fail
              go_quiet (fail)
              go_wp2_with fail
              exact ⟨⟨k + 1, true, by omega, by go_num, rfl, HST.out true (by simp [HAX.out]), HOq.out.below (Mm.belDN (Below.refl _ _) _), Mm.belDN HBq.out _⟩, by simp [RowKit.intOf]; omega⟩
            · have hb : (a == x) = false := by simpa using hax
              have HAX := Mm.hid hax
              clear hax
              go_wp2_with fail
              go_quiet (fail)
              go_wp2_with fail
              exact ⟨⟨k + 1, false, by omega, by go_num, rfl, HST.out false (by simp [HAX.out]), HOq.out.below (Mm.belDN (Below.refl _ _) _), Mm.belDN HBq.out _⟩, by simp [RowKit.intOf]; omega⟩
          · go_wp2_with fail
            go_quiet (fail)
            go_wp2_with fail
            exact ⟨⟨k + 1, true, by omega, by go_num, rfl, HST.out true (by simp), HOq.out.below (Mm.belDN (Below.refl _ _) _), Mm.belDN HBq.out _⟩, by simp [RowKit.intOf]; omega⟩
        · obtain rfl : k = n := by omega
          have HL2 : Hid (ld = true ↔ ∃ e ∈ l, e.1 = x) := Mm.hid (by have := HL.out; rwa [hn.out, List.take_length] at this)
          obtain ⟨b3, o3, eq3, _, d3⟩ := (HII.out.below HBq.out) i x HI.out
          cases eq3
          cases ld
          · have hfl : f.length ≤ 2 * k := by have h1 := HF.out.len; have h2 := HLN.out; omega
            go_wp2_with (at_builtin; refine Mm.appI wq rfl _ _ rfl w1.heap.size u3 x (Mm.its f) rfl HOq.out _ rfl (by simp) (by rw [Mm.its_len]; omega) HBq.out.size ?_; intro v9 w9 hown9 hg9 hloc9; have HO9 : Hid (Mm.Own w9 w1.heap.size 3 v9 (Mm.its (f ++ [x]))) := Mm.hid (by rw [Mm.its_app]; exact hown9); have HB9 := Mm.hid (HBq.out.grown hg9 HBq.out.size (fun g hg => (HOq.out.lt hg).2)); clear hown9 hg9 hloc9)
            have HF9 := Mm.hid (HF.out.add HUP.out HI.out (fun e he h => by have := HL2.out.2 ⟨e, he, h⟩; cases this))
            first
              | exact ⟨⟨i + 1, f ++ [x], by omega, by go_num, HO9, HF9, HB9⟩, by simp [RowKit.intOf]; omega⟩
              | exact ⟨⟨v9, .int .i64 ((i : Int) + 1), ⟨i + 1, by omega, by go_num, _, HO9, HF9⟩, rfl, rfl⟩, by simp [RowKit.intOf]; omega⟩
              | exact ⟨⟨v9, .int .i64 ((i : Int) + 1), ⟨i + 1, by omega, by go_num, _, HO9, HF9, HB9⟩, rfl, rfl⟩, by simp [RowKit.intOf]; omega⟩
              | trace_state
          · go_wp2_with fail
            exact ⟨⟨i + 1, f, by omega, by go_num, HOq, HF.out.skip HI.out (fun h => by obtain ⟨e, he, h2⟩ := HL2.out.1 rfl; exact h e he h2), HBq⟩, by simp [RowKit.intOf]; omega⟩
    · obtain rfl : i = LN := by omega
      obtain ⟨qf, cf, ef, hif, _, _⟩ := HO.out.iin
      have HIF := Mm.hid hif
      have hfl := HF.out.len
      obtain ⟨LF, hLF⟩ : ∃ LF, LF = f.length := ⟨_, rfl⟩
      rw [← hLF] at ef hfl
      have HLF := Mm.hid hLF
      clear hif hLF
      subst ef
      go_wp2_with fail
      go_ret
      exact ⟨qf, cf, f, by rw [← HLF.out]; rfl, HIF.out, by rw [← HLF.out]; have := HLN.out; omega, HF.out.done HND.out HLN.out, Mm.belTr HB1.out (Nat.le_refl _) HB.out⟩
end Go.Proofs.Ythikdfcndppoaaa
