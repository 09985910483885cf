/- Keys. -/
import Derived.Test.YtjnaafgiokdcbaaLa8
namespace Go.Proofs.Ytjnaafgiokdcbaa
open Go.RowKit

set_option maxRecDepth 100000 in
set_option maxHeartbeats 2000000 in
theorem cloneS_any (q : Option Addr) (n c : Nat) (ks : List ByteArray) (w : World) (hn : Hid (ks.length = n)) (hnb : n ≤ 10000) (hnil : q = none → n = 0 ∧ c = 0) (hc : Hid (∀ (j : Nat) k', ks[j]? = some k' → ∃ a, q = some a ∧ w.cell? (a.add j) = some (.string k'))) :
    Calls Try.prog 33 #[.slice q n c] w fun e w' => ∃ v, e = .returned v ∧ Mm.Own w' w.heap.size 9 v (Lf.strs ks) ∧ Below w.heap.size w w' := by
  have q0 : ∀ (w : World) (a : Option Addr) (n c n' c' : Nat), (binOp .eql 41 (.slice a n c) (.slice none n' c')).run Try.prog w = .ok (.bool a.isNone) w := fun w a n c n' c' => Lib.run_eql_slice_nil w _ _ a n c n' c' Try.underlying41
  cases q with
  | none =>
    obtain ⟨rfl, rfl⟩ := hnil rfl
    have he := List.length_eq_zero_iff.1 hn.out
    subst he
    go_enter Try.func33, Try.ntmps33
    go_wp2
    go_ret
    exact ⟨_, rfl, Mm.Own.nil _ _ _, Below.refl _ _⟩
  | some a =>
    obtain ⟨i0, hi0, hz0, hz1, hz2⟩ := infoS
    have hla : n ≤ 0 → True := fun _ => trivial
    have HC2 : Hid (∀ j u, (Lf.strs ks)[j]? = some u → (w.alloc (.cells #[] 9)).cell? (a.add j) = some u) := Mm.hid (fun j u hj => by
      obtain ⟨k', hk, rfl⟩ : ∃ k', ks[j]? = some k' ∧ Value.string k' = u := by
        unfold Lf.strs at hj
        rw [List.getElem?_map] at hj
        cases hk : ks[j]? with
        | none => rw [hk] at hj; cases hj
        | some k' => rw [hk] at hj; exact ⟨k', rfl, Option.some.inj hj⟩
      obtain ⟨a', e, h⟩ := hc.out j k' hk
      cases e
      exact Lib.cell?_alloc_some _ h)
    have HO2 : Hid ((w.alloc (.cells #[] 9)).ownsRow w.heap.size 9 1 (.slice (some ⟨w.heap.size, 0, none⟩) 0 0) 0 []) := Mm.hid (World.ownsRow_made w #[] 0 (Nat.le_refl _) (Nat.zero_le _) rfl)
    clear hnil hla
    go_enter Try.func33, Try.ntmps33
    go_wp2_with (at_builtin; refine wpList_append_own_at _ rfl _ _ 41 rfl w.heap.size 9 i0 (.string ⟨#[]⟩) 1 16 Try.underlying41 hi0 hz0 hz1 hz2 rfl (by decide) _ 0 [] rfl HO2.out a n c (Lf.strs ks) rfl (by rw [Lf.strs_len, hn.out, Nat.mul_one]) HC2.out (Lf.strs_one ks) (by unfold maxLen; omega) (by omega) (by simp) ?_; intro v1 w1 hown hgrow _ _)
    go_ret
    refine ⟨v1, rfl, ?_, ((Below.refl _ w).alloc (Nat.le_refl _) _).grown hgrow (by simp) (fun g hg => ?_)⟩
    · have e : (Lf.strs ks).length = 0 + n := by rw [Lf.strs_len, hn.out, Nat.zero_add]
      unfold Mm.Own
      rw [e]
      exact hown
    · have hg' : some w.heap.size = some g := hg
      exact Nat.le_of_eq (Option.some.inj hg')

namespace Lf
def ksOf (l : List Pg) (m : Int) : List ByteArray := match l.find? (fun P => (P.n : Int) == m) with | some P => P.ks | none => []
theorem find_at : ∀ {l : List Pg} {m : Int} {i : Nat} {P : Pg}, (∀ (j : Nat) Q, j < i → l[j]? = some Q → (Q.n : Int) ≠ m) → l[i]? = some P → (P.n : Int) = m → ksOf l m = P.ks
  | [], _, _, _, _, h, _ => by simp at h
  | Q :: r, m, 0, P, _, h, e => by
    simp at h; subst h
    unfold ksOf
    rw [List.find?_cons, show ((Q.n : Int) == m) = true by simpa using e]
  | Q :: r, m, i + 1, P, h1, h, e => by
    have hq : ((Q.n : Int) == m) = false := by simpa using h1 0 Q (by omega) rfl
    have ih := find_at (l := r) (m := m) (i := i) (P := P) (fun j X hj hX => h1 (j + 1) X (by omega) (by simpa using hX)) (by simpa using h) e
    unfold ksOf at ih ⊢
    rw [List.find?_cons, hq]
    exact ih
theorem find_no {l : List Pg} {m : Int} (h : ∀ (j : Nat) Q, l[j]? = some Q → (Q.n : Int) ≠ m) : ksOf l m = [] := by
  unfold ksOf
  rw [List.find?_eq_none.2 (fun P hP => by obtain ⟨j, hj⟩ := List.getElem?_of_mem hP; simpa using h j P hj)]
end Lf

set_option maxRecDepth 100000 in
set_option maxHeartbeats 2000000 in
theorem keys_any {h : Nat} {w : World} {tag : Nat → Option Lf.Tg} {p : Nat} {s : Lf.S} {bl : Nat → Nat} {kv : Nat → Value} {rv : Value} (H : Hid (Lf.Mem h w tag p s bl kv rv)) (hz : Hid (Lf.Sm s)) (hne : s.pgs ≠ []) (m : Int) :
    Calls Try.prog 24 #[.pointer (some ⟨p, 0, none⟩), .int .i64 m] w fun e w' => ∃ v, e = .returned v ∧ Mm.Own w' w.heap.size 9 v (Lf.strs (Lf.ksOf s.pgs m)) ∧ Below w.heap.size w w' := by
  obtain ⟨P0, hP0⟩ : ∃ P, s.pgs[0]? = some P := ⟨s.pgs[0]'(List.length_pos_iff.2 hne), List.getElem?_eq_getElem _⟩
  obtain ⟨g, c, rfl, m1, _⟩ := H.out.at hP0
  have c1 := H.out.c1
  obtain ⟨n, hn⟩ : ∃ n, n = s.pgs.length := ⟨_, rfl⟩
  rw [← hn] at c1 m1
  have hnb : n ≤ 10000 := by rw [hn]; exact hz.out.pl
  have HN := Mm.hid hn
  clear hP0 hn hne
  go_enter Try.func24, Try.ntmps24
  go_wp2_with fail
  go_loopw [6, 14] (fun _ vi wr => ∃ i : Nat, i ≤ n ∧ vi = .int .i64 (i : Int) ∧ Hid (∀ (j : Nat) Q, j < i → s.pgs[j]? = some Q → (Q.n : Int) ≠ m) ∧ Hid (wr = w)) (fun _ vi _ => n - (RowKit.intOf vi).toNat)
  case atStart => exact ⟨0, Nat.zero_le _, rfl, Mm.hid (fun j Q hj _ => absurd hj (Nat.not_lt_zero j)), Mm.hid rfl⟩
  case round =>
    obtain ⟨i, hi1, rfl, HI, HB⟩ := hrel
    have HBe := HB.out
    subst HBe
    by_cases hlt : i < n
    · obtain ⟨P, hP⟩ : ∃ P, s.pgs[i]? = some P := ⟨s.pgs[i]'(by rw [← HN.out]; exact hlt), List.getElem?_eq_getElem _⟩
      obtain ⟨g', c', e1, _, _, m3, m4, _, m6⟩ := H.out.at hP
      injection e1 with e1 _ _
      injection e1 with e1
      injection e1 with e1
      subst e1
      have HP := Mm.hid hP
      have g1 : (0 : Int) ≤ (i : Int) := by omega
      have g2 : (i : Int) < (n : Int) := by omega
      have hPm := List.mem_of_getElem? hP
      clear hP
      by_cases hm : (P.n : Int) = m
      · have HK : Hid (Lf.ksOf s.pgs m = P.ks) := Mm.hid (Lf.find_at HI.out HP.out hm)
        obtain ⟨q, c2, ek, k1, k2, k3, k4, k5⟩ := H.out.ks hPm
        rw [ek] at m6
        have HCL := Mm.hid (cloneS_any q P.ks.length c2 P.ks wr (Mm.hid rfl) (hz.out.kl P hPm) (fun e => by obtain ⟨e2, e3⟩ := k3 e; exact ⟨by rw [e2]; rfl, e3⟩) (Mm.hid (fun j k' hj => by obtain ⟨g2, e2, h2⟩ := k5 j k' hj; exact ⟨_, e2, by rw [Mm.addPlain, Nat.zero_add]; exact h2⟩)))
        have hme : ((P.n : Int) == m) = true := by simpa using hm
        clear k2 k3 k4 k5 ek hPm
        subst hm
        go_wp2_with fail
        refine HCL.out.mono ?_
        rintro e w2 ⟨v, rfl, h1, h2⟩
        have H1 := Mm.hid h1
        have H2 := Mm.hid h2
        clear h1 h2
        go_wp2_with fail
        go_ret
        exact ⟨_, rfl, by rw [HK.out]; exact H1.out, H2.out⟩
      · have hme : ((P.n : Int) == m) = false := by simpa using hm
        have HI2 : Hid (∀ (j : Nat) Q, j < i + 1 → s.pgs[j]? = some Q → (Q.n : Int) ≠ m) := Mm.hid (fun j Q hj hQ => by
          rcases Nat.lt_or_ge j i with h1 | h1
          · exact HI.out j Q h1 hQ
          · have h2 : j = i := by omega
            rw [h2, HP.out] at hQ
            cases hQ; exact hm)
        clear hPm
        go_wp2_with fail
        exact ⟨⟨i + 1, by omega, by go_num, HI2, by first | trivial | exact Mm.hid rfl⟩, by simp [RowKit.intOf]; omega⟩
    · have he : i = n := by omega
      subst he
      have HK : Hid (Lf.ksOf s.pgs m = []) := Mm.hid (Lf.find_no (fun j Q hQ => HI.out j Q (by rw [HN.out]; exact (List.getElem?_eq_some_iff.1 hQ).1) hQ))
      go_wp2_with fail
      go_ret
      exact ⟨_, rfl, by rw [HK.out]; exact Mm.Own.nil _ _ _, Below.refl _ _⟩
end Go.Proofs.Ytjnaafgiokdcbaa
