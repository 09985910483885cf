/- The reference's leaves in memory; the place of a key's leaf. -/
import Derived.Test.YtjnaafgiokdcbaaLc3
namespace Go.Proofs.Ytjnaafgiokdcbaa
open Go.RowKit

namespace Lf
/-- What the reference reads: a head of three cells, a row of leaves of four cells each, each leaf's keys anywhere. -/
structure Rd (w : World) (p r c : Nat) (kf : Nat → Value) (s : S) : Prop where
  c0 : w.cell? ⟨p, 0, none⟩ = some (.slice (some ⟨r, 0, none⟩) s.pgs.length c)
  c1 : w.cell? ⟨p, 1, none⟩ = some (.int .i64 (s.fan : Int))
  c2 : w.cell? ⟨p, 2, none⟩ = some (.int .i64 ((s.last : Int) + 1))
  pl : p < w.heap.size
  rl : r < w.heap.size
  at_ : ∀ (i : Nat) P, s.pgs[i]? = some P → w.cell? ⟨r, i * 4, none⟩ = some (.int .i64 (P.n : Int)) ∧ w.cell? ⟨r, i * 4 + 1, none⟩ = some (.bool (decide (P.b = ⟨#[]⟩))) ∧ w.cell? ⟨r, i * 4 + 2, none⟩ = some (.string P.b) ∧ w.cell? ⟨r, i * 4 + 3, none⟩ = some (kf P.n)
  ks : ∀ P ∈ s.pgs, ∃ q cq, kf P.n = .slice q P.ks.length cq ∧ SIn w q P.ks
theorem Rd.below {w w' : World} {p r c : Nat} {kf : Nat → Value} {s : S} (H : Rd w p r c kf s) (hb : Below w.heap.size w w') : Rd w' p r c kf s :=
  ⟨(Mm.belAt hb _ H.pl).trans H.c0, (Mm.belAt hb _ H.pl).trans H.c1, (Mm.belAt hb _ H.pl).trans H.c2, Nat.lt_of_lt_of_le H.pl hb.size, Nat.lt_of_lt_of_le H.rl hb.size,
   fun i P hP => ⟨(Mm.belAt hb _ H.rl).trans (H.at_ i P hP).1, (Mm.belAt hb _ H.rl).trans (H.at_ i P hP).2.1, (Mm.belAt hb _ H.rl).trans (H.at_ i P hP).2.2.1, (Mm.belAt hb _ H.rl).trans (H.at_ i P hP).2.2.2⟩,
   fun P hP => by obtain ⟨q, cq, e, h⟩ := H.ks P hP; exact ⟨q, cq, e, h.below hb⟩⟩
theorem Rd.drew {w : World} {p r c : Nat} {kf : Nat → Value} {s : S} (H : Rd w p r c kf s) : Rd w.drew p r c kf s := H.below (Below.refl _ w).drew
end Lf

set_option maxRecDepth 100000 in
set_option maxHeartbeats 4000000 in
theorem refAt_any {w : World} {p r c : Nat} {kf : Nat → Value} {s : Lf.S} (H : Hid (Lf.Rd w p r c kf s)) {k : ByteArray} {L R : List Lf.Pg} {P : Lf.Pg} (hs : Hid (Lf.Spl s k L P R)) (hn : s.pgs.length ≤ 100000) :
    Calls Try.prog 29 #[.pointer (some ⟨p, 0, none⟩), .string k] w fun e w' => e = .returned (.int .i64 (L.length : Int)) ∧ w' = w := by
  have c0 := H.out.c0
  obtain ⟨n, hnn⟩ : ∃ n, n = s.pgs.length := ⟨_, rfl⟩
  rw [← hnn] at c0 hn
  have HN := Mm.hid hnn
  clear hnn
  have HLn : Hid (L.length < n) := Mm.hid (by rw [HN.out, hs.out.e]; simp)
  go_enter Try.func29, Try.ntmps29
  go_wp2_with fail
  go_loopw [5, 6] (fun va vi wr => ∃ i a : Nat, i ≤ n ∧ vi = .int .i64 (i : Int) ∧ va = .int .i64 (a : Int) ∧ Hid (wr = w) ∧ Hid (a = min (i - 1) L.length)) (fun _ vi _ => n - (RowKit.intOf vi).toNat)
  case atStart => exact ⟨0, 0, Nat.zero_le _, rfl, rfl, Mm.hid rfl, Mm.hid (by omega)⟩
  case round =>
    obtain ⟨i, a, hi, rfl, rfl, HW, HA⟩ := hrel
    rename World => wr
    obtain rfl := HW.out
    by_cases hlt : i < n
    · obtain ⟨Q, hQ⟩ : ∃ Q, s.pgs[i]? = some Q := ⟨s.pgs[i]'(by rw [← HN.out]; exact hlt), List.getElem?_eq_getElem _⟩
      obtain ⟨_, d1, d2, _⟩ := H.out.at_ i Q hQ
      have g1 : (0 : Int) ≤ (i : Int) := by omega
      have g2 : (i : Int) < (n : Int) := by omega
      rcases Nat.lt_or_ge L.length i with hc | hc
      · have hq : Lf.lt k Q.b = true := by
          have hQR : Q ∈ R := by
            rw [hs.out.e, List.getElem?_append_right (by omega)] at hQ
            obtain ⟨j, hj⟩ : ∃ j, i - L.length = j + 1 := ⟨i - L.length - 1, by omega⟩
            rw [hj] at hQ
            exact List.mem_of_getElem? hQ
          exact hs.out.hi Q hQR
        have hne : Q.b ≠ ⟨#[]⟩ := fun e => by rw [e, Lf.lt_emp] at hq; cases hq
        rw [decide_eq_false hne] at d1
        have ee : (Op.bytesLess Q.b.toList k.toList || Q.b.toList == k.toList) = false := by
          rw [show Op.bytesLess Q.b.toList k.toList = false from Lf.lt_as hq, Lf.eqB, decide_eq_false (fun e => Lf.lt_ne hq e.symm)]; rfl
        have HA' : Hid (a = min (i + 1 - 1) L.length) := Mm.hid (by have := HA.out; omega)
        clear hQ hq hne hc HA
        go_wp2_with fail
        exact ⟨⟨i + 1, a, by omega, by go_num, rfl, Mm.hid trivial, HA'⟩, by simp [RowKit.intOf]; omega⟩
      · have hq : Lf.lt k Q.b = false := by
          rcases Nat.lt_or_ge i L.length with hd | hd
          · rw [hs.out.e, List.getElem?_append_left hd] at hQ
            exact hs.out.lo Q (List.mem_of_getElem? hQ)
          · have : i = L.length := by omega
            rw [hs.out.e, this] at hQ
            simp at hQ
            rw [← hQ]; exact hs.out.at_
        have ee : (Op.bytesLess Q.b.toList k.toList || Q.b.toList == k.toList) = true := by
          cases h9 : Op.bytesLess Q.b.toList k.toList with
          | true => rfl
          | false => rw [Lf.lt_tri h9 hq]; simp
        have HA' : Hid (i = min (i + 1 - 1) L.length) := Mm.hid (by omega)
        clear hQ hq HA hc
        by_cases ho : Q.b = ⟨#[]⟩
        · rw [decide_eq_true ho] at d1
          clear ho
          go_wp2_with fail
          exact ⟨⟨i + 1, i, by omega, by go_num, rfl, Mm.hid trivial, HA'⟩, by simp [RowKit.intOf]; omega⟩
        · rw [decide_eq_false ho] at d1
          clear ho
          go_wp2_with fail
          exact ⟨⟨i + 1, i, by omega, by go_num, rfl, Mm.hid trivial, HA'⟩, by simp [RowKit.intOf]; omega⟩
    · have hA : a = L.length := by have := HA.out; have := HLn.out; omega
      subst hA
      go_wp2_with fail
      go_ret
      exact ⟨rfl, rfl⟩
end Go.Proofs.Ytjnaafgiokdcbaa
