/- fair, Mod, do. -/
import Derived.Test.YtngflihiailllaaLop
namespace Go.Proofs.Ytngflihiailllaa
open Go.RowKit

/-- What fair says. -/
def Lf.FairOk (b : Bool) (n : Nat) : Prop := b = true → n ≤ 200
/-- .. and what fair comes to. -/
def Lf.FairR (n : Nat) (w : World) (e : Ending) (w' : World) : Prop := ∃ b, e = .returned (.bool b) ∧ Lf.FairOk b n ∧ w' = w
theorem Lf.FairOk.no (n : Nat) : Lf.FairOk false n := fun h => by cases h

set_option maxRecDepth 100000 in
set_option maxHeartbeats 2000000 in
theorem fair_any (a : Option Addr) (l c : Nat) (zs : List Cg.Stp) (W w : World) (hz : Hid (Cg.Stps W a l c zs)) (hb : Hid (Below W.heap.size W w)) (hbig : l ≤ 9223372036854775807) :
    Calls Try.prog 10 #[.slice a l c] w fun e w' => Lf.FairR l w e w' := by
  go_enter Try.func10, Try.ntmps10
  go_wp2_with fail
  go_loopw [3] (fun vi wr => ∃ k : Nat, k ≤ l ∧ vi = .int .i64 (k : Int) ∧ Hid (wr = w)) (fun vi _ => l - (RowKit.intOf vi).toNat)
  case atStart => exact ⟨0, Nat.zero_le _, rfl, Mm.hid rfl⟩
  case round =>
    obtain ⟨k, hk, rfl, HB⟩ := hrel
    have HBe := HB.out
    subst HBe
    by_cases hlt : k < l
    · obtain ⟨x, hx⟩ : ∃ x, zs[k]? = some x := ⟨zs[k]'(by rw [hz.out.len]; exact hlt), List.getElem?_eq_getElem _⟩
      obtain ⟨b, o, rfl, hbl, d0, d1, d2⟩ := hz.out.at_ k x hx
      have e1 : wr.cell? ⟨b, o + k * 3 + 1, none⟩ = some (.string x.key) := (Mm.belAt hb.out _ hbl).trans d1
      have e2 : wr.cell? ⟨b, o + k * 3 + 2, none⟩ = some (.string x.to) := (Mm.belAt hb.out _ hbl).trans d2
      have g1 : (0 : Int) ≤ (k : Int) := by omega
      have g2 : (k : Int) < (l : Int) := by omega
      clear hx d0 d1 d2
      by_cases h1 : (1100 : Int) < (x.key.size : Int)
      · go_wp2_with fail
        go_ret
        exact ⟨false, rfl, Lf.FairOk.no _, rfl⟩
      · by_cases h2 : (1100 : Int) < (x.to.size : Int)
        · go_wp2_with fail
          go_ret
          exact ⟨false, rfl, Lf.FairOk.no _, rfl⟩
        · go_wp2_with fail
          exact ⟨⟨k + 1, by omega, by go_num, by first | trivial | exact Mm.hid rfl⟩, by simp [RowKit.intOf]; omega⟩
    · by_cases h2 : l ≤ 200
      · have h3 : (l : Int) ≤ 200 := by omega
        go_wp2_with fail
        go_ret
        exact ⟨true, rfl, (fun _ => h2 : Lf.FairOk true l), rfl⟩
      · have h3 : ¬ ((l : Int) ≤ 200) := by omega
        go_wp2_with fail
        go_ret
        exact ⟨false, rfl, Lf.FairOk.no _, rfl⟩

set_option maxRecDepth 100000 in
set_option maxHeartbeats 2000000 in
theorem mod6_any (k : Int) (w : World) : Calls Try.prog 29 #[.int .i64 k, .int .i64 6] w fun e w' => (∃ m : Nat, m < 6 ∧ e = .returned (.int .i64 (m : Int))) ∧ w' = w := by
  obtain ⟨r, hr⟩ : ∃ r, r = k.tmod 6 := ⟨_, rfl⟩
  have h1 : -6 < r := by rw [hr]; exact Int.lt_tmod_of_pos k (by omega)
  have h2 : r < 6 := by rw [hr]; exact Int.tmod_lt_of_pos k (by omega)
  have HR := Mm.hid hr
  have hz : ((6 : Int) == 0) = false := rfl
  go_enter Try.func29, Try.ntmps29
  go_wp2_with fail
  go_ret
  exact ⟨⟨((k.tmod 6 + 6) % 6).toNat, by omega, by show Ending.returned (.int .i64 ((k.tmod 6 + 6) % 6)) = _; rw [Int.toNat_of_nonneg (by omega)]⟩, rfl⟩

namespace Lf
/-- What do tells. -/
def DoR (s : S) (kd : Int) (k : ByteArray) (s' : S) (l f t er : Nat) : Prop := (kd = 0 ∧ InsR s k s' l f t er) ∨ (kd ≠ 0 ∧ RemR s k s' l f t er)
theorem do_fan {s : S} {kd : Int} {k : ByteArray} {s' : S} {l f t er : Nat} (h : DoR s kd k s' l f t er) : s'.fan = s.fan := by
  rcases h with ⟨_, h⟩ | ⟨_, h⟩
  · cases h with
    | long _ => rfl
    | twice _ _ _ _ => rfl
    | ok _ _ _ _ _ => exact (ins_last _ _ _ _ _).2.2
  · cases h with
    | none _ _ _ => rfl
    | ok _ _ => exact (rem_last _ _ _ _ _).2.2
end Lf

set_option maxRecDepth 100000 in
set_option maxHeartbeats 2000000 in
theorem do_any {h : Nat} {w : World} {tag : Nat → Option Lf.Tg} {p : Nat} {s : Lf.S} {N : Nat} (H : Hid (Lf.Lq h w tag p s N)) (hN : N ≤ 4000) (hh : h ≤ w.heap.size) (kd : Int) (key to : ByteArray) :
    Calls Try.prog 30 #[.pointer (some ⟨p, 0, none⟩), .agg #[.int .i64 kd, .string key, .string to]] w fun e w' => ∃ s' l f t er, e = .returned (.tuple #[.int .i64 ((l : Nat) : Int), .agg #[.int .i64 ((f : Nat) : Int), .int .i64 ((t : Nat) : Int)], .int .i64 ((er : Nat) : Int)]) ∧ Lf.DoR s kd key s' l f t er ∧ ∃ tag', Lf.Lq h w' tag' p s' (N + 1) ∧ Lf.Ev tag tag' w w' := by
  have HB1 : Hid (Below w.heap.size w ((w.alloc (.cells #[.int .i64 kd, .string key, .string to] 33)).alloc (.cells #[.int .i64 0, .int .i64 0] 35))) := Mm.hid (((Below.refl _ w).alloc (Nat.le_refl _) _).alloc (by simp) _)
  have HT : Hid (tag (w.heap.size + 1) = none) := Mm.hid (H.out.top _ (by omega))
  by_cases hkd : kd = 0
  · have HK := Mm.hid hkd
    subst hkd
    have hin := insert_q (Mm.hid (H.out.below HB1.out)) hN (Nat.le_trans hh HB1.out.size) key
    have HIN := Mm.hid hin
    clear hin
    go_enter Try.func30, Try.ntmps30
    go_wp2_with fail
    refine HIN.out.mono ?_
    rintro e w1 ⟨s1, l1, f1, m1, r1, rfl, hr, t1, hq, hE⟩
    have HX1 : Hid (w1.heap[w.heap.size + 1]? = some (.cells #[.int .i64 0, .int .i64 0] 35 (0, 0))) := Mm.hid ((hE.block _ (by simp) HT.out).trans (Mm.newAt _ _ (by simp)))
    have HQ := Mm.hid hq
    have HE : Hid (Lf.Ev tag t1 w w1) := Mm.hid ((Lf.Ev.below HB1.out).trans hE)
    have HR := Mm.hid hr
    have HT1 : Hid (t1 (w.heap.size + 1) = none) := Mm.hid (hE.tags _ (by simp) HT.out)
    have d0 : w1.cell? ⟨w.heap.size + 1, 0, none⟩ = some (.int .i64 0) := Mm.cellOf HX1.out rfl
    have d1 : w1.cell? ⟨w.heap.size + 1, 1, none⟩ = some (.int .i64 0) := Mm.cellOf HX1.out rfl
    have d2 : w1.frozen? ⟨w.heap.size + 1, 0, none⟩ = false := by simp [World.frozen?, HX1.out]
    have d3 : w1.frozen? ⟨w.heap.size + 1, 1, none⟩ = false := by simp [World.frozen?, HX1.out]
    clear hr hq hE
    go_wp2_with fail
    obtain ⟨W2, hW2⟩ : ∃ W2, (w1.setCell ⟨w.heap.size + 1, 0, none⟩ (.int .i64 (f1 : Int))).setCell ⟨w.heap.size + 1, 1, none⟩ (.int .i64 (m1 : Int)) = W2 := ⟨_, rfl⟩
    have hb2 := Lf.box2n (x' := .int .i64 (f1 : Int)) (y' := .int .i64 (m1 : Int)) HX1.out
    have hq2 : Lf.Lq h W2 t1 p s1 (N + 1) := by
      rw [← hW2]
      obtain ⟨⟨bl, kv, rv, hM⟩, h2⟩ := HQ.out
      exact ⟨⟨bl, kv, rv, (hM.set HT1.out 0 _).set HT1.out 1 _⟩, h2⟩
    have hE2 : Lf.Ev tag t1 w W2 := by rw [← hW2]; exact (HE.out.set (Nat.le_succ _) 0 _).set (Nat.le_succ _) 1 _
    rw [hW2] at hb2 ⊢
    have ea : W2.cell? ⟨w.heap.size + 1, 0, none⟩ = some (.int .i64 (f1 : Int)) := Mm.cellOf hb2 rfl
    have eb : W2.cell? ⟨w.heap.size + 1, 1, none⟩ = some (.int .i64 (m1 : Int)) := Mm.cellOf hb2 rfl
    exact bodyPost_ret (v := .tuple #[.int .i64 (l1 : Int), .agg #[.int .i64 (f1 : Int), .int .i64 (m1 : Int)], .int .i64 (r1 : Int)]) (by simp [results, Try.results30, go_sem, ea, eb]) rfl ⟨s1, l1, f1, m1, r1, rfl, Or.inl ⟨rfl, HR.out⟩, t1, hq2, hE2⟩
  · have hke : (kd == 0) = false := by simpa using hkd
    have HK := Mm.hid hkd
    clear hkd
    have hin := remove_q (Mm.hid (H.out.below HB1.out)) hN key
    have HIN := Mm.hid hin
    clear hin
    go_enter Try.func30, Try.ntmps30
    go_wp2_with fail
    refine HIN.out.mono ?_
    rintro e w1 ⟨s1, l1, f1, m1, r1, rfl, hr, t1, hq, hE⟩
    have HX1 : Hid (w1.heap[w.heap.size + 1]? = some (.cells #[.int .i64 0, .int .i64 0] 35 (0, 0))) := Mm.hid ((hE.block _ (by simp) HT.out).trans (Mm.newAt _ _ (by simp)))
    have HQ := Mm.hid hq
    have HE : Hid (Lf.Ev tag t1 w w1) := Mm.hid ((Lf.Ev.below HB1.out).trans hE)
    have HR := Mm.hid hr
    have HT1 : Hid (t1 (w.heap.size + 1) = none) := Mm.hid (hE.tags _ (by simp) HT.out)
    have d0 : w1.cell? ⟨w.heap.size + 1, 0, none⟩ = some (.int .i64 0) := Mm.cellOf HX1.out rfl
    have d1 : w1.cell? ⟨w.heap.size + 1, 1, none⟩ = some (.int .i64 0) := Mm.cellOf HX1.out rfl
    have d2 : w1.frozen? ⟨w.heap.size + 1, 0, none⟩ = false := by simp [World.frozen?, HX1.out]
    have d3 : w1.frozen? ⟨w.heap.size + 1, 1, none⟩ = false := by simp [World.frozen?, HX1.out]
    clear hr hq hE
    go_wp2_with fail
    obtain ⟨W2, hW2⟩ : ∃ W2, (w1.setCell ⟨w.heap.size + 1, 0, none⟩ (.int .i64 (f1 : Int))).setCell ⟨w.heap.size + 1, 1, none⟩ (.int .i64 (m1 : Int)) = W2 := ⟨_, rfl⟩
    have hb2 := Lf.box2n (x' := .int .i64 (f1 : Int)) (y' := .int .i64 (m1 : Int)) HX1.out
    have hq2 : Lf.Lq h W2 t1 p s1 (N + 1) := by
      rw [← hW2]
      obtain ⟨⟨bl, kv, rv, hM⟩, h2⟩ := HQ.out
      exact ⟨⟨bl, kv, rv, (hM.set HT1.out 0 _).set HT1.out 1 _⟩, h2⟩
    have hE2 : Lf.Ev tag t1 w W2 := by rw [← hW2]; exact (HE.out.set (Nat.le_succ _) 0 _).set (Nat.le_succ _) 1 _
    rw [hW2] at hb2 ⊢
    have ea : W2.cell? ⟨w.heap.size + 1, 0, none⟩ = some (.int .i64 (f1 : Int)) := Mm.cellOf hb2 rfl
    have eb : W2.cell? ⟨w.heap.size + 1, 1, none⟩ = some (.int .i64 (m1 : Int)) := Mm.cellOf hb2 rfl
    exact bodyPost_ret (v := .tuple #[.int .i64 (l1 : Int), .agg #[.int .i64 (f1 : Int), .int .i64 (m1 : Int)], .int .i64 (r1 : Int)]) (by simp [results, Try.results30, go_sem, ea, eb]) rfl ⟨s1, l1, f1, m1, r1, rfl, Or.inr ⟨HK.out, HR.out⟩, t1, hq2, hE2⟩
end Go.Proofs.Ytngflihiailllaa
