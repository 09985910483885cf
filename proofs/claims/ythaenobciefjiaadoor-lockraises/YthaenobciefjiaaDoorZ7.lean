/- LockRaises: the walk. -/
import Derived.Test.YthaenobciefjiaaDoorZ6
namespace Go.Proofs.YthaenobciefjiaaDoor
open Go.RowKit Go.Maps Go.ChangeMaps Go.MapKept Go.Sort Go.Shelf

namespace Lk
variable {s s' : St} {a : Int} {v : Nat} {l : List Int} {E : Int} {x m : Int}
/-- Those that wait. -/
def tens (i : Nat) : List Int := (List.range i).map (fun j : Nat => (10 : Int) + (j : Int))
theorem tw {p : Int → Bool} : ∀ {l : List Int}, (∀ o ∈ l, p o = true) → l.takeWhile p = l
  | [], _ => rfl
  | a :: l, h => by rw [List.takeWhile_cons_of_pos (h a (List.mem_cons_self ..)), tw (fun o ho => h o (List.mem_cons_of_mem _ ho))]
theorem tens_succ (i : Nat) : tens (i + 1) = tens i ++ [10 + (i : Int)] := by
  unfold tens; rw [List.range_succ, List.map_append]; rfl
theorem tens_mem {i : Nat} {x : Int} : x ∈ tens i ↔ 10 ≤ x ∧ x < 10 + (i : Int) := by
  unfold tens
  simp only [List.mem_map, List.mem_range]
  constructor
  · rintro ⟨j, hj, rfl⟩; omega
  · intro h; exact ⟨(x - 10).toNat, by omega, by omega⟩
theorem tens_up (i : Nat) : Rs.Up (· ≤ ·) (tens i) := by
  unfold tens Rs.Up
  rw [List.pairwise_map]
  exact List.Pairwise.imp (fun h => by omega) (List.pairwise_lt_range)
theorem tens_len (i : Nat) : (tens i).length = i := by simp [tens]
/-- One more, that is barred by those that wait alone. -/
theorem Qs.two {k : Nat} (h : Qs s 1 2 (tens k)) (hk : 1 ≤ k) (hT : TakeR s 2 T 1 E s') : E = 75 ∧ s' = waitS s 2 T 1 := by
  have h2 : (2 : Int) ∉ tens k := fun e => by have := tens_mem.1 e; omega
  refine hT.wait_of (okT (by omega) (by omega)) (by rw [h.want, if_neg h2]) (by rw [h.at_x (by omega)]; exact Nat.zero_and _) ⟨10, ?_⟩
  have e10 : (10 : Int) ∈ tens k := tens_mem.2 (by omega)
  have ha : ahead s 2 T = tens k := by
    unfold ahead
    rw [h.qT]
    exact tw (fun o ho => by have := tens_mem.1 ho; simp; omega)
  have hw : wm s 10 = 8 := by unfold wm; rw [h.want, if_pos e10]; rfl
  unfold barB
  rw [ha, hw, h.at_x (by omega)]
  have : (tens k).contains 10 = true := List.contains_iff_mem.2 e10
  rw [this]
  simp only [decide_true, Bool.true_and]
  rw [show Md.barsB 8 1 = true by decide +kernel, Bool.or_true]
theorem Qs.for2 {k : Nat} {L : List Int} (h : Qs s 1 2 (tens k)) (hU : Rs.Up (· ≤ ·) L) (hm : ∀ o, o ∈ L ↔ ∃ r, (waitS s 2 T 1).want 2 = some r ∧ barB (waitS s 2 T 1) 2 r.1 r.2 o = true) : L = tens k := by
  have h2 : (2 : Int) ∉ tens k := fun e => by have := tens_mem.1 e; omega
  refine Rs.one (fun _ _ => Int.le_antisymm) hU (tens_up k) (fun o => ?_)
  rw [hm o]
  have hw2 : (waitS s 2 T 1).want 2 = some (T, 1) := by simp [waitS]
  have ha : ahead (waitS s 2 T 1) 2 T = tens k := by
    unfold ahead
    have hq : (waitS s 2 T 1).q T = tens k ++ [2] := by simp [waitS, h.qT]
    rw [hq, List.takeWhile_append_of_pos (fun o ho => by have := tens_mem.1 ho; simp; omega)]
    simp
  have hh : barH (waitS s 2 T 1) 2 T 1 o = false := by
    by_cases e : o = 1
    · subst e
      have : (waitS s 2 T 1).set 1 T = 2 := h.at_a
      unfold barH
      rw [this, show Md.anyB ((2 : Nat) : Int) 1 = false by decide +kernel, Bool.and_false]
    · have : (waitS s 2 T 1).set o T = 0 := h.at_x e T
      unfold barH
      rw [this, show Md.anyB ((0 : Nat) : Int) 1 = false from any0 1, Bool.and_false]
  have hs : (waitS s 2 T 1).set 2 T = 0 := h.at_x (by omega) T
  have hb : barB (waitS s 2 T 1) 2 T 1 o = true ↔ o ∈ tens k := by
    unfold barB
    rw [hh, ha, hs]
    simp only [decide_true, Bool.true_and, Bool.false_or, Bool.and_eq_true, List.contains_iff_mem]
    constructor
    · exact fun h => h.1
    · intro ho
      refine ⟨ho, ?_⟩
      have hw : wm (waitS s 2 T 1) o = 8 := by
        have h3 : (waitS s 2 T 1).want o = some (T, 8) := by
          have : o ≠ 2 := fun e => h2 (by rw [← e]; exact ho)
          simp [waitS, this, h.want, ho]
        unfold wm; rw [h3]; rfl
      rw [hw]; decide +kernel
  constructor
  · rintro ⟨r, h1, h3⟩
    rw [hw2] at h1; injection h1 with h1; subst h1
    exact hb.1 h3
  · intro ho
    exact ⟨_, hw2, hb.2 ho⟩
/-- The one that has it has all that it wants. -/
theorem raise (hs : s.set 1 T ≠ 0) (ho : ∀ o, o ≠ 1 → s.set o T = 0) (hw : s.want 1 = none) (hm : 1 ≤ m ∧ m ≤ 8) (hb : s.set 1 T &&& bit m = 0) (hT : TakeR s 1 T m E s') :
    E = 0 ∧ s'.set 1 T = s.set 1 T ||| bit m ∧ (∀ o, o ≠ 1 → s'.set o T = 0) ∧ s'.want 1 = none := by
  obtain ⟨rfl, rfl⟩ := hT.get_of (okT (by omega) hm) hw hb (alone hs ho)
  refine ⟨rfl, by simp [giveS, holS], fun o h => by simp [giveS, holS, h, ho o h], hw⟩
end Lk

set_option maxRecDepth 100000 in
set_option maxHeartbeats 4000000 in
theorem lockRaises_at (a k : Nat) (hk : (k : Int) = 1 + (a : Int) % 10) (ha : a < 256) (w : World) (hM0 : Md.Tab w) :
    Calls Tryd.prog 7 #[.int .u8 (a : Int)] w fun e w' => e = .returned (.bool true) ∧ Below w.heap.size w w' := by
  have hM := Mp.hid hM0
  clear hM0
  have hk1 : 1 ≤ k ∧ k ≤ 10 := by omega
  go_enter Tryd.func7, Tryd.ntmps7
  go_wp2_with fail
  refine (newO_any w).mono ?_
  rintro e w1 ⟨p, bs, bw, bq, rfl, hO⟩
  have HO1 := Mp.hid hO
  clear hO
  go_wp2_with fail
  rw [← hk]
  clear hk ha
  refine (takeO_any _ w w1 p 0 Lk.st0 bs bw bq 1 Lk.T 1 HO1 hM (Lk.wf_lit (by omega) (by omega)) Lk.T_len (Mp.hid (by omega))).mono ?_
  rintro e w2 ⟨E, s1, rfl, hR, hO, -⟩
  obtain ⟨rfl, hQ⟩ := Lk.Qs.start (by omega) (by omega) hR
  have HO2 := Mp.hid hO
  have HQ : Hid (Lk.Qs s1 1 2 (Lk.tens 0)) := Mp.hid hQ
  clear hO hR hQ HO1
  go_wp2_with fail
  go_loopw [5] (fun vi wr => ∃ (i : Nat) (s : Lk.St), i ≤ k ∧ vi = .int .i64 (i : Int) ∧ Hid (Lk.Qs s 1 2 (Lk.tens i) ∧ Lk.Own (fun b => b < w.heap.size) w wr p (2 + 2 * i) s bs bw bq)) (fun vi _ => k - (RowKit.intOf vi).toNat)
  case atStart => exact ⟨0, s1, by omega, rfl, Mp.hid ⟨HQ.out, HO2.out⟩⟩
  case round =>
    clear HQ HO2
    obtain ⟨i, s, hi, rfl, HH⟩ := hrel
    have HO := Mp.hid HH.out.2
    by_cases hlt : i < k
    · have g1 : (i : Int) < (k : Int) := by omega
      go_wp2_with fail
      refine (takeO_any _ w wr p (2 + 2 * i) s bs bw bq (10 + (i : Int)) Lk.T 8 HO hM (Lk.wf_lit (by omega) (by omega)) Lk.T_len (Mp.hid (by omega))).mono ?_
      rintro e w3 ⟨E, s3, rfl, hR, hO, -⟩
      obtain ⟨rfl, hQ⟩ := HH.out.1.wait (by decide +kernel) (by omega) (fun e => by have := Lk.tens_mem.1 e; omega) (by omega) hR
      rw [← Lk.tens_succ] at hQ
      have HN : Hid (Lk.Qs s3 1 2 (Lk.tens (i + 1)) ∧ Lk.Own (fun b => b < w.heap.size) w w3 p (2 + 2 * (i + 1)) s3 bs bw bq) := Mp.hid ⟨hQ, hO.mono (by omega)⟩
      clear hR hO hQ HO HH
      go_wp2_with fail
      refine ⟨⟨i + 1, s3, by omega, by go_num, HN⟩, by simp [RowKit.intOf]; omega⟩
    · obtain rfl : i = k := by omega
      go_wp2_with fail
      refine (takeO_any _ w wr p (2 + 2 * i) s bs bw bq 2 Lk.T 1 HO hM (Lk.wf_lit (by omega) (by omega)) Lk.T_len (Mp.hid (by omega))).mono ?_
      rintro e w3 ⟨E, s3, rfl, hR, hO, -⟩
      obtain ⟨rfl, rfl⟩ := HH.out.1.two hk1.1 hR
      have HO3 := Mp.hid hO
      clear hR hO HO
      go_wp2_with fail
      refine (forO_any _ w w3 p _ _ bs bw bq 2 HO3 hM (Lk.wf_lit (by omega) (by omega)) (Mp.hid (fun r hr => by
        have h3 : (Lk.waitS s 2 Lk.T 1).want 2 = some (Lk.T, 1) := by simp [Lk.waitS]
        rw [h3] at hr; injection hr with hr; rw [← hr]; exact Lk.T_len)) (Mp.hid (by omega))).mono ?_
      rintro e w4 ⟨v, L, rfl, hrow, hup, hmem, -, hb⟩
      obtain rfl := HH.out.1.for2 hup hmem
      obtain ⟨pf, cf, rfl, -, -⟩ := Lk.row_of hrow
      rw [Lk.tens_len]
      have HO4 := Mp.hid (HO3.out.same hb)
      have HA : Hid ((Lk.waitS s 2 Lk.T 1).set 1 Lk.T = 2 ∧ (∀ o, o ≠ 1 → (Lk.waitS s 2 Lk.T 1).set o Lk.T = 0) ∧ (Lk.waitS s 2 Lk.T 1).want 1 = none) := Mp.hid ⟨HH.out.1.at_a, fun o ho => HH.out.1.at_x ho _, by
        have h1 : (1 : Int) ∉ Lk.tens i := fun e => by have := Lk.tens_mem.1 e; omega
        simp [Lk.waitS, HH.out.1.want, h1]⟩
      clear hrow hup hmem hb HO3 HH
      go_wp2_with fail
      refine (takeO_any _ w w4 p _ _ bs bw bq 1 Lk.T 3 HO4 hM (Lk.wf_lit (by omega) (by omega)) Lk.T_len (Mp.hid (by omega))).mono ?_
      rintro e w5 ⟨E, s5, rfl, hR, hO, -⟩
      obtain ⟨rfl, hs5, ho5, hw5⟩ := Lk.raise (by rw [HA.out.1]; decide) HA.out.2.1 HA.out.2.2 (by omega) (by rw [HA.out.1]; decide) hR
      have HO5 := Mp.hid hO
      have HA5 : Hid (s5.set 1 Lk.T = 10 ∧ (∀ o, o ≠ 1 → s5.set o Lk.T = 0) ∧ s5.want 1 = none) := Mp.hid ⟨by rw [hs5, HA.out.1]; decide, ho5, hw5⟩
      clear hR hO hs5 ho5 hw5 HA HO4
      go_wp2_with fail
      refine (takeO_any _ w w5 p _ _ bs bw bq 1 Lk.T 8 HO5 hM (Lk.wf_lit (by omega) (by omega)) Lk.T_len (Mp.hid (by omega))).mono ?_
      rintro e w6 ⟨E, s6, rfl, hR, hO, -⟩
      obtain ⟨rfl, hs6, -, -⟩ := Lk.raise (by rw [HA5.out.1]; decide) HA5.out.2.1 HA5.out.2.2 (by omega) (by rw [HA5.out.1]; decide) hR
      have HO6 := Mp.hid hO
      have HS6 : Hid (s6.set 1 Lk.T = 266) := Mp.hid (by rw [hs6, HA5.out.1]; decide)
      clear hR hO hs6 HA5 HO5
      go_wp2_with (first | (go_at_call 19; refine (modesO_any _ w _ p _ _ bs bw bq 1 Lk.T HO6 (Lk.wf_lit (by omega) (by omega)) Lk.T_len).mono ?_; rw [HS6.out]; rintro e w' ⟨rfl, hq⟩; obtain rfl := hq.symm) | (go_at_call 11; refine (wakes6_any _ (Mp.hid (HO6.out.md hM.out))).mono ?_; rintro e w8 ⟨rfl, hb8⟩))
      go_ret
      exact ⟨rfl, HO6.out.bel.trans (hb8.mono HO6.out.bel.size)⟩

theorem lockRaises_walk (a : Nat) (w : World) (ha : a < 256) (hM : Md.Tab w) :
    Calls Tryd.prog 7 #[.int .u8 (a : Int)] w fun e w' => e = .returned (.bool true) ∧ Below w.heap.size w w' :=
  lockRaises_at a (1 + a % 10) (by omega) ha w hM

end Go.Proofs.YthaenobciefjiaaDoor
