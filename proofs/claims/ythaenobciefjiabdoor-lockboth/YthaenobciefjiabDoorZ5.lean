/- LockBoth: the walk. -/
import Derived.Test.YthaenobciefjiabDoorZ3
namespace Go.Proofs.YthaenobciefjiabDoor
open Go.RowKit Go.Maps Go.ChangeMaps Go.MapKept Go.Sort Go.Shelf

namespace Lk
variable {s' : St} {E : Int} {x y : Int}
/-- What the statement comes to. -/
def b1 (x : Int) : St := giveS (holS st0 1) 1 T (st0.set 1 T ||| bit x)
def b2 (x y : Int) : St := giveS (holS (b1 x) 2) 2 U ((b1 x).set 2 U ||| bit y)
theorem b1_set (x : Int) (h : Int) (n : Bytes) : (b1 x).set h n = if h = 1 ∧ n = T then bit x else 0 := by
  show (if h = 1 ∧ n = T then 0 ||| bit x else 0) = _
  rw [Nat.zero_or]
theorem b2_set (x y : Int) (h : Int) (n : Bytes) : (b2 x y).set h n = if h = 2 ∧ n = U then bit y else if h = 1 ∧ n = T then bit x else 0 := by
  show (if h = 2 ∧ n = U then (b1 x).set 2 U ||| bit y else (b1 x).set h n) = _
  have e : (b1 x).set 2 U = 0 := by rw [b1_set]; exact if_neg (fun h => by cases h.1)
  rw [e, Nat.zero_or, b1_set]
theorem T_ne_U : T ≠ U := by decide
theorem ok_of (h : Int) (n : Bytes) (hx : 1 ≤ x ∧ x ≤ 8) (h1 : 1 ≤ h) (h2 : h ≤ 200) (hn : n.length ≤ 8) : okArg h n x = true := by
  unfold okArg
  rw [isB_iff.2 hx]
  simp [h1, h2, hn]
theorem btake1 (hx : 1 ≤ x ∧ x ≤ 8) (h : TakeR st0 1 T x E s') : E = 0 ∧ s' = b1 x :=
  h.get_of (ok_of _ _ hx (by omega) (by omega) (by decide)) rfl (Nat.zero_and _) (fun ⟨o, ho⟩ => by simp [barB, barH, st0, ahead] at ho)
theorem btake2 (hy : 1 ≤ y ∧ y ≤ 8) (h : TakeR (b1 x) 2 U y E s') : E = 0 ∧ s' = b2 x y := by
  refine h.get_of (ok_of _ _ hy (by omega) (by omega) (by decide)) rfl (by rw [b1_set, if_neg (fun h => by cases h.1)]; exact Nat.zero_and _) (fun ⟨o, ho⟩ => ?_)
  have h1 : (b1 x).set o U = 0 := by rw [b1_set, if_neg (fun h => T_ne_U h.2.symm)]
  have h2 : (b1 x).q U = [] := rfl
  simp [barB, barH, h1, ahead, h2, any0] at ho
theorem b2_bar (hx : 1 ≤ x ∧ x ≤ 8) : barredP (b2 x y) 3 T y ↔ Md.barsB x y = true := by
  have hq : (b2 x y).q T = [] := rfl
  have hs : (b2 x y).set 1 T = bit x := by rw [b2_set, if_neg (fun h => by cases h.1), if_pos ⟨rfl, rfl⟩]
  constructor
  · rintro ⟨o, ho⟩
    by_cases e : o = 1
    · subst e
      simp only [barB, barH, hs, ahead, hq, any_bit hx] at ho
      rw [bars_comm]
      have h2 : (b2 x y).hol 1 = true ∧ Md.barsB y x = true := by simpa using ho
      exact h2.2
    · have h1 : (b2 x y).set o T = 0 := by rw [b2_set, if_neg (fun h => T_ne_U h.2), if_neg (fun h => e h.1)]
      simp [barB, barH, h1, ahead, hq, any0] at ho
  · intro h
    refine ⟨1, ?_⟩
    have hh : (b2 x y).hol 1 = true := rfl
    simp only [barB, barH, hs, any_bit hx, hh]
    rw [bars_comm] at h
    rw [h]; rfl
theorem btake3n (hx : 1 ≤ x ∧ x ≤ 8) (hy : 1 ≤ y ∧ y ≤ 8) (hb : Md.barsB x y = false) (h : TakeR (b2 x y) 3 T y E s') : E = 0 ∧ s' = giveS (holS (b2 x y) 3) 3 T (bit y) := by
  have hs : (b2 x y).set 3 T = 0 := by rw [b2_set, if_neg (fun h => by cases h.1), if_neg (fun h => by cases h.1)]
  have := h.get_of (ok_of _ _ hy (by omega) (by omega) (by decide)) rfl (by rw [hs]; exact Nat.zero_and _) (fun h => by rw [(b2_bar hx).1 h] at hb; cases hb)
  rw [hs, Nat.zero_or] at this
  exact this
theorem btake3w (hx : 1 ≤ x ∧ x ≤ 8) (hy : 1 ≤ y ∧ y ≤ 8) (hb : Md.barsB x y = true) (h : TakeR (b2 x y) 3 T y E s') : E = 75 ∧ s' = waitS (b2 x y) 3 T y := by
  have hs : (b2 x y).set 3 T = 0 := by rw [b2_set, if_neg (fun h => by cases h.1), if_neg (fun h => by cases h.1)]
  exact h.wait_of (ok_of _ _ hy (by omega) (by omega) (by decide)) rfl (by rw [hs]; exact Nat.zero_and _) ((b2_bar hx).2 hb)
theorem b_names {s : St} {L : List Bytes} (hx : 1 ≤ x ∧ x ≤ 8) (hs : ∀ n, s.set 1 n = if n = T then bit x else 0) (hw : s.want 1 = none) (h : Rs.Up (· ≤ ·) L) (hm : ∀ n, n ∈ L ↔ n.length ≤ maxLen ∧ (s.set 1 n ≠ 0 ∨ (s.want 1).map (·.1) = some n)) : L = [T] :=
  up_one h (fun n => by
    rw [hm n, hw, hs]
    have := (bit_lt hx).1
    by_cases e : n = T
    · subst e; simp [T, maxLen]; omega
    · simp [e])
theorem b_setn (n : Bytes) : (giveS (holS (b2 x y) 3) 3 T (bit y)).set 1 n = if n = T then bit x else 0 := by
  have e : (giveS (holS (b2 x y) 3) 3 T (bit y)).set 1 n = (b2 x y).set 1 n := by simp [giveS, holS]
  rw [e, b2_set, if_neg (fun h => by cases h.1)]
  simp
theorem b_setw (n : Bytes) : (waitS (b2 x y) 3 T y).set 1 n = if n = T then bit x else 0 := by
  show (b2 x y).set 1 n = _
  rw [b2_set, if_neg (fun h => by cases h.1)]
  simp
theorem b_qn (n : Bytes) : (leaveS (giveS (holS (b2 x y) 3) 3 T (bit y)) 1).q n = [] := rfl
theorem b_qw (n : Bytes) : (leaveS (waitS (b2 x y) 3 T y) 1).q n = if n = T then [3] else [] := by
  show (if n = T then ([] : List Int) ++ [3] else []) = _
  rw [List.nil_append]
theorem wq_none {s : St} (h : ∀ n, s.q n = []) : Wq s := ⟨fun nm x hx => (by rw [h] at hx; cases hx), fun nm => (by rw [h]; exact List.nodup_nil)⟩
theorem b_wqw (hy : 1 ≤ y ∧ y ≤ 8) : Wq (leaveS (waitS (b2 x y) 3 T y) 1) := by
  refine ⟨fun nm h hh => ?_, fun nm => ?_⟩
  · rw [b_qw] at hh
    by_cases e : nm = T
    · rw [if_pos e] at hh
      have : h = 3 := by simpa using hh
      subst this; subst e
      exact ⟨y, rfl, hy⟩
    · rw [if_neg e] at hh; cases hh
  · rw [b_qw]
    by_cases e : nm = T
    · rw [if_pos e]; decide
    · rw [if_neg e]; exact List.nodup_nil
theorem b_reln {out : List Int} (h : Rel (leaveS (giveS (holS (b2 x y) 3) 3 T (bit y)) 1) [T] s' out) : out = [] ∧ s'.set 3 T = bit y := by
  have h1 := h.one_of
  rw [b_qn] at h1
  obtain ⟨rfl, rfl⟩ := h1.nil_of
  exact ⟨rfl, rfl⟩
theorem b_relw {out : List Int} (h : Rel (leaveS (waitS (b2 x y) 3 T y) 1) [T] s' out) : out = [3] ∧ s'.set 3 T = bit y := by
  have h1 := h.one_of
  rw [b_qw, if_pos rfl] at h1
  obtain ⟨L', rfl, h2⟩ := h1.get_of (m := y) rfl (fun ⟨o, ho⟩ => by
    have hz : (emptyS (leaveS (waitS (b2 x y) 3 T y) 1) T).set o T = 0 := by
      show (if o = 1 then 0 else (b2 x y).set o T) = 0
      by_cases e : o = 1
      · rw [if_pos e]
      · rw [if_neg e, b2_set, if_neg (fun h => T_ne_U h.2), if_neg (fun h => e h.1)]
    have hq2 : (emptyS (leaveS (waitS (b2 x y) 3 T y) 1) T).q T = [] := rfl
    simp [barB, barH, hz, ahead, hq2, any0] at ho)
  obtain ⟨rfl, rfl⟩ := h2.nil_of
  refine ⟨rfl, ?_⟩
  have e : (gotS (emptyS (leaveS (waitS (b2 x y) 3 T y) 1) T) 3 T y).set 3 T = (b2 x y).set 3 T ||| bit y := by simp [gotS, giveS, emptyS, leaveS, waitS]
  rw [e, b2_set, if_neg (fun h => by cases h.1), if_neg (fun h => by cases h.1), Nat.zero_or]
theorem tot_n (L : List Bytes) : 6 + 1 + 2 * tot (leaveS (giveS (holS (b2 x y) 3) 3 T (bit y)) 1).q L < 90000 := by
  rw [tot_zero (fun z _ => b_qn z)]; omega
theorem tot_w (L : List Bytes) (h : L.Nodup) : 6 + 1 + 2 * tot (leaveS (waitS (b2 x y) 3 T y) 1).q L < 90000 := by
  have := tot_le (q := (leaveS (waitS (b2 x y) 3 T y) 1).q) (n := 1) (fun nm hn => by rw [b_qw, if_neg hn]) (by rw [b_qw, if_pos rfl]; decide) L h
  omega
theorem shlu {m : Int} (h : 1 ≤ m ∧ m ≤ 8) : (((bit m : Nat) : Int) == wrap64 (2 ^ min (IntKind.u64.wrap m).toNat 64)) = true := by
  have : m = 1 ∨ m = 2 ∨ m = 3 ∨ m = 4 ∨ m = 5 ∨ m = 6 ∨ m = 7 ∨ m = 8 := by omega
  rcases this with rfl | rfl | rfl | rfl | rfl | rfl | rfl | rfl <;> decide +kernel
end Lk

set_option maxRecDepth 100000 in
set_option maxHeartbeats 4000000 in
theorem lockBoth_at (a b : Nat) (x y : Int) (hx : x = 1 + (a : Int) % 8) (hy : y = 1 + (b : Int) % 8) (w : World) (ha : a < 256) (hb : b < 256) (hM0 : Md.Tab w) :
    Calls Tryd.prog 3 #[.int .u8 (a : Int), .int .u8 (b : Int)] w fun e w' => e = .returned (.bool true) ∧ Below w.heap.size w w' := by
  have hM := Mp.hid hM0
  clear hM0
  have HX : Hid (1 ≤ x ∧ x ≤ 8) := Mp.hid (by omega)
  have HY : Hid (1 ≤ y ∧ y ≤ 8) := Mp.hid (by omega)
  go_enter Tryd.func3, Tryd.ntmps3
  go_wp2_with fail
  rw [← hx, ← hy]
  have hsh := Lk.shlu HY.out
  clear hx hy ha hb
  refine (newO_any w).mono ?_
  rintro e w1 ⟨p, bs, bw, bq, rfl, hO⟩
  have HO1 := Mp.hid hO
  clear hO
  go_wp2_with fail
  refine (takeO_any _ w w1 p 0 Lk.st0 bs bw bq 1 Lk.T x HO1 hM (Lk.wf_lit (by omega) (by omega)) Lk.T_len (Mp.hid (by omega))).mono ?_
  rintro e w2 ⟨E, s1, rfl, hR, hO, -⟩
  obtain ⟨rfl, rfl⟩ := Lk.btake1 HX.out hR
  have HO2 := Mp.hid hO
  clear hO hR HO1
  go_wp2_with fail
  refine (takeO_any _ w w2 p 2 (Lk.b1 x) bs bw bq 2 Lk.U y HO2 hM (Lk.wf_lit (by omega) (by omega)) Lk.U_len (Mp.hid (by omega))).mono ?_
  rintro e w3 ⟨E, s1, rfl, hR, hO, -⟩
  obtain ⟨rfl, rfl⟩ := Lk.btake2 HY.out hR
  have HO3 := Mp.hid hO
  clear hO hR HO2
  go_wp2_with fail
  refine (takeO_any _ w w3 p 4 (Lk.b2 x y) bs bw bq 3 Lk.T y HO3 hM (Lk.wf_lit (by omega) (by omega)) Lk.T_len (Mp.hid (by omega))).mono ?_
  rintro e w4 ⟨E, s1, rfl, hR, hO, -⟩
  have HO4 := Mp.hid hO
  clear hO HO3
  cases hb : Md.barsB x y
  · obtain ⟨rfl, rfl⟩ := Lk.btake3n HX.out HY.out hb hR
    clear hR
    go_wp2_with (first | (go_at_call 6; refine (refBars_any _ _ _).mono ?_; rw [hb]; rintro e w5 ⟨rfl, hbl⟩; have HO5 := Mp.hid (HO4.out.same hbl); clear hbl))
    refine (waitsO_any _ w w5 p 6 _ bs bw bq 3 HO5 (Lk.wf_lit (by omega) (by omega))).mono ?_
    rintro e w6 ⟨rfl, hbl⟩
    have HO6 := Mp.hid (HO5.out.same hbl)
    clear hbl HO5
    have hW : ((Lk.giveS (Lk.holS (Lk.b2 x y) 3) 3 Lk.T (Lk.bit y)).want 3).isSome = false := rfl
    rw [hW]
    go_wp2_with fail
    refine (releaseN_any _ w w6 p 6 _ bs bw bq 1 HO6 hM (Lk.wf_lit (by omega) (by omega)) (Mp.hid rfl) (Mp.hid (Lk.wq_none (fun n => Lk.b_qn n))) (Mp.hid (fun L _ => Lk.tot_n L))).mono ?_
    rintro e w7 ⟨v, out, s', L, rfl, hR, hU, hm, hrow, hO, -, -, -⟩
    obtain rfl := Lk.b_names HX.out Lk.b_setn rfl hU hm
    obtain ⟨rfl, hs⟩ := Lk.b_reln hR
    obtain ⟨pl, cl, rfl, -, -⟩ := Lk.row_of hrow
    have HO7 := Mp.hid hO
    have HS := Mp.hid hs
    clear hR hU hm hrow hO hs HO6
    go_wp2_with (first | (go_at_call 9; refine (modesO_any _ w _ p _ _ bs bw bq 3 Lk.T HO7 (Lk.wf_lit (by omega) (by omega)) Lk.T_len).mono ?_; rw [HS.out]; rintro e w' ⟨rfl, hq⟩; obtain rfl := hq.symm) | (go_at_call 10; refine (wakes6_any _ (Mp.hid (HO7.out.md hM.out))).mono ?_; rintro e w8 ⟨rfl, hb8⟩))
    go_ret
    exact ⟨rfl, HO7.out.bel.trans (hb8.mono HO7.out.bel.size)⟩
  · obtain ⟨rfl, rfl⟩ := Lk.btake3w HX.out HY.out hb hR
    clear hR
    go_wp2_with (first | (go_at_call 6; refine (refBars_any _ _ _).mono ?_; rw [hb]; rintro e w5 ⟨rfl, hbl⟩; have HO5 := Mp.hid (HO4.out.same hbl); clear hbl))
    refine (waitsO_any _ w w5 p 6 _ bs bw bq 3 HO5 (Lk.wf_lit (by omega) (by omega))).mono ?_
    rintro e w6 ⟨rfl, hbl⟩
    have HO6 := Mp.hid (HO5.out.same hbl)
    clear hbl HO5
    have hW : ((Lk.waitS (Lk.b2 x y) 3 Lk.T y).want 3).isSome = true := rfl
    rw [hW]
    go_wp2_with fail
    refine (releaseN_any _ w w6 p 6 _ bs bw bq 1 HO6 hM (Lk.wf_lit (by omega) (by omega)) (Mp.hid rfl) (Mp.hid (Lk.b_wqw HY.out)) (Mp.hid (fun L hL => Lk.tot_w L hL))).mono ?_
    rintro e w7 ⟨v, out, s', L, rfl, hR, hU, hm, hrow, hO, -, -, -⟩
    obtain rfl := Lk.b_names HX.out Lk.b_setw rfl hU hm
    obtain ⟨rfl, hs⟩ := Lk.b_relw hR
    obtain ⟨pl, cl, rfl, -, -⟩ := Lk.row_of hrow
    have HO7 := Mp.hid hO
    have HS := Mp.hid hs
    clear hR hU hm hrow hO hs HO6
    go_wp2_with (first | (go_at_call 9; refine (modesO_any _ w _ p _ _ bs bw bq 3 Lk.T HO7 (Lk.wf_lit (by omega) (by omega)) Lk.T_len).mono ?_; rw [HS.out]; rintro e w' ⟨rfl, hq⟩; obtain rfl := hq.symm) | (go_at_call 10; refine (wakes6_any _ (Mp.hid (HO7.out.md hM.out))).mono ?_; rintro e w8 ⟨rfl, hb8⟩))
    go_ret
    exact ⟨rfl, HO7.out.bel.trans (hb8.mono HO7.out.bel.size)⟩

theorem lockBoth_walk (a b : Nat) (ha : a < 256) (hb : b < 256) (w : World) (hM : Md.Tab w) :
    Calls Tryd.prog 3 #[.int .u8 (a : Int), .int .u8 (b : Int)] w fun e w' => e = .returned (.bool true) ∧ Below w.heap.size w w' :=
  lockBoth_at a b _ _ rfl rfl w ha hb hM

end Go.Proofs.YthaenobciefjiabDoor
