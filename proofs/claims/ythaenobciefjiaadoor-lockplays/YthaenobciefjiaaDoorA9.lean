/- strings.Clone, barred, For, Waits. -/
import Derived.Test.YthaenobciefjiaaDoorA8
namespace Go.Proofs.YthaenobciefjiaaDoor
open Go.RowKit Go.Maps Go.ChangeMaps Go.MapKept

namespace Lk
/-- Is it barred? -/
def barredP (s : St) (x : Int) (nm : Bytes) (m : Int) : Prop := ∃ o, barB s x nm m o = true
theorem barred_len {s : St} {x : Int} {nm : Bytes} {m : Int} {l : List Int} (h : ∀ o, o ∈ l ↔ barB s x nm m o = true) : decide (0 < l.length) = true ↔ barredP s x nm m := by
  rw [decide_eq_true_eq, List.length_pos_iff_exists_mem]
  exact ⟨fun ⟨o, ho⟩ => ⟨o, (h o).1 ho⟩, fun ⟨o, ho⟩ => ⟨o, (h o).2 ho⟩⟩
theorem row_shape {W : World} {n k : Nat} {e : TypeId} {v : Value} {xs : List Value} (h : W.ownsRow k e 1 v n xs) : ∃ p c, v = .slice p n c := by
  rcases h.2 with ⟨h2, h3⟩ | ⟨g, cap, cur, e1, _⟩
  · subst h3; exact ⟨none, 0, h2⟩
  · exact ⟨_, _, e1⟩
theorem row_lo {W : World} {n k g : Nat} {e : TypeId} {v : Value} {xs : List Value} (h : W.ownsRow k e 1 v n xs) (hg : v.ownBlock = some g) : k ≤ g := by
  rcases h.2 with ⟨h2, h3⟩ | ⟨g', cap, cur, e1, hb, _⟩
  · rw [h2] at hg; cases hg
  · rw [e1] at hg; injection hg with hg; simp at hg; omega
end Lk

theorem Rs.ints_len (l : List Int) : (Rs.ints l).length ≤ l.length := by
  unfold Rs.ints Lib.compact Lib.compactUpTo
  rw [List.length_map]
  exact Nat.le_trans (List.length_filter_le _ _) (by simp)

theorem Rs.texts_len (l : List (List UInt8)) : (Rs.texts l).length ≤ l.length := by
  unfold Rs.texts Lib.compact Lib.compactUpTo
  rw [List.length_map]
  exact Nat.le_trans (List.length_filter_le _ _) (by simp)

set_option maxHeartbeats 400000 in
theorem clone_any (nm : Lk.Bytes) (w : World) (hl : Hid (nm.length ≤ 1000000)) :
    Calls Tryd.prog 31 #[Lk.str nm] w fun e w' => e = .returned (Lk.str nm) ∧ Below w.heap.size w w' := by
  have cC := Any.stringslite_Clone Tryd.laysM316 ⟨nm.toArray⟩ w (by have := hl.out; show nm.toArray.size ≤ _; simp; omega)
  go_enter Tryd.func31, Tryd.ntmps31
  go_wp2_with (first | (go_at_call 46; refine cC.mono ?_; rintro e w' ⟨rfl, hb⟩) | go_in)
  go_ret
  exact ⟨rfl, hb⟩

set_option maxRecDepth 100000 in
set_option maxHeartbeats 1000000 in
theorem barred_any (w : World) (tag : Nat → Option Lk.Lb) (p N : Nat) (s : Lk.St) (bs bw bq : Nat) (bi : Int → Nat) (sl : Lk.Bytes → Value) (x : Int) (nm : Lk.Bytes) (m : Int) (hT : Hid (Lk.Tb w tag p N s bs bw bq bi sl)) (hM : Hid (Md.Tab w)) (hx : Lk.wfI x) (hl : nm.length ≤ maxLen) (hN : Hid (N < 100000)) :
    Calls Tryd.prog 32 #[.pointer (some ⟨p, 0, none⟩), .int .i64 x, .agg #[Lk.str nm, .int .i64 m]] w fun e w' => ∃ b : Bool, e = .returned (.bool b) ∧ (b = true ↔ Lk.barredP s x nm m) ∧ Below w.heap.size w w' := by
  have HT1 := Mp.hid (hT.out.alloc (.cells #[Lk.str nm, .int .i64 m] 64))
  have HM1 := Mp.hid (hM.out.below ((Below.refl _ _).alloc (Nat.le_refl _) (.cells #[Lk.str nm, .int .i64 m] 64)))
  go_enter Tryd.func32, Tryd.ntmps32
  go_wp2_with (first | (go_at_call 39; refine (barring_any _ tag p N s bs bw bq bi sl x nm m HT1 HM1 hx hl hN).mono ?_; rintro e w' ⟨v, l, rfl, hrow, hmem, hlen, hb⟩; obtain ⟨pp, cc, rfl⟩ := Lk.row_shape hrow) | go_in)
  go_ret
  exact ⟨_, rfl, (by have := Lk.barred_len hmem; simpa using this), ((Below.refl _ _).alloc (Nat.le_refl _) _).trans (hb.mono (by simp))⟩

set_option maxRecDepth 100000 in
set_option maxHeartbeats 1000000 in
theorem waits_any (w : World) (tag : Nat → Option Lk.Lb) (p N : Nat) (s : Lk.St) (bs bw bq : Nat) (bi : Int → Nat) (sl : Lk.Bytes → Value) (x : Int) (hT : Hid (Lk.Tb w tag p N s bs bw bq bi sl)) (hx : Lk.wfI x) :
    Calls Tryd.prog 17 #[.pointer (some ⟨p, 0, none⟩), .int .i64 x] w fun e w' => e = .returned (.tuple #[.string ⟨(Lk.wn s x).toArray⟩, .int .i64 (Lk.wm s x), .bool (s.want x).isSome]) ∧ Below w.heap.size w w' := by
  have c1 := hT.out.c1
  have hO := hT.out.lookO hx
  go_enter Tryd.func17, Tryd.ntmps17
  go_wp2
  go_region
  all_goals
    go_wp2
    go_ret3
    exact ⟨rfl, by repeat (first | exact Below.refl _ _ | refine Below.drew ?_ | refine Below.setCell ?_ (Nat.le_refl _) _ | refine Below.alloc ?_ (by simp) _)⟩

set_option maxHeartbeats 400000 in
theorem waits_nil (w : World) (x : Int) :
    Calls Tryd.prog 17 #[.pointer none, .int .i64 x] w fun e w' => e = .returned (.tuple #[.string ⟨#[]⟩, .int .i64 0, .bool false]) ∧ w' = w := by
  go_enter Tryd.func17, Tryd.ntmps17
  go_wp2
  go_ret3
  exact ⟨rfl, rfl⟩

set_option maxRecDepth 100000 in
set_option maxHeartbeats 1000000 in
theorem for_any (w : World) (tag : Nat → Option Lk.Lb) (p N : Nat) (s : Lk.St) (bs bw bq : Nat) (bi : Int → Nat) (sl : Lk.Bytes → Value) (x : Int) (hT : Hid (Lk.Tb w tag p N s bs bw bq bi sl)) (hM : Hid (Md.Tab w)) (hx : Lk.wfI x) (hr : Hid (∀ r, s.want x = some r → r.1.length ≤ maxLen)) (hN : Hid (N < 100000)) :
    Calls Tryd.prog 21 #[.pointer (some ⟨p, 0, none⟩), .int .i64 x] w fun e w' => ∃ (v : Value) (L : List Int), e = .returned v ∧ w'.ownsRow w.heap.size 3 1 v L.length (L.map (Value.int .i64)) ∧ Rs.Up (· ≤ ·) L ∧ (∀ o, o ∈ L ↔ ∃ r, s.want x = some r ∧ Lk.barB s x r.1 r.2 o = true) ∧ L.length ≤ 2 * N ∧ Below w.heap.size w w' := by
  have c1 := hT.out.c1
  have hO := hT.out.lookO hx
  cases hw : s.want x
  · have e1 : (s.want x).isSome = false := by rw [hw]; rfl
    rw [e1] at hO
    have HW := Mp.hid hw
    clear hw e1
    go_enter Tryd.func21, Tryd.ntmps21
    go_wp2
    go_ret
    refine ⟨_, [], rfl, ⟨rfl, Or.inl ⟨rfl, rfl⟩⟩, List.Pairwise.nil, fun o => ?_, Nat.zero_le _, by repeat (first | exact Below.refl _ _ | refine Below.setCell ?_ (Nat.le_refl _) _ | refine Below.alloc ?_ (by simp) _)⟩
    simp
  · rename_i r
    obtain ⟨nm, m⟩ := r
    have e1 : (s.want x).isSome = true := by rw [hw]; rfl
    have e2 : Lk.wn s x = nm := by unfold Lk.wn; rw [hw]; rfl
    have e3 : Lk.wm s x = m := by unfold Lk.wm; rw [hw]; rfl
    rw [e1, e2, e3] at hO
    have HW := Mp.hid hw
    have hl : nm.length ≤ maxLen := hr.out (nm, m) hw
    clear hw e1 e2 e3
    go_enter Tryd.func21, Tryd.ntmps21
    have HT1 := Mp.hid (hT.out.alloc (.cells #[Lk.str nm, .int .i64 m] 64))
    have HM1 := Mp.hid (hM.out.below ((Below.refl _ _).alloc (Nat.le_refl _) (.cells #[Lk.str nm, .int .i64 m] 64)))
    go_wp2_with fail
    refine (barring_any _ tag p N s bs bw bq bi sl x nm m HT1 HM1 hx hl hN).mono ?_
    rintro e w1 ⟨v, l, rfl, hrow, hmem, hlen, hb⟩
    have HB := Mp.hid (((Below.refl _ _).alloc (Nat.le_refl _) (.cells #[Lk.str nm, .int .i64 m] 64)).trans (hb.mono (by simp)))
    have HROW := Mp.hid hrow
    have HMEM := Mp.hid hmem
    have HLEN : Hid (l.length < 1000000000000) := Mp.hid (by have := hN.out; omega)
    have HL2 := Mp.hid hlen
    clear hrow hmem hlen hb c1 hO
    go_wp2_with fail
    refine (risingI_any w1 _ v l HROW HLEN).mono ?_
    rintro e w2 ⟨v', rfl, hrow', hbl, hgr, hnil⟩
    have HR2 := Mp.hid (And.intro hrow' hgr)
    clear hrow' hbl hgr hnil
    go_wp2
    go_ret
    refine ⟨_, Rs.ints l, rfl, Lk.row_base HR2.out.1 (by simp), (Rs.ints_spec l).1, fun o => ?_, Nat.le_trans (Rs.ints_len l) HL2.out, HB.out.grown HR2.out.2 HB.out.size (fun k hk => ?_)⟩
    · rw [(Rs.ints_spec l).2, HMEM.out]
      constructor
      · exact fun h => ⟨(nm, m), by first | exact HW.out | rfl, h⟩
      · rintro ⟨r, h1, h2⟩
        first | (rw [HW.out] at h1; injection h1 with h1; subst h1; exact h2) | (injection h1 with h1; subst h1; exact h2)
    · have := Lk.row_lo HROW.out hk
      simp at this
      omega

set_option maxHeartbeats 400000 in
theorem for_nil (w : World) (x : Int) :
    Calls Tryd.prog 21 #[.pointer none, .int .i64 x] w fun e w' => e = .returned (.slice none 0 0) ∧ w' = w := by
  go_enter Tryd.func21, Tryd.ntmps21
  go_wp2
  go_ret
  exact ⟨rfl, rfl⟩

end Go.Proofs.YthaenobciefjiaaDoor
