/- ValueOrders: the walk, whole. -/
import Derived.Test.YtanljohnmaokeaaOrdersLaw
namespace Go.Proofs.Ytanljohnmaokeaa
open Go.RowKit
attribute [local go_sem] Fl.run_store_float

set_option maxRecDepth 100000 in
set_option maxHeartbeats 2000000 in
theorem orders_big (p pt : Option Addr) (n c nt ct : Nat) (rs : List (List Vl.V)) (w : World) (hx : rs.length = n) (hn : n ≤ c) (h : 40 < n ∨ (n ≤ 40 ∧ 100 < nt)) (H : Hid (Vl.RsIn w p rs)) :
    Calls Try.prog 8 #[.slice p n c, .slice pt nt ct] w fun e w' => e = .returned (.bool true) ∧ Below w.heap.size w w' := by
  have HX := Vl.hid hx
  clear hx
  have hd : (decide ((40 : Int) < (n : Int)) = true) ∨ (decide ((40 : Int) < (n : Int)) = false ∧ decide ((100 : Int) < (nt : Int)) = true) := by
    rcases h with h | ⟨h, h2⟩
    · exact .inl (decide_eq_true (by omega))
    · exact .inr ⟨decide_eq_false (by omega), decide_eq_true (by omega)⟩
  clear h
  rcases hd with h40 | ⟨h40, h100⟩
  all_goals
    go_enter Try.func8, Try.ntmps8
    go_wp2_with fail
    refine (largeRows_any p n c rs _ HX.out hn H).mono ?_
    rintro e w1 ⟨b, rfl, hbf, hb1⟩
    have HB1 := Vl.hid hb1
    clear hbf hb1
    cases b
    all_goals
      go_wp2_with fail
      refine (wakes_any _).mono ?_
      rintro e w' ⟨rfl, hb⟩
      go_wp2_with fail
      go_ret
      exact ⟨rfl, Vl.btr HB1.out hb⟩

theorem Vl.own_zero {w : World} {base : Nat} {e : TypeId} {v : Value} {sl : List Value} (h : w.ownsRow base e 1 v 0 sl) : ∃ p c, v = .slice p 0 c := by
  rcases h.2 with ⟨rfl, _⟩ | ⟨g, cap, cur, rfl, _⟩
  · exact ⟨_, _, rfl⟩
  · exact ⟨_, _, rfl⟩

set_option maxRecDepth 100000 in
set_option maxHeartbeats 4000000 in
theorem orders_zero (p pt : Option Addr) (c nt ct : Nat) (w : World) (hnt100 : nt ≤ 100) :
    Calls Try.prog 8 #[.slice p 0 c, .slice pt nt ct] w fun e w' => e = .returned (.bool true) ∧ Below w.heap.size w w' := by
  have h100 : decide ((100 : Int) < (nt : Int)) = false := decide_eq_false (by omega)
  have HN : Hid (∀ (W : World) (q : Option Addr), Vl.RsIn W q []) := Vl.hid (fun W q => Or.inl rfl)
  have HM : Hid (∀ (j : Nat) (xs : List Vl.V), ([] : List (List Vl.V))[j]? = some xs → xs.length ≤ 1000) := Vl.hid (fun j xs hj => by simp at hj)
  have HM2 : Hid (∀ (j : Nat) (xs : List Vl.V), ([] : List (List Vl.V))[j]? = some xs → xs.length ≤ 100000) := Vl.hid (fun j xs hj => by simp at hj)
  go_enter Try.func8, Try.ntmps8
  go_wp2_with fail
  refine (largeRows_any p 0 c [] _ rfl (Nat.zero_le _) (Vl.hid (HN.out _ _))).mono ?_
  rintro e w1 ⟨b, rfl, hbf, hb1⟩
  have HB1 := Vl.hid hb1
  clear hbf hb1
  cases b
  · go_wp2_with fail
    refine (copyRows_any p 0 c [] _ rfl (Nat.zero_le _) (by omega) HM (Vl.hid (HN.out _ _))).mono ?_
    rintro e w2 ⟨v, sl, rfl, hown, _, hb2⟩
    obtain ⟨q2, c2, rfl⟩ := Vl.own_zero hown
    have HB2 := Vl.hid (Vl.btr HB1.out hb2)
    clear hown hb2 HB1
    go_wp2_with fail
    go_loopw [6] (fun vi wr => vi = .int .i64 0 ∧ Hid (Below w.heap.size w wr)) (fun _ _ => 0)
    case atStart => exact ⟨rfl, HB2⟩
    case round =>
      obtain ⟨rfl, HB⟩ := hrel
      rename World => wr
      clear HB2
      have hz : (nt = 0 ∧ decide ((0 : Int) < (nt : Int)) = false) ∨ (0 < nt ∧ decide ((0 : Int) < (nt : Int)) = true) := by
        by_cases e : nt = 0
        · exact .inl ⟨e, decide_eq_false (by omega)⟩
        · exact .inr ⟨by omega, decide_eq_true (by omega)⟩
      rcases hz with ⟨hz, hz2⟩ | ⟨hz, hz2⟩
      · subst hz
        go_wp2_with fail
        refine (copyRows_any p 0 c [] _ rfl (Nat.zero_le _) (by omega) HM (Vl.hid (HN.out _ _))).mono ?_
        rintro e w3 ⟨v, sl3, rfl, hown, _, hb3⟩
        obtain ⟨q3, c3, rfl⟩ := Vl.own_zero hown
        have HB3 := Vl.hid (Vl.btr HB.out hb3)
        clear hown hb3 HB
        go_wp2_with fail
        refine (rows_none q3 c3 _).mono ?_
        rintro e w4 ⟨rfl, hb4⟩
        have HB4 := Vl.hid (Vl.btr HB3.out hb4)
        clear hb4 HB3
        go_wp2_with fail
        refine (rows_none q2 c2 _).mono ?_
        rintro e w5 ⟨rfl, hb5⟩
        have HB5 := Vl.hid (Vl.btr HB4.out hb5)
        clear hb5 HB4
        go_wp2_with fail
        go_loopw [11] (fun vi wl => vi = .int .i64 0 ∧ Hid (Below w.heap.size w wl)) (fun _ _ => 0)
        case atStart => exact ⟨rfl, HB5⟩
        case round =>
          obtain ⟨rfl, HB⟩ := hrel
          rename World => wl
          clear HB5
          go_wp2_with fail
          refine (copyRows_any (some ⟨w3.heap.size, 0, none⟩) 0 0 [] _ rfl (Nat.zero_le _) (by omega) HM (Vl.hid (HN.out _ _))).mono ?_
          rintro e w6 ⟨v, sl6, rfl, hown, _, hb6⟩
          obtain ⟨q6, c6, rfl⟩ := Vl.own_zero hown
          have HB6 := Vl.hid (Vl.btr HB.out hb6)
          clear hown hb6 HB
          go_wp2_with fail
          refine (rows_none q6 c6 _).mono ?_
          rintro e w7 ⟨rfl, hb7⟩
          have HB7 := Vl.hid (Vl.btr HB6.out hb7)
          clear hb7 HB6
          go_wp2_with fail
          refine (keepRows_same _ _ 0 0 0 [] _ rfl (by omega) (Nat.le_refl _) (Nat.le_refl _) HM2 (Vl.hid (HN.out _ _)) (Vl.hid (HN.out _ _))).mono ?_
          rintro e w8 ⟨rfl, hb8⟩
          have HB8 := Vl.hid (Vl.btr HB7.out hb8)
          clear hb8 HB7
          go_wp2_with fail
          refine (wakes_any _).mono ?_
          rintro e w' ⟨rfl, hb⟩
          go_wp2_with fail
          go_ret
          exact ⟨rfl, Vl.btr HB8.out hb⟩
      · go_wp2_with fail
        refine (copyRows_any p 0 c [] _ rfl (Nat.zero_le _) (by omega) HM (Vl.hid (HN.out _ _))).mono ?_
        rintro e w3 ⟨v, sl3, rfl, hown, _, hb3⟩
        obtain ⟨q3, c3, rfl⟩ := Vl.own_zero hown
        have HB3 := Vl.hid (Vl.btr HB.out hb3)
        clear hown hb3 HB
        go_wp2_with fail
        refine (rows_none q3 c3 _).mono ?_
        rintro e w4 ⟨rfl, hb4⟩
        have HB4 := Vl.hid (Vl.btr HB3.out hb4)
        clear hb4 HB3
        go_wp2_with fail
        refine (rows_none q2 c2 _).mono ?_
        rintro e w5 ⟨rfl, hb5⟩
        have HB5 := Vl.hid (Vl.btr HB4.out hb5)
        clear hb5 HB4
        go_wp2_with fail
        go_loopw [11] (fun vi wl => vi = .int .i64 0 ∧ Hid (Below w.heap.size w wl)) (fun _ _ => 0)
        case atStart => exact ⟨rfl, HB5⟩
        case round =>
          obtain ⟨rfl, HB⟩ := hrel
          rename World => wl
          clear HB5
          go_wp2_with fail
          refine (copyRows_any (some ⟨w3.heap.size, 0, none⟩) 0 0 [] _ rfl (Nat.zero_le _) (by omega) HM (Vl.hid (HN.out _ _))).mono ?_
          rintro e w6 ⟨v, sl6, rfl, hown, _, hb6⟩
          obtain ⟨q6, c6, rfl⟩ := Vl.own_zero hown
          have HB6 := Vl.hid (Vl.btr HB.out hb6)
          clear hown hb6 HB
          go_wp2_with fail
          refine (rows_none q6 c6 _).mono ?_
          rintro e w7 ⟨rfl, hb7⟩
          have HB7 := Vl.hid (Vl.btr HB6.out hb7)
          clear hb7 HB6
          go_wp2_with fail
          refine (keepRows_same _ _ 0 0 0 [] _ rfl (by omega) (Nat.le_refl _) (Nat.le_refl _) HM2 (Vl.hid (HN.out _ _)) (Vl.hid (HN.out _ _))).mono ?_
          rintro e w8 ⟨rfl, hb8⟩
          have HB8 := Vl.hid (Vl.btr HB7.out hb8)
          clear hb8 HB7
          go_wp2_with fail
          refine (wakes_any _).mono ?_
          rintro e w' ⟨rfl, hb⟩
          go_wp2_with fail
          go_ret
          exact ⟨rfl, Vl.btr HB8.out hb⟩
  · go_wp2_with fail
    refine (wakes_any _).mono ?_
    rintro e w' ⟨rfl, hb⟩
    go_wp2_with fail
    go_ret
    exact ⟨rfl, Vl.btr HB1.out hb⟩

theorem orders_any (p pt : Option Addr) (n c nt ct : Nat) (rs : List (List Vl.V)) (w : World) (hx : rs.length = n) (hn : n ≤ c) (hnt : nt ≤ ct) (H : Hid (Vl.RsIn w p rs)) (HT : Hid (Vl.IntsIn w pt nt)) :
    Calls Try.prog 8 #[.slice p n c, .slice pt nt ct] w fun e w' => e = .returned (.bool true) ∧ Below w.heap.size w w' := by
  by_cases h40 : 40 < n
  · exact orders_big p pt n c nt ct rs w hx hn (.inl h40) H
  by_cases h100 : 100 < nt
  · exact orders_big p pt n c nt ct rs w hx hn (.inr ⟨by omega, h100⟩) H
  by_cases h0 : n = 0
  · subst h0
    exact orders_zero p pt c nt ct w (by omega)
  exact orders_pos p pt n c nt ct rs w hx hn hnt (by omega) (by omega) (by omega) H HT

end Go.Proofs.Ytanljohnmaokeaa
