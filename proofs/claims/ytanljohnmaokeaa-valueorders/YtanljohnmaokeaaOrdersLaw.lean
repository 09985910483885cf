/- ValueOrders: the walk. -/
import Derived.Test.YtanljohnmaokeaaO7
import Derived.Test.YtanljohnmaokeaaO2
import Derived.Test.YtanljohnmaokeaaX1
namespace Go.Proofs.Ytanljohnmaokeaa
open Go.RowKit
attribute [local go_sem] Fl.run_store_float

/-- Numbers that came in. -/
def Vl.IntsIn (w : World) (p : Option Addr) (n : Nat) : Prop := n = 0 ∨ ∃ b o, p = some ⟨b, o, none⟩ ∧ b < w.heap.size ∧ ∀ i, i < n → ∃ x, w.cell? ⟨b, o + i, none⟩ = some (.int .i64 x)

theorem Vl.modKeep {wr w0 w1 : World} {ad : Addr} {y : Value} (hq : w1 = w0) (h : w0.cell? ad = some y ∧ ∃ q, w0 = wr.drewN q) : w1.cell? ad = some y ∧ ∃ q, w1 = wr.drewN q := by rw [hq]; exact h

set_option maxRecDepth 100000 in
set_option maxHeartbeats 4000000 in
theorem orders_pos (p pt : Option Addr) (n c nt ct : Nat) (rs : List (List Vl.V)) (w : World) (hx : rs.length = n) (hn : n ≤ c) (_hnt : nt ≤ ct) (hn0 : 0 < n) (hn40 : n ≤ 40) (hnt100 : nt ≤ 100) (H : Hid (Vl.RsIn w p rs)) (HT : Hid (Vl.IntsIn w pt nt)) :
    Calls Try.prog 8 #[.slice p n c, .slice pt nt ct] w fun e w' => e = .returned (.bool true) ∧ Below w.heap.size w w' := by
  have HX := Vl.hid hx
  have h40 : decide ((40 : Int) < (n : Int)) = false := decide_eq_false (by omega)
  have h100 : decide ((100 : Int) < (nt : Int)) = false := decide_eq_false (by omega)
  clear hx
  go_enter Try.func8, Try.ntmps8
  go_wp2_with fail
  refine (largeRows_any p n c rs _ HX.out hn H).mono ?_
  rintro e w1 ⟨b, rfl, hbf, hb1⟩
  have HBF := Vl.hid hbf
  have HB1 := Vl.hid hb1
  clear hbf hb1
  cases b
  · have HM : Hid (∀ (j : Nat) (xs : List Vl.V), rs[j]? = some xs → xs.length ≤ 1000) := Vl.hid (fun j xs hj => by have := ((HBF.out rfl).2 j xs hj).1; omega)
    have HL1 := Vl.hid (H.out.below HB1.out)
    go_wp2_with fail
    refine (copyRows_any p n c rs _ HX.out hn (by omega) HM HL1).mono ?_
    rintro e w2 ⟨v, sl, rfl, hown, hcopy, hb2⟩
    obtain ⟨g, cap, rfl⟩ : ∃ g cap, v = .slice (some ⟨g, 0, none⟩) n cap := by
      rcases hown.2 with ⟨_, h0⟩ | ⟨g, cap, cur, hv, _⟩
      · omega
      · exact ⟨g, cap, hv⟩
    have HO := Vl.hid hown
    have HC := Vl.hid hcopy
    have HBB := Vl.hid hb2
    have HB2 := Vl.hid (Vl.btr HB1.out hb2)
    have HL2 := Vl.hid (HL1.out.below hb2)
    have hcap : n ≤ cap := by
      rcases hown.2 with ⟨e, _⟩ | ⟨g', cap', cur, hv, _, _, h4, _⟩
      · cases e
      · cases hv; exact h4
    clear hown hcopy hb2
    have hbase : w.heap.size ≤ w1.heap.size := HB1.out.size
    go_wp2_with fail
    go_loopw [6] (fun vi wr => ∃ (i : Nat) (sl' : List Value) (rs' : List (List Vl.V)), i ≤ nt ∧ vi = .int .i64 (i : Int) ∧ Hid (wr.ownsRow w1.heap.size 42 1 (.slice (some ⟨g, 0, none⟩) n cap) n sl') ∧ Hid (Vl.CopyAt wr sl' rs' n) ∧ Hid (rs'.Perm rs) ∧ Hid (Below w1.heap.size w1 wr)) (fun vi _ => nt - (RowKit.intOf vi).toNat)
    case atStart => exact ⟨0, sl, rs, by omega, rfl, HO, HC, List.Perm.refl _, HBB⟩
    case round =>
      obtain ⟨i, sl', rs', hi, rfl, HO', HC', HP, HB⟩ := hrel
      rename World => wr
      by_cases hlt : i < nt
      · obtain ⟨bt, ot, hpt, hbt, hcell⟩ : ∃ b o, pt = some ⟨b, o, none⟩ ∧ b < w.heap.size ∧ ∀ i, i < nt → ∃ x, w.cell? ⟨b, o + i, none⟩ = some (.int .i64 x) := by
          rcases HT.out with h | h
          · omega
          · exact h
        obtain ⟨x, hx0⟩ := hcell i hlt
        have hxr : wr.cell? ⟨bt, ot + i, none⟩ = some (.int .i64 x) := by rw [(Vl.bcell (Vl.btr HB1.out HB.out)).1 _ _ hbt]; exact hx0
        have htm : (i : Int).tmod (n : Int) = ((i % n : Nat) : Int) := by rw [Int.ofNat_tmod]
        obtain ⟨a, ha, hae⟩ : ∃ a, a < n ∧ i % n = a := ⟨_, Nat.mod_lt _ hn0, rfl⟩
        rw [hae] at htm
        have hnz : ¬ (n : Int) = 0 := by omega
        have hnp : (0 : Int) < (n : Int) := by omega
        have hnn : ¬ n = 0 := by omega
        clear hcell hx0 hae
        subst hpt
        have hlen' : rs'.length = n := HP.out.length_eq.trans HX.out
        have each : ∀ j, j < n → ∃ b l k, wr.cell? ⟨g, j, none⟩ = some (.slice (some ⟨b, 0, none⟩) l k) ∧ wr.frozen? ⟨g, j, none⟩ = false ∧ sl'[j]? = some (.slice (some ⟨b, 0, none⟩) l k) := fun j hj => by
          obtain ⟨b, k, h1, _⟩ := HC'.out j (rs'[j]'(by omega)) hj (List.getElem?_eq_getElem _)
          exact ⟨b, _, k, (HO'.out.cellAt j (by omega)).trans h1, HO'.out.frozenAt j, h1⟩
        have EACH := Vl.hid each
        clear each
        go_wp2_with fail
        go_region_held3 (fun w' => w'.cell? ⟨bt, ot + i, none⟩ = some (.int .i64 x) ∧ ∃ q, w' = wr.drewN q)
          (first | exact ⟨hxr, 1, rfl⟩ | exact Vl.modKeep hq (by assumption))
          (first | (go_at_call 34; refine (mod_any x n _ hn0 (by omega)).mono ?_; rintro e w' ⟨r, hr, rfl, hq⟩))
        clear hq
        by_cases har : a = r
        · subst har
          obtain ⟨b1, l1, k1, ca, fa, sa⟩ := EACH.out a ha
          have hai : (a : Int) < (n : Int) := by omega
          go_wp2_with fail
          go_region_with (fail)
          all_goals
            go_wp2_with fail
            obtain ⟨sl2, rs2, t1, t2, t3, t4⟩ := Vl.swap_step HO'.out HC'.out hlen' HB.out ha ha sa sa
            exact ⟨⟨i + 1, sl2, rs2, by omega, by go_num, Vl.hid (Vl.ownsRow_drew (Vl.ownsRow_drew t1)), Vl.hid t2.drew.drew, Vl.hid (t3.trans HP.out), Vl.hid (Vl.bdrewN (Vl.bdrewN t4 1) 1)⟩, by simp [RowKit.intOf]; omega⟩
        · obtain ⟨b1, l1, k1, ca, fa, sa⟩ := EACH.out a ha
          obtain ⟨b2, l2, k2, cr, fr, sr⟩ := EACH.out r hr
          have hai : (a : Int) < (n : Int) := by omega
          have hri : (r : Int) < (n : Int) := by omega
          have har' : ¬ r = a := fun e => har e.symm
          go_wp2_with fail
          go_region_with (fail)
          all_goals
            go_wp2_with fail
            obtain ⟨sl2, rs2, t1, t2, t3, t4⟩ := Vl.swap_step HO'.out HC'.out hlen' HB.out ha hr sa sr
            exact ⟨⟨i + 1, sl2, rs2, by omega, by go_num, Vl.hid (Vl.ownsRow_drew (Vl.ownsRow_drew t1)), Vl.hid t2.drew.drew, Vl.hid (t3.trans HP.out), Vl.hid (Vl.bdrewN (Vl.bdrewN t4 1) 1)⟩, by simp [RowKit.intOf]; omega⟩
      · have hd : decide ((i : Int) < (nt : Int)) = false := decide_eq_false (by omega)
        have hlen' : rs'.length = n := HP.out.length_eq.trans HX.out
        have HL3 := Vl.hid (H.out.below (Vl.btr HB1.out HB.out))
        have HM' : Hid (∀ (j : Nat) (xs : List Vl.V), rs'[j]? = some xs → xs.length ≤ 1000) := Vl.hid (Vl.perm_len HP.out HM.out)
        have HLEN := Vl.hid hlen'
        clear hlen'
        go_wp2_with fail
        refine (copyRows_any p n c rs _ HX.out hn (by omega) HM HL3).mono ?_
        rintro e w3 ⟨v, sl3, rfl, hown, hcopy, hb3⟩
        obtain ⟨g3, cap3, rfl⟩ : ∃ g cap, v = .slice (some ⟨g, 0, none⟩) n cap := by
          rcases hown.2 with ⟨_, h0⟩ | ⟨g, cap, cur, hv, _⟩
          · omega
          · exact ⟨g, cap, hv⟩
        obtain ⟨_, _, _, hcap3⟩ := Vl.row_block hown
        have HI3 := Vl.hid (Vl.copy_in hown hcopy HX.out HM.out)
        have HO3 := Vl.hid (Vl.own_below HO'.out hb3)
        have HC3 := Vl.hid (HC'.out.below hb3)
        have HB3 := Vl.hid (Vl.btr HB.out hb3)
        clear hown hcopy hb3
        go_wp2_with fail
        refine (rows_any g3 0 cap3 rs _ HI3.out.1 (Vl.hid HI3.out.2) n HX hn0 (by omega) hcap3).mono ?_
        rintro e w4 ⟨rs4, rfl, hp4, hs4, ho4, hb4, hz4⟩
        have HP4 := Vl.hid (And.intro hp4 hs4)
        have HX4 := Vl.hid (Vl.out_in ho4 hz4)
        have HO4 := Vl.hid (Vl.own_below HO3.out hb4)
        have HC4 := Vl.hid (HC3.out.below hb4)
        have HB4 := Vl.hid (Vl.btr HB3.out hb4)
        have HI4 := Vl.hid (Vl.copy_in HO4.out HC4.out HLEN.out HM'.out)
        clear hp4 hs4 ho4 hb4 hz4
        go_wp2_with fail
        refine (rows_any g 0 cap rs' _ HI4.out.1 (Vl.hid HI4.out.2) n HLEN hn0 (by omega) hcap).mono ?_
        rintro e w5 ⟨rs5, rfl, hp5, hs5, ho5, hb5, hz5⟩
        obtain rfl : rs5 = rs4 := Vl.sorted_one (hp5.trans (HP.out.trans HP4.out.1.symm)) hs5 HP4.out.2
        have HY5 := Vl.hid (Vl.out_in ho5 hz5)
        have HX5 := Vl.hid (HX4.out.below hb5)
        have HB5 := Vl.hid (Vl.btr HB4.out hb5)
        have HN5 : Hid (rs5.length = n) := Vl.hid (HP4.out.1.length_eq.trans HX.out)
        have HM5 : Hid (∀ (j : Nat) (xs : List Vl.V), rs5[j]? = some xs → xs.length ≤ 1000) := Vl.hid (Vl.perm_len HP4.out.1 HM.out)
        clear hp5 hs5 ho5 hb5 hz5 HO3 HC3 HB3 HO4 HC4 HB4 HI4 HI3 HX4
        generalize w3.heap.size = X at *
        generalize w4.heap.size = Y at *
        obtain ⟨hXl, hXr⟩ := HX5.out.get (by rw [HN5.out]; exact hn0)
        obtain ⟨hYl, hYr⟩ := HY5.out.get (by rw [HN5.out]; exact hn0)
        have HXr := Vl.hid hXr
        have HYr := Vl.hid hYr
        clear hXr hYr
        have hnn : ((n : Int) != (n : Int)) = false := by simp
        go_wp2_with fail
        go_loopw [11] (fun vi wl => ∃ k : Nat, k ≤ n ∧ vi = .int .i64 (k : Int) ∧ Hid (Below w5.heap.size w5 wl)) (fun vi _ => n - (RowKit.intOf vi).toNat)
        case atStart => exact ⟨0, by omega, rfl, Below.refl _ _⟩
        case round =>
          obtain ⟨k, hk, rfl, HW⟩ := hrel
          rename World => wl
          by_cases hlk : k < n
          · obtain ⟨xs, hv⟩ : ∃ xs, rs5[k]? = some xs := ⟨rs5[k]'(by rw [HN5.out]; exact hlk), List.getElem?_eq_getElem _⟩
            obtain ⟨qa, da, e1, e2, _, e4⟩ := HXr.out.below hXl HW.out k xs hv
            obtain ⟨qb, db, f1, f2, _, f4⟩ := HYr.out.below hYl HW.out k xs hv
            rw [Nat.zero_add] at e1 f1
            obtain ⟨m, hm⟩ : ∃ m, m = xs.length := ⟨_, rfl⟩
            rw [← hm] at e1 e2 f1 f2
            have HQ := Vl.hid (And.intro hm.symm (And.intro (by have := HM5.out k xs hv; omega : m ≤ 100000) (And.intro e2 (And.intro f2 (And.intro e4 f4)))))
            have hX' : X < wl.heap.size := Nat.lt_of_lt_of_le hXl HW.out.size
            have hY' : Y < wl.heap.size := Nat.lt_of_lt_of_le hYl HW.out.size
            by_cases hk0 : k = 0
            · subst hk0
              have HS : Hid (Vl.TwoC X 0 Y 0 (.slice qa m da) (.slice qb m db) wl wl) := Vl.hid ⟨e1, f1, hX', hY', Below.refl _ _⟩
              clear hv e1 e2 e4 f1 f2 f4 hm
              go_wp2_with fail
              refine wp_region_held_drew (S := (fun w' => w'.cell? ⟨X, 0, none⟩ = some (.slice qa m da) ∧ w'.cell? ⟨Y, 0, none⟩ = some (.slice qb m db) ∧ X < w'.heap.size ∧ Y < w'.heap.size ∧ Below wl.heap.size wl w')) (by kernel_rfl) (Vl.twoCDrew HS.out) (fun hHeld => ?_)
              refine wpAnyH_take (i := 0) (oi := ?oz0) (v := ?vz0) ?hiz0 ?hsz0 ?hfz0 ?hrz0 ?hQz0 (Or.inl ⟨?hwz0, ?hyz0⟩) ?hSz0 ?restz0
              case hiz0 => (simp; rfl)
              case hsz0 => kernel_rfl
              case hfz0 => kernel_rfl
              case hrz0 => kernel_rfl
              case hQz0 => exact fun _ _ _ h => h
              case hwz0 => rfl
              case hyz0 => (intro wq hSq; (try dsimp only at hSq); go_simp; (try with_reducible rfl))
              case hSz0 => assumption
              simp only [Act.put, List.setIfInBounds_toArray, List.set_cons_zero, List.set_cons_succ]
              refine wpAnyH_take (i := 1) (oi := ?oz1) (v := ?vz1) ?hiz1 ?hsz1 ?hfz1 ?hrz1 ?hQz1 (Or.inl ⟨?hwz1, ?hyz1⟩) ?hSz1 ?restz1
              case hiz1 => (simp; rfl)
              case hsz1 => kernel_rfl
              case hfz1 => kernel_rfl
              case hrz1 => kernel_rfl
              case hQz1 => exact fun _ _ _ h => h
              case hwz1 => rfl
              case hyz1 => (intro wq hSq; (try dsimp only at hSq); go_simp; (try with_reducible rfl))
              case hSz1 => assumption
              simp only [Act.put, List.setIfInBounds_toArray, List.set_cons_zero, List.set_cons_succ]
              refine wpAnyH_take (i := 2) (oi := ?oz2) (v := ?vz2) ?hiz2 ?hsz2 ?hfz2 ?hrz2 ?hQz2 (Or.inl ⟨?hwz2, ?hyz2⟩) ?hSz2 ?restz2
              case hiz2 => (simp; rfl)
              case hsz2 => kernel_rfl
              case hfz2 => kernel_rfl
              case hrz2 => kernel_rfl
              case hQz2 => exact fun _ _ _ h => h
              case hwz2 => rfl
              case hyz2 => (intro wq hSq; (try dsimp only at hSq); go_simp; (try with_reducible rfl))
              case hSz2 => assumption
              simp only [Act.put, List.setIfInBounds_toArray, List.set_cons_zero, List.set_cons_succ]
              refine wpAnyH_take (i := 3) (oi := ?oz3) (v := ?vz3) ?hiz3 ?hsz3 ?hfz3 ?hrz3 ?hQz3 (Or.inl ⟨?hwz3, ?hyz3⟩) ?hSz3 ?restz3
              case hiz3 => (simp; rfl)
              case hsz3 => kernel_rfl
              case hfz3 => kernel_rfl
              case hrz3 => kernel_rfl
              case hQz3 => exact fun _ _ _ h => h
              case hwz3 => rfl
              case hyz3 => (intro wq hSq; (try dsimp only at hSq); go_simp; (try with_reducible rfl))
              case hSz3 => assumption
              simp only [Act.put, List.setIfInBounds_toArray, List.set_cons_zero, List.set_cons_succ]
              refine wpAnyH_take (i := 4) (oi := ?oz4) (v := ?vz4) ?hiz4 ?hsz4 ?hfz4 ?hrz4 ?hQz4 (Or.inl ⟨?hwz4, ?hyz4⟩) ?hSz4 ?restz4
              case hiz4 => (simp; rfl)
              case hsz4 => kernel_rfl
              case hfz4 => kernel_rfl
              case hrz4 => kernel_rfl
              case hQz4 => exact fun _ _ _ h => h
              case hwz4 => rfl
              case hyz4 => (intro wq hSq; (try dsimp only at hSq); go_simp; (try with_reducible rfl))
              case hSz4 => assumption
              simp only [Act.put, List.setIfInBounds_toArray, List.set_cons_zero, List.set_cons_succ]
              refine wpAnyH_take (i := 5) (oi := ?oz5) (v := ?vz5) ?hiz5 ?hsz5 ?hfz5 ?hrz5 ?hQz5 (Or.inl ⟨?hwz5, ?hyz5⟩) ?hSz5 ?restz5
              case hiz5 => (simp; rfl)
              case hsz5 => kernel_rfl
              case hfz5 => kernel_rfl
              case hrz5 => kernel_rfl
              case hQz5 => exact fun _ _ _ h => h
              case hwz5 => rfl
              case hyz5 => (intro wq hSq; (try dsimp only at hSq); go_simp; (try with_reducible rfl))
              case hSz5 => assumption
              simp only [Act.put, List.setIfInBounds_toArray, List.set_cons_zero, List.set_cons_succ]
              refine wpAnyH_take (i := 6) (oi := ?oz6) (v := ?vz6) ?hiz6 ?hsz6 ?hfz6 ?hrz6 ?hQz6 (Or.inl ⟨?hwz6, ?hyz6⟩) ?hSz6 ?restz6
              case hiz6 => (simp; rfl)
              case hsz6 => kernel_rfl
              case hfz6 => kernel_rfl
              case hrz6 => kernel_rfl
              case hQz6 => exact fun _ _ _ h => h
              case hwz6 => rfl
              case hyz6 => (intro wq hSq; (try dsimp only at hSq); go_simp; (try with_reducible rfl))
              case hSz6 => assumption
              simp only [Act.put, List.setIfInBounds_toArray, List.set_cons_zero, List.set_cons_succ]
              refine wpAnyH_take (i := 7) (oi := ?oz7) (v := ?vz7) ?hiz7 ?hsz7 ?hfz7 ?hrz7 ?hQz7 (Or.inl ⟨?hwz7, ?hyz7⟩) ?hSz7 ?restz7
              case hiz7 => (simp; rfl)
              case hsz7 => kernel_rfl
              case hfz7 => kernel_rfl
              case hrz7 => kernel_rfl
              case hQz7 => exact fun _ _ _ h => h
              case hwz7 => rfl
              case hyz7 => (intro wq hSq; (try dsimp only at hSq); go_simp; (try with_reducible rfl))
              case hSz7 => assumption
              simp only [Act.put, List.setIfInBounds_toArray, List.set_cons_zero, List.set_cons_succ]
              refine wpAnyH_ready (rs := [8]) (by kernel_rfl) (by simp) ?_
              refine AllReadyH.cons (o := ?oz8) ?hiz8 (fun K hK => ?_) AllReadyH.nil
              case hiz8 => (simp; rfl)
              go_simp
              refine (refSame_same qa qb m da db xs _ HQ.out.1 HQ.out.2.1 HQ.out.2.2.1 HQ.out.2.2.2.1 (Vl.hid (HQ.out.2.2.2.2.1.below (Vl.bdrewN (Below.refl _ _) 1))) (Vl.hid (HQ.out.2.2.2.2.2.below (Vl.bdrewN (Below.refl _ _) 1)))).mono ?_
              rintro e w6 ⟨rfl, hb⟩
              go_wp2_with fail
              refine hK.out _ _ ?_ (fun hHeld => ?_)
              · exact Vl.twoCKeep hb hHeld
              clear hK K
              refine wpAnyH_take (i := 9) (oi := ?oz9) (v := ?vz9) ?hiz9 ?hsz9 ?hfz9 ?hrz9 ?hQz9 (Or.inl ⟨?hwz9, ?hyz9⟩) ?hSz9 ?restz9
              case hiz9 => (simp; rfl)
              case hsz9 => kernel_rfl
              case hfz9 => kernel_rfl
              case hrz9 => kernel_rfl
              case hQz9 => exact fun _ _ _ h => h
              case hwz9 => rfl
              case hyz9 => (intro wq hSq; (try dsimp only at hSq); go_simp; (try with_reducible rfl))
              case hSz9 => assumption
              simp only [Act.put, List.setIfInBounds_toArray, List.set_cons_zero, List.set_cons_succ]
              refine wpAnyH_take (i := 10) (oi := ?oz10) (v := ?vz10) ?hiz10 ?hsz10 ?hfz10 ?hrz10 ?hQz10 (Or.inl ⟨?hwz10, ?hyz10⟩) ?hSz10 ?restz10
              case hiz10 => (simp; rfl)
              case hsz10 => kernel_rfl
              case hfz10 => kernel_rfl
              case hrz10 => kernel_rfl
              case hQz10 => exact fun _ _ _ h => h
              case hwz10 => rfl
              case hyz10 => (intro wq hSq; (try dsimp only at hSq); go_simp; (try with_reducible rfl))
              case hSz10 => assumption
              simp only [Act.put, List.setIfInBounds_toArray, List.set_cons_zero, List.set_cons_succ]
              refine wpAnyH_take (i := 11) (oi := ?oz11) (v := ?vz11) ?hiz11 ?hsz11 ?hfz11 ?hrz11 ?hQz11 (Or.inl ⟨?hwz11, ?hyz11⟩) ?hSz11 ?restz11
              case hiz11 => (simp; rfl)
              case hsz11 => kernel_rfl
              case hfz11 => kernel_rfl
              case hrz11 => kernel_rfl
              case hQz11 => exact fun _ _ _ h => h
              case hwz11 => rfl
              case hyz11 => (intro wq hSq; (try dsimp only at hSq); go_simp; (try with_reducible rfl))
              case hSz11 => assumption
              simp only [Act.put, List.setIfInBounds_toArray, List.set_cons_zero, List.set_cons_succ]
              refine wpAnyH_take (i := 12) (oi := ?oz12) (v := ?vz12) ?hiz12 ?hsz12 ?hfz12 ?hrz12 ?hQz12 (Or.inl ⟨?hwz12, ?hyz12⟩) ?hSz12 ?restz12
              case hiz12 => (simp; rfl)
              case hsz12 => kernel_rfl
              case hfz12 => kernel_rfl
              case hrz12 => kernel_rfl
              case hQz12 => exact fun _ _ _ h => h
              case hwz12 => rfl
              case hyz12 => (intro wq hSq; (try dsimp only at hSq); go_simp; (try with_reducible rfl))
              case hSz12 => assumption
              simp only [Act.put, List.setIfInBounds_toArray, List.set_cons_zero, List.set_cons_succ]
              refine wpAnyH_take (i := 13) (oi := ?oz13) (v := ?vz13) ?hiz13 ?hsz13 ?hfz13 ?hrz13 ?hQz13 (Or.inl ⟨?hwz13, ?hyz13⟩) ?hSz13 ?restz13
              case hiz13 => (simp; rfl)
              case hsz13 => kernel_rfl
              case hfz13 => kernel_rfl
              case hrz13 => kernel_rfl
              case hQz13 => exact fun _ _ _ h => h
              case hwz13 => rfl
              case hyz13 => (intro wq hSq; (try dsimp only at hSq); go_simp; (try with_reducible rfl))
              case hSz13 => assumption
              simp only [Act.put, List.setIfInBounds_toArray, List.set_cons_zero, List.set_cons_succ]
              refine wpAnyH_take (i := 14) (oi := ?oz14) (v := undef) ?hiz14 ?hsz14 ?hfz14 ?hrz14 ?hQz14 (Or.inr ⟨?hwz14, rfl⟩) ?hSz14 ?restz14
              case hiz14 => (simp; rfl)
              case hsz14 => kernel_rfl
              case hfz14 => kernel_rfl
              case hrz14 => kernel_rfl
              case hQz14 => exact fun _ _ _ h => h
              case hwz14 => rfl
              case hSz14 => assumption
              simp only [Act.put, List.setIfInBounds_toArray, List.set_cons_zero, List.set_cons_succ]
              refine wpAnyH_take (i := 15) (oi := ?oz15) (v := undef) ?hiz15 ?hsz15 ?hfz15 ?hrz15 ?hQz15 (Or.inr ⟨?hwz15, rfl⟩) ?hSz15 ?restz15
              case hiz15 => (simp; rfl)
              case hsz15 => kernel_rfl
              case hfz15 => kernel_rfl
              case hrz15 => kernel_rfl
              case hQz15 => exact fun _ _ _ h => h
              case hwz15 => rfl
              case hSz15 => assumption
              simp only [Act.put, List.setIfInBounds_toArray, List.set_cons_zero, List.set_cons_succ]
              refine wpAnyH_take (i := 16) (oi := ?oz16) (v := undef) ?hiz16 ?hsz16 ?hfz16 ?hrz16 ?hQz16 (Or.inr ⟨?hwz16, rfl⟩) ?hSz16 ?restz16
              case hiz16 => (simp; rfl)
              case hsz16 => kernel_rfl
              case hfz16 => kernel_rfl
              case hrz16 => kernel_rfl
              case hQz16 => exact fun _ _ _ h => h
              case hwz16 => rfl
              case hSz16 => assumption
              simp only [Act.put, List.setIfInBounds_toArray, List.set_cons_zero, List.set_cons_succ]
              refine wpAnyH_take (i := 17) (oi := ?oz17) (v := undef) ?hiz17 ?hsz17 ?hfz17 ?hrz17 ?hQz17 (Or.inr ⟨?hwz17, rfl⟩) ?hSz17 ?restz17
              case hiz17 => (simp; rfl)
              case hsz17 => kernel_rfl
              case hfz17 => kernel_rfl
              case hrz17 => kernel_rfl
              case hQz17 => exact fun _ _ _ h => h
              case hwz17 => rfl
              case hSz17 => assumption
              simp only [Act.put, List.setIfInBounds_toArray, List.set_cons_zero, List.set_cons_succ]
              refine wpAnyH_take (i := 18) (oi := ?oz18) (v := undef) ?hiz18 ?hsz18 ?hfz18 ?hrz18 ?hQz18 (Or.inr ⟨?hwz18, rfl⟩) ?hSz18 ?restz18
              case hiz18 => (simp; rfl)
              case hsz18 => kernel_rfl
              case hfz18 => kernel_rfl
              case hrz18 => kernel_rfl
              case hQz18 => exact fun _ _ _ h => h
              case hwz18 => rfl
              case hSz18 => assumption
              simp only [Act.put, List.setIfInBounds_toArray, List.set_cons_zero, List.set_cons_succ]
              refine wpAnyH_take (i := 19) (oi := ?oz19) (v := undef) ?hiz19 ?hsz19 ?hfz19 ?hrz19 ?hQz19 (Or.inr ⟨?hwz19, rfl⟩) ?hSz19 ?restz19
              case hiz19 => (simp; rfl)
              case hsz19 => kernel_rfl
              case hfz19 => kernel_rfl
              case hrz19 => kernel_rfl
              case hQz19 => exact fun _ _ _ h => h
              case hwz19 => rfl
              case hSz19 => assumption
              simp only [Act.put, List.setIfInBounds_toArray, List.set_cons_zero, List.set_cons_succ]
              refine wpAnyH_take (i := 20) (oi := ?oz20) (v := undef) ?hiz20 ?hsz20 ?hfz20 ?hrz20 ?hQz20 (Or.inr ⟨?hwz20, rfl⟩) ?hSz20 ?restz20
              case hiz20 => (simp; rfl)
              case hsz20 => kernel_rfl
              case hfz20 => kernel_rfl
              case hrz20 => kernel_rfl
              case hQz20 => exact fun _ _ _ h => h
              case hwz20 => rfl
              case hSz20 => assumption
              simp only [Act.put, List.setIfInBounds_toArray, List.set_cons_zero, List.set_cons_succ]
              refine wpAnyH_take (i := 21) (oi := ?oz21) (v := undef) ?hiz21 ?hsz21 ?hfz21 ?hrz21 ?hQz21 (Or.inr ⟨?hwz21, rfl⟩) ?hSz21 ?restz21
              case hiz21 => (simp; rfl)
              case hsz21 => kernel_rfl
              case hfz21 => kernel_rfl
              case hrz21 => kernel_rfl
              case hQz21 => exact fun _ _ _ h => h
              case hwz21 => rfl
              case hSz21 => assumption
              simp only [Act.put, List.setIfInBounds_toArray, List.set_cons_zero, List.set_cons_succ]
              refine wpAnyH_take (i := 22) (oi := ?oz22) (v := undef) ?hiz22 ?hsz22 ?hfz22 ?hrz22 ?hQz22 (Or.inr ⟨?hwz22, rfl⟩) ?hSz22 ?restz22
              case hiz22 => (simp; rfl)
              case hsz22 => kernel_rfl
              case hfz22 => kernel_rfl
              case hrz22 => kernel_rfl
              case hQz22 => exact fun _ _ _ h => h
              case hwz22 => rfl
              case hSz22 => assumption
              simp only [Act.put, List.setIfInBounds_toArray, List.set_cons_zero, List.set_cons_succ]
              refine wpAnyH_take (i := 23) (oi := ?oz23) (v := undef) ?hiz23 ?hsz23 ?hfz23 ?hrz23 ?hQz23 (Or.inr ⟨?hwz23, rfl⟩) ?hSz23 ?restz23
              case hiz23 => (simp; rfl)
              case hsz23 => kernel_rfl
              case hfz23 => kernel_rfl
              case hrz23 => kernel_rfl
              case hQz23 => exact fun _ _ _ h => h
              case hwz23 => rfl
              case hSz23 => assumption
              simp only [Act.put, List.setIfInBounds_toArray, List.set_cons_zero, List.set_cons_succ]
              refine wpAnyH_take (i := 24) (oi := ?oz24) (v := ?vz24) ?hiz24 ?hsz24 ?hfz24 ?hrz24 ?hQz24 (Or.inl ⟨?hwz24, ?hyz24⟩) ?hSz24 ?restz24
              case hiz24 => (simp; rfl)
              case hsz24 => kernel_rfl
              case hfz24 => kernel_rfl
              case hrz24 => kernel_rfl
              case hQz24 => exact fun _ _ _ h => h
              case hwz24 => rfl
              case hyz24 => (intro wq hSq; (try dsimp only at hSq); go_simp; (try with_reducible rfl))
              case hSz24 => assumption
              simp only [Act.put, List.setIfInBounds_toArray, List.set_cons_zero, List.set_cons_succ]
              refine wpAnyH_take (i := 25) (oi := ?oz25) (v := ?vz25) ?hiz25 ?hsz25 ?hfz25 ?hrz25 ?hQz25 (Or.inl ⟨?hwz25, ?hyz25⟩) ?hSz25 ?restz25
              case hiz25 => (simp; rfl)
              case hsz25 => kernel_rfl
              case hfz25 => kernel_rfl
              case hrz25 => kernel_rfl
              case hQz25 => exact fun _ _ _ h => h
              case hwz25 => rfl
              case hyz25 => (intro wq hSq; (try dsimp only at hSq); go_simp; (try with_reducible rfl))
              case hSz25 => assumption
              simp only [Act.put, List.setIfInBounds_toArray, List.set_cons_zero, List.set_cons_succ]
              refine wpAnyH_done (by kernel_rfl) ?_ _
              go_wp2_with fail
              exact ⟨⟨1, by omega, by go_num, Vl.btr HW.out (Vl.twoCB (b1 := X) (b2 := Y) (o1 := 0) (o2 := 0) (x := .slice qa m da) (y := .slice qb m db) hHeld)⟩, by simp [RowKit.intOf]; omega⟩
            · obtain ⟨j, hjk⟩ : ∃ j, k = j + 1 := ⟨k - 1, by omega⟩
              have hkj : (k : Int) - 1 = (j : Int) := by omega
              have hj1 : (k : Int) < (n : Int) := by omega
              have hj2 : (j : Int) < (n : Int) := by omega
              have hj3 : decide ((0 : Int) < (k : Int)) = true := decide_eq_true (by omega)
              have hj4 : 0 < k := by omega
              have hj6 : j < n := by omega
              have hw3 : IntKind.i64.wrap (j : Int) = (j : Int) := by rw [IntKind.wrap_i64]; omega
              have hw1 : IntKind.i64.wrap ((k : Int) - 1) = (j : Int) := by rw [IntKind.wrap_i64]; omega
              have hw2 : wrap64 ((k : Int) - 1) = (j : Int) := by unfold wrap64; omega
              have hj5 : (0 : Int) ≤ (j : Int) := by omega
              obtain ⟨ys, hu⟩ : ∃ ys, rs5[j]? = some ys := ⟨rs5[j]'(by rw [HN5.out]; omega), List.getElem?_eq_getElem _⟩
              obtain ⟨qc, dc, g1, g2, _, g4⟩ := HXr.out.below hXl HW.out j ys hu
              rw [Nat.zero_add] at g1
              obtain ⟨mc, hmc⟩ : ∃ m, m = ys.length := ⟨_, rfl⟩
              rw [← hmc] at g1 g2
              have HS : Hid (Vl.ThreeC X k Y k j (.slice qa m da) (.slice qb m db) (.slice qc mc dc) wl wl) := Vl.hid ⟨e1, f1, g1, hX', hY', Below.refl _ _⟩
              have HR := Vl.hid (And.intro hmc.symm (And.intro (by have := HM5.out j ys hu; omega : mc ≤ 100000) (And.intro g2 g4)))
              have HNOT := Vl.hid (Vl.sorted_not HP4.out.2 hu (by rw [← hjk]; exact hv))
              clear hv e1 e2 e4 f1 f2 f4 hm hu g1 g2 g4 hmc hjk hk0
              go_wp2_with fail
              refine wp_region_held_drew (S := (fun w' => w'.cell? ⟨X, k, none⟩ = some (.slice qa m da) ∧ w'.cell? ⟨Y, k, none⟩ = some (.slice qb m db) ∧ w'.cell? ⟨X, j, none⟩ = some (.slice qc mc dc) ∧ X < w'.heap.size ∧ Y < w'.heap.size ∧ Below wl.heap.size wl w')) (by kernel_rfl) (Vl.threeDrew HS.out) (fun hHeld => ?_)
              refine wpAnyH_take (i := 0) (oi := ?os0) (v := ?vs0) ?his0 ?hss0 ?hfs0 ?hrs0 ?hQs0 (Or.inl ⟨?hws0, ?hys0⟩) ?hSs0 ?rests0
              case his0 => (simp; rfl)
              case hss0 => kernel_rfl
              case hfs0 => kernel_rfl
              case hrs0 => kernel_rfl
              case hQs0 => exact fun _ _ _ h => h
              case hws0 => rfl
              case hys0 => (intro wq hSq; (try dsimp only at hSq); go_simp; (try with_reducible rfl))
              case hSs0 => assumption
              simp only [Act.put, List.setIfInBounds_toArray, List.set_cons_zero, List.set_cons_succ]
              refine wpAnyH_take (i := 1) (oi := ?os1) (v := ?vs1) ?his1 ?hss1 ?hfs1 ?hrs1 ?hQs1 (Or.inl ⟨?hws1, ?hys1⟩) ?hSs1 ?rests1
              case his1 => (simp; rfl)
              case hss1 => kernel_rfl
              case hfs1 => kernel_rfl
              case hrs1 => kernel_rfl
              case hQs1 => exact fun _ _ _ h => h
              case hws1 => rfl
              case hys1 => (intro wq hSq; (try dsimp only at hSq); go_simp; (try with_reducible rfl))
              case hSs1 => assumption
              simp only [Act.put, List.setIfInBounds_toArray, List.set_cons_zero, List.set_cons_succ]
              refine wpAnyH_take (i := 2) (oi := ?os2) (v := ?vs2) ?his2 ?hss2 ?hfs2 ?hrs2 ?hQs2 (Or.inl ⟨?hws2, ?hys2⟩) ?hSs2 ?rests2
              case his2 => (simp; rfl)
              case hss2 => kernel_rfl
              case hfs2 => kernel_rfl
              case hrs2 => kernel_rfl
              case hQs2 => exact fun _ _ _ h => h
              case hws2 => rfl
              case hys2 => (intro wq hSq; (try dsimp only at hSq); go_simp; (try with_reducible rfl))
              case hSs2 => assumption
              simp only [Act.put, List.setIfInBounds_toArray, List.set_cons_zero, List.set_cons_succ]
              refine wpAnyH_take (i := 3) (oi := ?os3) (v := ?vs3) ?his3 ?hss3 ?hfs3 ?hrs3 ?hQs3 (Or.inl ⟨?hws3, ?hys3⟩) ?hSs3 ?rests3
              case his3 => (simp; rfl)
              case hss3 => kernel_rfl
              case hfs3 => kernel_rfl
              case hrs3 => kernel_rfl
              case hQs3 => exact fun _ _ _ h => h
              case hws3 => rfl
              case hys3 => (intro wq hSq; (try dsimp only at hSq); go_simp; (try with_reducible rfl))
              case hSs3 => assumption
              simp only [Act.put, List.setIfInBounds_toArray, List.set_cons_zero, List.set_cons_succ]
              refine wpAnyH_take (i := 4) (oi := ?os4) (v := ?vs4) ?his4 ?hss4 ?hfs4 ?hrs4 ?hQs4 (Or.inl ⟨?hws4, ?hys4⟩) ?hSs4 ?rests4
              case his4 => (simp; rfl)
              case hss4 => kernel_rfl
              case hfs4 => kernel_rfl
              case hrs4 => kernel_rfl
              case hQs4 => exact fun _ _ _ h => h
              case hws4 => rfl
              case hys4 => (intro wq hSq; (try dsimp only at hSq); go_simp; (try with_reducible rfl))
              case hSs4 => assumption
              simp only [Act.put, List.setIfInBounds_toArray, List.set_cons_zero, List.set_cons_succ]
              refine wpAnyH_take (i := 5) (oi := ?os5) (v := ?vs5) ?his5 ?hss5 ?hfs5 ?hrs5 ?hQs5 (Or.inl ⟨?hws5, ?hys5⟩) ?hSs5 ?rests5
              case his5 => (simp; rfl)
              case hss5 => kernel_rfl
              case hfs5 => kernel_rfl
              case hrs5 => kernel_rfl
              case hQs5 => exact fun _ _ _ h => h
              case hws5 => rfl
              case hys5 => (intro wq hSq; (try dsimp only at hSq); go_simp; (try with_reducible rfl))
              case hSs5 => assumption
              simp only [Act.put, List.setIfInBounds_toArray, List.set_cons_zero, List.set_cons_succ]
              refine wpAnyH_take (i := 6) (oi := ?os6) (v := ?vs6) ?his6 ?hss6 ?hfs6 ?hrs6 ?hQs6 (Or.inl ⟨?hws6, ?hys6⟩) ?hSs6 ?rests6
              case his6 => (simp; rfl)
              case hss6 => kernel_rfl
              case hfs6 => kernel_rfl
              case hrs6 => kernel_rfl
              case hQs6 => exact fun _ _ _ h => h
              case hws6 => rfl
              case hys6 => (intro wq hSq; (try dsimp only at hSq); go_simp; (try with_reducible rfl))
              case hSs6 => assumption
              simp only [Act.put, List.setIfInBounds_toArray, List.set_cons_zero, List.set_cons_succ]
              refine wpAnyH_take (i := 7) (oi := ?os7) (v := ?vs7) ?his7 ?hss7 ?hfs7 ?hrs7 ?hQs7 (Or.inl ⟨?hws7, ?hys7⟩) ?hSs7 ?rests7
              case his7 => (simp; rfl)
              case hss7 => kernel_rfl
              case hfs7 => kernel_rfl
              case hrs7 => kernel_rfl
              case hQs7 => exact fun _ _ _ h => h
              case hws7 => rfl
              case hys7 => (intro wq hSq; (try dsimp only at hSq); go_simp; (try with_reducible rfl))
              case hSs7 => assumption
              simp only [Act.put, List.setIfInBounds_toArray, List.set_cons_zero, List.set_cons_succ]
              refine wpAnyH_ready (rs := [8]) (by kernel_rfl) (by simp) ?_
              refine AllReadyH.cons (o := ?os8) ?his8 (fun K hK => ?_) AllReadyH.nil
              case his8 => (simp; rfl)
              go_simp
              refine (refSame_same qa qb m da db xs _ HQ.out.1 HQ.out.2.1 HQ.out.2.2.1 HQ.out.2.2.2.1 (Vl.hid (HQ.out.2.2.2.2.1.below (Vl.bdrewN (Below.refl _ _) 1))) (Vl.hid (HQ.out.2.2.2.2.2.below (Vl.bdrewN (Below.refl _ _) 1)))).mono ?_
              rintro e w6 ⟨rfl, hb⟩
              go_wp2_with fail
              refine hK.out _ _ ?_ (fun hHeld2 => ?_)
              · exact Vl.threeKeep hb hHeld
              clear hK K
              have hb6 := hb
              clear hb hHeld
              refine wpAnyH_take (i := 9) (oi := ?os9) (v := ?vs9) ?his9 ?hss9 ?hfs9 ?hrs9 ?hQs9 (Or.inl ⟨?hws9, ?hys9⟩) ?hSs9 ?rests9
              case his9 => (simp; rfl)
              case hss9 => kernel_rfl
              case hfs9 => kernel_rfl
              case hrs9 => kernel_rfl
              case hQs9 => exact fun _ _ _ h => h
              case hws9 => rfl
              case hys9 => (intro wq hSq; (try dsimp only at hSq); go_simp; (try with_reducible rfl))
              case hSs9 => assumption
              simp only [Act.put, List.setIfInBounds_toArray, List.set_cons_zero, List.set_cons_succ]
              refine wpAnyH_take (i := 10) (oi := ?os10) (v := ?vs10) ?his10 ?hss10 ?hfs10 ?hrs10 ?hQs10 (Or.inl ⟨?hws10, ?hys10⟩) ?hSs10 ?rests10
              case his10 => (simp; rfl)
              case hss10 => kernel_rfl
              case hfs10 => kernel_rfl
              case hrs10 => kernel_rfl
              case hQs10 => exact fun _ _ _ h => h
              case hws10 => rfl
              case hys10 => (intro wq hSq; (try dsimp only at hSq); go_simp; (try with_reducible rfl))
              case hSs10 => assumption
              simp only [Act.put, List.setIfInBounds_toArray, List.set_cons_zero, List.set_cons_succ]
              refine wpAnyH_take (i := 11) (oi := ?os11) (v := ?vs11) ?his11 ?hss11 ?hfs11 ?hrs11 ?hQs11 (Or.inl ⟨?hws11, ?hys11⟩) ?hSs11 ?rests11
              case his11 => (simp; rfl)
              case hss11 => kernel_rfl
              case hfs11 => kernel_rfl
              case hrs11 => kernel_rfl
              case hQs11 => exact fun _ _ _ h => h
              case hws11 => rfl
              case hys11 => (intro wq hSq; (try dsimp only at hSq); go_simp; (try with_reducible rfl))
              case hSs11 => assumption
              simp only [Act.put, List.setIfInBounds_toArray, List.set_cons_zero, List.set_cons_succ]
              refine wpAnyH_take (i := 12) (oi := ?os12) (v := ?vs12) ?his12 ?hss12 ?hfs12 ?hrs12 ?hQs12 (Or.inl ⟨?hws12, ?hys12⟩) ?hSs12 ?rests12
              case his12 => (simp; rfl)
              case hss12 => kernel_rfl
              case hfs12 => kernel_rfl
              case hrs12 => kernel_rfl
              case hQs12 => exact fun _ _ _ h => h
              case hws12 => rfl
              case hys12 => (intro wq hSq; (try dsimp only at hSq); go_simp; (try with_reducible rfl))
              case hSs12 => assumption
              simp only [Act.put, List.setIfInBounds_toArray, List.set_cons_zero, List.set_cons_succ]
              refine wpAnyH_take (i := 13) (oi := ?os13) (v := ?vs13) ?his13 ?hss13 ?hfs13 ?hrs13 ?hQs13 (Or.inl ⟨?hws13, ?hys13⟩) ?hSs13 ?rests13
              case his13 => (simp; rfl)
              case hss13 => kernel_rfl
              case hfs13 => kernel_rfl
              case hrs13 => kernel_rfl
              case hQs13 => exact fun _ _ _ h => h
              case hws13 => rfl
              case hys13 => (intro wq hSq; (try dsimp only at hSq); go_simp; (try with_reducible rfl))
              case hSs13 => assumption
              simp only [Act.put, List.setIfInBounds_toArray, List.set_cons_zero, List.set_cons_succ]
              refine wpAnyH_take (i := 14) (oi := ?os14) (v := ?vs14) ?his14 ?hss14 ?hfs14 ?hrs14 ?hQs14 (Or.inl ⟨?hws14, ?hys14⟩) ?hSs14 ?rests14
              case his14 => (simp; rfl)
              case hss14 => kernel_rfl
              case hfs14 => kernel_rfl
              case hrs14 => kernel_rfl
              case hQs14 => exact fun _ _ _ h => h
              case hws14 => rfl
              case hys14 => (intro wq hSq; (try dsimp only at hSq); go_simp; (try with_reducible rfl))
              case hSs14 => assumption
              simp only [Act.put, List.setIfInBounds_toArray, List.set_cons_zero, List.set_cons_succ]
              refine wpAnyH_take (i := 15) (oi := ?os15) (v := ?vs15) ?his15 ?hss15 ?hfs15 ?hrs15 ?hQs15 (Or.inl ⟨?hws15, ?hys15⟩) ?hSs15 ?rests15
              case his15 => (simp; rfl)
              case hss15 => kernel_rfl
              case hfs15 => kernel_rfl
              case hrs15 => kernel_rfl
              case hQs15 => exact fun _ _ _ h => h
              case hws15 => rfl
              case hys15 => (intro wq hSq; (try dsimp only at hSq); go_simp; (try with_reducible rfl))
              case hSs15 => assumption
              simp only [Act.put, List.setIfInBounds_toArray, List.set_cons_zero, List.set_cons_succ]
              refine wpAnyH_take (i := 16) (oi := ?os16) (v := ?vs16) ?his16 ?hss16 ?hfs16 ?hrs16 ?hQs16 (Or.inl ⟨?hws16, ?hys16⟩) ?hSs16 ?rests16
              case his16 => (simp; rfl)
              case hss16 => kernel_rfl
              case hfs16 => kernel_rfl
              case hrs16 => kernel_rfl
              case hQs16 => exact fun _ _ _ h => h
              case hws16 => rfl
              case hys16 => (intro wq hSq; (try dsimp only at hSq); go_simp; (try with_reducible rfl))
              case hSs16 => assumption
              simp only [Act.put, List.setIfInBounds_toArray, List.set_cons_zero, List.set_cons_succ]
              refine wpAnyH_take (i := 17) (oi := ?os17) (v := ?vs17) ?his17 ?hss17 ?hfs17 ?hrs17 ?hQs17 (Or.inl ⟨?hws17, ?hys17⟩) ?hSs17 ?rests17
              case his17 => (simp; rfl)
              case hss17 => kernel_rfl
              case hfs17 => kernel_rfl
              case hrs17 => kernel_rfl
              case hQs17 => exact fun _ _ _ h => h
              case hws17 => rfl
              case hys17 => (intro wq hSq; (try dsimp only at hSq); go_simp; (try with_reducible rfl))
              case hSs17 => assumption
              simp only [Act.put, List.setIfInBounds_toArray, List.set_cons_zero, List.set_cons_succ]
              refine wpAnyH_take (i := 18) (oi := ?os18) (v := ?vs18) ?his18 ?hss18 ?hfs18 ?hrs18 ?hQs18 (Or.inl ⟨?hws18, ?hys18⟩) ?hSs18 ?rests18
              case his18 => (simp; rfl)
              case hss18 => kernel_rfl
              case hfs18 => kernel_rfl
              case hrs18 => kernel_rfl
              case hQs18 => exact fun _ _ _ h => h
              case hws18 => rfl
              case hys18 => (intro wq hSq; (try dsimp only at hSq); go_simp; (try with_reducible rfl))
              case hSs18 => assumption
              simp only [Act.put, List.setIfInBounds_toArray, List.set_cons_zero, List.set_cons_succ]
              refine wpAnyH_take (i := 19) (oi := ?os19) (v := ?vs19) ?his19 ?hss19 ?hfs19 ?hrs19 ?hQs19 (Or.inl ⟨?hws19, ?hys19⟩) ?hSs19 ?rests19
              case his19 => (simp; rfl)
              case hss19 => kernel_rfl
              case hfs19 => kernel_rfl
              case hrs19 => kernel_rfl
              case hQs19 => exact fun _ _ _ h => h
              case hws19 => rfl
              case hys19 => (intro wq hSq; (try dsimp only at hSq); go_simp; (try with_reducible rfl))
              case hSs19 => assumption
              simp only [Act.put, List.setIfInBounds_toArray, List.set_cons_zero, List.set_cons_succ]
              refine wpAnyH_take (i := 20) (oi := ?os20) (v := ?vs20) ?his20 ?hss20 ?hfs20 ?hrs20 ?hQs20 (Or.inl ⟨?hws20, ?hys20⟩) ?hSs20 ?rests20
              case his20 => (simp; rfl)
              case hss20 => kernel_rfl
              case hfs20 => kernel_rfl
              case hrs20 => kernel_rfl
              case hQs20 => exact fun _ _ _ h => h
              case hws20 => rfl
              case hys20 => (intro wq hSq; (try dsimp only at hSq); go_simp; (try with_reducible rfl))
              case hSs20 => assumption
              simp only [Act.put, List.setIfInBounds_toArray, List.set_cons_zero, List.set_cons_succ]
              refine wpAnyH_take (i := 21) (oi := ?os21) (v := ?vs21) ?his21 ?hss21 ?hfs21 ?hrs21 ?hQs21 (Or.inl ⟨?hws21, ?hys21⟩) ?hSs21 ?rests21
              case his21 => (simp; rfl)
              case hss21 => kernel_rfl
              case hfs21 => kernel_rfl
              case hrs21 => kernel_rfl
              case hQs21 => exact fun _ _ _ h => h
              case hws21 => rfl
              case hys21 => (intro wq hSq; (try dsimp only at hSq); go_simp; (try with_reducible rfl))
              case hSs21 => assumption
              simp only [Act.put, List.setIfInBounds_toArray, List.set_cons_zero, List.set_cons_succ]
              refine wpAnyH_take (i := 22) (oi := ?os22) (v := ?vs22) ?his22 ?hss22 ?hfs22 ?hrs22 ?hQs22 (Or.inl ⟨?hws22, ?hys22⟩) ?hSs22 ?rests22
              case his22 => (simp; rfl)
              case hss22 => kernel_rfl
              case hfs22 => kernel_rfl
              case hrs22 => kernel_rfl
              case hQs22 => exact fun _ _ _ h => h
              case hws22 => rfl
              case hys22 => (intro wq hSq; (try dsimp only at hSq); go_simp; (try with_reducible rfl))
              case hSs22 => assumption
              simp only [Act.put, List.setIfInBounds_toArray, List.set_cons_zero, List.set_cons_succ]
              refine wpAnyH_ready (rs := [23]) (by kernel_rfl) (by simp) ?_
              refine AllReadyH.cons (o := ?os23) ?his23 (fun K hK => ?_) AllReadyH.nil
              case his23 => (simp; rfl)
              go_simp
              refine (ahead_any qa qc m mc da dc xs ys _ HQ.out.1 HR.out.1 HQ.out.2.1 HR.out.2.1 HQ.out.2.2.1 HR.out.2.2.1 (Vl.hid (HQ.out.2.2.2.2.1.below (Vl.threeB (b1 := X) (b2 := Y) (o1 := k) (o2 := k) (o3 := j) (x := .slice qa m da) (y := .slice qb m db) (z := .slice qc mc dc) hHeld2))) (Vl.hid (HR.out.2.2.2.below (Vl.threeB (b1 := X) (b2 := Y) (o1 := k) (o2 := k) (o3 := j) (x := .slice qa m da) (y := .slice qb m db) (z := .slice qc mc dc) hHeld2)))).mono ?_
              rintro e w7 ⟨rfl, hb⟩
              rw [HNOT.out]
              go_wp2_with fail
              refine hK.out _ _ ?_ (fun hHeld3 => ?_)
              · exact Vl.threeKeep hb hHeld2
              clear hK K
              have hb7 := hb
              clear hb
              refine wpAnyH_take (i := 24) (oi := ?os24) (v := ?vs24) ?his24 ?hss24 ?hfs24 ?hrs24 ?hQs24 (Or.inl ⟨?hws24, ?hys24⟩) ?hSs24 ?rests24
              case his24 => (simp; rfl)
              case hss24 => kernel_rfl
              case hfs24 => kernel_rfl
              case hrs24 => kernel_rfl
              case hQs24 => exact fun _ _ _ h => h
              case hws24 => rfl
              case hys24 => (intro wq hSq; (try dsimp only at hSq); go_simp; (try with_reducible rfl))
              case hSs24 => assumption
              simp only [Act.put, List.setIfInBounds_toArray, List.set_cons_zero, List.set_cons_succ]
              refine wpAnyH_take (i := 25) (oi := ?os25) (v := ?vs25) ?his25 ?hss25 ?hfs25 ?hrs25 ?hQs25 (Or.inl ⟨?hws25, ?hys25⟩) ?hSs25 ?rests25
              case his25 => (simp; rfl)
              case hss25 => kernel_rfl
              case hfs25 => kernel_rfl
              case hrs25 => kernel_rfl
              case hQs25 => exact fun _ _ _ h => h
              case hws25 => rfl
              case hys25 => (intro wq hSq; (try dsimp only at hSq); go_simp; (try with_reducible rfl))
              case hSs25 => assumption
              simp only [Act.put, List.setIfInBounds_toArray, List.set_cons_zero, List.set_cons_succ]
              refine wpAnyH_done (by kernel_rfl) ?_ _
              go_wp2_with fail
              exact ⟨⟨k + 1, by omega, by go_num, Vl.btr HW.out (Vl.threeB (b1 := X) (b2 := Y) (o1 := k) (o2 := k) (o3 := j) (x := .slice qa m da) (y := .slice qb m db) (z := .slice qc mc dc) hHeld3)⟩, by simp [RowKit.intOf]; omega⟩
          · have hd2 : decide ((k : Int) < (n : Int)) = false := decide_eq_false (by omega)
            have HL6 := Vl.hid (HX5.out.below HW.out)
            have HM6 : Hid (∀ (j : Nat) (xs : List Vl.V), rs5[j]? = some xs → xs.length ≤ 100000) := Vl.hid (fun j xs hj => by have := HM5.out j xs hj; omega)
            go_wp2_with fail
            refine (copyRows_any (some ⟨X, 0, none⟩) n n rs5 _ HN5.out (Nat.le_refl _) (by omega) HM5 HL6).mono ?_
            rintro e w6 ⟨v, sl6, rfl, hown, hcopy, hb6⟩
            obtain ⟨g6, cap6, rfl⟩ : ∃ g cap, v = .slice (some ⟨g, 0, none⟩) n cap := by
              rcases hown.2 with ⟨_, h0⟩ | ⟨g, cap, cur, hv, _⟩
              · omega
              · exact ⟨g, cap, hv⟩
            obtain ⟨_, _, _, hcap6⟩ := Vl.row_block hown
            have HI6 := Vl.hid (Vl.copy_in hown hcopy HN5.out HM5.out)
            have HX6 := Vl.hid (HL6.out.below hb6)
            have HB6 := Vl.hid (Vl.btr (Vl.btr HB1.out (Vl.btr HB5.out HW.out)) hb6)
            clear hown hcopy hb6
            go_wp2_with fail
            refine (rows_any g6 0 cap6 rs5 _ HI6.out.1 (Vl.hid HI6.out.2) n HN5 hn0 (by omega) hcap6).mono ?_
            rintro e w7 ⟨rs7, rfl, hp7, hs7, ho7, hb7, hz7⟩
            obtain rfl : rs7 = rs5 := Vl.sorted_one hp7 hs7 HP4.out.2
            have HY7 := Vl.hid (Vl.out_in ho7 hz7)
            have HX7 := Vl.hid (HX6.out.below hb7)
            have HB7 := Vl.hid (Vl.btr HB6.out hb7)
            clear hp7 hs7 ho7 hb7 hz7
            go_wp2_with fail
            refine (keepRows_same _ _ n n n _ _ HN5.out (by omega) (Nat.le_refl _) (Nat.le_refl _) HM6 HY7 HX7).mono ?_
            rintro e w8 ⟨rfl, hb8⟩
            have HB8 := Vl.hid (Vl.btr HB7.out hb8)
            clear hb8
            go_wp2_with fail
            refine (wakes_any _).mono ?_
            rintro e w' ⟨rfl, hb⟩
            go_wp2_with fail
            go_ret
            exact ⟨rfl, Vl.btr HB8.out hb⟩
  · go_wp2_with (first | (go_at_call 10; refine (wakes_any _).mono ?_; rintro e w' ⟨rfl, hb⟩))
    go_ret
    exact ⟨rfl, Vl.btr HB1.out hb⟩

end Go.Proofs.Ytanljohnmaokeaa
