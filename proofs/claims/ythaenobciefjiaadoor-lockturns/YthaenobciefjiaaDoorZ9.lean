/- LockTurns: the walk. -/
import Derived.Test.YthaenobciefjiaaDoorZ8
namespace Go.Proofs.YthaenobciefjiaaDoor
open Go.RowKit Go.Maps Go.ChangeMaps Go.MapKept Go.Sort Go.Shelf

namespace Lk
/-- Behind i bytes: those that wait. -/
structure Tw (w W : World) (A p : Nat) (bs bw bq : Nat) (s : St) (v : Value) (l : List Int) (i : Nat) : Prop where
  tm : Tm w W A p (2 + 2 * i) bs bw bq s v l l
  q : Qs s 100 256 l
  nd : l.Nodup
  rg : ∀ x ∈ l, 1 ≤ x ∧ x ≤ 20
  ln : l.length ≤ i
/-- Behind i turns. -/
structure Tt (w W : World) (A p : Nat) (bs bw bq : Nat) (s : St) (v : Value) (l : List Int) (i : Nat) (a : Int) : Prop where
  tm : Tm w W A p (200 + 121 * i) bs bw bq s v l l
  q : Qs s a 256 (l.drop i)
  ha : a ∉ l.drop i
  rg : 1 ≤ a ∧ a ≤ 100
theorem arr0 (W : World) : ∀ h : Nat, h < 20 → (W.alloc (.cells #[.bool false, .bool false, .bool false, .bool false, .bool false, .bool false, .bool false, .bool false, .bool false, .bool false, .bool false, .bool false, .bool false, .bool false, .bool false, .bool false, .bool false, .bool false, .bool false, .bool false] 53)).cell? ⟨W.heap.size, h, none⟩ = some (.bool false) ∧ (W.alloc (.cells #[.bool false, .bool false, .bool false, .bool false, .bool false, .bool false, .bool false, .bool false, .bool false, .bool false, .bool false, .bool false, .bool false, .bool false, .bool false, .bool false, .bool false, .bool false, .bool false, .bool false] 53)).frozen? ⟨W.heap.size, h, none⟩ = false := fun h hh => by
  have e := (MapKept.heap_alloc W (.cells #[.bool false, .bool false, .bool false, .bool false, .bool false, .bool false, .bool false, .bool false, .bool false, .bool false, .bool false, .bool false, .bool false, .bool false, .bool false, .bool false, .bool false, .bool false, .bool false, .bool false] 53)).1
  constructor
  · unfold World.cell?
    simp only [e]
    rcases h with _|_|_|_|_|_|_|_|_|_|_|_|_|_|_|_|_|_|_|_|h <;> first | rfl | omega
  · unfold World.frozen?
    simp only [e]
    simp
theorem Tw.start {w W : World} {p bs bw bq : Nat} {s : St} (hO : Own (fun b => b < w.heap.size) w W p 2 s bs bw bq) (hq : Qs s 100 256 []) :
    Tw w (W.alloc (.cells #[.bool false, .bool false, .bool false, .bool false, .bool false, .bool false, .bool false, .bool false, .bool false, .bool false, .bool false, .bool false, .bool false, .bool false, .bool false, .bool false, .bool false, .bool false, .bool false, .bool false] 53)) W.heap.size p bs bw bq s (.slice none 0 0) [] 0 := by
  have hb := (Below.refl _ W).alloc (Nat.le_refl _) (.cells #[.bool false, .bool false, .bool false, .bool false, .bool false, .bool false, .bool false, .bool false, .bool false, .bool false, .bool false, .bool false, .bool false, .bool false, .bool false, .bool false, .bool false, .bool false, .bool false, .bool false] 53)
  refine ⟨⟨⟨_, hO.below hb, Or.inr ⟨Nat.le_refl _, by simp⟩, fun g hg => nomatch hg⟩, ⟨rfl, Or.inl ⟨rfl, rfl⟩⟩, fun h hh => by simpa using arr0 W h hh, (fun e => nomatch e), hO.bel.size, by simp⟩, hq, List.nodup_nil, (fun x hx => nomatch hx), Nat.le_refl _⟩
end Lk

theorem keepOne_any (y : Int) (pa pb : Option Addr) (ca : Nat) (w : World) (ha : Hid (Md.Row w pa [y])) (hb : Hid (Md.Row w pb [y])) :
    Calls Tryd.prog 14 #[.slice pa 1 ca, .slice pb 1 1] w fun e w' => e = .returned (.bool true) ∧ Below w.heap.size w w' := by
  have h := keepInts_any [y] [y] pa pb ca 1 w ha hb (by simp)
  rw [show decide ([y] = [y]) = true from decide_eq_true rfl] at h
  exact h

set_option maxRecDepth 100000 in
set_option maxHeartbeats 4000000 in
theorem lockTurns_walk (a : Option Addr) (n c : Nat) (xs : List Nat) (w : World) (hU0 : Lk.U8s w a n c xs) (hM0 : Md.Tab w) :
    Calls Tryd.prog 6 #[.slice a n c] w fun e w' => e = .returned (.bool true) ∧ Below w.heap.size w w' := by
  have hM := Mp.hid hM0
  have hU := Mp.hid hU0
  clear hM0 hU0
  obtain ⟨i0, hi, hz0, hz1, hz2⟩ : ∃ i, Tryd.prog.info? 3 = some i ∧ i.zero = some (.int .i64 0) ∧ i.size = 1 ∧ i.bytes = 8 := ⟨_, Tryd.type3, rfl, rfl, rfl⟩
  go_enter Tryd.func6, Tryd.ntmps6
  go_wp2_with fail
  refine (newO_any w).mono ?_
  rintro e w1 ⟨p, bs, bw, bq, rfl, hO⟩
  have HO1 := Mp.hid hO
  clear hO
  go_wp2_with fail
  refine (takeO_any _ w w1 p 0 Lk.st0 bs bw bq 100 Lk.T 8 HO1 hM (Lk.wf_lit (by omega) (by omega)) Lk.T_len (Mp.hid (by omega))).mono ?_
  rintro e w2 ⟨E, s1, rfl, hR, hO, -⟩
  obtain ⟨rfl, hQ⟩ := Lk.Qs.start (by omega) (by omega) hR
  have HW0 := Mp.hid (Lk.Tw.start hO hQ)
  clear hO hR hQ HO1
  go_wp2_with fail
  obtain ⟨A, hA⟩ : ∃ A, A = w2.heap.size := ⟨_, rfl⟩
  obtain ⟨W0, hW0⟩ : ∃ W0, W0 = w2.alloc (.cells #[.bool false, .bool false, .bool false, .bool false, .bool false, .bool false, .bool false, .bool false, .bool false, .bool false, .bool false, .bool false, .bool false, .bool false, .bool false, .bool false, .bool false, .bool false, .bool false, .bool false] 53) := ⟨_, rfl⟩
  rw [← hA, ← hW0] at HW0
  rw [← hA, ← hW0]
  clear hA hW0
  go_loopw [4, 6] (fun vl vi wr => ∃ (i : Nat) (s : Lk.St) (l : List Int), i ≤ n ∧ i ≤ 60 ∧ vi = .int .i64 (i : Int) ∧ Hid (Lk.Tw w wr A p bs bw bq s vl l i)) (fun _ vi _ => n - (RowKit.intOf vi).toNat)
  case atStart => exact ⟨0, s1, [], by omega, by omega, rfl, HW0⟩
  case round =>
    clear HW0
    obtain ⟨i, s, l, hin, hi60, rfl, HH⟩ := hrel
    by_cases hlt : i < n ∧ i < 60
    · obtain ⟨x, hx⟩ : ∃ x, xs[i]? = some x := ⟨_, List.getElem?_eq_getElem (by rw [hU.out.len]; exact hlt.1)⟩
      obtain ⟨hx8, b, o, rfl, hbl, hcx⟩ := hU.out.at_ i x hx
      have hce : wr.cell? ⟨b, o + i, none⟩ = some (.int .u8 (x : Int)) := (HH.out.tm.bel.cell (p := ⟨b, o + i, none⟩) hbl).trans hcx
      clear hcx hbl hx
      obtain ⟨k, hk⟩ : ∃ k : Nat, k = x % 20 := ⟨_, rfl⟩
      have hk20 : k < 20 := by omega
      have hki : (x : Int) % 20 = (k : Int) := by omega
      have g1 : (0 : Int) ≤ (i : Int) := by omega
      have g2 : (i : Int) < (n : Int) := by omega
      have g3 : (i : Int) < 60 := by omega
      have g4 : (0 : Int) ≤ (k : Int) := by omega
      have g5 : (k : Int) < 20 := by omega
      have HK := Mp.hid (And.intro hlt hk20)
      clear hk hin hi60 hlt
      go_wp2_with fail
      rw [hki]
      clear hce hki hx8
      have HT := Mp.hid HH.out.tm
      refine (takeT_any w wr A p (2 + 2 * i) bs bw bq s _ l l (1 + (k : Int)) 8 HT hM (Lk.wf_lit (by omega) (by omega)) (Mp.hid (by omega))).mono ?_
      rintro e w3 ⟨E, s3, rfl, hR, hTm⟩
      have HT3 := Mp.hid hTm
      obtain ⟨hca, hfa⟩ := hTm.arr k hk20
      clear HT
      by_cases hl : (1 + (k : Int)) ∈ l
      · obtain ⟨rfl, rfl⟩ := HH.out.q.again hl (by omega) hR
        have HN : Hid (Lk.Tw w w3 A p bs bw bq s3 u4 l (i + 1)) := Mp.hid ⟨HT3.out.mono (by omega), HH.out.q, HH.out.nd, HH.out.rg, Nat.le_succ_of_le HH.out.ln⟩
        rw [decide_eq_true hl] at hca
        clear hR hl hTm HT3 HH
        go_wp2_with fail
        go_roundw
        case rel => exact ⟨i + 1, s3, l, by have := HK.out; omega, by have := HK.out; omega, by go_num, HN⟩
        case measure => have := HK.out; simp [RowKit.intOf]; omega
      · obtain ⟨rfl, hQ3⟩ := HH.out.q.wait (by decide +kernel) (by omega) hl (by omega) hR
        rw [decide_eq_false hl] at hca
        have HL := Mp.hid hl
        have HQ3 := Mp.hid hQ3
        have HMk := Mp.hid (HT3.out.mark hk20)
        have HCN : Hid (∀ j u, ([.int .i64 (1 + (k : Int))] : List Value)[j]? = some u → ((w3.setCell ⟨A, k, none⟩ (.bool true)).alloc (.cells #[.int .i64 (1 + (k : Int))] 3)).cell? ((⟨w3.heap.size, 0, none⟩ : Addr).add j) = some u) := Mp.hid (by
          have h1 := cell_one_new (w3.setCell ⟨A, k, none⟩ (.bool true)) (.int .i64 (1 + (k : Int))) 3
          have h2 : (w3.setCell ⟨A, k, none⟩ (.bool true)).heap.size = w3.heap.size := by show (w3.heap.modify _ _).size = _; rw [Array.size_modify]
          rw [h2] at h1
          exact h1)
        have HLN : Hid (l.length ≤ 60 ∧ w.heap.size ≤ w3.heap.size) := Mp.hid ⟨by have := HH.out.ln; have := HK.out; omega, HT3.out.bel.size⟩
        clear hR hl hTm hQ3
        go_wp2_with (first | (at_builtin; refine wpList_append_own_at _ rfl _ _ 37 rfl w.heap.size 3 i0 (.int .i64 0) 1 8 Tryd.underlying37 hi hz0 hz1 hz2 rfl (by decide) _ _ _ rfl (HMk.out.row.alloc _) ⟨w3.heap.size, 0, none⟩ 1 1 [.int .i64 (1 + (k : Int))] rfl rfl HCN.out (ints_oneCell .i64 [1 + (k : Int)]) (by have := HLN.out; unfold maxLen; omega) (by have := HLN.out; omega) (by have := HLN.out.2; simp; omega) ?_; intro v' w6 hown' hgrow hnil hloc))
        have HN : Hid (Lk.Tw w w6 A p bs bw bq s3 v' (l ++ [1 + (k : Int)]) (i + 1)) := Mp.hid ⟨(HMk.out.app ((Below.refl _ _).alloc (Nat.le_refl _) _) hown' hgrow (fun g hg => by
          rcases hloc with e | e
          · exact Or.inl (e.symm.trans hg)
          · rw [e] at hg; injection hg with hg; have h2 : (w3.setCell ⟨A, k, none⟩ (.bool true)).heap.size = w3.heap.size := by (show (w3.heap.modify _ _).size = _; rw [Array.size_modify])
            simp at hg; exact Or.inr (by omega))).mono (by omega), HQ3.out, List.nodup_append.2 ⟨HH.out.nd, List.nodup_cons.2 ⟨by simp, List.nodup_nil⟩, fun a ha b hb e => HL.out (by rw [← List.mem_singleton.1 hb, ← e]; exact ha)⟩, fun x hx => by
          rcases List.mem_append.1 hx with h | h
          · exact HH.out.rg x h
          · rw [List.mem_singleton.1 h]; have := HK.out; omega, by have := HH.out.ln; simp; omega⟩
        clear hown' hgrow hnil hloc hca hfa HMk HT3 HH HQ3 HL
        go_roundw
        case rel => exact ⟨i + 1, s3, l ++ [1 + (k : Int)], by have := HK.out; omega, by have := HK.out; omega, by go_num, HN⟩
        case measure => have := HK.out; simp [RowKit.intOf]; omega
    · have hc : (decide ((i : Int) < (n : Int)) && decide ((i : Int) < 60)) = false := by
        simp; omega
      obtain ⟨ln, hln⟩ : ∃ ln, ln = l.length := ⟨_, rfl⟩
      have HLN := Mp.hid hln
      have hln60 : ln ≤ 60 := by have := HH.out.ln; omega
      obtain ⟨pl, cl, hvl, hRow, -⟩ := Lk.row_of HH.out.tm.row
      have HT0 : Hid (Lk.Tt w wr A p bs bw bq s (.slice pl ln cl) l 0 100) := Mp.hid ⟨by rw [hln, ← hvl]; exact HH.out.tm.mono (by omega), by simpa using HH.out.q, by
        intro h
        have := HH.out.rg 100 (by simpa using h)
        omega, by omega, by omega⟩
      have HND := Mp.hid HH.out.nd
      have HRG := Mp.hid HH.out.rg
      rw [← hln] at hvl
      subst hvl
      clear HH hRow hln
      have hex : i < n ∨ ¬ i < n := Nat.lt_or_ge i n |>.imp id Nat.not_lt.2
      rcases hex with h1 | h1
      · have h2 : ¬ (i : Int) < 60 := by omega
        have h3 : (i : Int) < (n : Int) := by omega
        clear hlt hin hi60 hc h1
        go_wp2_with fail
        go_loopw [9, 10] (fun va vi wr => ∃ (j : Nat) (a : Int) (s : Lk.St), j ≤ ln ∧ va = .int .i64 a ∧ vi = .int .i64 (j : Int) ∧ Hid (Lk.Tt w wr A p bs bw bq s (.slice pl ln cl) l j a)) (fun _ vi _ => ln - (RowKit.intOf vi).toNat)
        case atStart => exact ⟨0, 100, s, by omega, rfl, rfl, HT0⟩
        case round =>
          clear HT0
          obtain ⟨j, a2, s2, hj, rfl, rfl, HH⟩ := hrel
          by_cases hjl : j < ln
          · obtain ⟨y, hy⟩ : ∃ y, l[j]? = some y := ⟨_, List.getElem?_eq_getElem (by rw [← HLN.out]; exact hjl)⟩
            obtain ⟨pl', cl', epl, hRow, hRb⟩ := Lk.row_of HH.out.tm.row
            rw [← HLN.out] at epl
            injection epl with e1 e2 e3
            subst e1
            subst e3
            obtain ⟨g, hg, hcy⟩ := hRow j y hy
            subst hg
            have hdr : l.drop j = y :: l.drop (j + 1) := Lk.drop_at hy
            have hnd : (y :: l.drop (j + 1)).Nodup := by rw [← hdr]; exact HND.out.sublist (List.drop_sublist _ _)
            have HQ : Hid (Lk.Qs s2 a2 256 (y :: l.drop (j + 1))) := Mp.hid (by rw [← hdr]; exact HH.out.q)
            have HA2 : Hid (a2 ∉ y :: l.drop (j + 1) ∧ (y :: l.drop (j + 1)).Nodup ∧ (y :: l.drop (j + 1)).length ≤ 60) := Mp.hid ⟨by rw [← hdr]; exact HH.out.ha, hnd, by rw [← hdr, List.length_drop, ← HLN.out]; omega⟩
            have HY : Hid (1 ≤ y ∧ y ≤ 20) := Mp.hid (HRG.out y (List.mem_of_getElem? hy))
            have hwa : Lk.wfI a2 := Lk.wf_lit (by have := HH.out.rg; omega) (by have := HH.out.rg; omega)
            have hwy : Lk.wfI y := Lk.wf_lit (by have := HY.out; omega) (by have := HY.out; omega)
            have HT := Mp.hid HH.out.tm
            have HNN : Hid (200 + 121 * j < 80000 ∧ j < ln) := Mp.hid (by omega)
            have g1 : (0 : Int) ≤ (j : Int) := by omega
            have g2 : (j : Int) < (ln : Int) := by omega
            have HbA : Hid (Below wr.heap.size wr wr.drew) := Mp.hid (Below.refl _ _).drew
            have HbB : Hid (Below wr.heap.size wr (wr.alloc (.cells #[.int .i64 y] 3)).drew) := Mp.hid ((Below.refl _ _).alloc (Nat.le_refl _) _).drew
            have HSA : Hid (wr.drew.cell? ⟨g, j, none⟩ = some (.int .i64 y)) := Mp.hid hcy
            have HSB : Hid ((wr.alloc (.cells #[.int .i64 y] 3)).drew.cell? ⟨g, j, none⟩ = some (.int .i64 y)) := Mp.hid ((HbB.out.cell (p := ⟨g, j, none⟩) (hRb g rfl).2).trans hcy)
            have HY2 := Mp.hid hy
            clear hRow hRb hcy hdr hnd hy hj hjl e2
            go_wp2_with fail
            go_region_held3 (fun w' => w'.cell? ⟨g, j, none⟩ = some (.int .i64 y)) (first | (with_reducible exact HSA.out) | (with_reducible exact HSB.out) | (with_reducible exact HS3.out) | (with_reducible exact HS4.out) | (with_reducible exact HS5.out) | fail)
              (first
                | (go_at_call 15; refine (releaseT_any w wr _ A p (200 + 121 * j) bs bw bq s2 _ l l a2 _ HT (by first | (with_reducible exact HbA) | (with_reducible exact HbB)) HQ HA2 hM hwa (Mp.hid HNN.out.1)).mono ?_
                   rintro e w3 ⟨v3, out3, s3, rfl, hR3, hrow3, hTm3, hX3⟩
                   obtain ⟨rfl, hQ3⟩ := HQ.out.turn HA2.out.1 HA2.out.2.1 hR3
                   obtain ⟨p3, c3, rfl, hRow3, -⟩ := Lk.row_of hrow3
                   have HQ3 := Mp.hid hQ3
                   have HR3 := Mp.hid hRow3
                   have HT3 := Mp.hid hTm3
                   have HX3 := Mp.hid hX3
                   have HRa : Hid (Md.Row (w3.alloc (.cells #[.int .i64 y] 3)) p3 [y]) := Mp.hid (HR3.out.below ((Below.refl _ w3).alloc (Nat.le_refl _) _))
                   have HNa : Hid (Md.Row (w3.alloc (.cells #[.int .i64 y] 3)) (some ⟨w3.heap.size, 0, none⟩) [y]) := Mp.hid (Md.row_new w3 [y] 3)
                   have HS3 := Mp.hid ((Lk.row_cells (by rw [HLN.out] at hTm3; exact hTm3.row)) j y HY2.out)
                   have HS4 : Hid ((w3.alloc (.cells #[.int .i64 y] 3)).cell? ⟨g, j, none⟩ = some (.int .i64 y)) := Mp.hid (((((Below.refl _ w3).alloc (Nat.le_refl _) (.cells #[.int .i64 y] 3)).cell (p := ⟨g, j, none⟩) (Lk.row_lt hTm3.row rfl)).trans HS3.out))
                   clear hR3 hrow3 hTm3 hX3 hQ3 hRow3)
                | (go_at_call 14
                   refine (keepOne_any y p3 _ c3 _ (by first | (with_reducible exact HRa) | (with_reducible exact HR3)) (by first | (with_reducible exact HNa) | exact Mp.hid (Lk.built HX3.out))).mono ?_
                   rintro e w4 ⟨rfl, hb4⟩
                   have HB4 : Hid (Below w3.heap.size w3 w4) := Mp.hid (by first | (with_reducible exact hb4) | exact Md.btr ((Below.refl _ w3).alloc (Nat.le_refl _) _) hb4)
                   have HT4 := Mp.hid (HT3.out.below HB4.out)
                   have HS5 : Hid (w4.cell? ⟨g, j, none⟩ = some (.int .i64 y)) := Mp.hid ((HB4.out.cell (p := ⟨g, j, none⟩) (Lk.row_lt HT3.out.row rfl)).trans HS3.out)
                   clear hb4)
                | (go_at_call 19; refine (modesT_any w _ A p _ bs bw bq s3 _ l l y HT4 hwy).mono ?_; rw [HQ3.out.at_a]; rintro e w' ⟨rfl, hq⟩; obtain rfl := hq.symm))
            all_goals
              have HTN : Hid (Lk.Tt w w4 A p bs bw bq s3 (.slice (some ⟨g, 0, none⟩) ln cl) l (j + 1) y) := Mp.hid ⟨HT4.out.mono (by omega), HQ3.out, (List.nodup_cons.1 HA2.out.2.1).1, HY.out.1, by have := HY.out; omega⟩
              have hc5 := HS5.out
              go_wp2_with fail
              go_roundw
              case rel => exact ⟨j + 1, y, s3, by have := HNN.out; omega, rfl, by go_num, HTN⟩
              case measure => have := HNN.out; simp [RowKit.intOf]; omega
          · have hdr : l.drop j = [] := List.drop_eq_nil_of_le (by rw [← HLN.out]; omega)
            have HQ : Hid (Lk.Qs s2 a2 256 []) := Mp.hid (by rw [← hdr]; exact HH.out.q)
            have HT := Mp.hid HH.out.tm
            have hwa : Lk.wfI a2 := Lk.wf_lit (by have := HH.out.rg; omega) (by have := HH.out.rg; omega)
            have HJ : Hid (j ≤ 60) := Mp.hid (by omega)
            clear hdr
            go_wp2_with fail
            refine (releaseT_any w wr _ A p (200 + 121 * j) bs bw bq s2 _ l l a2 [] HT (Mp.hid (Below.refl _ _)) HQ (Mp.hid ⟨by simp, List.nodup_nil, by simp⟩) hM hwa (Mp.hid (by have := HJ.out; omega))).mono ?_
            rintro e w3 ⟨v3, out3, s3, rfl, hR3, hrow3, hTm3, -⟩
            obtain ⟨rfl, hz3, hq3⟩ := HQ.out.last hR3
            obtain ⟨p3, c3, rfl, -, -⟩ := Lk.row_of hrow3
            have HT3 := Mp.hid hTm3
            have HZ3 := Mp.hid (And.intro hz3 hq3)
            clear hR3 hrow3 hTm3 hz3 hq3
            go_wp2_with fail
            refine (namesT_any w w3 A p _ bs bw bq s3 _ l l HT3 (Mp.hid (by have := HJ.out; omega)) HZ3).mono ?_
            rintro e w4 ⟨p4, c4, rfl, hb4⟩
            have HT4 := Mp.hid (HT3.out.below hb4)
            clear hb4
            go_wp2_with fail
            refine (wakes6_any _ (Mp.hid (hM.out.below HT4.out.bel))).mono ?_
            rintro e w8 ⟨rfl, hb8⟩
            go_wp2
            go_ret
            exact ⟨rfl, HT4.out.bel.trans (hb8.mono HT4.out.bel.size)⟩
      · have h3 : ¬ (i : Int) < (n : Int) := by omega
        clear hlt hin hi60 hc h1
        go_wp2_with fail
        go_loopw [9, 10] (fun va vi wr => ∃ (j : Nat) (a : Int) (s : Lk.St), j ≤ ln ∧ va = .int .i64 a ∧ vi = .int .i64 (j : Int) ∧ Hid (Lk.Tt w wr A p bs bw bq s (.slice pl ln cl) l j a)) (fun _ vi _ => ln - (RowKit.intOf vi).toNat)
        case atStart => exact ⟨0, 100, s, by omega, rfl, rfl, HT0⟩
        case round =>
          clear HT0
          obtain ⟨j, a2, s2, hj, rfl, rfl, HH⟩ := hrel
          by_cases hjl : j < ln
          · obtain ⟨y, hy⟩ : ∃ y, l[j]? = some y := ⟨_, List.getElem?_eq_getElem (by rw [← HLN.out]; exact hjl)⟩
            obtain ⟨pl', cl', epl, hRow, hRb⟩ := Lk.row_of HH.out.tm.row
            rw [← HLN.out] at epl
            injection epl with e1 e2 e3
            subst e1
            subst e3
            obtain ⟨g, hg, hcy⟩ := hRow j y hy
            subst hg
            have hdr : l.drop j = y :: l.drop (j + 1) := Lk.drop_at hy
            have hnd : (y :: l.drop (j + 1)).Nodup := by rw [← hdr]; exact HND.out.sublist (List.drop_sublist _ _)
            have HQ : Hid (Lk.Qs s2 a2 256 (y :: l.drop (j + 1))) := Mp.hid (by rw [← hdr]; exact HH.out.q)
            have HA2 : Hid (a2 ∉ y :: l.drop (j + 1) ∧ (y :: l.drop (j + 1)).Nodup ∧ (y :: l.drop (j + 1)).length ≤ 60) := Mp.hid ⟨by rw [← hdr]; exact HH.out.ha, hnd, by rw [← hdr, List.length_drop, ← HLN.out]; omega⟩
            have HY : Hid (1 ≤ y ∧ y ≤ 20) := Mp.hid (HRG.out y (List.mem_of_getElem? hy))
            have hwa : Lk.wfI a2 := Lk.wf_lit (by have := HH.out.rg; omega) (by have := HH.out.rg; omega)
            have hwy : Lk.wfI y := Lk.wf_lit (by have := HY.out; omega) (by have := HY.out; omega)
            have HT := Mp.hid HH.out.tm
            have HNN : Hid (200 + 121 * j < 80000 ∧ j < ln) := Mp.hid (by omega)
            have g1 : (0 : Int) ≤ (j : Int) := by omega
            have g2 : (j : Int) < (ln : Int) := by omega
            have HbA : Hid (Below wr.heap.size wr wr.drew) := Mp.hid (Below.refl _ _).drew
            have HbB : Hid (Below wr.heap.size wr (wr.alloc (.cells #[.int .i64 y] 3)).drew) := Mp.hid ((Below.refl _ _).alloc (Nat.le_refl _) _).drew
            have HSA : Hid (wr.drew.cell? ⟨g, j, none⟩ = some (.int .i64 y)) := Mp.hid hcy
            have HSB : Hid ((wr.alloc (.cells #[.int .i64 y] 3)).drew.cell? ⟨g, j, none⟩ = some (.int .i64 y)) := Mp.hid ((HbB.out.cell (p := ⟨g, j, none⟩) (hRb g rfl).2).trans hcy)
            have HY2 := Mp.hid hy
            clear hRow hRb hcy hdr hnd hy hj hjl e2
            go_wp2_with fail
            go_region_held3 (fun w' => w'.cell? ⟨g, j, none⟩ = some (.int .i64 y)) (first | (with_reducible exact HSA.out) | (with_reducible exact HSB.out) | (with_reducible exact HS3.out) | (with_reducible exact HS4.out) | (with_reducible exact HS5.out) | fail)
              (first
                | (go_at_call 15; refine (releaseT_any w wr _ A p (200 + 121 * j) bs bw bq s2 _ l l a2 _ HT (by first | (with_reducible exact HbA) | (with_reducible exact HbB)) HQ HA2 hM hwa (Mp.hid HNN.out.1)).mono ?_
                   rintro e w3 ⟨v3, out3, s3, rfl, hR3, hrow3, hTm3, hX3⟩
                   obtain ⟨rfl, hQ3⟩ := HQ.out.turn HA2.out.1 HA2.out.2.1 hR3
                   obtain ⟨p3, c3, rfl, hRow3, -⟩ := Lk.row_of hrow3
                   have HQ3 := Mp.hid hQ3
                   have HR3 := Mp.hid hRow3
                   have HT3 := Mp.hid hTm3
                   have HX3 := Mp.hid hX3
                   have HRa : Hid (Md.Row (w3.alloc (.cells #[.int .i64 y] 3)) p3 [y]) := Mp.hid (HR3.out.below ((Below.refl _ w3).alloc (Nat.le_refl _) _))
                   have HNa : Hid (Md.Row (w3.alloc (.cells #[.int .i64 y] 3)) (some ⟨w3.heap.size, 0, none⟩) [y]) := Mp.hid (Md.row_new w3 [y] 3)
                   have HS3 := Mp.hid ((Lk.row_cells (by rw [HLN.out] at hTm3; exact hTm3.row)) j y HY2.out)
                   have HS4 : Hid ((w3.alloc (.cells #[.int .i64 y] 3)).cell? ⟨g, j, none⟩ = some (.int .i64 y)) := Mp.hid (((((Below.refl _ w3).alloc (Nat.le_refl _) (.cells #[.int .i64 y] 3)).cell (p := ⟨g, j, none⟩) (Lk.row_lt hTm3.row rfl)).trans HS3.out))
                   clear hR3 hrow3 hTm3 hX3 hQ3 hRow3)
                | (go_at_call 14
                   refine (keepOne_any y p3 _ c3 _ (by first | (with_reducible exact HRa) | (with_reducible exact HR3)) (by first | (with_reducible exact HNa) | exact Mp.hid (Lk.built HX3.out))).mono ?_
                   rintro e w4 ⟨rfl, hb4⟩
                   have HB4 : Hid (Below w3.heap.size w3 w4) := Mp.hid (by first | (with_reducible exact hb4) | exact Md.btr ((Below.refl _ w3).alloc (Nat.le_refl _) _) hb4)
                   have HT4 := Mp.hid (HT3.out.below HB4.out)
                   have HS5 : Hid (w4.cell? ⟨g, j, none⟩ = some (.int .i64 y)) := Mp.hid ((HB4.out.cell (p := ⟨g, j, none⟩) (Lk.row_lt HT3.out.row rfl)).trans HS3.out)
                   clear hb4)
                | (go_at_call 19; refine (modesT_any w _ A p _ bs bw bq s3 _ l l y HT4 hwy).mono ?_; rw [HQ3.out.at_a]; rintro e w' ⟨rfl, hq⟩; obtain rfl := hq.symm))
            all_goals
              have HTN : Hid (Lk.Tt w w4 A p bs bw bq s3 (.slice (some ⟨g, 0, none⟩) ln cl) l (j + 1) y) := Mp.hid ⟨HT4.out.mono (by omega), HQ3.out, (List.nodup_cons.1 HA2.out.2.1).1, HY.out.1, by have := HY.out; omega⟩
              have hc5 := HS5.out
              go_wp2_with fail
              go_roundw
              case rel => exact ⟨j + 1, y, s3, by have := HNN.out; omega, rfl, by go_num, HTN⟩
              case measure => have := HNN.out; simp [RowKit.intOf]; omega
          · have hdr : l.drop j = [] := List.drop_eq_nil_of_le (by rw [← HLN.out]; omega)
            have HQ : Hid (Lk.Qs s2 a2 256 []) := Mp.hid (by rw [← hdr]; exact HH.out.q)
            have HT := Mp.hid HH.out.tm
            have hwa : Lk.wfI a2 := Lk.wf_lit (by have := HH.out.rg; omega) (by have := HH.out.rg; omega)
            have HJ : Hid (j ≤ 60) := Mp.hid (by omega)
            clear hdr
            go_wp2_with fail
            refine (releaseT_any w wr _ A p (200 + 121 * j) bs bw bq s2 _ l l a2 [] HT (Mp.hid (Below.refl _ _)) HQ (Mp.hid ⟨by simp, List.nodup_nil, by simp⟩) hM hwa (Mp.hid (by have := HJ.out; omega))).mono ?_
            rintro e w3 ⟨v3, out3, s3, rfl, hR3, hrow3, hTm3, -⟩
            obtain ⟨rfl, hz3, hq3⟩ := HQ.out.last hR3
            obtain ⟨p3, c3, rfl, -, -⟩ := Lk.row_of hrow3
            have HT3 := Mp.hid hTm3
            have HZ3 := Mp.hid (And.intro hz3 hq3)
            clear hR3 hrow3 hTm3 hz3 hq3
            go_wp2_with fail
            refine (namesT_any w w3 A p _ bs bw bq s3 _ l l HT3 (Mp.hid (by have := HJ.out; omega)) HZ3).mono ?_
            rintro e w4 ⟨p4, c4, rfl, hb4⟩
            have HT4 := Mp.hid (HT3.out.below hb4)
            clear hb4
            go_wp2_with fail
            refine (wakes6_any _ (Mp.hid (hM.out.below HT4.out.bel))).mono ?_
            rintro e w8 ⟨rfl, hb8⟩
            go_wp2
            go_ret
            exact ⟨rfl, HT4.out.bel.trans (hb8.mono HT4.out.bel.size)⟩

end Go.Proofs.YthaenobciefjiaaDoor
