/- LockEnds: the walk. -/
import Derived.Test.YthaenobciefjiaaDoorZ12
namespace Go.Proofs.YthaenobciefjiaaDoor
open Go.RowKit Go.Maps Go.ChangeMaps Go.MapKept Go.Sort Go.Shelf

set_option maxRecDepth 100000 in
set_option maxHeartbeats 8000000 in
theorem lockEnds_walk (a0 : Option Addr) (n0 c0 : Nat) (xs : List Lk.Stp) (a1 : Option Addr) (n1 c1 : Nat) (ys : List Nat) (w : World) (hS0 : Lk.Stps w a0 n0 c0 xs) (hU0 : Lk.U8s w a1 n1 c1 ys) (hM0 : Md.Tab w) :
    Calls Tryd.prog 5 #[.slice a0 n0 c0, .slice a1 n1 c1] w fun e w' => e = .returned (.bool true) ∧ Below w.heap.size w w' := by
  have hM := Mp.hid hM0
  have hS := Mp.hid hS0
  have hU := Mp.hid hU0
  clear hM0 hS0 hU0
  have hm0 : n0 ≤ maxLen := Nat.le_trans hS.out.le hS.out.cap
  have hn1 : n1 ≤ 9223372036854775807 := by have := Nat.le_trans hU.out.le hU.out.cap; unfold maxLen at this; omega
  go_enter Tryd.func5, Tryd.ntmps5
  go_wp2_with fail
  refine (newB_any w).mono ?_
  rintro e w1 ⟨p, bs, bw, bq, rfl, hO⟩
  have HO1 := Mp.hid hO
  have HS1 : Hid (Lk.Stps w1 a0 n0 c0 xs) := Mp.hid ⟨hS.out.len, hS.out.le, hS.out.cap, fun i x hx => by
    obtain ⟨b, o, h1, h2, h3, h4, h5, h6, h7⟩ := hS.out.at_ i x hx
    have k : ∀ j, w1.cell? ⟨b, j, none⟩ = w.cell? ⟨b, j, none⟩ := fun j => hO.bel.cell (p := ⟨b, j, none⟩) h2
    exact ⟨b, o, h1, Nat.lt_of_lt_of_le h2 hO.bel.size, (k _).trans h3, (k _).trans h4, (k _).trans h5, (k _).trans h6, h7⟩⟩
  clear hO
  go_wp2_with fail
  refine (fair_any a0 n0 c0 xs w1 HS1 hm0).mono ?_
  rintro e w1' ⟨⟨fb, rfl, hfb⟩, hq⟩
  obtain rfl := hq.symm
  clear hm0 HS1
  cases fb
  · go_wp2_with (first | (go_at_call 11; refine (wakes6_any _ (Mp.hid (HO1.out.md hM.out))).mono ?_; rintro e w8 ⟨rfl, hb8⟩))
    go_ret
    exact ⟨rfl, HO1.out.bel.trans (hb8.mono HO1.out.bel.size)⟩
  · have hn0 : n0 ≤ 150 := hfb rfl
    clear hfb
    go_wp2_with fail
    go_loopw [6] (fun vi wr => ∃ (i : Nat) (s : Lk.St), i ≤ n0 ∧ vi = .int .i64 (i : Int) ∧ Hid (Lk.Ob [] w wr p (2 * i) s bs bw bq ∧ Lk.Inv s ∧ Lk.R8 s)) (fun vi _ => n0 - (RowKit.intOf vi).toNat)
    case atStart => exact ⟨0, _, by omega, rfl, Mp.hid ⟨HO1.out, Lk.Inv.start, Lk.R8.start⟩⟩
    case round =>
      clear HO1
      obtain ⟨i, s, hi, rfl, HH⟩ := hrel
      by_cases hlt : i < n0
      · obtain ⟨x, hx⟩ : ∃ x, xs[i]? = some x := ⟨_, List.getElem?_eq_getElem (by rw [hS.out.len]; exact hlt)⟩
        obtain ⟨b, o, rfl, hbl, h0, h1, h2, h3, hfit⟩ := hS.out.at_ i x hx
        have k : ∀ j, wr.cell? ⟨b, j, none⟩ = w.cell? ⟨b, j, none⟩ := fun j => HH.out.1.bel.cell (p := ⟨b, j, none⟩) hbl
        have HC : Hid (wr.drew.cell? ⟨b, o + i * 4 + 1, none⟩ = some (.int .i64 x.ho) ∧ wr.drew.cell? ⟨b, o + i * 4 + 2, none⟩ = some (.int .i64 x.md) ∧ wr.drew.cell? ⟨b, o + i * 4 + 3, none⟩ = some (Lk.str x.nm)) := Mp.hid ⟨(k _).trans h1, (k _).trans h2, (k _).trans h3⟩
        have HD := Mp.hid (HH.out.1.below (Below.refl _ _).drew)
        have HFit := Mp.hid hfit
        have g1 : (0 : Int) ≤ (i : Int) := by omega
        have g2 : (i : Int) < (n0 : Int) := by omega
        have HI := Mp.hid (And.intro hlt hn0)
        have HBL : Hid (b < w.heap.size ∧ w.cell? ⟨b, o + i * 4 + 1, none⟩ = some (.int .i64 x.ho) ∧ w.cell? ⟨b, o + i * 4 + 2, none⟩ = some (.int .i64 x.md) ∧ w.cell? ⟨b, o + i * 4 + 3, none⟩ = some (Lk.str x.nm)) := Mp.hid ⟨hbl, h1, h2, h3⟩
        clear k h0 h1 h2 h3 hfit hx hbl
        go_wp2_with fail
        go_region_held3 (fun w' => w'.cell? ⟨b, o + i * 4 + 1, none⟩ = some (.int .i64 x.ho) ∧ w'.cell? ⟨b, o + i * 4 + 2, none⟩ = some (.int .i64 x.md) ∧ w'.cell? ⟨b, o + i * 4 + 3, none⟩ = some (Lk.str x.nm)) (first | (with_reducible exact HC.out) | (with_reducible exact HC3.out) | fail)
          (first
            | (go_at_call 26; refine (mod8_any _ _).mono ?_; rintro e w' ⟨r, hr, rfl, hq⟩; obtain rfl := hq.symm; have hwr : IntKind.i64.wrap (1 + (r : Int)) = 1 + (r : Int) := by (rw [IntKind.wrap_i64]; omega))
            | (go_at_call 12
               first | rw [hwr] | skip
               refine (takeB_any [] w _ p (2 * i) s bs bw bq (1 + (r : Int)) x.nm x.md HD hM (Lk.wf_lit (by omega) (by omega)) HFit.out.nm (Mp.hid (by have := HI.out; omega))).mono ?_
               rintro e w3 ⟨E, s3, rfl, hR, hO3, -⟩
               have HN : Hid (Lk.Ob [] w w3 p (2 * (i + 1)) s3 bs bw bq ∧ Lk.Inv s3 ∧ Lk.R8 s3) := Mp.hid ⟨hO3.mono (by omega), hR.inv HH.out.2.1, hR.r8 HH.out.2.2 (by omega)⟩
               have HC3 : Hid (w3.cell? ⟨b, o + i * 4 + 1, none⟩ = some (.int .i64 x.ho) ∧ w3.cell? ⟨b, o + i * 4 + 2, none⟩ = some (.int .i64 x.md) ∧ w3.cell? ⟨b, o + i * 4 + 3, none⟩ = some (Lk.str x.nm)) := Mp.hid ⟨(hO3.bel.cell (p := ⟨b, o + i * 4 + 1, none⟩) HBL.out.1).trans HBL.out.2.1, (hO3.bel.cell (p := ⟨b, o + i * 4 + 2, none⟩) HBL.out.1).trans HBL.out.2.2.1, (hO3.bel.cell (p := ⟨b, o + i * 4 + 3, none⟩) HBL.out.1).trans HBL.out.2.2.2⟩
               clear hR hO3))
        all_goals
          clear HC HD HH
          go_wp2_with fail
          refine ⟨⟨i + 1, s3, by have := HI.out; omega, by go_num, HN⟩, by have := HI.out; simp [RowKit.intOf]; omega⟩
      · have HE0 : Hid (Lk.E2 w (wr.alloc (.cells #[.bool false, .bool false, .bool false, .bool false, .bool false, .bool false, .bool false, .bool false, .bool false] 51)) wr.heap.size p bs bw bq s 0 n1) := Mp.hid ⟨(HH.out.1.new _).mono (by omega), HH.out.2.1, HH.out.2.2, HH.out.1.bel.size, _, Lk.Ar.new wr, fun _ h => by omega⟩
        clear HH
        go_wp2_with fail
        clear hlt hi hn0
        obtain ⟨G, hG⟩ : ∃ G, G = wr.heap.size := ⟨_, rfl⟩
        obtain ⟨W0, hW0⟩ : ∃ W0, W0 = wr.alloc (.cells #[.bool false, .bool false, .bool false, .bool false, .bool false, .bool false, .bool false, .bool false, .bool false] 51) := ⟨_, rfl⟩
        rw [← hG, ← hW0] at HE0
        rw [← hG, ← hW0]
        clear hG hW0
        go_loopw [8] (fun vi wr => ∃ (i : Nat) (s : Lk.St), i ≤ 108 ∧ (i : Int) ≤ 8 + (n1 : Int) ∧ vi = .int .i64 (i : Int) ∧ Hid (Lk.E2 w wr G p bs bw bq s i n1)) (fun vi _ => 108 - (RowKit.intOf vi).toNat)
        case atStart => exact ⟨0, s, by omega, by omega, rfl, HE0⟩
        case round =>
          clear HE0
          obtain ⟨i, s, hi108, hin, rfl, HH⟩ := hrel
          by_cases hov : n1 ≤ 9223372036854775799
          · by_cases hlt : (i : Int) < 8 + (n1 : Int)
            · by_cases hlt2 : i < 108
              · have g3 : (i : Int) < 108 := by omega
                have HB : ∃ hN : Nat, 1 ≤ hN ∧ hN ≤ 8 ∧ (n1 = 0 → hN = 1 + i % 8) ∧ ((hN : Int) = 1 + (i : Int) % 8) := ⟨1 + i % 8, by omega, by omega, fun _ => rfl, by omega⟩
                by_cases hio : i < n1
                · clear HB
                  obtain ⟨x, hx⟩ : ∃ x, ys[i]? = some x := ⟨_, List.getElem?_eq_getElem (by rw [hU.out.len]; exact hio)⟩
                  obtain ⟨hx8, b, o, rfl, hbl, hcx⟩ := hU.out.at_ i x hx
                  have hce : wr.cell? ⟨b, o + i, none⟩ = some (.int .u8 (x : Int)) := (HH.out.ob.bel.cell (p := ⟨b, o + i, none⟩) hbl).trans hcx
                  have g4 : (i : Int) < (n1 : Int) := by omega
                  have g5 : (0 : Int) ≤ (i : Int) := by omega
                  obtain ⟨hN, hhe⟩ : ∃ hN : Nat, (hN : Int) = 1 + (x : Int) % 8 := ⟨1 + x % 8, by omega⟩
                  have hh1 : 1 ≤ hN := by omega
                  have hh8 : hN ≤ 8 := by omega
                  have hhz : n1 = 0 → hN = 1 + i % 8 := fun h => by omega
                  clear hx hcx hbl
                  go_wp2_with fail
                  rw [← hhe]
                  clear hce hx8
                  obtain ⟨f, hAG, hf8⟩ := HH.out.ar
                  have HGL : Hid (w.heap.size ≤ G ∧ G < wr.heap.size ∧ wr.heap.size ≠ G ∧ w.heap.size ≤ wr.heap.size) := Mp.hid ⟨HH.out.gl, HH.out.ob.lt (List.mem_singleton.2 rfl), by have := HH.out.ob.lt (List.mem_singleton.2 rfl); omega, HH.out.ob.bel.size⟩
                  have HINV := Mp.hid (And.intro HH.out.inv HH.out.r8)
                  have HF8 := Mp.hid hf8
                  have HI : Hid (i < 108 ∧ (i : Int) < 8 + (n1 : Int)) := Mp.hid ⟨hlt2, hlt⟩
                  have HHN : Hid (1 ≤ hN ∧ hN ≤ 8 ∧ (n1 = 0 → hN = 1 + i % 8)) := Mp.hid ⟨hh1, hh8, hhz⟩
                  have HA0 : Hid (Lk.Ob [wr.heap.size, G] w (wr.alloc (.cells #[.bool false, .bool false, .bool false, .bool false, .bool false, .bool false, .bool false, .bool false, .bool false] 51)) p (300 + 401 * i) s bs bw bq ∧ Lk.Ar (wr.alloc (.cells #[.bool false, .bool false, .bool false, .bool false, .bool false, .bool false, .bool false, .bool false, .bool false] 51)) wr.heap.size (Lk.wasA s 1) ∧ Lk.Ar (wr.alloc (.cells #[.bool false, .bool false, .bool false, .bool false, .bool false, .bool false, .bool false, .bool false, .bool false] 51)) G f) := Mp.hid ⟨HH.out.ob.new _, (Lk.Ar.new wr).ext (fun k _ => by unfold Lk.wasA; by_cases h : 1 ≤ k <;> simp [h]; omega), hAG.below ((Below.refl _ _).alloc (Nat.le_refl _) _) (HH.out.ob.lt (List.mem_singleton.2 rfl))⟩
                  obtain ⟨B, hB⟩ : ∃ B, B = wr.heap.size := ⟨_, rfl⟩
                  obtain ⟨W3, hW3⟩ : ∃ W3, W3 = wr.alloc (.cells #[.bool false, .bool false, .bool false, .bool false, .bool false, .bool false, .bool false, .bool false, .bool false] 51) := ⟨_, rfl⟩
                  rw [← hB, ← hW3] at HA0
                  rw [← hB] at HGL
                  rw [← hB, ← hW3]
                  clear hB hW3 hAG hf8 HH hhe hh1 hh8 hhz hio hlt hlt2 hin hi108
                  go_loopw [11] (fun va wr => ∃ a : Nat, 1 ≤ a ∧ a ≤ 9 ∧ va = .int .i64 (a : Int) ∧ Hid (Lk.Ob [B, G] w wr p (300 + 401 * i) s bs bw bq ∧ Lk.Ar wr B (Lk.wasA s a) ∧ Lk.Ar wr G f)) (fun va _ => 9 - (RowKit.intOf va).toNat)
                  case atStart => exact ⟨1, by omega, by omega, rfl, HA0⟩
                  case round =>
                    clear HA0
                    obtain ⟨a, ha1, ha9, rfl, HK⟩ := hrel
                    by_cases ha : a ≤ 8
                    · have q1 : (a : Int) ≤ 8 := by omega
                      have q2 : (0 : Int) ≤ (a : Int) := by omega
                      have q3 : (a : Int) < 9 := by omega
                      have HO := Mp.hid HK.out.1
                      go_wp2_with fail
                      refine (waitsB_any [B, G] w wr p _ s bs bw bq (a : Int) HO (Lk.wf_lit (by omega) (by omega))).mono ?_
                      rintro e w4 ⟨rfl, hb4⟩
                      have HA4 := Mp.hid (HK.out.2.1.below hb4 (HK.out.1.lt (by simp)))
                      obtain ⟨hc4, hfz4⟩ := HA4.out a (by omega)
                      have HN : Hid (Lk.Ob [B, G] w (w4.setCell ⟨B, a, none⟩ (.bool (s.want (a : Int)).isSome)) p (300 + 401 * i) s bs bw bq ∧ Lk.Ar (w4.setCell ⟨B, a, none⟩ (.bool (s.want (a : Int)).isSome)) B (Lk.wasA s (a + 1)) ∧ Lk.Ar (w4.setCell ⟨B, a, none⟩ (.bool (s.want (a : Int)).isSome)) G f) := Mp.hid ⟨(HK.out.1.below hb4).setCell (by simp) (HGL.out.2.2.2) _, (HA4.out.set (by omega) _).ext (fun k _ => Lk.wasA_step s a k ha1), (HK.out.2.2.below hb4 (HK.out.1.lt (by simp))).far (fun e => HGL.out.2.2.1 e.symm) _ _⟩
                      clear hb4 HK HO HA4
                      go_wp2_with fail
                      refine ⟨⟨a + 1, by omega, by omega, by go_num, HN⟩, by simp [RowKit.intOf]; omega⟩
                    · obtain rfl : a = 9 := by omega
                      have HO := Mp.hid HK.out.1
                      have HI2 := Mp.hid HINV.out.1
                      go_wp2_with fail
                      refine (releaseB_any [B, G] w wr p (300 + 401 * i) s bs bw bq (hN : Int) HO hM (Lk.wf_lit (by have := HHN.out; omega) (by have := HHN.out; omega)) HI2 (Mp.hid (by have := HI.out; omega))).mono ?_
                      rintro e w5 ⟨v5, out, s', L5, rfl, -, -, -, hrow, hO5, hX5, hI5, hF5, hlen5⟩
                      obtain ⟨pg, cg, rfl, hRow5, hRb5⟩ := Lk.row_of hrow
                      have HF5 := Mp.hid hF5
                      have HI5 := Mp.hid (And.intro hI5 (hF5.r8 HINV.out.1 HINV.out.2))
                      have HRB : Hid (∀ b, pg = some ⟨b, 0, none⟩ → b ≠ B) := Mp.hid (fun b e e2 => by have h1 := (hRb5 b e).1; have h2 := HK.out.1.lt (b := B) (by simp); omega)
                      have HK0 : Hid (Lk.Ob [B, G] w w5 p (300 + 401 * i + 401) s' bs bw bq ∧ Lk.Ar w5 B (Lk.wasK s (out.take 0)) ∧ Lk.Ar w5 G f ∧ Md.Row w5 pg out) := Mp.hid ⟨hO5, ((HK.out.2.1.keep (hX5 B (by simp))).ext (fun k hk => by rw [List.take_zero]; exact Lk.wasA_nine s k hk)), HK.out.2.2.keep (hX5 G (by simp)), hRow5⟩
                      obtain ⟨no, hno⟩ : ∃ no, no = out.length := ⟨_, rfl⟩
                      rw [← hno] at hlen5
                      have HNO := Mp.hid hno
                      clear hrow hO5 hX5 hI5 hF5 hRow5 hRb5 HK HO HI2
                      go_wp2_with fail
                      rw [← hno]
                      clear hno
                      go_loopw [13] (fun vk wr => ∃ k : Nat, k ≤ no ∧ vk = .int .i64 (k : Int) ∧ Hid (Lk.Ob [B, G] w wr p (300 + 401 * i + 401) s' bs bw bq ∧ Lk.Ar wr B (Lk.wasK s (out.take k)) ∧ Lk.Ar wr G f ∧ Md.Row wr pg out)) (fun vk _ => no - (RowKit.intOf vk).toNat)
                      case atStart => exact ⟨0, by omega, rfl, HK0⟩
                      case round =>
                        clear HK0
                        obtain ⟨k, hk, rfl, HK⟩ := hrel
                        by_cases hkl : k < no
                        · obtain ⟨y0, hy⟩ : ∃ y, out[k]? = some y := ⟨_, List.getElem?_eq_getElem (by rw [← HNO.out]; exact hkl)⟩
                          have hmem := List.mem_of_getElem? hy
                          obtain ⟨ho1, ho2⟩ := Lk.out_ok HINV.out.1 HF5.out hmem
                          have hr8 := HINV.out.2.want y0 (Lk.some_ne ho1)
                          obtain ⟨y, rfl⟩ : ∃ y : Nat, y0 = (y : Int) := ⟨y0.toNat, by omega⟩
                          obtain ⟨g, rfl, hcy⟩ := HK.out.2.2.2 k _ hy
                          obtain ⟨hcw, hfw⟩ := HK.out.2.1 y (by omega)
                          have hnt : (out.take k).contains (y : Int) = false := by
                            rw [Bool.eq_false_iff]
                            intro h
                            have h1 := List.contains_iff_mem.1 h
                            obtain ⟨j, hj⟩ := List.getElem?_of_mem h1
                            have hjk : j < k := by have := (List.getElem?_eq_some_iff.1 hj).1; rw [List.length_take] at this; omega
                            rw [List.getElem?_take, if_pos hjk] at hj
                            obtain ⟨hj1, hj2⟩ := List.getElem?_eq_some_iff.1 hj
                            obtain ⟨hk1, hk2⟩ := List.getElem?_eq_some_iff.1 hy
                            exact (List.pairwise_iff_getElem.1 HF5.out.nd j k hj1 hk1 hjk) (hj2.trans hk2.symm)
                          have hwk : Lk.wasK s (out.take k) y = true := by
                            unfold Lk.wasK
                            rw [ho1, hnt]
                            have : decide (1 ≤ y) = true := by simp; omega
                            rw [this]; rfl
                          rw [hwk] at hcw
                          have hyn : ((y : Int) == (hN : Int)) = false := by simpa using ho2
                          have q1 : (0 : Int) ≤ (k : Int) := by omega
                          have q2 : (k : Int) < (no : Int) := by omega
                          have q3 : (1 : Int) ≤ (y : Int) := by omega
                          have q4 : (y : Int) ≤ 8 := by omega
                          have q5 : (0 : Int) ≤ (y : Int) := by omega
                          have q6 : (y : Int) < 9 := by omega
                          have HN : Hid (Lk.Ob [B, G] w (wr.setCell ⟨B, y, none⟩ (.bool false)) p (300 + 401 * i + 401) s' bs bw bq ∧ Lk.Ar (wr.setCell ⟨B, y, none⟩ (.bool false)) B (Lk.wasK s (out.take (k + 1))) ∧ Lk.Ar (wr.setCell ⟨B, y, none⟩ (.bool false)) G f ∧ Md.Row (wr.setCell ⟨B, y, none⟩ (.bool false)) (some ⟨g, 0, none⟩) out) := Mp.hid ⟨HK.out.1.setCell (by simp) HGL.out.2.2.2 _, (HK.out.2.1.set (by omega) false).ext (fun j _ => Lk.wasK_step s hy j), HK.out.2.2.1.far (fun e => HGL.out.2.2.1 e.symm) _ _, HK.out.2.2.2.keep (fun b e => Below.heap_setCell wr ⟨B, y, none⟩ _ b (HRB.out b e))⟩
                          clear hmem ho1 ho2 hr8 hnt hwk hy HK
                          go_wp2_with fail
                          refine ⟨⟨k + 1, by omega, by go_num, HN⟩, by simp [RowKit.intOf]; omega⟩
                        · have HKF : Hid (Lk.Ar wr B (Lk.wasK s out)) := Mp.hid (by have := HK.out.2.1; rwa [List.take_of_length_le (by rw [← HNO.out]; omega)] at this)
                          have HM0 : Hid (Lk.Ob [B, G] w wr p (300 + 401 * i + 401) s' bs bw bq ∧ Lk.Ar wr B (Lk.wasK s out) ∧ Lk.Ar wr G f) := Mp.hid ⟨HK.out.1, HKF.out, HK.out.2.2.1⟩
                          clear HK HKF
                          go_wp2_with fail
                          go_loopw [14] (fun va wr => ∃ a : Nat, 1 ≤ a ∧ a ≤ 9 ∧ va = .int .i64 (a : Int) ∧ Hid (Lk.Ob [B, G] w wr p (300 + 401 * i + 401) s' bs bw bq ∧ Lk.Ar wr B (Lk.wasK s out) ∧ Lk.Ar wr G f)) (fun va _ => 9 - (RowKit.intOf va).toNat)
                          case atStart => exact ⟨1, by omega, by omega, rfl, HM0⟩
                          case round =>
                            clear HM0
                            obtain ⟨a, ha1, ha9, rfl, HK⟩ := hrel
                            by_cases ha : a ≤ 8
                            · have q1 : (a : Int) ≤ 8 := by omega
                              have q2 : (0 : Int) ≤ (a : Int) := by omega
                              have q3 : (a : Int) < 9 := by omega
                              have HO := Mp.hid HK.out.1
                              have hnow := Lk.now_ok HF5.out (a : Int)
                              have hwa : Lk.wasK s out a = ((s.want (a : Int)).isSome && !out.contains (a : Int)) := by
                                unfold Lk.wasK
                                have : decide (1 ≤ a) = true := by simp; omega
                                rw [this]; rfl
                              rw [← hwa] at hnow
                              clear hwa
                              go_wp2_with fail
                              refine (waitsB_any [B, G] w wr p _ s' bs bw bq (a : Int) HO (Lk.wf_lit (by omega) (by omega))).mono ?_
                              rw [hnow]
                              rintro e w6 ⟨rfl, hb6⟩
                              have HN : Hid (Lk.Ob [B, G] w w6 p (300 + 401 * i + 401) s' bs bw bq ∧ Lk.Ar w6 B (Lk.wasK s out) ∧ Lk.Ar w6 G f) := Mp.hid ⟨HK.out.1.below hb6, HK.out.2.1.below hb6 (HK.out.1.lt (by simp)), HK.out.2.2.below hb6 (HK.out.1.lt (by simp))⟩
                              have hcw := (HN.out.2.1 a (by omega)).1
                              clear hb6 hnow HK HO
                              rcases hwb : Lk.wasK s out a with _ | _
                              · rw [hwb] at hcw
                                clear hwb
                                go_wp2_with fail
                                refine ⟨⟨a + 1, by omega, by omega, by go_num, HN⟩, by simp [RowKit.intOf]; omega⟩
                              · rw [hwb] at hcw
                                clear hwb
                                by_cases hah : a = hN
                                · have hae : ((a : Int) == (hN : Int)) = true := by simp; omega
                                  have hae2 : ((a : Int) != (hN : Int)) = false := by simp; omega
                                  have hd : decide ((a : Int) ≠ (hN : Int)) = false := by simp; omega
                                  clear hah
                                  rw [hd]
                                  go_wp2_with fail
                                  refine ⟨⟨a + 1, by omega, by omega, by go_num, HN⟩, by simp [RowKit.intOf]; omega⟩
                                · have hae : ((a : Int) == (hN : Int)) = false := by simp; omega
                                  have hae2 : ((a : Int) != (hN : Int)) = true := by simp; omega
                                  have hd : decide ((a : Int) ≠ (hN : Int)) = true := by simp; omega
                                  clear hah
                                  rw [hd]
                                  go_wp2_with fail
                                  refine ⟨⟨a + 1, by omega, by omega, by go_num, HN⟩, by simp [RowKit.intOf]; omega⟩
                            · obtain rfl : a = 9 := by omega
                              obtain ⟨hcg, hfg⟩ := HK.out.2.2 hN (by have := HHN.out; omega)
                              have q2 : (0 : Int) ≤ (hN : Int) := by omega
                              have q3 : (hN : Int) < 9 := by have := HHN.out; omega
                              have HN : Hid (Lk.E2 w (wr.setCell ⟨G, hN, none⟩ (.bool true)) G p bs bw bq s' (i + 1) n1) := Mp.hid ⟨((HK.out.1.less (Y := [G]) (by simp)).setCell (by simp) HGL.out.1 _).mono (by omega), HI5.out.1, HI5.out.2, HGL.out.1, _, HK.out.2.2.set (by have := HHN.out; omega) true, fun hz h8 => by
                                by_cases e : 8 = hN
                                · rw [if_pos e]
                                · rw [if_neg e]
                                  exact HF8.out hz (by have := HHN.out.2.2 hz; omega)⟩
                              clear HK
                              go_wp2_with fail
                              refine ⟨⟨i + 1, s', by have := HI.out; omega, by have := HI.out; omega, by go_num, HN⟩, by have := HI.out; simp [RowKit.intOf]; omega⟩
                · have g4 : ¬ (i : Int) < (n1 : Int) := by omega
                  obtain ⟨hN, hh1, hh8, hhz, hhe⟩ := HB
                  go_wp2_with fail
                  rw [← hhe]
                  obtain ⟨f, hAG, hf8⟩ := HH.out.ar
                  have HGL : Hid (w.heap.size ≤ G ∧ G < wr.heap.size ∧ wr.heap.size ≠ G ∧ w.heap.size ≤ wr.heap.size) := Mp.hid ⟨HH.out.gl, HH.out.ob.lt (List.mem_singleton.2 rfl), by have := HH.out.ob.lt (List.mem_singleton.2 rfl); omega, HH.out.ob.bel.size⟩
                  have HINV := Mp.hid (And.intro HH.out.inv HH.out.r8)
                  have HF8 := Mp.hid hf8
                  have HI : Hid (i < 108 ∧ (i : Int) < 8 + (n1 : Int)) := Mp.hid ⟨hlt2, hlt⟩
                  have HHN : Hid (1 ≤ hN ∧ hN ≤ 8 ∧ (n1 = 0 → hN = 1 + i % 8)) := Mp.hid ⟨hh1, hh8, hhz⟩
                  have HA0 : Hid (Lk.Ob [wr.heap.size, G] w (wr.alloc (.cells #[.bool false, .bool false, .bool false, .bool false, .bool false, .bool false, .bool false, .bool false, .bool false] 51)) p (300 + 401 * i) s bs bw bq ∧ Lk.Ar (wr.alloc (.cells #[.bool false, .bool false, .bool false, .bool false, .bool false, .bool false, .bool false, .bool false, .bool false] 51)) wr.heap.size (Lk.wasA s 1) ∧ Lk.Ar (wr.alloc (.cells #[.bool false, .bool false, .bool false, .bool false, .bool false, .bool false, .bool false, .bool false, .bool false] 51)) G f) := Mp.hid ⟨HH.out.ob.new _, (Lk.Ar.new wr).ext (fun k _ => by unfold Lk.wasA; by_cases h : 1 ≤ k <;> simp [h]; omega), hAG.below ((Below.refl _ _).alloc (Nat.le_refl _) _) (HH.out.ob.lt (List.mem_singleton.2 rfl))⟩
                  obtain ⟨B, hB⟩ : ∃ B, B = wr.heap.size := ⟨_, rfl⟩
                  obtain ⟨W3, hW3⟩ : ∃ W3, W3 = wr.alloc (.cells #[.bool false, .bool false, .bool false, .bool false, .bool false, .bool false, .bool false, .bool false, .bool false] 51) := ⟨_, rfl⟩
                  rw [← hB, ← hW3] at HA0
                  rw [← hB] at HGL
                  rw [← hB, ← hW3]
                  clear hB hW3 hAG hf8 HH hhe hh1 hh8 hhz hio hlt hlt2 hin hi108
                  go_loopw [11] (fun va wr => ∃ a : Nat, 1 ≤ a ∧ a ≤ 9 ∧ va = .int .i64 (a : Int) ∧ Hid (Lk.Ob [B, G] w wr p (300 + 401 * i) s bs bw bq ∧ Lk.Ar wr B (Lk.wasA s a) ∧ Lk.Ar wr G f)) (fun va _ => 9 - (RowKit.intOf va).toNat)
                  case atStart => exact ⟨1, by omega, by omega, rfl, HA0⟩
                  case round =>
                    clear HA0
                    obtain ⟨a, ha1, ha9, rfl, HK⟩ := hrel
                    by_cases ha : a ≤ 8
                    · have q1 : (a : Int) ≤ 8 := by omega
                      have q2 : (0 : Int) ≤ (a : Int) := by omega
                      have q3 : (a : Int) < 9 := by omega
                      have HO := Mp.hid HK.out.1
                      go_wp2_with fail
                      refine (waitsB_any [B, G] w wr p _ s bs bw bq (a : Int) HO (Lk.wf_lit (by omega) (by omega))).mono ?_
                      rintro e w4 ⟨rfl, hb4⟩
                      have HA4 := Mp.hid (HK.out.2.1.below hb4 (HK.out.1.lt (by simp)))
                      obtain ⟨hc4, hfz4⟩ := HA4.out a (by omega)
                      have HN : Hid (Lk.Ob [B, G] w (w4.setCell ⟨B, a, none⟩ (.bool (s.want (a : Int)).isSome)) p (300 + 401 * i) s bs bw bq ∧ Lk.Ar (w4.setCell ⟨B, a, none⟩ (.bool (s.want (a : Int)).isSome)) B (Lk.wasA s (a + 1)) ∧ Lk.Ar (w4.setCell ⟨B, a, none⟩ (.bool (s.want (a : Int)).isSome)) G f) := Mp.hid ⟨(HK.out.1.below hb4).setCell (by simp) (HGL.out.2.2.2) _, (HA4.out.set (by omega) _).ext (fun k _ => Lk.wasA_step s a k ha1), (HK.out.2.2.below hb4 (HK.out.1.lt (by simp))).far (fun e => HGL.out.2.2.1 e.symm) _ _⟩
                      clear hb4 HK HO HA4
                      go_wp2_with fail
                      refine ⟨⟨a + 1, by omega, by omega, by go_num, HN⟩, by simp [RowKit.intOf]; omega⟩
                    · obtain rfl : a = 9 := by omega
                      have HO := Mp.hid HK.out.1
                      have HI2 := Mp.hid HINV.out.1
                      go_wp2_with fail
                      refine (releaseB_any [B, G] w wr p (300 + 401 * i) s bs bw bq (hN : Int) HO hM (Lk.wf_lit (by have := HHN.out; omega) (by have := HHN.out; omega)) HI2 (Mp.hid (by have := HI.out; omega))).mono ?_
                      rintro e w5 ⟨v5, out, s', L5, rfl, -, -, -, hrow, hO5, hX5, hI5, hF5, hlen5⟩
                      obtain ⟨pg, cg, rfl, hRow5, hRb5⟩ := Lk.row_of hrow
                      have HF5 := Mp.hid hF5
                      have HI5 := Mp.hid (And.intro hI5 (hF5.r8 HINV.out.1 HINV.out.2))
                      have HRB : Hid (∀ b, pg = some ⟨b, 0, none⟩ → b ≠ B) := Mp.hid (fun b e e2 => by have h1 := (hRb5 b e).1; have h2 := HK.out.1.lt (b := B) (by simp); omega)
                      have HK0 : Hid (Lk.Ob [B, G] w w5 p (300 + 401 * i + 401) s' bs bw bq ∧ Lk.Ar w5 B (Lk.wasK s (out.take 0)) ∧ Lk.Ar w5 G f ∧ Md.Row w5 pg out) := Mp.hid ⟨hO5, ((HK.out.2.1.keep (hX5 B (by simp))).ext (fun k hk => by rw [List.take_zero]; exact Lk.wasA_nine s k hk)), HK.out.2.2.keep (hX5 G (by simp)), hRow5⟩
                      obtain ⟨no, hno⟩ : ∃ no, no = out.length := ⟨_, rfl⟩
                      rw [← hno] at hlen5
                      have HNO := Mp.hid hno
                      clear hrow hO5 hX5 hI5 hF5 hRow5 hRb5 HK HO HI2
                      go_wp2_with fail
                      rw [← hno]
                      clear hno
                      go_loopw [13] (fun vk wr => ∃ k : Nat, k ≤ no ∧ vk = .int .i64 (k : Int) ∧ Hid (Lk.Ob [B, G] w wr p (300 + 401 * i + 401) s' bs bw bq ∧ Lk.Ar wr B (Lk.wasK s (out.take k)) ∧ Lk.Ar wr G f ∧ Md.Row wr pg out)) (fun vk _ => no - (RowKit.intOf vk).toNat)
                      case atStart => exact ⟨0, by omega, rfl, HK0⟩
                      case round =>
                        clear HK0
                        obtain ⟨k, hk, rfl, HK⟩ := hrel
                        by_cases hkl : k < no
                        · obtain ⟨y0, hy⟩ : ∃ y, out[k]? = some y := ⟨_, List.getElem?_eq_getElem (by rw [← HNO.out]; exact hkl)⟩
                          have hmem := List.mem_of_getElem? hy
                          obtain ⟨ho1, ho2⟩ := Lk.out_ok HINV.out.1 HF5.out hmem
                          have hr8 := HINV.out.2.want y0 (Lk.some_ne ho1)
                          obtain ⟨y, rfl⟩ : ∃ y : Nat, y0 = (y : Int) := ⟨y0.toNat, by omega⟩
                          obtain ⟨g, rfl, hcy⟩ := HK.out.2.2.2 k _ hy
                          obtain ⟨hcw, hfw⟩ := HK.out.2.1 y (by omega)
                          have hnt : (out.take k).contains (y : Int) = false := by
                            rw [Bool.eq_false_iff]
                            intro h
                            have h1 := List.contains_iff_mem.1 h
                            obtain ⟨j, hj⟩ := List.getElem?_of_mem h1
                            have hjk : j < k := by have := (List.getElem?_eq_some_iff.1 hj).1; rw [List.length_take] at this; omega
                            rw [List.getElem?_take, if_pos hjk] at hj
                            obtain ⟨hj1, hj2⟩ := List.getElem?_eq_some_iff.1 hj
                            obtain ⟨hk1, hk2⟩ := List.getElem?_eq_some_iff.1 hy
                            exact (List.pairwise_iff_getElem.1 HF5.out.nd j k hj1 hk1 hjk) (hj2.trans hk2.symm)
                          have hwk : Lk.wasK s (out.take k) y = true := by
                            unfold Lk.wasK
                            rw [ho1, hnt]
                            have : decide (1 ≤ y) = true := by simp; omega
                            rw [this]; rfl
                          rw [hwk] at hcw
                          have hyn : ((y : Int) == (hN : Int)) = false := by simpa using ho2
                          have q1 : (0 : Int) ≤ (k : Int) := by omega
                          have q2 : (k : Int) < (no : Int) := by omega
                          have q3 : (1 : Int) ≤ (y : Int) := by omega
                          have q4 : (y : Int) ≤ 8 := by omega
                          have q5 : (0 : Int) ≤ (y : Int) := by omega
                          have q6 : (y : Int) < 9 := by omega
                          have HN : Hid (Lk.Ob [B, G] w (wr.setCell ⟨B, y, none⟩ (.bool false)) p (300 + 401 * i + 401) s' bs bw bq ∧ Lk.Ar (wr.setCell ⟨B, y, none⟩ (.bool false)) B (Lk.wasK s (out.take (k + 1))) ∧ Lk.Ar (wr.setCell ⟨B, y, none⟩ (.bool false)) G f ∧ Md.Row (wr.setCell ⟨B, y, none⟩ (.bool false)) (some ⟨g, 0, none⟩) out) := Mp.hid ⟨HK.out.1.setCell (by simp) HGL.out.2.2.2 _, (HK.out.2.1.set (by omega) false).ext (fun j _ => Lk.wasK_step s hy j), HK.out.2.2.1.far (fun e => HGL.out.2.2.1 e.symm) _ _, HK.out.2.2.2.keep (fun b e => Below.heap_setCell wr ⟨B, y, none⟩ _ b (HRB.out b e))⟩
                          clear hmem ho1 ho2 hr8 hnt hwk hy HK
                          go_wp2_with fail
                          refine ⟨⟨k + 1, by omega, by go_num, HN⟩, by simp [RowKit.intOf]; omega⟩
                        · have HKF : Hid (Lk.Ar wr B (Lk.wasK s out)) := Mp.hid (by have := HK.out.2.1; rwa [List.take_of_length_le (by rw [← HNO.out]; omega)] at this)
                          have HM0 : Hid (Lk.Ob [B, G] w wr p (300 + 401 * i + 401) s' bs bw bq ∧ Lk.Ar wr B (Lk.wasK s out) ∧ Lk.Ar wr G f) := Mp.hid ⟨HK.out.1, HKF.out, HK.out.2.2.1⟩
                          clear HK HKF
                          go_wp2_with fail
                          go_loopw [14] (fun va wr => ∃ a : Nat, 1 ≤ a ∧ a ≤ 9 ∧ va = .int .i64 (a : Int) ∧ Hid (Lk.Ob [B, G] w wr p (300 + 401 * i + 401) s' bs bw bq ∧ Lk.Ar wr B (Lk.wasK s out) ∧ Lk.Ar wr G f)) (fun va _ => 9 - (RowKit.intOf va).toNat)
                          case atStart => exact ⟨1, by omega, by omega, rfl, HM0⟩
                          case round =>
                            clear HM0
                            obtain ⟨a, ha1, ha9, rfl, HK⟩ := hrel
                            by_cases ha : a ≤ 8
                            · have q1 : (a : Int) ≤ 8 := by omega
                              have q2 : (0 : Int) ≤ (a : Int) := by omega
                              have q3 : (a : Int) < 9 := by omega
                              have HO := Mp.hid HK.out.1
                              have hnow := Lk.now_ok HF5.out (a : Int)
                              have hwa : Lk.wasK s out a = ((s.want (a : Int)).isSome && !out.contains (a : Int)) := by
                                unfold Lk.wasK
                                have : decide (1 ≤ a) = true := by simp; omega
                                rw [this]; rfl
                              rw [← hwa] at hnow
                              clear hwa
                              go_wp2_with fail
                              refine (waitsB_any [B, G] w wr p _ s' bs bw bq (a : Int) HO (Lk.wf_lit (by omega) (by omega))).mono ?_
                              rw [hnow]
                              rintro e w6 ⟨rfl, hb6⟩
                              have HN : Hid (Lk.Ob [B, G] w w6 p (300 + 401 * i + 401) s' bs bw bq ∧ Lk.Ar w6 B (Lk.wasK s out) ∧ Lk.Ar w6 G f) := Mp.hid ⟨HK.out.1.below hb6, HK.out.2.1.below hb6 (HK.out.1.lt (by simp)), HK.out.2.2.below hb6 (HK.out.1.lt (by simp))⟩
                              have hcw := (HN.out.2.1 a (by omega)).1
                              clear hb6 hnow HK HO
                              rcases hwb : Lk.wasK s out a with _ | _
                              · rw [hwb] at hcw
                                clear hwb
                                go_wp2_with fail
                                refine ⟨⟨a + 1, by omega, by omega, by go_num, HN⟩, by simp [RowKit.intOf]; omega⟩
                              · rw [hwb] at hcw
                                clear hwb
                                by_cases hah : a = hN
                                · have hae : ((a : Int) == (hN : Int)) = true := by simp; omega
                                  have hae2 : ((a : Int) != (hN : Int)) = false := by simp; omega
                                  have hd : decide ((a : Int) ≠ (hN : Int)) = false := by simp; omega
                                  clear hah
                                  rw [hd]
                                  go_wp2_with fail
                                  refine ⟨⟨a + 1, by omega, by omega, by go_num, HN⟩, by simp [RowKit.intOf]; omega⟩
                                · have hae : ((a : Int) == (hN : Int)) = false := by simp; omega
                                  have hae2 : ((a : Int) != (hN : Int)) = true := by simp; omega
                                  have hd : decide ((a : Int) ≠ (hN : Int)) = true := by simp; omega
                                  clear hah
                                  rw [hd]
                                  go_wp2_with fail
                                  refine ⟨⟨a + 1, by omega, by omega, by go_num, HN⟩, by simp [RowKit.intOf]; omega⟩
                            · obtain rfl : a = 9 := by omega
                              obtain ⟨hcg, hfg⟩ := HK.out.2.2 hN (by have := HHN.out; omega)
                              have q2 : (0 : Int) ≤ (hN : Int) := by omega
                              have q3 : (hN : Int) < 9 := by have := HHN.out; omega
                              have HN : Hid (Lk.E2 w (wr.setCell ⟨G, hN, none⟩ (.bool true)) G p bs bw bq s' (i + 1) n1) := Mp.hid ⟨((HK.out.1.less (Y := [G]) (by simp)).setCell (by simp) HGL.out.1 _).mono (by omega), HI5.out.1, HI5.out.2, HGL.out.1, _, HK.out.2.2.set (by have := HHN.out; omega) true, fun hz h8 => by
                                by_cases e : 8 = hN
                                · rw [if_pos e]
                                · rw [if_neg e]
                                  exact HF8.out hz (by have := HHN.out.2.2 hz; omega)⟩
                              clear HK
                              go_wp2_with fail
                              refine ⟨⟨i + 1, s', by have := HI.out; omega, by have := HI.out; omega, by go_num, HN⟩, by have := HI.out; simp [RowKit.intOf]; omega⟩
              · have g3 : ¬ (i : Int) < 108 := by omega
                obtain ⟨f, hAG, hf8⟩ := HH.out.ar
                have HTL : Hid (Lk.Ob [G] w wr p 45000 s bs bw bq ∧ Lk.Inv s ∧ Lk.R8 s ∧ Lk.Ar wr G f) := Mp.hid ⟨HH.out.ob.mono (by omega), HH.out.inv, HH.out.r8, hAG⟩
                have HF8 : Hid (n1 = 0 → f 8 = true) := Mp.hid (fun hz => hf8 hz (by omega))
                clear HH hAG hf8
                go_wp2_with fail
                go_loopw [18] (fun vh wr => ∃ (h : Nat) (s : Lk.St), 1 ≤ h ∧ h ≤ 9 ∧ vh = .int .i64 (h : Int) ∧ Hid (Lk.Ob [G] w wr p (45000 + 401 * h) s bs bw bq ∧ Lk.Inv s ∧ Lk.R8 s ∧ Lk.Zk s (h : Int) ∧ Lk.Ar wr G f)) (fun vh _ => 9 - (RowKit.intOf vh).toNat)
                case atStart => exact ⟨1, _, by omega, by omega, rfl, Mp.hid ⟨HTL.out.1.mono (by omega), HTL.out.2.1, HTL.out.2.2.1, (fun y h1 h2 => by omega), HTL.out.2.2.2⟩⟩
                case round =>
                  obtain ⟨h, s5, hh1, hh9, rfl, HH⟩ := hrel
                  have HO := Mp.hid HH.out.1
                  have HI5 := Mp.hid HH.out.2.1
                  by_cases hlt9 : h ≤ 8
                  · have g1 : (h : Int) ≤ 8 := by omega
                    go_wp2_with fail
                    refine (releaseB_any [G] w wr p (45000 + 401 * h) s5 bs bw bq (h : Int) HO hM (Lk.wf_lit (by omega) (by omega)) HI5 (Mp.hid (by omega))).mono ?_
                    rintro e w6 ⟨v6, out6, s6, L6, rfl, hR, hU, hm, hrow, hO6, hX6, hI6, hF6, -⟩
                    have HN : Hid (Lk.Ob [G] w w6 p (45000 + 401 * (h + 1)) s6 bs bw bq ∧ Lk.Inv s6 ∧ Lk.R8 s6 ∧ Lk.Zk s6 ((h + 1 : Nat) : Int) ∧ Lk.Ar w6 G f) := Mp.hid ⟨hO6.mono (by omega), hI6, hF6.r8 HI5.out HH.out.2.2.1, by have := hF6.zk HI5.out HH.out.2.2.2.1; simpa using this, HH.out.2.2.2.2.keep (hX6 G (List.mem_singleton.2 rfl))⟩
                    clear hR hU hm hrow hO6 hX6 hI6 hF6 HH HO HI5
                    go_wp2_with fail
                    refine ⟨⟨h + 1, s6, by omega, by omega, by go_num, HN⟩, by simp [RowKit.intOf]; omega⟩
                  · obtain rfl : h = 9 := by omega
                    have HZ : Hid ((∀ y n, s5.set y n = 0) ∧ ∀ n, s5.q n = []) := Mp.hid (Lk.all_none HI5.out HH.out.2.2.1 HH.out.2.2.2.1)
                    have hc8 := (HH.out.2.2.2.2 8 (by omega)).1
                    have HAR := Mp.hid HH.out.2.2.2.2
                    have HGX := Mp.hid (HH.out.1.lt (List.mem_singleton.2 rfl))
                    clear hc8
                    go_wp2_with fail
                    refine (namesB_any [G] w wr p _ s5 bs bw bq HO (Mp.hid (by omega))).mono ?_
                    rintro e w7 ⟨v7, L7, rfl, hrow7, -, hm7, -, hb7⟩
                    obtain rfl := Lk.names_none HZ.out hm7
                    obtain ⟨p7, c7, rfl⟩ := Lk.row_shape hrow7
                    have HO7 := Mp.hid (HO.out.below hb7)
                    have HA7 := Mp.hid (HAR.out.below hb7 HGX.out)
                    clear hrow7 hm7 hb7
                    by_cases hz1 : n1 = 0
                    · have h8 : f 8 = true := HF8.out hz1
                      have hc8 : w7.cell? ⟨G, 8, none⟩ = some (.bool true) := by rw [← h8]; exact (HA7.out 8 (by omega)).1
                      subst hz1
                      go_wp2_with (first | (go_at_call 11; refine (wakes6_any _ (Mp.hid (HO7.out.md hM.out))).mono ?_; rintro e w8 ⟨rfl, hb8⟩))
                      go_ret
                      exact ⟨rfl, HO7.out.bel.trans (hb8.mono HO7.out.bel.size)⟩
                    · have hp1 : (0 : Int) < (n1 : Int) := by omega
                      go_wp2_with (first | (go_at_call 11; refine (wakes6_any _ (Mp.hid (HO7.out.md hM.out))).mono ?_; rintro e w8 ⟨rfl, hb8⟩))
                      go_ret
                      exact ⟨rfl, HO7.out.bel.trans (hb8.mono HO7.out.bel.size)⟩
            · have g3 : ¬ (i : Int) < 8 + (n1 : Int) := hlt
              obtain ⟨f, hAG, hf8⟩ := HH.out.ar
              have HTL : Hid (Lk.Ob [G] w wr p 45000 s bs bw bq ∧ Lk.Inv s ∧ Lk.R8 s ∧ Lk.Ar wr G f) := Mp.hid ⟨HH.out.ob.mono (by omega), HH.out.inv, HH.out.r8, hAG⟩
              have HF8 : Hid (n1 = 0 → f 8 = true) := Mp.hid (fun hz => hf8 hz (by omega))
              clear HH hAG hf8
              go_wp2_with fail
              go_loopw [18] (fun vh wr => ∃ (h : Nat) (s : Lk.St), 1 ≤ h ∧ h ≤ 9 ∧ vh = .int .i64 (h : Int) ∧ Hid (Lk.Ob [G] w wr p (45000 + 401 * h) s bs bw bq ∧ Lk.Inv s ∧ Lk.R8 s ∧ Lk.Zk s (h : Int) ∧ Lk.Ar wr G f)) (fun vh _ => 9 - (RowKit.intOf vh).toNat)
              case atStart => exact ⟨1, _, by omega, by omega, rfl, Mp.hid ⟨HTL.out.1.mono (by omega), HTL.out.2.1, HTL.out.2.2.1, (fun y h1 h2 => by omega), HTL.out.2.2.2⟩⟩
              case round =>
                obtain ⟨h, s5, hh1, hh9, rfl, HH⟩ := hrel
                have HO := Mp.hid HH.out.1
                have HI5 := Mp.hid HH.out.2.1
                by_cases hlt9 : h ≤ 8
                · have g1 : (h : Int) ≤ 8 := by omega
                  go_wp2_with fail
                  refine (releaseB_any [G] w wr p (45000 + 401 * h) s5 bs bw bq (h : Int) HO hM (Lk.wf_lit (by omega) (by omega)) HI5 (Mp.hid (by omega))).mono ?_
                  rintro e w6 ⟨v6, out6, s6, L6, rfl, hR, hU, hm, hrow, hO6, hX6, hI6, hF6, -⟩
                  have HN : Hid (Lk.Ob [G] w w6 p (45000 + 401 * (h + 1)) s6 bs bw bq ∧ Lk.Inv s6 ∧ Lk.R8 s6 ∧ Lk.Zk s6 ((h + 1 : Nat) : Int) ∧ Lk.Ar w6 G f) := Mp.hid ⟨hO6.mono (by omega), hI6, hF6.r8 HI5.out HH.out.2.2.1, by have := hF6.zk HI5.out HH.out.2.2.2.1; simpa using this, HH.out.2.2.2.2.keep (hX6 G (List.mem_singleton.2 rfl))⟩
                  clear hR hU hm hrow hO6 hX6 hI6 hF6 HH HO HI5
                  go_wp2_with fail
                  refine ⟨⟨h + 1, s6, by omega, by omega, by go_num, HN⟩, by simp [RowKit.intOf]; omega⟩
                · obtain rfl : h = 9 := by omega
                  have HZ : Hid ((∀ y n, s5.set y n = 0) ∧ ∀ n, s5.q n = []) := Mp.hid (Lk.all_none HI5.out HH.out.2.2.1 HH.out.2.2.2.1)
                  have hc8 := (HH.out.2.2.2.2 8 (by omega)).1
                  have HAR := Mp.hid HH.out.2.2.2.2
                  have HGX := Mp.hid (HH.out.1.lt (List.mem_singleton.2 rfl))
                  clear hc8
                  go_wp2_with fail
                  refine (namesB_any [G] w wr p _ s5 bs bw bq HO (Mp.hid (by omega))).mono ?_
                  rintro e w7 ⟨v7, L7, rfl, hrow7, -, hm7, -, hb7⟩
                  obtain rfl := Lk.names_none HZ.out hm7
                  obtain ⟨p7, c7, rfl⟩ := Lk.row_shape hrow7
                  have HO7 := Mp.hid (HO.out.below hb7)
                  have HA7 := Mp.hid (HAR.out.below hb7 HGX.out)
                  clear hrow7 hm7 hb7
                  by_cases hz1 : n1 = 0
                  · have h8 : f 8 = true := HF8.out hz1
                    have hc8 : w7.cell? ⟨G, 8, none⟩ = some (.bool true) := by rw [← h8]; exact (HA7.out 8 (by omega)).1
                    subst hz1
                    go_wp2_with (first | (go_at_call 11; refine (wakes6_any _ (Mp.hid (HO7.out.md hM.out))).mono ?_; rintro e w8 ⟨rfl, hb8⟩))
                    go_ret
                    exact ⟨rfl, HO7.out.bel.trans (hb8.mono HO7.out.bel.size)⟩
                  · have hp1 : (0 : Int) < (n1 : Int) := by omega
                    go_wp2_with (first | (go_at_call 11; refine (wakes6_any _ (Mp.hid (HO7.out.md hM.out))).mono ?_; rintro e w8 ⟨rfl, hb8⟩))
                    go_ret
                    exact ⟨rfl, HO7.out.bel.trans (hb8.mono HO7.out.bel.size)⟩
          · have hz : n1 ≠ 0 := by omega
            have hi0 : wrap64 (8 + (n1 : Int)) < 0 := by unfold wrap64; omega
            have g3 : ¬ (i : Int) < wrap64 (8 + (n1 : Int)) := by omega
            obtain ⟨f, hAG, hf8⟩ := HH.out.ar
            have HTL : Hid (Lk.Ob [G] w wr p 45000 s bs bw bq ∧ Lk.Inv s ∧ Lk.R8 s ∧ Lk.Ar wr G f) := Mp.hid ⟨HH.out.ob.mono (by omega), HH.out.inv, HH.out.r8, hAG⟩
            have HF8 : Hid (n1 = 0 → f 8 = true) := Mp.hid (fun h => absurd h hz)
            clear HH hAG hf8
            go_wp2_with fail
            go_loopw [18] (fun vh wr => ∃ (h : Nat) (s : Lk.St), 1 ≤ h ∧ h ≤ 9 ∧ vh = .int .i64 (h : Int) ∧ Hid (Lk.Ob [G] w wr p (45000 + 401 * h) s bs bw bq ∧ Lk.Inv s ∧ Lk.R8 s ∧ Lk.Zk s (h : Int) ∧ Lk.Ar wr G f)) (fun vh _ => 9 - (RowKit.intOf vh).toNat)
            case atStart => exact ⟨1, _, by omega, by omega, rfl, Mp.hid ⟨HTL.out.1.mono (by omega), HTL.out.2.1, HTL.out.2.2.1, (fun y h1 h2 => by omega), HTL.out.2.2.2⟩⟩
            case round =>
              obtain ⟨h, s5, hh1, hh9, rfl, HH⟩ := hrel
              have HO := Mp.hid HH.out.1
              have HI5 := Mp.hid HH.out.2.1
              by_cases hlt9 : h ≤ 8
              · have g1 : (h : Int) ≤ 8 := by omega
                go_wp2_with fail
                refine (releaseB_any [G] w wr p (45000 + 401 * h) s5 bs bw bq (h : Int) HO hM (Lk.wf_lit (by omega) (by omega)) HI5 (Mp.hid (by omega))).mono ?_
                rintro e w6 ⟨v6, out6, s6, L6, rfl, hR, hU, hm, hrow, hO6, hX6, hI6, hF6, -⟩
                have HN : Hid (Lk.Ob [G] w w6 p (45000 + 401 * (h + 1)) s6 bs bw bq ∧ Lk.Inv s6 ∧ Lk.R8 s6 ∧ Lk.Zk s6 ((h + 1 : Nat) : Int) ∧ Lk.Ar w6 G f) := Mp.hid ⟨hO6.mono (by omega), hI6, hF6.r8 HI5.out HH.out.2.2.1, by have := hF6.zk HI5.out HH.out.2.2.2.1; simpa using this, HH.out.2.2.2.2.keep (hX6 G (List.mem_singleton.2 rfl))⟩
                clear hR hU hm hrow hO6 hX6 hI6 hF6 HH HO HI5
                go_wp2_with fail
                refine ⟨⟨h + 1, s6, by omega, by omega, by go_num, HN⟩, by simp [RowKit.intOf]; omega⟩
              · obtain rfl : h = 9 := by omega
                have HZ : Hid ((∀ y n, s5.set y n = 0) ∧ ∀ n, s5.q n = []) := Mp.hid (Lk.all_none HI5.out HH.out.2.2.1 HH.out.2.2.2.1)
                have hc8 := (HH.out.2.2.2.2 8 (by omega)).1
                have HAR := Mp.hid HH.out.2.2.2.2
                have HGX := Mp.hid (HH.out.1.lt (List.mem_singleton.2 rfl))
                clear hc8
                go_wp2_with fail
                refine (namesB_any [G] w wr p _ s5 bs bw bq HO (Mp.hid (by omega))).mono ?_
                rintro e w7 ⟨v7, L7, rfl, hrow7, -, hm7, -, hb7⟩
                obtain rfl := Lk.names_none HZ.out hm7
                obtain ⟨p7, c7, rfl⟩ := Lk.row_shape hrow7
                have HO7 := Mp.hid (HO.out.below hb7)
                have HA7 := Mp.hid (HAR.out.below hb7 HGX.out)
                clear hrow7 hm7 hb7
                by_cases hz1 : n1 = 0
                · have h8 : f 8 = true := HF8.out hz1
                  have hc8 : w7.cell? ⟨G, 8, none⟩ = some (.bool true) := by rw [← h8]; exact (HA7.out 8 (by omega)).1
                  subst hz1
                  go_wp2_with (first | (go_at_call 11; refine (wakes6_any _ (Mp.hid (HO7.out.md hM.out))).mono ?_; rintro e w8 ⟨rfl, hb8⟩))
                  go_ret
                  exact ⟨rfl, HO7.out.bel.trans (hb8.mono HO7.out.bel.size)⟩
                · have hp1 : (0 : Int) < (n1 : Int) := by omega
                  go_wp2_with (first | (go_at_call 11; refine (wakes6_any _ (Mp.hid (HO7.out.md hM.out))).mono ?_; rintro e w8 ⟨rfl, hb8⟩))
                  go_ret
                  exact ⟨rfl, HO7.out.bel.trans (hb8.mono HO7.out.bel.size)⟩

end Go.Proofs.YthaenobciefjiaaDoor
