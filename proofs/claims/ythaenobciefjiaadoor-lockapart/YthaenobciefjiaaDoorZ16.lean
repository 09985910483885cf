/- LockApart: the walk. -/
import Derived.Test.YthaenobciefjiaaDoorZ15
namespace Go.Proofs.YthaenobciefjiaaDoor
open Go.RowKit Go.Maps Go.ChangeMaps Go.MapKept Go.Sort Go.Shelf

set_option maxRecDepth 100000 in
set_option maxHeartbeats 2000000 in
theorem bars6_any (a b : Nat) (w : World) (hF : Hid (Lk.Free a b)) :
    Calls Tryd.prog 27 #[.int .i64 (a : Int), .int .i64 (b : Int)] w fun e w' => e = .returned (.bool false) ∧ Below w.heap.size w w' := by
  go_enter Tryd.func27, Tryd.ntmps27
  go_wp2_with fail
  go_loopw [5] (fun vm wr => ∃ k : Nat, 1 ≤ k ∧ k ≤ 9 ∧ vm = .int .i64 (k : Int) ∧ Hid (Below w.heap.size w wr)) (fun vm _ => 9 - (RowKit.intOf vm).toNat)
  case atStart => exact ⟨1, by omega, by omega, rfl, Mp.hid (Below.refl _ _)⟩
  case round =>
    obtain ⟨k, hk1, hk9, rfl, HB⟩ := hrel
    by_cases hk : k ≤ 8
    · have q1 : (k : Int) ≤ 8 := by omega
      cases h1 : Md.inB (a : Int) k
      · have H1 := Mp.hid h1
        go_wp2_with (first | (go_at_call 28; refine (refIn_any _ _ _ (by omega)).mono ?_; rintro e w' ⟨rfl, hq⟩; obtain rfl := hq.symm; rw [H1.out]))
        refine ⟨⟨k + 1, by omega, by omega, by go_num, HB⟩, by simp [RowKit.intOf]; omega⟩
      · have H1 := Mp.hid h1
        have H2 := Mp.hid (hF.out k hk1 hk h1)
        go_wp2_with (first | (go_at_call 28; refine (refIn_any _ _ _ (by omega)).mono ?_; rintro e w' ⟨rfl, hq⟩; obtain rfl := hq.symm; rw [H1.out]) | (go_at_call 45; refine (refAny_any _ _ _).mono ?_; rintro e w2 ⟨rfl, hb⟩; rw [H2.out]; have HB2 := Mp.hid (Md.btr HB.out hb); clear hb))
        refine ⟨⟨k + 1, by omega, by omega, by go_num, HB2⟩, by simp [RowKit.intOf]; omega⟩
    · go_wp2_with fail
      go_ret
      exact ⟨rfl, HB.out⟩

theorem neq_run (a b : Int) (w : World) : (binOp .neq 3 (.int .i64 a) (.int .i64 b)).run Tryd.prog w = .ok (.bool (!(a == b))) w := by rfl
theorem neq_true {a b : Int} (h : (a == b) = false) (w : World) : (binOp .neq 3 (.int .i64 a) (.int .i64 b)).run Tryd.prog w = .ok (.bool true) w := by rw [neq_run, h]; rfl
theorem neq_false {a b : Int} (h : (a == b) = true) (w : World) : (binOp .neq 3 (.int .i64 a) (.int .i64 b)).run Tryd.prog w = .ok (.bool false) w := by rw [neq_run, h]; rfl

namespace Lk
/-- A row of texts. -/
def RowT (W : World) (p : Option Addr) (l : List Bytes) : Prop := ∀ (j : Nat) n, l[j]? = some n → ∃ b, p = some ⟨b, 0, none⟩ ∧ W.cell? ⟨b, j, none⟩ = some (str n)
theorem rowT_of {W : World} {base : Nat} {v : Value} {l : List Bytes} (h : W.ownsRow base 9 1 v l.length (l.map encStr)) : ∃ p c, v = .slice p l.length c ∧ RowT W p l := by
  rcases h.2 with ⟨e, h0⟩ | ⟨g, cap, cur, e, hb, hg, _⟩
  · have hl : l = [] := List.length_eq_zero_iff.1 h0
    subst hl
    exact ⟨none, 0, e, fun j v hv => by simp at hv⟩
  · subst e
    exact ⟨_, _, rfl, fun j n hn => ⟨g, rfl, row_cellsV h j _ (List.getElem?_eq_some_iff.1 hn).1 (by rw [List.getElem?_map, hn]; rfl)⟩⟩
theorem RowT.below {W W' : World} {p : Option Addr} {l : List Bytes} (h : RowT W p l) (hb : Below W.heap.size W W') : RowT W' p l := fun j n hn => by
  obtain ⟨b, e, hc⟩ := h j n hn
  have hlt : b < W.heap.size := by
    rcases Nat.lt_or_ge b W.heap.size with c | c
    · exact c
    · simp [World.cell?, Array.getElem?_eq_none c] at hc
  exact ⟨b, e, (hb.cell (p := ⟨b, j, none⟩) hlt).trans hc⟩
theorem step_box (W : World) (x : Stp) : (W.alloc (.cells #[.int .i64 x.kd, .int .i64 x.ho, .int .i64 x.md, str x.nm] 32)).heap[W.heap.size]? = some (.cells #[.int .i64 x.kd, .int .i64 x.ho, .int .i64 x.md, str x.nm] 32 (0, 0)) := (MapKept.heap_alloc W _).1
end Lk

set_option maxHeartbeats 400000 in
theorem forB_any (X : List Nat) (w W : World) (p N : Nat) (s : Lk.St) (bs bw bq : Nat) (x : Int) (hO : Hid (Lk.Ob X w W p N s bs bw bq)) (hM : Hid (Md.Tab w)) (hx : Lk.wfI x) (hI : Hid (Lk.Inv s)) (hN : Hid (N < 90000)) :
    Calls Tryd.prog 21 #[.pointer (some ⟨p, 0, none⟩), .int .i64 x] W fun e w' => ∃ (v : Value) (L : List Int), e = .returned v ∧ w'.ownsRow W.heap.size 3 1 v L.length (L.map (Value.int .i64)) ∧ Rs.Up (· ≤ ·) L ∧ (∀ o, o ∈ L ↔ ∃ r, s.want x = some r ∧ Lk.barB s x r.1 r.2 o = true) ∧ L.length ≤ 2 * N ∧ Below W.heap.size W w' := by
  obtain ⟨F, hF, hX⟩ := hO.out
  exact forO_any F w W p N s bs bw bq x (Mp.hid hF) hM hx (Mp.hid (fun r hr => Nat.le_trans (hI.out.wi x r hr).2 (by unfold maxLen; omega))) hN

set_option maxRecDepth 100000 in
set_option maxHeartbeats 8000000 in
theorem lockApart_walk (a0 : Option Addr) (n0 c0 : Nat) (xs : List Lk.Stp) (w : World) (hS0 : Lk.Stps w a0 n0 c0 xs) (hM0 : Md.Tab w) :
    Calls Tryd.prog 4 #[.slice a0 n0 c0] w fun e w' => e = .returned (.bool true) ∧ Below w.heap.size w w' := by
  have hM := Mp.hid hM0
  have hS := Mp.hid hS0
  clear hM0 hS0
  have hm0 : n0 ≤ maxLen := Nat.le_trans hS.out.le hS.out.cap
  go_enter Tryd.func4, Tryd.ntmps4
  go_wp2_with fail
  refine (newB_any w).mono ?_
  rintro e w1 ⟨p, bs, bw, bq, rfl, hO⟩
  have HO1 := Mp.hid hO
  have HS1 : Hid (Lk.Stps w1 a0 n0 c0 xs) := Mp.hid ⟨hS.out.len, hS.out.le, hS.out.cap, fun i x hx => by
    obtain ⟨b, o, h1, h2, h3, h4, h5, h6, h7⟩ := hS.out.at_ i x hx
    have k : ∀ j, w1.cell? ⟨b, j, none⟩ = w.cell? ⟨b, j, none⟩ := fun j => hO.bel.cell (p := ⟨b, j, none⟩) h2
    exact ⟨b, o, h1, Nat.lt_of_lt_of_le h2 hO.bel.size, (k _).trans h3, (k _).trans h4, (k _).trans h5, (k _).trans h6, h7⟩⟩
  clear hO
  go_wp2_with fail
  refine (fair_any a0 n0 c0 xs w1 HS1 hm0).mono ?_
  rintro e w1' ⟨⟨fb, rfl, hfb⟩, hq⟩
  obtain rfl := hq.symm
  clear hm0 HS1
  cases fb
  · go_wp2_with (first | (go_at_call 11; refine (wakes6_any _ (Mp.hid (HO1.out.md hM.out))).mono ?_; rintro e w8 ⟨rfl, hb8⟩))
    go_ret
    exact ⟨rfl, HO1.out.bel.trans (hb8.mono HO1.out.bel.size)⟩
  · have hn0 : n0 ≤ 150 := hfb rfl
    clear hfb
    go_wp2_with fail
    go_loopw [4] (fun vi wr => ∃ (i : Nat) (s : Lk.St), i ≤ n0 ∧ vi = .int .i64 (i : Int) ∧ Hid (Lk.Ob [] w wr p (401 * i) s bs bw bq ∧ Lk.Inv s ∧ Lk.Ap s ∧ Lk.Wb s)) (fun vi _ => n0 - (RowKit.intOf vi).toNat)
    case atStart => exact ⟨0, _, by omega, rfl, Mp.hid ⟨HO1.out, Lk.Inv.start, Lk.Ap.start, fun _ _ _ h => nomatch h⟩⟩
    case round =>
      clear HO1
      obtain ⟨i, s, hi, rfl, HH⟩ := hrel
      by_cases hlt : i < n0
      · obtain ⟨x, hx⟩ : ∃ x, xs[i]? = some x := ⟨_, List.getElem?_eq_getElem (by rw [hS.out.len]; exact hlt)⟩
        obtain ⟨b, o, rfl, hbl, h0, h1, h2, h3, hfit⟩ := hS.out.at_ i x hx
        have k : ∀ j, wr.cell? ⟨b, j, none⟩ = w.cell? ⟨b, j, none⟩ := fun j => HH.out.1.bel.cell (p := ⟨b, j, none⟩) hbl
        have r0 := (k _).trans h0
        have r1 := (k _).trans h1
        have r2 := (k _).trans h2
        have r3 := (k _).trans h3
        have HFit := Mp.hid hfit
        have g1 : (0 : Int) ≤ (i : Int) := by omega
        have g2 : (i : Int) < (n0 : Int) := by omega
        have HI := Mp.hid (And.intro hlt hn0)
        clear k h0 h1 h2 h3 hfit hx hbl hlt hi hn0
        go_wp2_with fail
        have HB1 : Hid (Below wr.heap.size wr (wr.alloc (.cells #[.int .i64 x.kd, .int .i64 x.ho, .int .i64 x.md, Lk.str x.nm] 32))) := Mp.hid ((Below.refl _ _).alloc (Nat.le_refl _) _)
        have hbx := Lk.step_box wr x
        have b0 : (wr.alloc (.cells #[.int .i64 x.kd, .int .i64 x.ho, .int .i64 x.md, Lk.str x.nm] 32)).cell? ⟨wr.heap.size, 0, none⟩ = some (.int .i64 x.kd) := by unfold World.cell?; simp only [hbx]; rfl
        have b2 : (wr.alloc (.cells #[.int .i64 x.kd, .int .i64 x.ho, .int .i64 x.md, Lk.str x.nm] 32)).cell? ⟨wr.heap.size, 2, none⟩ = some (.int .i64 x.md) := by unfold World.cell?; simp only [hbx]; rfl
        have b3 : (wr.alloc (.cells #[.int .i64 x.kd, .int .i64 x.ho, .int .i64 x.md, Lk.str x.nm] 32)).cell? ⟨wr.heap.size, 3, none⟩ = some (Lk.str x.nm) := by unfold World.cell?; simp only [hbx]; rfl
        have HOB := Mp.hid (HH.out.1.below HB1.out)
        clear hbx r0 r1 r2 r3 HB1
        generalize wr.alloc (.cells #[.int .i64 x.kd, .int .i64 x.ho, .int .i64 x.md, Lk.str x.nm] 32) = W2 at b0 b2 b3 HOB ⊢
        refine (mod8_any _ _).mono ?_
        rintro e w2' ⟨r, hr, rfl, hq⟩
        obtain rfl := hq.symm
        by_cases hkd : x.kd = 0
        · have hk0 : (x.kd == 0) = true := by simpa using hkd
          clear hkd
          go_wp2_with fail
          refine (takeB_any [] w _ p (401 * i) s bs bw bq (1 + (r : Int)) x.nm x.md HOB hM (Lk.wf_lit (by omega) (by omega)) HFit.out.nm (Mp.hid (by have := HI.out; omega))).mono ?_
          rintro e w3 ⟨E, s3, rfl, hR, hO3, -⟩
          have hAW := hR.wb HH.out.2.1 HH.out.2.2.1 HH.out.2.2.2
          have HN : Hid (Lk.Ob [] w w3 p (401 * (i + 1)) s3 bs bw bq ∧ Lk.Inv s3 ∧ Lk.Ap s3 ∧ Lk.Wb s3) := Mp.hid ⟨hO3.mono (by omega), hR.inv HH.out.2.1, hAW.1, hAW.2⟩
          clear hR hO3 hAW HOB HH b0 b2 b3
          go_wp2_with fail
          refine (namesB_any [] w w3 p (401 * (i + 1)) s3 bs bw bq (Mp.hid HN.out.1) (Mp.hid (by have := HI.out; omega))).mono ?_
          rintro e w4 ⟨v4, L, rfl, hrow4, -, hm4, hl4, hb4⟩
          obtain ⟨pn, cn, rfl, hT4⟩ := Lk.rowT_of hrow4
          have HLM : Hid (∀ n ∈ L, n.length ≤ maxLen) := Mp.hid (fun n hn => ((hm4 n).1 hn).1)
          have HW0 : Hid (Lk.Ob [] w w4 p (401 * (i + 1)) s3 bs bw bq ∧ Lk.RowT w4 pn L) := Mp.hid ⟨HN.out.1.below hb4, hT4⟩
          obtain ⟨nl, hnl⟩ : ∃ nl, nl = L.length := ⟨_, rfl⟩
          have hnl2 : nl ≤ 9000000000 := by
            rw [hnl]
            have h1 := HI.out
            have h2 : (401 * (i + 1)) * (401 * (i + 1)) ≤ 60551 * 60551 := Nat.mul_le_mul (by omega) (by omega)
            omega
          have HNL := Mp.hid hnl
          clear hrow4 hm4 hl4 hb4 hT4
          go_wp2_with fail
          rw [← hnl]
          clear hnl
          go_loopw [8] (fun vk wr => ∃ k : Nat, k ≤ nl ∧ vk = .int .i64 (k : Int) ∧ Hid (Lk.Ob [] w wr p (401 * (i + 1)) s3 bs bw bq ∧ Lk.RowT wr pn L)) (fun vk _ => nl - (RowKit.intOf vk).toNat)
          case atStart => exact ⟨0, by omega, rfl, HW0⟩
          case round =>
            clear HW0
            obtain ⟨k, hk, rfl, HK⟩ := hrel
            by_cases hkl : k < nl
            · obtain ⟨nm, hnm⟩ : ∃ nm, L[k]? = some nm := ⟨_, List.getElem?_eq_getElem (by rw [← HNL.out]; exact hkl)⟩
              have hlm : nm.length ≤ maxLen := HLM.out nm (List.mem_of_getElem? hnm)
              have HNM := Mp.hid hnm
              have q1 : (0 : Int) ≤ (k : Int) := by omega
              have q2 : (k : Int) < (nl : Int) := by omega
              clear hnm
              go_wp2_with fail
              go_loopw [9] (fun va wr => ∃ a : Nat, 1 ≤ a ∧ a ≤ 9 ∧ va = .int .i64 (a : Int) ∧ Hid (Lk.Ob [] w wr p (401 * (i + 1)) s3 bs bw bq ∧ Lk.RowT wr pn L)) (fun va _ => 9 - (RowKit.intOf va).toNat)
              case atStart => exact ⟨1, by omega, by omega, rfl, HK⟩
              case round =>
                clear HK
                obtain ⟨a, ha1, ha9, rfl, HK⟩ := hrel
                by_cases ha : a ≤ 8
                · have q3 : (a : Int) ≤ 8 := by omega
                  go_wp2_with fail
                  go_loopw [10] (fun vb wr => ∃ b : Nat, 1 ≤ b ∧ b ≤ 9 ∧ vb = .int .i64 (b : Int) ∧ Hid (Lk.Ob [] w wr p (401 * (i + 1)) s3 bs bw bq ∧ Lk.RowT wr pn L)) (fun vb _ => 9 - (RowKit.intOf vb).toNat)
                  case atStart => exact ⟨1, by omega, by omega, rfl, HK⟩
                  case round =>
                    clear HK
                    obtain ⟨b2, hb1, hb9, rfl, HK⟩ := hrel
                    by_cases hb : b2 ≤ 8
                    · have q4 : (b2 : Int) ≤ 8 := by omega
                      obtain ⟨g, rfl, hcn⟩ := HK.out.2 k nm HNM.out
                      have HCD : Hid (wr.drew.cell? ⟨g, k, none⟩ = some (Lk.str nm)) := Mp.hid hcn
                      have HOD := Mp.hid (HK.out.1.below (Below.refl _ _).drew)
                      by_cases hab : a = b2
                      · have hae : ((a : Int) == (b2 : Int)) = true := by simp; omega
                        have hbn := neq_false hae
                        have HN2 : Hid (Lk.Ob [] w wr.drew p (401 * (i + 1)) s3 bs bw bq ∧ Lk.RowT wr.drew (some ⟨g, 0, none⟩) L) := Mp.hid ⟨HOD.out, HK.out.2.below (Below.refl _ _).drew⟩
                        go_wp2_with fail
                        refine wp_region_held_drew (S := (fun w' => w'.cell? ⟨g, k, none⟩ = some (Lk.str nm))) (by kernel_rfl) (HCD.out) (fun hH => ?_)
                        refine wpAnyH_take (i := 0) (oi := ?oz0) (v := ?vz0) ?hiz0 ?hsz0 ?hfz0 ?hrz0 ?hQz0 (Or.inl ⟨?hwz0, ?hyz0⟩) ?hSz0 ?restz0
                        case hiz0 => (simp; rfl)
                        case hsz0 => kernel_rfl
                        case hfz0 => kernel_rfl
                        case hrz0 => kernel_rfl
                        case hQz0 => exact fun _ _ _ h => h
                        case hwz0 => rfl
                        case hyz0 => (intro wq hSq; (try dsimp only at hSq); go_simp; (try with_reducible rfl))
                        case hSz0 => assumption
                        simp only [Act.put, List.setIfInBounds_toArray, List.set_cons_zero, List.set_cons_succ]
                        refine wpAnyH_take (i := 1) (oi := ?oz1) (v := ?vz1) ?hiz1 ?hsz1 ?hfz1 ?hrz1 ?hQz1 (Or.inl ⟨?hwz1, ?hyz1⟩) ?hSz1 ?restz1
                        case hiz1 => (simp; rfl)
                        case hsz1 => kernel_rfl
                        case hfz1 => kernel_rfl
                        case hrz1 => kernel_rfl
                        case hQz1 => exact fun _ _ _ h => h
                        case hwz1 => rfl
                        case hyz1 => (intro wq hSq; (try dsimp only at hSq); go_simp; (try with_reducible rfl))
                        case hSz1 => assumption
                        simp only [Act.put, List.setIfInBounds_toArray, List.set_cons_zero, List.set_cons_succ]
                        refine wpAnyH_take (i := 2) (oi := ?oz2) (v := ?vz2) ?hiz2 ?hsz2 ?hfz2 ?hrz2 ?hQz2 (Or.inl ⟨?hwz2, ?hyz2⟩) ?hSz2 ?restz2
                        case hiz2 => (simp; rfl)
                        case hsz2 => kernel_rfl
                        case hfz2 => kernel_rfl
                        case hrz2 => kernel_rfl
                        case hQz2 => exact fun _ _ _ h => h
                        case hwz2 => rfl
                        case hyz2 => (intro wq hSq; (try dsimp only at hSq); go_simp; (try with_reducible rfl))
                        case hSz2 => assumption
                        simp only [Act.put, List.setIfInBounds_toArray, List.set_cons_zero, List.set_cons_succ]
                        refine wpAnyH_take (i := 3) (oi := ?oz3) (v := ?vz3) ?hiz3 ?hsz3 ?hfz3 ?hrz3 ?hQz3 (Or.inl ⟨?hwz3, ?hyz3⟩) ?hSz3 ?restz3
                        case hiz3 => (simp; rfl)
                        case hsz3 => kernel_rfl
                        case hfz3 => kernel_rfl
                        case hrz3 => kernel_rfl
                        case hQz3 => exact fun _ _ _ h => h
                        case hwz3 => rfl
                        case hyz3 => (intro wq hSq; (try dsimp only at hSq); go_simp; (try with_reducible rfl))
                        case hSz3 => assumption
                        simp only [Act.put, List.setIfInBounds_toArray, List.set_cons_zero, List.set_cons_succ]
                        refine wpAnyH_take (i := 4) (oi := ?oz4) (v := undef) ?hiz4 ?hsz4 ?hfz4 ?hrz4 ?hQz4 (Or.inr ⟨?hwz4, rfl⟩) ?hSz4 ?restz4
                        case hiz4 => (simp; rfl)
                        case hsz4 => kernel_rfl
                        case hfz4 => kernel_rfl
                        case hrz4 => kernel_rfl
                        case hQz4 => exact fun _ _ _ h => h
                        case hwz4 => rfl
                        case hSz4 => assumption
                        simp only [Act.put, List.setIfInBounds_toArray, List.set_cons_zero, List.set_cons_succ]
                        refine wpAnyH_take (i := 5) (oi := ?oz5) (v := undef) ?hiz5 ?hsz5 ?hfz5 ?hrz5 ?hQz5 (Or.inr ⟨?hwz5, rfl⟩) ?hSz5 ?restz5
                        case hiz5 => (simp; rfl)
                        case hsz5 => kernel_rfl
                        case hfz5 => kernel_rfl
                        case hrz5 => kernel_rfl
                        case hQz5 => exact fun _ _ _ h => h
                        case hwz5 => rfl
                        case hSz5 => assumption
                        simp only [Act.put, List.setIfInBounds_toArray, List.set_cons_zero, List.set_cons_succ]
                        refine wpAnyH_take (i := 6) (oi := ?oz6) (v := undef) ?hiz6 ?hsz6 ?hfz6 ?hrz6 ?hQz6 (Or.inr ⟨?hwz6, rfl⟩) ?hSz6 ?restz6
                        case hiz6 => (simp; rfl)
                        case hsz6 => kernel_rfl
                        case hfz6 => kernel_rfl
                        case hrz6 => kernel_rfl
                        case hQz6 => exact fun _ _ _ h => h
                        case hwz6 => rfl
                        case hSz6 => assumption
                        simp only [Act.put, List.setIfInBounds_toArray, List.set_cons_zero, List.set_cons_succ]
                        refine wpAnyH_take (i := 7) (oi := ?oz7) (v := undef) ?hiz7 ?hsz7 ?hfz7 ?hrz7 ?hQz7 (Or.inr ⟨?hwz7, rfl⟩) ?hSz7 ?restz7
                        case hiz7 => (simp; rfl)
                        case hsz7 => kernel_rfl
                        case hfz7 => kernel_rfl
                        case hrz7 => kernel_rfl
                        case hQz7 => exact fun _ _ _ h => h
                        case hwz7 => rfl
                        case hSz7 => assumption
                        simp only [Act.put, List.setIfInBounds_toArray, List.set_cons_zero, List.set_cons_succ]
                        refine wpAnyH_take (i := 8) (oi := ?oz8) (v := undef) ?hiz8 ?hsz8 ?hfz8 ?hrz8 ?hQz8 (Or.inr ⟨?hwz8, rfl⟩) ?hSz8 ?restz8
                        case hiz8 => (simp; rfl)
                        case hsz8 => kernel_rfl
                        case hfz8 => kernel_rfl
                        case hrz8 => kernel_rfl
                        case hQz8 => exact fun _ _ _ h => h
                        case hwz8 => rfl
                        case hSz8 => assumption
                        simp only [Act.put, List.setIfInBounds_toArray, List.set_cons_zero, List.set_cons_succ]
                        refine wpAnyH_take (i := 9) (oi := ?oz9) (v := undef) ?hiz9 ?hsz9 ?hfz9 ?hrz9 ?hQz9 (Or.inr ⟨?hwz9, rfl⟩) ?hSz9 ?restz9
                        case hiz9 => (simp; rfl)
                        case hsz9 => kernel_rfl
                        case hfz9 => kernel_rfl
                        case hrz9 => kernel_rfl
                        case hQz9 => exact fun _ _ _ h => h
                        case hwz9 => rfl
                        case hSz9 => assumption
                        simp only [Act.put, List.setIfInBounds_toArray, List.set_cons_zero, List.set_cons_succ]
                        refine wpAnyH_take (i := 10) (oi := ?oz10) (v := undef) ?hiz10 ?hsz10 ?hfz10 ?hrz10 ?hQz10 (Or.inr ⟨?hwz10, rfl⟩) ?hSz10 ?restz10
                        case hiz10 => (simp; rfl)
                        case hsz10 => kernel_rfl
                        case hfz10 => kernel_rfl
                        case hrz10 => kernel_rfl
                        case hQz10 => exact fun _ _ _ h => h
                        case hwz10 => rfl
                        case hSz10 => assumption
                        simp only [Act.put, List.setIfInBounds_toArray, List.set_cons_zero, List.set_cons_succ]
                        refine wpAnyH_take (i := 11) (oi := ?oz11) (v := undef) ?hiz11 ?hsz11 ?hfz11 ?hrz11 ?hQz11 (Or.inr ⟨?hwz11, rfl⟩) ?hSz11 ?restz11
                        case hiz11 => (simp; rfl)
                        case hsz11 => kernel_rfl
                        case hfz11 => kernel_rfl
                        case hrz11 => kernel_rfl
                        case hQz11 => exact fun _ _ _ h => h
                        case hwz11 => rfl
                        case hSz11 => assumption
                        simp only [Act.put, List.setIfInBounds_toArray, List.set_cons_zero, List.set_cons_succ]
                        refine wpAnyH_take (i := 12) (oi := ?oz12) (v := undef) ?hiz12 ?hsz12 ?hfz12 ?hrz12 ?hQz12 (Or.inr ⟨?hwz12, rfl⟩) ?hSz12 ?restz12
                        case hiz12 => (simp; rfl)
                        case hsz12 => kernel_rfl
                        case hfz12 => kernel_rfl
                        case hrz12 => kernel_rfl
                        case hQz12 => exact fun _ _ _ h => h
                        case hwz12 => rfl
                        case hSz12 => assumption
                        simp only [Act.put, List.setIfInBounds_toArray, List.set_cons_zero, List.set_cons_succ]
                        refine wpAnyH_take (i := 13) (oi := ?oz13) (v := undef) ?hiz13 ?hsz13 ?hfz13 ?hrz13 ?hQz13 (Or.inr ⟨?hwz13, rfl⟩) ?hSz13 ?restz13
                        case hiz13 => (simp; rfl)
                        case hsz13 => kernel_rfl
                        case hfz13 => kernel_rfl
                        case hrz13 => kernel_rfl
                        case hQz13 => exact fun _ _ _ h => h
                        case hwz13 => rfl
                        case hSz13 => assumption
                        simp only [Act.put, List.setIfInBounds_toArray, List.set_cons_zero, List.set_cons_succ]
                        refine wpAnyH_take (i := 14) (oi := ?oz14) (v := undef) ?hiz14 ?hsz14 ?hfz14 ?hrz14 ?hQz14 (Or.inr ⟨?hwz14, rfl⟩) ?hSz14 ?restz14
                        case hiz14 => (simp; rfl)
                        case hsz14 => kernel_rfl
                        case hfz14 => kernel_rfl
                        case hrz14 => kernel_rfl
                        case hQz14 => exact fun _ _ _ h => h
                        case hwz14 => rfl
                        case hSz14 => assumption
                        simp only [Act.put, List.setIfInBounds_toArray, List.set_cons_zero, List.set_cons_succ]
                        refine wpAnyH_take (i := 15) (oi := ?oz15) (v := undef) ?hiz15 ?hsz15 ?hfz15 ?hrz15 ?hQz15 (Or.inr ⟨?hwz15, rfl⟩) ?hSz15 ?restz15
                        case hiz15 => (simp; rfl)
                        case hsz15 => kernel_rfl
                        case hfz15 => kernel_rfl
                        case hrz15 => kernel_rfl
                        case hQz15 => exact fun _ _ _ h => h
                        case hwz15 => rfl
                        case hSz15 => assumption
                        simp only [Act.put, List.setIfInBounds_toArray, List.set_cons_zero, List.set_cons_succ]
                        refine wpAnyH_take (i := 16) (oi := ?oz16) (v := undef) ?hiz16 ?hsz16 ?hfz16 ?hrz16 ?hQz16 (Or.inr ⟨?hwz16, rfl⟩) ?hSz16 ?restz16
                        case hiz16 => (simp; rfl)
                        case hsz16 => kernel_rfl
                        case hfz16 => kernel_rfl
                        case hrz16 => kernel_rfl
                        case hQz16 => exact fun _ _ _ h => h
                        case hwz16 => rfl
                        case hSz16 => assumption
                        simp only [Act.put, List.setIfInBounds_toArray, List.set_cons_zero, List.set_cons_succ]
                        refine wpAnyH_take (i := 17) (oi := ?oz17) (v := undef) ?hiz17 ?hsz17 ?hfz17 ?hrz17 ?hQz17 (Or.inr ⟨?hwz17, rfl⟩) ?hSz17 ?restz17
                        case hiz17 => (simp; rfl)
                        case hsz17 => kernel_rfl
                        case hfz17 => kernel_rfl
                        case hrz17 => kernel_rfl
                        case hQz17 => exact fun _ _ _ h => h
                        case hwz17 => rfl
                        case hSz17 => assumption
                        simp only [Act.put, List.setIfInBounds_toArray, List.set_cons_zero, List.set_cons_succ]
                        refine wpAnyH_take (i := 18) (oi := ?oz18) (v := undef) ?hiz18 ?hsz18 ?hfz18 ?hrz18 ?hQz18 (Or.inr ⟨?hwz18, rfl⟩) ?hSz18 ?restz18
                        case hiz18 => (simp; rfl)
                        case hsz18 => kernel_rfl
                        case hfz18 => kernel_rfl
                        case hrz18 => kernel_rfl
                        case hQz18 => exact fun _ _ _ h => h
                        case hwz18 => rfl
                        case hSz18 => assumption
                        simp only [Act.put, List.setIfInBounds_toArray, List.set_cons_zero, List.set_cons_succ]
                        refine wpAnyH_take (i := 19) (oi := ?oz19) (v := ?vz19) ?hiz19 ?hsz19 ?hfz19 ?hrz19 ?hQz19 (Or.inl ⟨?hwz19, ?hyz19⟩) ?hSz19 ?restz19
                        case hiz19 => (simp; rfl)
                        case hsz19 => kernel_rfl
                        case hfz19 => kernel_rfl
                        case hrz19 => kernel_rfl
                        case hQz19 => exact fun _ _ _ h => h
                        case hwz19 => rfl
                        case hyz19 => (intro wq hSq; (try dsimp only at hSq); go_simp; (try with_reducible rfl))
                        case hSz19 => assumption
                        simp only [Act.put, List.setIfInBounds_toArray, List.set_cons_zero, List.set_cons_succ]
                        refine wpAnyH_done (by kernel_rfl) ?_ _
                        go_wp2_with fail
                        refine ⟨⟨b2 + 1, by omega, by omega, by go_num, HN2⟩, by simp [RowKit.intOf]; omega⟩
                      · have hae : ((a : Int) == (b2 : Int)) = false := by simp; omega
                        have hbn := neq_true hae
                        have HFR : Hid (Lk.Free (s3.set (a : Int) nm) (s3.set (b2 : Int) nm)) := Mp.hid (HN.out.2.2.1.free _ _ nm (by omega))
                        clear hcn
                        go_wp2_with fail
                        refine wp_region_held_drew (S := (fun w' => w'.cell? ⟨g, k, none⟩ = some (Lk.str nm))) (by kernel_rfl) (HCD.out) (fun hH => ?_)
                        refine wpAnyH_take (i := 0) (oi := ?oy0) (v := ?vy0) ?hiy0 ?hsy0 ?hfy0 ?hry0 ?hQy0 (Or.inl ⟨?hwy0, ?hyy0⟩) ?hSy0 ?resty0
                        case hiy0 => (simp; rfl)
                        case hsy0 => kernel_rfl
                        case hfy0 => kernel_rfl
                        case hry0 => kernel_rfl
                        case hQy0 => exact fun _ _ _ h => h
                        case hwy0 => rfl
                        case hyy0 => (intro wq hSq; (try dsimp only at hSq); go_simp; (try with_reducible rfl))
                        case hSy0 => assumption
                        simp only [Act.put, List.setIfInBounds_toArray, List.set_cons_zero, List.set_cons_succ]
                        refine wpAnyH_take (i := 1) (oi := ?oy1) (v := ?vy1) ?hiy1 ?hsy1 ?hfy1 ?hry1 ?hQy1 (Or.inl ⟨?hwy1, ?hyy1⟩) ?hSy1 ?resty1
                        case hiy1 => (simp; rfl)
                        case hsy1 => kernel_rfl
                        case hfy1 => kernel_rfl
                        case hry1 => kernel_rfl
                        case hQy1 => exact fun _ _ _ h => h
                        case hwy1 => rfl
                        case hyy1 => (intro wq hSq; (try dsimp only at hSq); go_simp; (try with_reducible rfl))
                        case hSy1 => assumption
                        simp only [Act.put, List.setIfInBounds_toArray, List.set_cons_zero, List.set_cons_succ]
                        refine wpAnyH_take (i := 2) (oi := ?oy2) (v := Value.bool true) ?hiy2 ?hsy2 ?hfy2 ?hry2 ?hQy2 (Or.inl ⟨?hwy2, ?hyy2⟩) ?hSy2 ?resty2
                        case hiy2 => (simp; rfl)
                        case hsy2 => kernel_rfl
                        case hfy2 => kernel_rfl
                        case hry2 => kernel_rfl
                        case hQy2 => exact fun _ _ _ h => h
                        case hwy2 => rfl
                        case hyy2 => (intro wq hSq; (try dsimp only at hSq); go_simp; omega)
                        case hSy2 => assumption
                        simp only [Act.put, List.setIfInBounds_toArray, List.set_cons_zero, List.set_cons_succ]
                        refine wpAnyH_take (i := 3) (oi := ?oy3) (v := ?vy3) ?hiy3 ?hsy3 ?hfy3 ?hry3 ?hQy3 (Or.inl ⟨?hwy3, ?hyy3⟩) ?hSy3 ?resty3
                        case hiy3 => (simp; rfl)
                        case hsy3 => kernel_rfl
                        case hfy3 => kernel_rfl
                        case hry3 => kernel_rfl
                        case hQy3 => exact fun _ _ _ h => h
                        case hwy3 => rfl
                        case hyy3 => (intro wq hSq; (try dsimp only at hSq); go_simp; (try with_reducible rfl))
                        case hSy3 => assumption
                        simp only [Act.put, List.setIfInBounds_toArray, List.set_cons_zero, List.set_cons_succ]
                        refine wpAnyH_take (i := 4) (oi := ?oy4) (v := ?vy4) ?hiy4 ?hsy4 ?hfy4 ?hry4 ?hQy4 (Or.inl ⟨?hwy4, ?hyy4⟩) ?hSy4 ?resty4
                        case hiy4 => (simp; rfl)
                        case hsy4 => kernel_rfl
                        case hfy4 => kernel_rfl
                        case hry4 => kernel_rfl
                        case hQy4 => exact fun _ _ _ h => h
                        case hwy4 => rfl
                        case hyy4 => (intro wq hSq; (try dsimp only at hSq); go_simp; (try with_reducible rfl))
                        case hSy4 => assumption
                        simp only [Act.put, List.setIfInBounds_toArray, List.set_cons_zero, List.set_cons_succ]
                        refine wpAnyH_take (i := 5) (oi := ?oy5) (v := ?vy5) ?hiy5 ?hsy5 ?hfy5 ?hry5 ?hQy5 (Or.inl ⟨?hwy5, ?hyy5⟩) ?hSy5 ?resty5
                        case hiy5 => (simp; rfl)
                        case hsy5 => kernel_rfl
                        case hfy5 => kernel_rfl
                        case hry5 => kernel_rfl
                        case hQy5 => exact fun _ _ _ h => h
                        case hwy5 => rfl
                        case hyy5 => (intro wq hSq; (try dsimp only at hSq); go_simp; (try with_reducible rfl))
                        case hSy5 => assumption
                        simp only [Act.put, List.setIfInBounds_toArray, List.set_cons_zero, List.set_cons_succ]
                        refine wpAnyH_take (i := 6) (oi := ?oy6) (v := ?vy6) ?hiy6 ?hsy6 ?hfy6 ?hry6 ?hQy6 (Or.inl ⟨?hwy6, ?hyy6⟩) ?hSy6 ?resty6
                        case hiy6 => (simp; rfl)
                        case hsy6 => kernel_rfl
                        case hfy6 => kernel_rfl
                        case hry6 => kernel_rfl
                        case hQy6 => exact fun _ _ _ h => h
                        case hwy6 => rfl
                        case hyy6 => (intro wq hSq; (try dsimp only at hSq); go_simp; (try with_reducible rfl))
                        case hSy6 => assumption
                        simp only [Act.put, List.setIfInBounds_toArray, List.set_cons_zero, List.set_cons_succ]
                        refine wpAnyH_take (i := 7) (oi := ?oy7) (v := ?vy7) ?hiy7 ?hsy7 ?hfy7 ?hry7 ?hQy7 (Or.inl ⟨?hwy7, ?hyy7⟩) ?hSy7 ?resty7
                        case hiy7 => (simp; rfl)
                        case hsy7 => kernel_rfl
                        case hfy7 => kernel_rfl
                        case hry7 => kernel_rfl
                        case hQy7 => exact fun _ _ _ h => h
                        case hwy7 => rfl
                        case hyy7 => (intro wq hSq; (try dsimp only at hSq); go_simp; (try with_reducible rfl))
                        case hSy7 => assumption
                        simp only [Act.put, List.setIfInBounds_toArray, List.set_cons_zero, List.set_cons_succ]
                        refine wpAnyH_take (i := 8) (oi := ?oy8) (v := ?vy8) ?hiy8 ?hsy8 ?hfy8 ?hry8 ?hQy8 (Or.inl ⟨?hwy8, ?hyy8⟩) ?hSy8 ?resty8
                        case hiy8 => (simp; rfl)
                        case hsy8 => kernel_rfl
                        case hfy8 => kernel_rfl
                        case hry8 => kernel_rfl
                        case hQy8 => exact fun _ _ _ h => h
                        case hwy8 => rfl
                        case hyy8 => (intro wq hSq; (try dsimp only at hSq); go_simp; (try with_reducible rfl))
                        case hSy8 => assumption
                        simp only [Act.put, List.setIfInBounds_toArray, List.set_cons_zero, List.set_cons_succ]
                        refine wpAnyH_take (i := 9) (oi := ?oy9) (v := ?vy9) ?hiy9 ?hsy9 ?hfy9 ?hry9 ?hQy9 (Or.inl ⟨?hwy9, ?hyy9⟩) ?hSy9 ?resty9
                        case hiy9 => (simp; rfl)
                        case hsy9 => kernel_rfl
                        case hfy9 => kernel_rfl
                        case hry9 => kernel_rfl
                        case hQy9 => exact fun _ _ _ h => h
                        case hwy9 => rfl
                        case hyy9 => (intro wq hSq; (try dsimp only at hSq); go_simp; (try with_reducible rfl))
                        case hSy9 => assumption
                        simp only [Act.put, List.setIfInBounds_toArray, List.set_cons_zero, List.set_cons_succ]
                        refine wpAnyH_take (i := 11) (oi := ?oy11) (v := ?vy11) ?hiy11 ?hsy11 ?hfy11 ?hry11 ?hQy11 (Or.inl ⟨?hwy11, ?hyy11⟩) ?hSy11 ?resty11
                        case hiy11 => (simp; rfl)
                        case hsy11 => kernel_rfl
                        case hfy11 => kernel_rfl
                        case hry11 => kernel_rfl
                        case hQy11 => exact fun _ _ _ h => h
                        case hwy11 => rfl
                        case hyy11 => (intro wq hSq; (try dsimp only at hSq); go_simp; (try with_reducible rfl))
                        case hSy11 => assumption
                        simp only [Act.put, List.setIfInBounds_toArray, List.set_cons_zero, List.set_cons_succ]
                        refine wpAnyH_take (i := 12) (oi := ?oy12) (v := ?vy12) ?hiy12 ?hsy12 ?hfy12 ?hry12 ?hQy12 (Or.inl ⟨?hwy12, ?hyy12⟩) ?hSy12 ?resty12
                        case hiy12 => (simp; rfl)
                        case hsy12 => kernel_rfl
                        case hfy12 => kernel_rfl
                        case hry12 => kernel_rfl
                        case hQy12 => exact fun _ _ _ h => h
                        case hwy12 => rfl
                        case hyy12 => (intro wq hSq; (try dsimp only at hSq); go_simp; (try with_reducible rfl))
                        case hSy12 => assumption
                        simp only [Act.put, List.setIfInBounds_toArray, List.set_cons_zero, List.set_cons_succ]
                        refine wpAnyH_take (i := 13) (oi := ?oy13) (v := ?vy13) ?hiy13 ?hsy13 ?hfy13 ?hry13 ?hQy13 (Or.inl ⟨?hwy13, ?hyy13⟩) ?hSy13 ?resty13
                        case hiy13 => (simp; rfl)
                        case hsy13 => kernel_rfl
                        case hfy13 => kernel_rfl
                        case hry13 => kernel_rfl
                        case hQy13 => exact fun _ _ _ h => h
                        case hwy13 => rfl
                        case hyy13 => (intro wq hSq; (try dsimp only at hSq); go_simp; (try with_reducible rfl))
                        case hSy13 => assumption
                        simp only [Act.put, List.setIfInBounds_toArray, List.set_cons_zero, List.set_cons_succ]
                        refine wpAnyH_take (i := 14) (oi := ?oy14) (v := ?vy14) ?hiy14 ?hsy14 ?hfy14 ?hry14 ?hQy14 (Or.inl ⟨?hwy14, ?hyy14⟩) ?hSy14 ?resty14
                        case hiy14 => (simp; rfl)
                        case hsy14 => kernel_rfl
                        case hfy14 => kernel_rfl
                        case hry14 => kernel_rfl
                        case hQy14 => exact fun _ _ _ h => h
                        case hwy14 => rfl
                        case hyy14 => (intro wq hSq; (try dsimp only at hSq); go_simp; (try with_reducible rfl))
                        case hSy14 => assumption
                        simp only [Act.put, List.setIfInBounds_toArray, List.set_cons_zero, List.set_cons_succ]
                        refine wpAnyH_take (i := 15) (oi := ?oy15) (v := ?vy15) ?hiy15 ?hsy15 ?hfy15 ?hry15 ?hQy15 (Or.inl ⟨?hwy15, ?hyy15⟩) ?hSy15 ?resty15
                        case hiy15 => (simp; rfl)
                        case hsy15 => kernel_rfl
                        case hfy15 => kernel_rfl
                        case hry15 => kernel_rfl
                        case hQy15 => exact fun _ _ _ h => h
                        case hwy15 => rfl
                        case hyy15 => (intro wq hSq; (try dsimp only at hSq); go_simp; (try with_reducible rfl))
                        case hSy15 => assumption
                        simp only [Act.put, List.setIfInBounds_toArray, List.set_cons_zero, List.set_cons_succ]
                        refine wpAnyH_take (i := 16) (oi := ?oy16) (v := ?vy16) ?hiy16 ?hsy16 ?hfy16 ?hry16 ?hQy16 (Or.inl ⟨?hwy16, ?hyy16⟩) ?hSy16 ?resty16
                        case hiy16 => (simp; rfl)
                        case hsy16 => kernel_rfl
                        case hfy16 => kernel_rfl
                        case hry16 => kernel_rfl
                        case hQy16 => exact fun _ _ _ h => h
                        case hwy16 => rfl
                        case hyy16 => (intro wq hSq; (try dsimp only at hSq); go_simp; (try with_reducible rfl))
                        case hSy16 => assumption
                        simp only [Act.put, List.setIfInBounds_toArray, List.set_cons_zero, List.set_cons_succ]
                        refine wpAnyH_ready (rs := [10]) (by kernel_rfl) (by simp) ?_
                        refine AllReadyH.cons (o := ?oy10) ?hiy10 (fun K hK => ?_) AllReadyH.nil
                        case hiy10 => (simp; rfl)
                        go_simp
                        refine (modesB_any [] w _ p _ s3 bs bw bq (a : Int) nm HOD (Lk.wf_lit (by omega) (by omega)) hlm).mono ?_
                        rintro e w' ⟨rfl, hq⟩
                        obtain rfl := hq.symm
                        have hb : True := trivial
                        go_wp2_with fail
                        refine hK.out _ _ ?_ (fun hH2 => ?_)
                        · exact hH
                        clear hK K hb hH
                        refine wpAnyH_ready (rs := [17]) (by kernel_rfl) (by simp) ?_
                        refine AllReadyH.cons (o := ?oy17) ?hiy17 (fun K hK => ?_) AllReadyH.nil
                        case hiy17 => (simp; rfl)
                        go_simp
                        refine (modesB_any [] w _ p _ s3 bs bw bq (b2 : Int) nm HOD (Lk.wf_lit (by omega) (by omega)) hlm).mono ?_
                        rintro e w' ⟨rfl, hq⟩
                        obtain rfl := hq.symm
                        have hb : True := trivial
                        go_wp2_with fail
                        refine hK.out _ _ ?_ (fun hH3 => ?_)
                        · exact hH2
                        clear hK K hb hH2
                        refine wpAnyH_ready (rs := [18]) (by kernel_rfl) (by simp) ?_
                        refine AllReadyH.cons (o := ?oy18) ?hiy18 (fun K hK => ?_) AllReadyH.nil
                        case hiy18 => (simp; rfl)
                        go_simp
                        refine (bars6_any _ _ _ HFR).mono ?_
                        rintro e w6 ⟨rfl, hb⟩
                        have HN2 : Hid (Lk.Ob [] w w6 p (401 * (i + 1)) s3 bs bw bq ∧ Lk.RowT w6 (some ⟨g, 0, none⟩) L) := Mp.hid ⟨HOD.out.below hb, HK.out.2.below (Md.btr (Below.refl _ _).drew hb)⟩
                        have HCE : Hid (w6.cell? ⟨g, k, none⟩ = some (Lk.str nm)) := Mp.hid (by
                          obtain ⟨b7, e1, e2⟩ := HN2.out.2 k nm HNM.out
                          injection e1 with e1
                          injection e1 with e1
                          rw [e1]; exact e2)
                        go_wp2_with fail
                        refine hK.out _ _ ?_ (fun hH4 => ?_)
                        · exact HCE.out
                        clear hK K hb hH3
                        refine wpAnyH_take (i := 19) (oi := ?oy19) (v := ?vy19) ?hiy19 ?hsy19 ?hfy19 ?hry19 ?hQy19 (Or.inl ⟨?hwy19, ?hyy19⟩) ?hSy19 ?resty19
                        case hiy19 => (simp; rfl)
                        case hsy19 => kernel_rfl
                        case hfy19 => kernel_rfl
                        case hry19 => kernel_rfl
                        case hQy19 => exact fun _ _ _ h => h
                        case hwy19 => rfl
                        case hyy19 => (intro wq hSq; (try dsimp only at hSq); go_simp; (try with_reducible rfl))
                        case hSy19 => assumption
                        simp only [Act.put, List.setIfInBounds_toArray, List.set_cons_zero, List.set_cons_succ]
                        refine wpAnyH_done (by kernel_rfl) ?_ _
                        clear HK HOD HCD
                        go_wp2_with fail
                        refine ⟨⟨b2 + 1, by omega, by omega, by go_num, HN2⟩, by simp [RowKit.intOf]; omega⟩
                    · go_wp2_with fail
                      refine ⟨⟨a + 1, by omega, by omega, by go_num, HK⟩, by simp [RowKit.intOf]; omega⟩
                · go_wp2_with fail
                  refine ⟨⟨k + 1, by omega, by go_num, HK⟩, by simp [RowKit.intOf]; omega⟩
            · have HW1 := Mp.hid HK.out.1
              clear HK
              go_wp2_with fail
              go_loopw [11] (fun va wr => ∃ a : Nat, 1 ≤ a ∧ a ≤ 9 ∧ va = .int .i64 (a : Int) ∧ Hid (Lk.Ob [] w wr p (401 * (i + 1)) s3 bs bw bq)) (fun va _ => 9 - (RowKit.intOf va).toNat)
              case atStart => exact ⟨1, by omega, by omega, rfl, HW1⟩
              case round =>
                clear HW1
                obtain ⟨a, ha1, ha9, rfl, HK⟩ := hrel
                by_cases ha : a ≤ 8
                · have q3 : (a : Int) ≤ 8 := by omega
                  go_wp2_with fail
                  refine (waitsB_any [] w wr p _ s3 bs bw bq (a : Int) HK (Lk.wf_lit (by omega) (by omega))).mono ?_
                  rcases hw : s3.want (a : Int) with _ | ⟨nm, m⟩
                  · rintro e w5 ⟨rfl, hb5⟩
                    have HN2 := Mp.hid (HK.out.below hb5)
                    clear hb5 HK hw
                    go_wp2_with fail
                    refine ⟨⟨a + 1, by omega, by omega, by go_num, HN2⟩, by simp [RowKit.intOf]; omega⟩
                  · have e2 : Lk.wn s3 (a : Int) = nm := by unfold Lk.wn; rw [hw]; rfl
                    have e3 : Lk.wm s3 (a : Int) = m := by unfold Lk.wm; rw [hw]; rfl
                    rw [e2, e3]
                    rintro e w5 ⟨rfl, hb5⟩
                    have HK5 := Mp.hid (HK.out.below hb5)
                    obtain ⟨hw1, hw2⟩ := HN.out.2.2.2 _ _ _ hw
                    obtain ⟨hq1, hq2⟩ := HN.out.2.1.wi _ _ hw
                    obtain ⟨m', hm', hm8⟩ := HN.out.2.1.wq.w _ _ hq1
                    have hmm : 1 ≤ m ∧ m ≤ 8 := by
                      rw [hw] at hm'
                      injection hm' with hm'
                      injection hm' with _ hm'
                      rw [hm']; exact hm8
                    obtain ⟨mN, rfl⟩ : ∃ mN : Nat, m = (mN : Int) := ⟨m.toNat, by omega⟩
                    have hin : Md.inB (s3.set (a : Int) nm : Int) mN = false := by
                      have := Lk.and_in (HN.out.2.2.1.lo (a : Int) nm) hw1
                      unfold Lk.inS at this
                      simpa using this
                    have HIN := Mp.hid hin
                    have HMM : Hid (1 ≤ mN ∧ mN ≤ 8) := Mp.hid (by omega)
                    have hlm : nm.length ≤ maxLen := Nat.le_trans hq2 (by unfold maxLen; omega)
                    have HBA : Hid (Lk.barredP s3 (a : Int) nm (mN : Int) ∧ s3.want (a : Int) = some (nm, (mN : Int))) := Mp.hid ⟨hw2, hw⟩
                    clear hw hw1 hw2 hq1 hq2 hm' hm8 hmm hin e2 e3 hb5 HK
                    go_wp2_with (first
                      | (go_at_call 19; refine (modesB_any [] w _ p _ s3 bs bw bq (a : Int) nm HK5 (Lk.wf_lit (by omega) (by omega)) hlm).mono ?_; rintro e w' ⟨rfl, hq⟩; obtain rfl := hq.symm)
                      | (go_at_call 28; refine (refIn_any _ _ _ HMM.out).mono ?_; rintro e w' ⟨rfl, hq⟩; obtain rfl := hq.symm; rw [HIN.out]))
                    refine (forB_any [] w w5 p _ s3 bs bw bq (a : Int) HK5 hM (Lk.wf_lit (by omega) (by omega)) (Mp.hid HN.out.2.1) (Mp.hid (by have := HI.out; omega))).mono ?_
                    rintro e w6 ⟨v6, L6, rfl, hrow6, -, hm6, -, hb6⟩
                    obtain ⟨p6, c6, rfl⟩ := Lk.row_shape hrow6
                    have hne : ((L6.length : Int) == 0) = false := by
                      obtain ⟨o2, ho2⟩ := HBA.out.1
                      have hin6 := (hm6 o2).2 ⟨_, HBA.out.2, ho2⟩
                      have : L6.length ≠ 0 := fun h => by rw [List.length_eq_zero_iff.1 h] at hin6; cases hin6
                      simp
                      exact fun h => this (by rw [h]; rfl)
                    have HN2 := Mp.hid (HK5.out.below hb6)
                    clear hrow6 hm6 hb6 HK5 HBA
                    go_wp2_with fail
                    refine ⟨⟨a + 1, by omega, by omega, by go_num, HN2⟩, by simp [RowKit.intOf]; omega⟩
                · have HNN : Hid (Lk.Ob [] w wr p (401 * (i + 1)) s3 bs bw bq ∧ Lk.Inv s3 ∧ Lk.Ap s3 ∧ Lk.Wb s3) := Mp.hid ⟨HK.out, HN.out.2⟩
                  have hi150 : (i : Int) + 1 ≤ 151 := by have := HI.out; omega
                  clear HK
                  go_wp2_with fail
                  refine ⟨⟨i + 1, s3, by have := HI.out; omega, by go_num, HNN⟩, by have := HI.out; simp [RowKit.intOf]; omega⟩
        · have hk0 : (x.kd == 0) = false := by simpa using hkd
          clear hkd
          go_wp2_with fail
          refine (releaseB_any [] w _ p (401 * i) s bs bw bq (1 + (r : Int)) HOB hM (Lk.wf_lit (by omega) (by omega)) (Mp.hid HH.out.2.1) (Mp.hid (by have := HI.out; omega))).mono ?_
          rintro e w3 ⟨v3, out3, s3, L3, rfl, hR, hU, hm, -, hO3, -, hI3, hF3, -⟩
          have hAW := hR.wp (Lk.leave_inv HH.out.2.1 _) (Lk.up_nodup hU) (Lk.leave_ap HH.out.2.2.1 _) (Lk.leave_wp HH.out.2.1 HH.out.2.2.2 _ hm)
          have HN : Hid (Lk.Ob [] w w3 p (401 * (i + 1)) s3 bs bw bq ∧ Lk.Inv s3 ∧ Lk.Ap s3 ∧ Lk.Wb s3) := Mp.hid ⟨hO3.mono (by omega), hI3, hAW.1, hAW.2⟩
          clear hR hU hm hO3 hI3 hF3 hAW HOB HH b0 b2 b3
          go_wp2_with fail
          refine (namesB_any [] w w3 p (401 * (i + 1)) s3 bs bw bq (Mp.hid HN.out.1) (Mp.hid (by have := HI.out; omega))).mono ?_
          rintro e w4 ⟨v4, L, rfl, hrow4, -, hm4, hl4, hb4⟩
          obtain ⟨pn, cn, rfl, hT4⟩ := Lk.rowT_of hrow4
          have HLM : Hid (∀ n ∈ L, n.length ≤ maxLen) := Mp.hid (fun n hn => ((hm4 n).1 hn).1)
          have HW0 : Hid (Lk.Ob [] w w4 p (401 * (i + 1)) s3 bs bw bq ∧ Lk.RowT w4 pn L) := Mp.hid ⟨HN.out.1.below hb4, hT4⟩
          obtain ⟨nl, hnl⟩ : ∃ nl, nl = L.length := ⟨_, rfl⟩
          have hnl2 : nl ≤ 9000000000 := by
            rw [hnl]
            have h1 := HI.out
            have h2 : (401 * (i + 1)) * (401 * (i + 1)) ≤ 60551 * 60551 := Nat.mul_le_mul (by omega) (by omega)
            omega
          have HNL := Mp.hid hnl
          clear hrow4 hm4 hl4 hb4 hT4
          go_wp2_with fail
          rw [← hnl]
          clear hnl
          go_loopw [8] (fun vk wr => ∃ k : Nat, k ≤ nl ∧ vk = .int .i64 (k : Int) ∧ Hid (Lk.Ob [] w wr p (401 * (i + 1)) s3 bs bw bq ∧ Lk.RowT wr pn L)) (fun vk _ => nl - (RowKit.intOf vk).toNat)
          case atStart => exact ⟨0, by omega, rfl, HW0⟩
          case round =>
            clear HW0
            obtain ⟨k, hk, rfl, HK⟩ := hrel
            by_cases hkl : k < nl
            · obtain ⟨nm, hnm⟩ : ∃ nm, L[k]? = some nm := ⟨_, List.getElem?_eq_getElem (by rw [← HNL.out]; exact hkl)⟩
              have hlm : nm.length ≤ maxLen := HLM.out nm (List.mem_of_getElem? hnm)
              have HNM := Mp.hid hnm
              have q1 : (0 : Int) ≤ (k : Int) := by omega
              have q2 : (k : Int) < (nl : Int) := by omega
              clear hnm
              go_wp2_with fail
              go_loopw [9] (fun va wr => ∃ a : Nat, 1 ≤ a ∧ a ≤ 9 ∧ va = .int .i64 (a : Int) ∧ Hid (Lk.Ob [] w wr p (401 * (i + 1)) s3 bs bw bq ∧ Lk.RowT wr pn L)) (fun va _ => 9 - (RowKit.intOf va).toNat)
              case atStart => exact ⟨1, by omega, by omega, rfl, HK⟩
              case round =>
                clear HK
                obtain ⟨a, ha1, ha9, rfl, HK⟩ := hrel
                by_cases ha : a ≤ 8
                · have q3 : (a : Int) ≤ 8 := by omega
                  go_wp2_with fail
                  go_loopw [10] (fun vb wr => ∃ b : Nat, 1 ≤ b ∧ b ≤ 9 ∧ vb = .int .i64 (b : Int) ∧ Hid (Lk.Ob [] w wr p (401 * (i + 1)) s3 bs bw bq ∧ Lk.RowT wr pn L)) (fun vb _ => 9 - (RowKit.intOf vb).toNat)
                  case atStart => exact ⟨1, by omega, by omega, rfl, HK⟩
                  case round =>
                    clear HK
                    obtain ⟨b2, hb1, hb9, rfl, HK⟩ := hrel
                    by_cases hb : b2 ≤ 8
                    · have q4 : (b2 : Int) ≤ 8 := by omega
                      obtain ⟨g, rfl, hcn⟩ := HK.out.2 k nm HNM.out
                      have HCD : Hid (wr.drew.cell? ⟨g, k, none⟩ = some (Lk.str nm)) := Mp.hid hcn
                      have HOD := Mp.hid (HK.out.1.below (Below.refl _ _).drew)
                      by_cases hab : a = b2
                      · have hae : ((a : Int) == (b2 : Int)) = true := by simp; omega
                        have hbn := neq_false hae
                        have HN2 : Hid (Lk.Ob [] w wr.drew p (401 * (i + 1)) s3 bs bw bq ∧ Lk.RowT wr.drew (some ⟨g, 0, none⟩) L) := Mp.hid ⟨HOD.out, HK.out.2.below (Below.refl _ _).drew⟩
                        go_wp2_with fail
                        refine wp_region_held_drew (S := (fun w' => w'.cell? ⟨g, k, none⟩ = some (Lk.str nm))) (by kernel_rfl) (HCD.out) (fun hH => ?_)
                        refine wpAnyH_take (i := 0) (oi := ?ozx0) (v := ?vzx0) ?hizx0 ?hszx0 ?hfzx0 ?hrzx0 ?hQzx0 (Or.inl ⟨?hwzx0, ?hyzx0⟩) ?hSzx0 ?restzx0
                        case hizx0 => (simp; rfl)
                        case hszx0 => kernel_rfl
                        case hfzx0 => kernel_rfl
                        case hrzx0 => kernel_rfl
                        case hQzx0 => exact fun _ _ _ h => h
                        case hwzx0 => rfl
                        case hyzx0 => (intro wq hSq; (try dsimp only at hSq); go_simp; (try with_reducible rfl))
                        case hSzx0 => assumption
                        simp only [Act.put, List.setIfInBounds_toArray, List.set_cons_zero, List.set_cons_succ]
                        refine wpAnyH_take (i := 1) (oi := ?ozx1) (v := ?vzx1) ?hizx1 ?hszx1 ?hfzx1 ?hrzx1 ?hQzx1 (Or.inl ⟨?hwzx1, ?hyzx1⟩) ?hSzx1 ?restzx1
                        case hizx1 => (simp; rfl)
                        case hszx1 => kernel_rfl
                        case hfzx1 => kernel_rfl
                        case hrzx1 => kernel_rfl
                        case hQzx1 => exact fun _ _ _ h => h
                        case hwzx1 => rfl
                        case hyzx1 => (intro wq hSq; (try dsimp only at hSq); go_simp; (try with_reducible rfl))
                        case hSzx1 => assumption
                        simp only [Act.put, List.setIfInBounds_toArray, List.set_cons_zero, List.set_cons_succ]
                        refine wpAnyH_take (i := 2) (oi := ?ozx2) (v := ?vzx2) ?hizx2 ?hszx2 ?hfzx2 ?hrzx2 ?hQzx2 (Or.inl ⟨?hwzx2, ?hyzx2⟩) ?hSzx2 ?restzx2
                        case hizx2 => (simp; rfl)
                        case hszx2 => kernel_rfl
                        case hfzx2 => kernel_rfl
                        case hrzx2 => kernel_rfl
                        case hQzx2 => exact fun _ _ _ h => h
                        case hwzx2 => rfl
                        case hyzx2 => (intro wq hSq; (try dsimp only at hSq); go_simp; (try with_reducible rfl))
                        case hSzx2 => assumption
                        simp only [Act.put, List.setIfInBounds_toArray, List.set_cons_zero, List.set_cons_succ]
                        refine wpAnyH_take (i := 3) (oi := ?ozx3) (v := ?vzx3) ?hizx3 ?hszx3 ?hfzx3 ?hrzx3 ?hQzx3 (Or.inl ⟨?hwzx3, ?hyzx3⟩) ?hSzx3 ?restzx3
                        case hizx3 => (simp; rfl)
                        case hszx3 => kernel_rfl
                        case hfzx3 => kernel_rfl
                        case hrzx3 => kernel_rfl
                        case hQzx3 => exact fun _ _ _ h => h
                        case hwzx3 => rfl
                        case hyzx3 => (intro wq hSq; (try dsimp only at hSq); go_simp; (try with_reducible rfl))
                        case hSzx3 => assumption
                        simp only [Act.put, List.setIfInBounds_toArray, List.set_cons_zero, List.set_cons_succ]
                        refine wpAnyH_take (i := 4) (oi := ?ozx4) (v := undef) ?hizx4 ?hszx4 ?hfzx4 ?hrzx4 ?hQzx4 (Or.inr ⟨?hwzx4, rfl⟩) ?hSzx4 ?restzx4
                        case hizx4 => (simp; rfl)
                        case hszx4 => kernel_rfl
                        case hfzx4 => kernel_rfl
                        case hrzx4 => kernel_rfl
                        case hQzx4 => exact fun _ _ _ h => h
                        case hwzx4 => rfl
                        case hSzx4 => assumption
                        simp only [Act.put, List.setIfInBounds_toArray, List.set_cons_zero, List.set_cons_succ]
                        refine wpAnyH_take (i := 5) (oi := ?ozx5) (v := undef) ?hizx5 ?hszx5 ?hfzx5 ?hrzx5 ?hQzx5 (Or.inr ⟨?hwzx5, rfl⟩) ?hSzx5 ?restzx5
                        case hizx5 => (simp; rfl)
                        case hszx5 => kernel_rfl
                        case hfzx5 => kernel_rfl
                        case hrzx5 => kernel_rfl
                        case hQzx5 => exact fun _ _ _ h => h
                        case hwzx5 => rfl
                        case hSzx5 => assumption
                        simp only [Act.put, List.setIfInBounds_toArray, List.set_cons_zero, List.set_cons_succ]
                        refine wpAnyH_take (i := 6) (oi := ?ozx6) (v := undef) ?hizx6 ?hszx6 ?hfzx6 ?hrzx6 ?hQzx6 (Or.inr ⟨?hwzx6, rfl⟩) ?hSzx6 ?restzx6
                        case hizx6 => (simp; rfl)
                        case hszx6 => kernel_rfl
                        case hfzx6 => kernel_rfl
                        case hrzx6 => kernel_rfl
                        case hQzx6 => exact fun _ _ _ h => h
                        case hwzx6 => rfl
                        case hSzx6 => assumption
                        simp only [Act.put, List.setIfInBounds_toArray, List.set_cons_zero, List.set_cons_succ]
                        refine wpAnyH_take (i := 7) (oi := ?ozx7) (v := undef) ?hizx7 ?hszx7 ?hfzx7 ?hrzx7 ?hQzx7 (Or.inr ⟨?hwzx7, rfl⟩) ?hSzx7 ?restzx7
                        case hizx7 => (simp; rfl)
                        case hszx7 => kernel_rfl
                        case hfzx7 => kernel_rfl
                        case hrzx7 => kernel_rfl
                        case hQzx7 => exact fun _ _ _ h => h
                        case hwzx7 => rfl
                        case hSzx7 => assumption
                        simp only [Act.put, List.setIfInBounds_toArray, List.set_cons_zero, List.set_cons_succ]
                        refine wpAnyH_take (i := 8) (oi := ?ozx8) (v := undef) ?hizx8 ?hszx8 ?hfzx8 ?hrzx8 ?hQzx8 (Or.inr ⟨?hwzx8, rfl⟩) ?hSzx8 ?restzx8
                        case hizx8 => (simp; rfl)
                        case hszx8 => kernel_rfl
                        case hfzx8 => kernel_rfl
                        case hrzx8 => kernel_rfl
                        case hQzx8 => exact fun _ _ _ h => h
                        case hwzx8 => rfl
                        case hSzx8 => assumption
                        simp only [Act.put, List.setIfInBounds_toArray, List.set_cons_zero, List.set_cons_succ]
                        refine wpAnyH_take (i := 9) (oi := ?ozx9) (v := undef) ?hizx9 ?hszx9 ?hfzx9 ?hrzx9 ?hQzx9 (Or.inr ⟨?hwzx9, rfl⟩) ?hSzx9 ?restzx9
                        case hizx9 => (simp; rfl)
                        case hszx9 => kernel_rfl
                        case hfzx9 => kernel_rfl
                        case hrzx9 => kernel_rfl
                        case hQzx9 => exact fun _ _ _ h => h
                        case hwzx9 => rfl
                        case hSzx9 => assumption
                        simp only [Act.put, List.setIfInBounds_toArray, List.set_cons_zero, List.set_cons_succ]
                        refine wpAnyH_take (i := 10) (oi := ?ozx10) (v := undef) ?hizx10 ?hszx10 ?hfzx10 ?hrzx10 ?hQzx10 (Or.inr ⟨?hwzx10, rfl⟩) ?hSzx10 ?restzx10
                        case hizx10 => (simp; rfl)
                        case hszx10 => kernel_rfl
                        case hfzx10 => kernel_rfl
                        case hrzx10 => kernel_rfl
                        case hQzx10 => exact fun _ _ _ h => h
                        case hwzx10 => rfl
                        case hSzx10 => assumption
                        simp only [Act.put, List.setIfInBounds_toArray, List.set_cons_zero, List.set_cons_succ]
                        refine wpAnyH_take (i := 11) (oi := ?ozx11) (v := undef) ?hizx11 ?hszx11 ?hfzx11 ?hrzx11 ?hQzx11 (Or.inr ⟨?hwzx11, rfl⟩) ?hSzx11 ?restzx11
                        case hizx11 => (simp; rfl)
                        case hszx11 => kernel_rfl
                        case hfzx11 => kernel_rfl
                        case hrzx11 => kernel_rfl
                        case hQzx11 => exact fun _ _ _ h => h
                        case hwzx11 => rfl
                        case hSzx11 => assumption
                        simp only [Act.put, List.setIfInBounds_toArray, List.set_cons_zero, List.set_cons_succ]
                        refine wpAnyH_take (i := 12) (oi := ?ozx12) (v := undef) ?hizx12 ?hszx12 ?hfzx12 ?hrzx12 ?hQzx12 (Or.inr ⟨?hwzx12, rfl⟩) ?hSzx12 ?restzx12
                        case hizx12 => (simp; rfl)
                        case hszx12 => kernel_rfl
                        case hfzx12 => kernel_rfl
                        case hrzx12 => kernel_rfl
                        case hQzx12 => exact fun _ _ _ h => h
                        case hwzx12 => rfl
                        case hSzx12 => assumption
                        simp only [Act.put, List.setIfInBounds_toArray, List.set_cons_zero, List.set_cons_succ]
                        refine wpAnyH_take (i := 13) (oi := ?ozx13) (v := undef) ?hizx13 ?hszx13 ?hfzx13 ?hrzx13 ?hQzx13 (Or.inr ⟨?hwzx13, rfl⟩) ?hSzx13 ?restzx13
                        case hizx13 => (simp; rfl)
                        case hszx13 => kernel_rfl
                        case hfzx13 => kernel_rfl
                        case hrzx13 => kernel_rfl
                        case hQzx13 => exact fun _ _ _ h => h
                        case hwzx13 => rfl
                        case hSzx13 => assumption
                        simp only [Act.put, List.setIfInBounds_toArray, List.set_cons_zero, List.set_cons_succ]
                        refine wpAnyH_take (i := 14) (oi := ?ozx14) (v := undef) ?hizx14 ?hszx14 ?hfzx14 ?hrzx14 ?hQzx14 (Or.inr ⟨?hwzx14, rfl⟩) ?hSzx14 ?restzx14
                        case hizx14 => (simp; rfl)
                        case hszx14 => kernel_rfl
                        case hfzx14 => kernel_rfl
                        case hrzx14 => kernel_rfl
                        case hQzx14 => exact fun _ _ _ h => h
                        case hwzx14 => rfl
                        case hSzx14 => assumption
                        simp only [Act.put, List.setIfInBounds_toArray, List.set_cons_zero, List.set_cons_succ]
                        refine wpAnyH_take (i := 15) (oi := ?ozx15) (v := undef) ?hizx15 ?hszx15 ?hfzx15 ?hrzx15 ?hQzx15 (Or.inr ⟨?hwzx15, rfl⟩) ?hSzx15 ?restzx15
                        case hizx15 => (simp; rfl)
                        case hszx15 => kernel_rfl
                        case hfzx15 => kernel_rfl
                        case hrzx15 => kernel_rfl
                        case hQzx15 => exact fun _ _ _ h => h
                        case hwzx15 => rfl
                        case hSzx15 => assumption
                        simp only [Act.put, List.setIfInBounds_toArray, List.set_cons_zero, List.set_cons_succ]
                        refine wpAnyH_take (i := 16) (oi := ?ozx16) (v := undef) ?hizx16 ?hszx16 ?hfzx16 ?hrzx16 ?hQzx16 (Or.inr ⟨?hwzx16, rfl⟩) ?hSzx16 ?restzx16
                        case hizx16 => (simp; rfl)
                        case hszx16 => kernel_rfl
                        case hfzx16 => kernel_rfl
                        case hrzx16 => kernel_rfl
                        case hQzx16 => exact fun _ _ _ h => h
                        case hwzx16 => rfl
                        case hSzx16 => assumption
                        simp only [Act.put, List.setIfInBounds_toArray, List.set_cons_zero, List.set_cons_succ]
                        refine wpAnyH_take (i := 17) (oi := ?ozx17) (v := undef) ?hizx17 ?hszx17 ?hfzx17 ?hrzx17 ?hQzx17 (Or.inr ⟨?hwzx17, rfl⟩) ?hSzx17 ?restzx17
                        case hizx17 => (simp; rfl)
                        case hszx17 => kernel_rfl
                        case hfzx17 => kernel_rfl
                        case hrzx17 => kernel_rfl
                        case hQzx17 => exact fun _ _ _ h => h
                        case hwzx17 => rfl
                        case hSzx17 => assumption
                        simp only [Act.put, List.setIfInBounds_toArray, List.set_cons_zero, List.set_cons_succ]
                        refine wpAnyH_take (i := 18) (oi := ?ozx18) (v := undef) ?hizx18 ?hszx18 ?hfzx18 ?hrzx18 ?hQzx18 (Or.inr ⟨?hwzx18, rfl⟩) ?hSzx18 ?restzx18
                        case hizx18 => (simp; rfl)
                        case hszx18 => kernel_rfl
                        case hfzx18 => kernel_rfl
                        case hrzx18 => kernel_rfl
                        case hQzx18 => exact fun _ _ _ h => h
                        case hwzx18 => rfl
                        case hSzx18 => assumption
                        simp only [Act.put, List.setIfInBounds_toArray, List.set_cons_zero, List.set_cons_succ]
                        refine wpAnyH_take (i := 19) (oi := ?ozx19) (v := ?vzx19) ?hizx19 ?hszx19 ?hfzx19 ?hrzx19 ?hQzx19 (Or.inl ⟨?hwzx19, ?hyzx19⟩) ?hSzx19 ?restzx19
                        case hizx19 => (simp; rfl)
                        case hszx19 => kernel_rfl
                        case hfzx19 => kernel_rfl
                        case hrzx19 => kernel_rfl
                        case hQzx19 => exact fun _ _ _ h => h
                        case hwzx19 => rfl
                        case hyzx19 => (intro wq hSq; (try dsimp only at hSq); go_simp; (try with_reducible rfl))
                        case hSzx19 => assumption
                        simp only [Act.put, List.setIfInBounds_toArray, List.set_cons_zero, List.set_cons_succ]
                        refine wpAnyH_done (by kernel_rfl) ?_ _
                        go_wp2_with fail
                        refine ⟨⟨b2 + 1, by omega, by omega, by go_num, HN2⟩, by simp [RowKit.intOf]; omega⟩
                      · have hae : ((a : Int) == (b2 : Int)) = false := by simp; omega
                        have hbn := neq_true hae
                        have HFR : Hid (Lk.Free (s3.set (a : Int) nm) (s3.set (b2 : Int) nm)) := Mp.hid (HN.out.2.2.1.free _ _ nm (by omega))
                        clear hcn
                        go_wp2_with fail
                        refine wp_region_held_drew (S := (fun w' => w'.cell? ⟨g, k, none⟩ = some (Lk.str nm))) (by kernel_rfl) (HCD.out) (fun hH => ?_)
                        refine wpAnyH_take (i := 0) (oi := ?oyx0) (v := ?vyx0) ?hiyx0 ?hsyx0 ?hfyx0 ?hryx0 ?hQyx0 (Or.inl ⟨?hwyx0, ?hyyx0⟩) ?hSyx0 ?restyx0
                        case hiyx0 => (simp; rfl)
                        case hsyx0 => kernel_rfl
                        case hfyx0 => kernel_rfl
                        case hryx0 => kernel_rfl
                        case hQyx0 => exact fun _ _ _ h => h
                        case hwyx0 => rfl
                        case hyyx0 => (intro wq hSq; (try dsimp only at hSq); go_simp; (try with_reducible rfl))
                        case hSyx0 => assumption
                        simp only [Act.put, List.setIfInBounds_toArray, List.set_cons_zero, List.set_cons_succ]
                        refine wpAnyH_take (i := 1) (oi := ?oyx1) (v := ?vyx1) ?hiyx1 ?hsyx1 ?hfyx1 ?hryx1 ?hQyx1 (Or.inl ⟨?hwyx1, ?hyyx1⟩) ?hSyx1 ?restyx1
                        case hiyx1 => (simp; rfl)
                        case hsyx1 => kernel_rfl
                        case hfyx1 => kernel_rfl
                        case hryx1 => kernel_rfl
                        case hQyx1 => exact fun _ _ _ h => h
                        case hwyx1 => rfl
                        case hyyx1 => (intro wq hSq; (try dsimp only at hSq); go_simp; (try with_reducible rfl))
                        case hSyx1 => assumption
                        simp only [Act.put, List.setIfInBounds_toArray, List.set_cons_zero, List.set_cons_succ]
                        refine wpAnyH_take (i := 2) (oi := ?oyx2) (v := Value.bool true) ?hiyx2 ?hsyx2 ?hfyx2 ?hryx2 ?hQyx2 (Or.inl ⟨?hwyx2, ?hyyx2⟩) ?hSyx2 ?restyx2
                        case hiyx2 => (simp; rfl)
                        case hsyx2 => kernel_rfl
                        case hfyx2 => kernel_rfl
                        case hryx2 => kernel_rfl
                        case hQyx2 => exact fun _ _ _ h => h
                        case hwyx2 => rfl
                        case hyyx2 => (intro wq hSq; (try dsimp only at hSq); go_simp; omega)
                        case hSyx2 => assumption
                        simp only [Act.put, List.setIfInBounds_toArray, List.set_cons_zero, List.set_cons_succ]
                        refine wpAnyH_take (i := 3) (oi := ?oyx3) (v := ?vyx3) ?hiyx3 ?hsyx3 ?hfyx3 ?hryx3 ?hQyx3 (Or.inl ⟨?hwyx3, ?hyyx3⟩) ?hSyx3 ?restyx3
                        case hiyx3 => (simp; rfl)
                        case hsyx3 => kernel_rfl
                        case hfyx3 => kernel_rfl
                        case hryx3 => kernel_rfl
                        case hQyx3 => exact fun _ _ _ h => h
                        case hwyx3 => rfl
                        case hyyx3 => (intro wq hSq; (try dsimp only at hSq); go_simp; (try with_reducible rfl))
                        case hSyx3 => assumption
                        simp only [Act.put, List.setIfInBounds_toArray, List.set_cons_zero, List.set_cons_succ]
                        refine wpAnyH_take (i := 4) (oi := ?oyx4) (v := ?vyx4) ?hiyx4 ?hsyx4 ?hfyx4 ?hryx4 ?hQyx4 (Or.inl ⟨?hwyx4, ?hyyx4⟩) ?hSyx4 ?restyx4
                        case hiyx4 => (simp; rfl)
                        case hsyx4 => kernel_rfl
                        case hfyx4 => kernel_rfl
                        case hryx4 => kernel_rfl
                        case hQyx4 => exact fun _ _ _ h => h
                        case hwyx4 => rfl
                        case hyyx4 => (intro wq hSq; (try dsimp only at hSq); go_simp; (try with_reducible rfl))
                        case hSyx4 => assumption
                        simp only [Act.put, List.setIfInBounds_toArray, List.set_cons_zero, List.set_cons_succ]
                        refine wpAnyH_take (i := 5) (oi := ?oyx5) (v := ?vyx5) ?hiyx5 ?hsyx5 ?hfyx5 ?hryx5 ?hQyx5 (Or.inl ⟨?hwyx5, ?hyyx5⟩) ?hSyx5 ?restyx5
                        case hiyx5 => (simp; rfl)
                        case hsyx5 => kernel_rfl
                        case hfyx5 => kernel_rfl
                        case hryx5 => kernel_rfl
                        case hQyx5 => exact fun _ _ _ h => h
                        case hwyx5 => rfl
                        case hyyx5 => (intro wq hSq; (try dsimp only at hSq); go_simp; (try with_reducible rfl))
                        case hSyx5 => assumption
                        simp only [Act.put, List.setIfInBounds_toArray, List.set_cons_zero, List.set_cons_succ]
                        refine wpAnyH_take (i := 6) (oi := ?oyx6) (v := ?vyx6) ?hiyx6 ?hsyx6 ?hfyx6 ?hryx6 ?hQyx6 (Or.inl ⟨?hwyx6, ?hyyx6⟩) ?hSyx6 ?restyx6
                        case hiyx6 => (simp; rfl)
                        case hsyx6 => kernel_rfl
                        case hfyx6 => kernel_rfl
                        case hryx6 => kernel_rfl
                        case hQyx6 => exact fun _ _ _ h => h
                        case hwyx6 => rfl
                        case hyyx6 => (intro wq hSq; (try dsimp only at hSq); go_simp; (try with_reducible rfl))
                        case hSyx6 => assumption
                        simp only [Act.put, List.setIfInBounds_toArray, List.set_cons_zero, List.set_cons_succ]
                        refine wpAnyH_take (i := 7) (oi := ?oyx7) (v := ?vyx7) ?hiyx7 ?hsyx7 ?hfyx7 ?hryx7 ?hQyx7 (Or.inl ⟨?hwyx7, ?hyyx7⟩) ?hSyx7 ?restyx7
                        case hiyx7 => (simp; rfl)
                        case hsyx7 => kernel_rfl
                        case hfyx7 => kernel_rfl
                        case hryx7 => kernel_rfl
                        case hQyx7 => exact fun _ _ _ h => h
                        case hwyx7 => rfl
                        case hyyx7 => (intro wq hSq; (try dsimp only at hSq); go_simp; (try with_reducible rfl))
                        case hSyx7 => assumption
                        simp only [Act.put, List.setIfInBounds_toArray, List.set_cons_zero, List.set_cons_succ]
                        refine wpAnyH_take (i := 8) (oi := ?oyx8) (v := ?vyx8) ?hiyx8 ?hsyx8 ?hfyx8 ?hryx8 ?hQyx8 (Or.inl ⟨?hwyx8, ?hyyx8⟩) ?hSyx8 ?restyx8
                        case hiyx8 => (simp; rfl)
                        case hsyx8 => kernel_rfl
                        case hfyx8 => kernel_rfl
                        case hryx8 => kernel_rfl
                        case hQyx8 => exact fun _ _ _ h => h
                        case hwyx8 => rfl
                        case hyyx8 => (intro wq hSq; (try dsimp only at hSq); go_simp; (try with_reducible rfl))
                        case hSyx8 => assumption
                        simp only [Act.put, List.setIfInBounds_toArray, List.set_cons_zero, List.set_cons_succ]
                        refine wpAnyH_take (i := 9) (oi := ?oyx9) (v := ?vyx9) ?hiyx9 ?hsyx9 ?hfyx9 ?hryx9 ?hQyx9 (Or.inl ⟨?hwyx9, ?hyyx9⟩) ?hSyx9 ?restyx9
                        case hiyx9 => (simp; rfl)
                        case hsyx9 => kernel_rfl
                        case hfyx9 => kernel_rfl
                        case hryx9 => kernel_rfl
                        case hQyx9 => exact fun _ _ _ h => h
                        case hwyx9 => rfl
                        case hyyx9 => (intro wq hSq; (try dsimp only at hSq); go_simp; (try with_reducible rfl))
                        case hSyx9 => assumption
                        simp only [Act.put, List.setIfInBounds_toArray, List.set_cons_zero, List.set_cons_succ]
                        refine wpAnyH_take (i := 11) (oi := ?oyx11) (v := ?vyx11) ?hiyx11 ?hsyx11 ?hfyx11 ?hryx11 ?hQyx11 (Or.inl ⟨?hwyx11, ?hyyx11⟩) ?hSyx11 ?restyx11
                        case hiyx11 => (simp; rfl)
                        case hsyx11 => kernel_rfl
                        case hfyx11 => kernel_rfl
                        case hryx11 => kernel_rfl
                        case hQyx11 => exact fun _ _ _ h => h
                        case hwyx11 => rfl
                        case hyyx11 => (intro wq hSq; (try dsimp only at hSq); go_simp; (try with_reducible rfl))
                        case hSyx11 => assumption
                        simp only [Act.put, List.setIfInBounds_toArray, List.set_cons_zero, List.set_cons_succ]
                        refine wpAnyH_take (i := 12) (oi := ?oyx12) (v := ?vyx12) ?hiyx12 ?hsyx12 ?hfyx12 ?hryx12 ?hQyx12 (Or.inl ⟨?hwyx12, ?hyyx12⟩) ?hSyx12 ?restyx12
                        case hiyx12 => (simp; rfl)
                        case hsyx12 => kernel_rfl
                        case hfyx12 => kernel_rfl
                        case hryx12 => kernel_rfl
                        case hQyx12 => exact fun _ _ _ h => h
                        case hwyx12 => rfl
                        case hyyx12 => (intro wq hSq; (try dsimp only at hSq); go_simp; (try with_reducible rfl))
                        case hSyx12 => assumption
                        simp only [Act.put, List.setIfInBounds_toArray, List.set_cons_zero, List.set_cons_succ]
                        refine wpAnyH_take (i := 13) (oi := ?oyx13) (v := ?vyx13) ?hiyx13 ?hsyx13 ?hfyx13 ?hryx13 ?hQyx13 (Or.inl ⟨?hwyx13, ?hyyx13⟩) ?hSyx13 ?restyx13
                        case hiyx13 => (simp; rfl)
                        case hsyx13 => kernel_rfl
                        case hfyx13 => kernel_rfl
                        case hryx13 => kernel_rfl
                        case hQyx13 => exact fun _ _ _ h => h
                        case hwyx13 => rfl
                        case hyyx13 => (intro wq hSq; (try dsimp only at hSq); go_simp; (try with_reducible rfl))
                        case hSyx13 => assumption
                        simp only [Act.put, List.setIfInBounds_toArray, List.set_cons_zero, List.set_cons_succ]
                        refine wpAnyH_take (i := 14) (oi := ?oyx14) (v := ?vyx14) ?hiyx14 ?hsyx14 ?hfyx14 ?hryx14 ?hQyx14 (Or.inl ⟨?hwyx14, ?hyyx14⟩) ?hSyx14 ?restyx14
                        case hiyx14 => (simp; rfl)
                        case hsyx14 => kernel_rfl
                        case hfyx14 => kernel_rfl
                        case hryx14 => kernel_rfl
                        case hQyx14 => exact fun _ _ _ h => h
                        case hwyx14 => rfl
                        case hyyx14 => (intro wq hSq; (try dsimp only at hSq); go_simp; (try with_reducible rfl))
                        case hSyx14 => assumption
                        simp only [Act.put, List.setIfInBounds_toArray, List.set_cons_zero, List.set_cons_succ]
                        refine wpAnyH_take (i := 15) (oi := ?oyx15) (v := ?vyx15) ?hiyx15 ?hsyx15 ?hfyx15 ?hryx15 ?hQyx15 (Or.inl ⟨?hwyx15, ?hyyx15⟩) ?hSyx15 ?restyx15
                        case hiyx15 => (simp; rfl)
                        case hsyx15 => kernel_rfl
                        case hfyx15 => kernel_rfl
                        case hryx15 => kernel_rfl
                        case hQyx15 => exact fun _ _ _ h => h
                        case hwyx15 => rfl
                        case hyyx15 => (intro wq hSq; (try dsimp only at hSq); go_simp; (try with_reducible rfl))
                        case hSyx15 => assumption
                        simp only [Act.put, List.setIfInBounds_toArray, List.set_cons_zero, List.set_cons_succ]
                        refine wpAnyH_take (i := 16) (oi := ?oyx16) (v := ?vyx16) ?hiyx16 ?hsyx16 ?hfyx16 ?hryx16 ?hQyx16 (Or.inl ⟨?hwyx16, ?hyyx16⟩) ?hSyx16 ?restyx16
                        case hiyx16 => (simp; rfl)
                        case hsyx16 => kernel_rfl
                        case hfyx16 => kernel_rfl
                        case hryx16 => kernel_rfl
                        case hQyx16 => exact fun _ _ _ h => h
                        case hwyx16 => rfl
                        case hyyx16 => (intro wq hSq; (try dsimp only at hSq); go_simp; (try with_reducible rfl))
                        case hSyx16 => assumption
                        simp only [Act.put, List.setIfInBounds_toArray, List.set_cons_zero, List.set_cons_succ]
                        refine wpAnyH_ready (rs := [10]) (by kernel_rfl) (by simp) ?_
                        refine AllReadyH.cons (o := ?oyx10) ?hiyx10 (fun K hK => ?_) AllReadyH.nil
                        case hiyx10 => (simp; rfl)
                        go_simp
                        refine (modesB_any [] w _ p _ s3 bs bw bq (a : Int) nm HOD (Lk.wf_lit (by omega) (by omega)) hlm).mono ?_
                        rintro e w' ⟨rfl, hq⟩
                        obtain rfl := hq.symm
                        have hb : True := trivial
                        go_wp2_with fail
                        refine hK.out _ _ ?_ (fun hH2 => ?_)
                        · exact hH
                        clear hK K hb hH
                        refine wpAnyH_ready (rs := [17]) (by kernel_rfl) (by simp) ?_
                        refine AllReadyH.cons (o := ?oyx17) ?hiyx17 (fun K hK => ?_) AllReadyH.nil
                        case hiyx17 => (simp; rfl)
                        go_simp
                        refine (modesB_any [] w _ p _ s3 bs bw bq (b2 : Int) nm HOD (Lk.wf_lit (by omega) (by omega)) hlm).mono ?_
                        rintro e w' ⟨rfl, hq⟩
                        obtain rfl := hq.symm
                        have hb : True := trivial
                        go_wp2_with fail
                        refine hK.out _ _ ?_ (fun hH3 => ?_)
                        · exact hH2
                        clear hK K hb hH2
                        refine wpAnyH_ready (rs := [18]) (by kernel_rfl) (by simp) ?_
                        refine AllReadyH.cons (o := ?oyx18) ?hiyx18 (fun K hK => ?_) AllReadyH.nil
                        case hiyx18 => (simp; rfl)
                        go_simp
                        refine (bars6_any _ _ _ HFR).mono ?_
                        rintro e w6 ⟨rfl, hb⟩
                        have HN2 : Hid (Lk.Ob [] w w6 p (401 * (i + 1)) s3 bs bw bq ∧ Lk.RowT w6 (some ⟨g, 0, none⟩) L) := Mp.hid ⟨HOD.out.below hb, HK.out.2.below (Md.btr (Below.refl _ _).drew hb)⟩
                        have HCE : Hid (w6.cell? ⟨g, k, none⟩ = some (Lk.str nm)) := Mp.hid (by
                          obtain ⟨b7, e1, e2⟩ := HN2.out.2 k nm HNM.out
                          injection e1 with e1
                          injection e1 with e1
                          rw [e1]; exact e2)
                        go_wp2_with fail
                        refine hK.out _ _ ?_ (fun hH4 => ?_)
                        · exact HCE.out
                        clear hK K hb hH3
                        refine wpAnyH_take (i := 19) (oi := ?oyx19) (v := ?vyx19) ?hiyx19 ?hsyx19 ?hfyx19 ?hryx19 ?hQyx19 (Or.inl ⟨?hwyx19, ?hyyx19⟩) ?hSyx19 ?restyx19
                        case hiyx19 => (simp; rfl)
                        case hsyx19 => kernel_rfl
                        case hfyx19 => kernel_rfl
                        case hryx19 => kernel_rfl
                        case hQyx19 => exact fun _ _ _ h => h
                        case hwyx19 => rfl
                        case hyyx19 => (intro wq hSq; (try dsimp only at hSq); go_simp; (try with_reducible rfl))
                        case hSyx19 => assumption
                        simp only [Act.put, List.setIfInBounds_toArray, List.set_cons_zero, List.set_cons_succ]
                        refine wpAnyH_done (by kernel_rfl) ?_ _
                        clear HK HOD HCD
                        go_wp2_with fail
                        refine ⟨⟨b2 + 1, by omega, by omega, by go_num, HN2⟩, by simp [RowKit.intOf]; omega⟩
                    · go_wp2_with fail
                      refine ⟨⟨a + 1, by omega, by omega, by go_num, HK⟩, by simp [RowKit.intOf]; omega⟩
                · go_wp2_with fail
                  refine ⟨⟨k + 1, by omega, by go_num, HK⟩, by simp [RowKit.intOf]; omega⟩
            · have HW1 := Mp.hid HK.out.1
              clear HK
              go_wp2_with fail
              go_loopw [11] (fun va wr => ∃ a : Nat, 1 ≤ a ∧ a ≤ 9 ∧ va = .int .i64 (a : Int) ∧ Hid (Lk.Ob [] w wr p (401 * (i + 1)) s3 bs bw bq)) (fun va _ => 9 - (RowKit.intOf va).toNat)
              case atStart => exact ⟨1, by omega, by omega, rfl, HW1⟩
              case round =>
                clear HW1
                obtain ⟨a, ha1, ha9, rfl, HK⟩ := hrel
                by_cases ha : a ≤ 8
                · have q3 : (a : Int) ≤ 8 := by omega
                  go_wp2_with fail
                  refine (waitsB_any [] w wr p _ s3 bs bw bq (a : Int) HK (Lk.wf_lit (by omega) (by omega))).mono ?_
                  rcases hw : s3.want (a : Int) with _ | ⟨nm, m⟩
                  · rintro e w5 ⟨rfl, hb5⟩
                    have HN2 := Mp.hid (HK.out.below hb5)
                    clear hb5 HK hw
                    go_wp2_with fail
                    refine ⟨⟨a + 1, by omega, by omega, by go_num, HN2⟩, by simp [RowKit.intOf]; omega⟩
                  · have e2 : Lk.wn s3 (a : Int) = nm := by unfold Lk.wn; rw [hw]; rfl
                    have e3 : Lk.wm s3 (a : Int) = m := by unfold Lk.wm; rw [hw]; rfl
                    rw [e2, e3]
                    rintro e w5 ⟨rfl, hb5⟩
                    have HK5 := Mp.hid (HK.out.below hb5)
                    obtain ⟨hw1, hw2⟩ := HN.out.2.2.2 _ _ _ hw
                    obtain ⟨hq1, hq2⟩ := HN.out.2.1.wi _ _ hw
                    obtain ⟨m', hm', hm8⟩ := HN.out.2.1.wq.w _ _ hq1
                    have hmm : 1 ≤ m ∧ m ≤ 8 := by
                      rw [hw] at hm'
                      injection hm' with hm'
                      injection hm' with _ hm'
                      rw [hm']; exact hm8
                    obtain ⟨mN, rfl⟩ : ∃ mN : Nat, m = (mN : Int) := ⟨m.toNat, by omega⟩
                    have hin : Md.inB (s3.set (a : Int) nm : Int) mN = false := by
                      have := Lk.and_in (HN.out.2.2.1.lo (a : Int) nm) hw1
                      unfold Lk.inS at this
                      simpa using this
                    have HIN := Mp.hid hin
                    have HMM : Hid (1 ≤ mN ∧ mN ≤ 8) := Mp.hid (by omega)
                    have hlm : nm.length ≤ maxLen := Nat.le_trans hq2 (by unfold maxLen; omega)
                    have HBA : Hid (Lk.barredP s3 (a : Int) nm (mN : Int) ∧ s3.want (a : Int) = some (nm, (mN : Int))) := Mp.hid ⟨hw2, hw⟩
                    clear hw hw1 hw2 hq1 hq2 hm' hm8 hmm hin e2 e3 hb5 HK
                    go_wp2_with (first
                      | (go_at_call 19; refine (modesB_any [] w _ p _ s3 bs bw bq (a : Int) nm HK5 (Lk.wf_lit (by omega) (by omega)) hlm).mono ?_; rintro e w' ⟨rfl, hq⟩; obtain rfl := hq.symm)
                      | (go_at_call 28; refine (refIn_any _ _ _ HMM.out).mono ?_; rintro e w' ⟨rfl, hq⟩; obtain rfl := hq.symm; rw [HIN.out]))
                    refine (forB_any [] w w5 p _ s3 bs bw bq (a : Int) HK5 hM (Lk.wf_lit (by omega) (by omega)) (Mp.hid HN.out.2.1) (Mp.hid (by have := HI.out; omega))).mono ?_
                    rintro e w6 ⟨v6, L6, rfl, hrow6, -, hm6, -, hb6⟩
                    obtain ⟨p6, c6, rfl⟩ := Lk.row_shape hrow6
                    have hne : ((L6.length : Int) == 0) = false := by
                      obtain ⟨o2, ho2⟩ := HBA.out.1
                      have hin6 := (hm6 o2).2 ⟨_, HBA.out.2, ho2⟩
                      have : L6.length ≠ 0 := fun h => by rw [List.length_eq_zero_iff.1 h] at hin6; cases hin6
                      simp
                      exact fun h => this (by rw [h]; rfl)
                    have HN2 := Mp.hid (HK5.out.below hb6)
                    clear hrow6 hm6 hb6 HK5 HBA
                    go_wp2_with fail
                    refine ⟨⟨a + 1, by omega, by omega, by go_num, HN2⟩, by simp [RowKit.intOf]; omega⟩
                · have HNN : Hid (Lk.Ob [] w wr p (401 * (i + 1)) s3 bs bw bq ∧ Lk.Inv s3 ∧ Lk.Ap s3 ∧ Lk.Wb s3) := Mp.hid ⟨HK.out, HN.out.2⟩
                  have hi150 : (i : Int) + 1 ≤ 151 := by have := HI.out; omega
                  clear HK
                  go_wp2_with fail
                  refine ⟨⟨i + 1, s3, by have := HI.out; omega, by go_num, HNN⟩, by have := HI.out; simp [RowKit.intOf]; omega⟩
      · have HO := Mp.hid HH.out.1
        clear HH
        go_wp2_with (first | (go_at_call 11; refine (wakes6_any _ (Mp.hid (HO.out.md hM.out))).mono ?_; rintro e w8 ⟨rfl, hb8⟩))
        go_ret
        exact ⟨rfl, HO.out.bel.trans (hb8.mono HO.out.bel.size)⟩

end Go.Proofs.YthaenobciefjiaaDoor
