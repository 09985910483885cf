/- The reference's Begin. -/
import Derived.Test.YtdbbamjijhaeoaaCd3
namespace Go.Proofs.Ytdbbamjijhaeoaa
open Go.RowKit

namespace Mm
theorem Rl.store {w W : World} {q n : Nat} {s : Cg.S} {p : Option Addr} {c : Nat} {rd : Bool} (h : Rl w q s) (hn : n = s.n) (hb : Below w.heap.size w W) (H : W.ownsRow w.heap.size 61 4 (.slice p (n + 1) c) (n + 1) (cellsT s.f n ++ four ⟨1, 0, s.clk, rd⟩)) (hq : q < w.heap.size) : Rl (W.setCell ⟨q, 0, none⟩ (.slice p (n + 1) c)) q (Cg.beg s rd) := by
  subst hn
  obtain ⟨v, h1, -⟩ := h.below hb
  refine ⟨_, Lk.set0_heap h1, Rw.keep (w := W) (Rw.of (s := Cg.beg s rd) ?_) (fun g hg _ => heap_setCell_other W ⟨q, 0, none⟩ g _ (by show g ≠ q; omega))⟩
  have e : cellsT (Cg.beg s rd).f (Cg.beg s rd).n = cellsT s.f s.n ++ four ⟨1, 0, s.clk, rd⟩ := by
    show cellsT (Cg.upd s.f (s.n + 1) ⟨1, 0, s.clk, rd⟩) (s.n + 1) = _
    rw [cellsT, cellsT_upd _ _ _ _ (by omega), Cg.upd_same]
  rw [e]
  obtain ⟨a, b⟩ := H
  refine ⟨a, ?_⟩
  rcases b with b | ⟨g, cap, cur, e1, e2, e3⟩
  · exact Or.inl b
  · exact Or.inr ⟨g, cap, cur, e1, by omega, e3⟩
theorem store0 {w W : World} {q : Nat} {s : Cg.S} {u : Value} (h : Rl w q s) (hb : Below w.heap.size w W) : (W.setCell ⟨q, 0, none⟩ u).cell? ⟨q, 0, none⟩ = some u := by
  obtain ⟨v, h1, -⟩ := h.below hb
  exact cellOf (Lk.set0_heap h1) rfl
end Mm

set_option maxRecDepth 100000 in
set_option maxHeartbeats 8000000 in
theorem refBegin_any (w : World) (q : Nat) (s : Cg.S) (rd : Bool) (h : Hid (Mm.Rl w q s)) (hn : s.n ≤ 200) :
    Calls Try.prog 26 #[.pointer (some ⟨q, 0, none⟩), .bool rd] w fun e w' => e = .returned (.tuple #[.int .i64 (Cg.begA s : Int), .int .i64 (Cg.begE s : Int)]) ∧ Mm.Rl w' q (Cg.begS s rd) ∧ Below q w w' := by
  have HR := h
  obtain ⟨pa, c, c0, hc, hnil, hlie⟩ := h.out.lies
  have hlt := h.out.lt
  have c1 := h.out.clkAt
  by_cases h1 : s.n = 200
  · have g1 : (200 : Int) ≤ (s.n : Int) := by omega
    rw [show Cg.begA s = 0 from by simp [Cg.begA, h1], show Cg.begE s = 74 from by simp [Cg.begE, h1], show Cg.begS s rd = s from by simp [Cg.begS, h1]]
    clear h1 hnil hlie
    go_enter Try.func26, Try.ntmps26
    go_wp2_with fail
    go_ret2
    exact ⟨rfl, h.out, Below.refl _ _⟩
  · have g1 : ¬ (200 : Int) ≤ (s.n : Int) := by omega
    rw [show Cg.begA s = s.n + 1 from by simp [Cg.begA, h1], show Cg.begE s = 0 from by simp [Cg.begE, h1], show Cg.begS s rd = Cg.beg s rd from by simp [Cg.begS, h1]]
    obtain ⟨iT, hIT⟩ := Mm.tx_info
    have HIT := Mm.hid hIT
    obtain ⟨n, hnn⟩ : ∃ n, n = s.n := ⟨_, rfl⟩
    rw [← hnn] at hnil hlie c0 g1 hc
    have HN := Mm.hid hnn
    have hn2 : n ≤ 200 := by omega
    have HNIL := Mm.hid hnil
    have HLEN : Hid ((Mm.cellsT s.f n).length = n * 4) := Mm.hid (Mm.cellsT_len _ _)
    have HLIE := Mm.hid hlie
    have HTW := Mm.hid hlt
    have HCW := Mm.hid c0
    have HC1 := Mm.hid c1
    clear h1 hnil hlie hIT hnn
    go_enter Try.func26, Try.ntmps26
    go_wp2_with fail
    clear c0 c1
    refine wp_region_held_drew (S := fun w' => w'.cell? ⟨q, 1, none⟩ = some (.int .i64 (s.clk : Int))) (by kernel_rfl) ((Lk.belAt ((Below.refl _ _).drew) 1 HTW.out).trans HC1.out) (fun hH => ?_)
    refine wpAnyH_take (i := 0) (oi := ?oz1q0) (v := ?vz1q0) ?hiz1q0 ?hsz1q0 ?hfz1q0 ?hrz1q0 ?hQz1q0 (Or.inl ⟨?hwz1q0, ?hyz1q0⟩) ?hSz1q0 ?restz1q0
    case hiz1q0 => (simp; rfl)
    case hsz1q0 => kernel_rfl
    case hfz1q0 => kernel_rfl
    case hrz1q0 => kernel_rfl
    case hQz1q0 => exact fun _ _ _ h => h
    case hwz1q0 => rfl
    case hyz1q0 => (intro wq hSq; (try dsimp only at hSq); go_simp; (try with_reducible rfl))
    case hSz1q0 => assumption
    simp only [Act.put, List.setIfInBounds_toArray, List.set_cons_zero, List.set_cons_succ]
    refine wpAnyH_take (i := 2) (oi := ?oz2q2) (v := ?vz2q2) ?hiz2q2 ?hsz2q2 ?hfz2q2 ?hrz2q2 ?hQz2q2 (Or.inl ⟨?hwz2q2, ?hyz2q2⟩) ?hSz2q2 ?restz2q2
    case hiz2q2 => (simp; rfl)
    case hsz2q2 => kernel_rfl
    case hfz2q2 => kernel_rfl
    case hrz2q2 => kernel_rfl
    case hQz2q2 => exact fun _ _ _ h => h
    case hwz2q2 => rfl
    case hyz2q2 => (intro wq hSq; (try dsimp only at hSq); go_simp; (try with_reducible rfl))
    case hSz2q2 => assumption
    simp only [Act.put, List.setIfInBounds_toArray, List.set_cons_zero, List.set_cons_succ]
    refine wpAnyH_take (i := 3) (oi := ?oz3q3) (v := ?vz3q3) ?hiz3q3 ?hsz3q3 ?hfz3q3 ?hrz3q3 ?hQz3q3 (Or.inl ⟨?hwz3q3, ?hyz3q3⟩) ?hSz3q3 ?restz3q3
    case hiz3q3 => (simp; rfl)
    case hsz3q3 => kernel_rfl
    case hfz3q3 => kernel_rfl
    case hrz3q3 => kernel_rfl
    case hQz3q3 => exact fun _ _ _ h => h
    case hwz3q3 => rfl
    case hyz3q3 => (intro wq hSq; (try dsimp only at hSq); go_simp; (try with_reducible rfl))
    case hSz3q3 => assumption
    simp only [Act.put, List.setIfInBounds_toArray, List.set_cons_zero, List.set_cons_succ]
    refine wpAnyH_take (i := 4) (oi := ?oz4q4) (v := ?vz4q4) ?hiz4q4 ?hsz4q4 ?hfz4q4 ?hrz4q4 ?hQz4q4 (Or.inl ⟨?hwz4q4, ?hyz4q4⟩) ?hSz4q4 ?restz4q4
    case hiz4q4 => (simp; rfl)
    case hsz4q4 => kernel_rfl
    case hfz4q4 => kernel_rfl
    case hrz4q4 => kernel_rfl
    case hQz4q4 => exact fun _ _ _ h => h
    case hwz4q4 => rfl
    case hyz4q4 => (intro wq hSq; (try dsimp only at hSq); go_simp; (try with_reducible rfl))
    case hSz4q4 => assumption
    simp only [Act.put, List.setIfInBounds_toArray, List.set_cons_zero, List.set_cons_succ]
    refine wpAnyH_take (i := 7) (oi := ?oz5q7) (v := ?vz5q7) ?hiz5q7 ?hsz5q7 ?hfz5q7 ?hrz5q7 ?hQz5q7 (Or.inl ⟨?hwz5q7, ?hyz5q7⟩) ?hSz5q7 ?restz5q7
    case hiz5q7 => (simp; rfl)
    case hsz5q7 => kernel_rfl
    case hfz5q7 => kernel_rfl
    case hrz5q7 => kernel_rfl
    case hQz5q7 => exact fun _ _ _ h => h
    case hwz5q7 => rfl
    case hyz5q7 => (intro wq hSq; (try dsimp only at hSq); go_simp; (try with_reducible rfl))
    case hSz5q7 => assumption
    simp only [Act.put, List.setIfInBounds_toArray, List.set_cons_zero, List.set_cons_succ]
    refine wpAnyH_take (i := 8) (oi := ?oz6q8) (v := ?vz6q8) ?hiz6q8 ?hsz6q8 ?hfz6q8 ?hrz6q8 ?hQz6q8 (Or.inl ⟨?hwz6q8, ?hyz6q8⟩) ?hSz6q8 ?restz6q8
    case hiz6q8 => (simp; rfl)
    case hsz6q8 => kernel_rfl
    case hfz6q8 => kernel_rfl
    case hrz6q8 => kernel_rfl
    case hQz6q8 => exact fun _ _ _ h => h
    case hwz6q8 => rfl
    case hyz6q8 => (intro wq hSq; (try dsimp only at hSq); go_simp; (try with_reducible rfl))
    case hSz6q8 => assumption
    simp only [Act.put, List.setIfInBounds_toArray, List.set_cons_zero, List.set_cons_succ]
    refine wpAnyH_take (i := 9) (oi := ?oz7q9) (v := ?vz7q9) ?hiz7q9 ?hsz7q9 ?hfz7q9 ?hrz7q9 ?hQz7q9 (Or.inl ⟨?hwz7q9, ?hyz7q9⟩) ?hSz7q9 ?restz7q9
    case hiz7q9 => (simp; rfl)
    case hsz7q9 => kernel_rfl
    case hfz7q9 => kernel_rfl
    case hrz7q9 => kernel_rfl
    case hQz7q9 => exact fun _ _ _ h => h
    case hwz7q9 => rfl
    case hyz7q9 => (intro wq hSq; (try dsimp only at hSq); go_simp; (try with_reducible rfl))
    case hSz7q9 => assumption
    simp only [Act.put, List.setIfInBounds_toArray, List.set_cons_zero, List.set_cons_succ]
    refine wpAnyH_take (i := 10) (oi := ?oz8q10) (v := ?vz8q10) ?hiz8q10 ?hsz8q10 ?hfz8q10 ?hrz8q10 ?hQz8q10 (Or.inl ⟨?hwz8q10, ?hyz8q10⟩) ?hSz8q10 ?restz8q10
    case hiz8q10 => (simp; rfl)
    case hsz8q10 => kernel_rfl
    case hfz8q10 => kernel_rfl
    case hrz8q10 => kernel_rfl
    case hQz8q10 => exact fun _ _ _ h => h
    case hwz8q10 => rfl
    case hyz8q10 => (intro wq hSq; (try dsimp only at hSq); go_simp; (try with_reducible rfl))
    case hSz8q10 => assumption
    simp only [Act.put, List.setIfInBounds_toArray, List.set_cons_zero, List.set_cons_succ]
    refine wpAnyH_take (i := 11) (oi := ?oz9q11) (v := ?vz9q11) ?hiz9q11 ?hsz9q11 ?hfz9q11 ?hrz9q11 ?hQz9q11 (Or.inl ⟨?hwz9q11, ?hyz9q11⟩) ?hSz9q11 ?restz9q11
    case hiz9q11 => (simp; rfl)
    case hsz9q11 => kernel_rfl
    case hfz9q11 => kernel_rfl
    case hrz9q11 => kernel_rfl
    case hQz9q11 => exact fun _ _ _ h => h
    case hwz9q11 => rfl
    case hyz9q11 => (intro wq hSq; (try dsimp only at hSq); go_simp; (try with_reducible rfl))
    case hSz9q11 => assumption
    simp only [Act.put, List.setIfInBounds_toArray, List.set_cons_zero, List.set_cons_succ]
    refine wpAnyH_take (i := 12) (oi := ?oz10q12) (v := ?vz10q12) ?hiz10q12 ?hsz10q12 ?hfz10q12 ?hrz10q12 ?hQz10q12 (Or.inl ⟨?hwz10q12, ?hyz10q12⟩) ?hSz10q12 ?restz10q12
    case hiz10q12 => (simp; rfl)
    case hsz10q12 => kernel_rfl
    case hfz10q12 => kernel_rfl
    case hrz10q12 => kernel_rfl
    case hQz10q12 => exact fun _ _ _ h => h
    case hwz10q12 => rfl
    case hyz10q12 => (intro wq hSq; (try dsimp only at hSq); go_simp; (try with_reducible rfl))
    case hSz10q12 => assumption
    simp only [Act.put, List.setIfInBounds_toArray, List.set_cons_zero, List.set_cons_succ]
    apply Lk.mergeH
    case m =>
      intro zkC
      apply Lk.mergeH
      case m =>
        intro zkB
        apply Lk.mergeH
        case m =>
          intro zkA
          refine wpAnyH_ready (rs := [1, 5, 13]) (by kernel_rfl) (by simp) ?_
          refine AllReadyH.cons (o := ?oz11q) ?hz11q (fun K hK => ?rz11q) (AllReadyH.cons (o := ?oz12q) ?hz12q (fun K hK => ?rz12q) (AllReadyH.cons (o := ?oz13q) ?hz13q (fun K hK => ?rz13q) AllReadyH.nil))
          case hz11q => (simp; rfl)
          case hz12q => (simp; rfl)
          case hz13q => (simp; rfl)
          case rz11q =>
            go_simp
            refine hK.out _ _ ((Lk.belAt ((Lk.Blk.new2 (Below.refl _ w) _ (g := w.heap.size) rfl).drew.bel) 1 HTW.out).trans HC1.out) (fun hHz14q => ?_)
            clear hK K
            refine wpAnyH_ready (rs := [5, 13]) (by kernel_rfl) (by simp) ?_
            refine AllReadyH.cons (o := ?oz15q) ?hz15q (fun K hK => ?rz15q) (AllReadyH.cons (o := ?oz16q) ?hz16q (fun K hK => ?rz16q) AllReadyH.nil)
            case hz15q => (simp; rfl)
            case hz16q => (simp; rfl)
            case rz15q =>
              have hc5 := (Lk.belAt ((Lk.belAl (Below.refl _ w) (.cells #[] 61)).drew) 0 HTW.out).trans HCW.out
              go_simp
              clear hc5
              refine hK.out _ _ ((Lk.belAt ((Lk.Blk.new2 (Below.refl _ w) _ (g := w.heap.size) rfl).drew.bel) 1 HTW.out).trans HC1.out) (fun hHz17q => ?_)
              clear hK K
              exact zkA
            case rz16q =>
              go_simp
              refine hK.out _ _ ((Lk.belAt ((Lk.Blk.new2 (Lk.belAl (Below.refl _ w) _) _ (g := w.heap.size + 1) (by simp)).drew.bel) 1 HTW.out).trans HC1.out) (fun hHz18q => ?_)
              clear hK K
              refine wpAnyH_ready (rs := [5]) (by kernel_rfl) (by simp) ?_
              refine AllReadyH.cons (o := ?oz19q) ?hz19q (fun K hK => ?rz19q) AllReadyH.nil
              case hz19q => (simp; rfl)
              case rz19q =>
                have hc5 := (Lk.belAt ((Lk.belAl (Lk.belAl (Below.refl _ w) (.cells #[] 61)) (.cells #[.int .i64 1, .int .i64 (s.clk : Int), .int .i64 0, .bool rd] 61)).drew) 0 HTW.out).trans HCW.out
                go_simp
                clear hc5
                refine hK.out _ _ ((Lk.belAt ((Lk.Blk.new2 (Lk.belAl (Below.refl _ w) _) _ (g := w.heap.size + 1) (by simp)).drew.bel) 1 HTW.out).trans HC1.out) (fun hHz20q => ?_)
                clear hK K
                exact zkB
          case rz12q =>
            have hc5 := (Lk.belAt ((Below.refl _ w).drew) 0 HTW.out).trans HCW.out
            go_simp
            clear hc5
            refine hK.out _ _ ((Lk.belAt ((Below.refl _ _).drew) 1 HTW.out).trans HC1.out) (fun hHz21q => ?_)
            clear hK K
            refine wpAnyH_ready (rs := [1, 13]) (by kernel_rfl) (by simp) ?_
            refine AllReadyH.cons (o := ?oz22q) ?hz22q (fun K hK => ?rz22q) (AllReadyH.cons (o := ?oz23q) ?hz23q (fun K hK => ?rz23q) AllReadyH.nil)
            case hz22q => (simp; rfl)
            case hz23q => (simp; rfl)
            case rz22q =>
              go_simp
              refine hK.out _ _ ((Lk.belAt ((Lk.Blk.new2 (Below.refl _ w) _ (g := w.heap.size) rfl).drew.bel) 1 HTW.out).trans HC1.out) (fun hHz24q => ?_)
              clear hK K
              exact Lk.wpAnyH_eq (by kernel_rfl) zkA
            case rz23q =>
              go_simp
              refine hK.out _ _ ((Lk.belAt ((Lk.Blk.new2 (Below.refl _ w) _ (g := w.heap.size) rfl).drew.bel) 1 HTW.out).trans HC1.out) (fun hHz25q => ?_)
              clear hK K
              refine wpAnyH_ready (rs := [1]) (by kernel_rfl) (by simp) ?_
              refine AllReadyH.cons (o := ?oz26q) ?hz26q (fun K hK => ?rz26q) AllReadyH.nil
              case hz26q => (simp; rfl)
              case rz26q =>
                go_simp
                refine hK.out _ _ ((Lk.belAt ((Lk.Blk.new2 (Lk.belAl (Below.refl _ w) _) _ (g := w.heap.size + 1) (by simp)).drew.bel) 1 HTW.out).trans HC1.out) (fun hHz27q => ?_)
                clear hK K
                exact zkC
          case rz13q =>
            go_simp
            refine hK.out _ _ ((Lk.belAt ((Lk.Blk.new2 (Below.refl _ w) _ (g := w.heap.size) rfl).drew.bel) 1 HTW.out).trans HC1.out) (fun hHz28q => ?_)
            clear hK K
            refine wpAnyH_ready (rs := [1, 5]) (by kernel_rfl) (by simp) ?_
            refine AllReadyH.cons (o := ?oz29q) ?hz29q (fun K hK => ?rz29q) (AllReadyH.cons (o := ?oz30q) ?hz30q (fun K hK => ?rz30q) AllReadyH.nil)
            case hz29q => (simp; rfl)
            case hz30q => (simp; rfl)
            case rz29q =>
              go_simp
              refine hK.out _ _ ((Lk.belAt ((Lk.Blk.new2 (Lk.belAl (Below.refl _ w) _) _ (g := w.heap.size + 1) (by simp)).drew.bel) 1 HTW.out).trans HC1.out) (fun hHz31q => ?_)
              clear hK K
              refine wpAnyH_ready (rs := [5]) (by kernel_rfl) (by simp) ?_
              refine AllReadyH.cons (o := ?oz32q) ?hz32q (fun K hK => ?rz32q) AllReadyH.nil
              case hz32q => (simp; rfl)
              case rz32q =>
                have hc5 := (Lk.belAt ((Lk.belAl (Lk.belAl (Below.refl _ w) (.cells #[.int .i64 1, .int .i64 (s.clk : Int), .int .i64 0, .bool rd] 61)) (.cells #[] 61)).drew) 0 HTW.out).trans HCW.out
                go_simp
                clear hc5
                refine hK.out _ _ ((Lk.belAt ((Lk.Blk.new2 (Lk.belAl (Below.refl _ w) _) _ (g := w.heap.size + 1) (by simp)).drew.bel) 1 HTW.out).trans HC1.out) (fun hHz33q => ?_)
                clear hK K
                exact Lk.wpAnyH_eq (by kernel_rfl) zkC
            case rz30q =>
              have hc5 := (Lk.belAt ((Lk.belAl (Below.refl _ w) (.cells #[.int .i64 1, .int .i64 (s.clk : Int), .int .i64 0, .bool rd] 61)).drew) 0 HTW.out).trans HCW.out
              go_simp
              clear hc5
              refine hK.out _ _ ((Lk.belAt ((Lk.Blk.new2 (Below.refl _ w) _ (g := w.heap.size) rfl).drew.bel) 1 HTW.out).trans HC1.out) (fun hHz34q => ?_)
              clear hK K
              refine wpAnyH_ready (rs := [1]) (by kernel_rfl) (by simp) ?_
              refine AllReadyH.cons (o := ?oz35q) ?hz35q (fun K hK => ?rz35q) AllReadyH.nil
              case hz35q => (simp; rfl)
              case rz35q =>
                go_simp
                refine hK.out _ _ ((Lk.belAt ((Lk.Blk.new2 (Lk.belAl (Below.refl _ w) _) _ (g := w.heap.size + 1) (by simp)).drew.bel) 1 HTW.out).trans HC1.out) (fun hHz36q => ?_)
                clear hK K
                exact Lk.wpAnyH_eq (by kernel_rfl) zkC
        case p =>
          refine wpAnyH_ready (rs := [6, 13]) (by kernel_rfl) (by simp) ?_
          refine AllReadyH.cons (o := ?oz37q) ?hz37q (fun K hK => ?rz37q) (AllReadyH.cons (o := ?oz38q) ?hz38q (fun K hK => ?rz38q) AllReadyH.nil)
          case hz37q => (simp; rfl)
          case hz38q => (simp; rfl)
          case rz37q =>
            refine Lk.step_append rfl _ _ 27 rfl w.heap.size 61 iT (.agg #[.int .i64 0, .int .i64 0, .int .i64 0, .bool false]) 4 32 Try.underlying27 HIT.out.1 HIT.out.2.1 HIT.out.2.2.1 HIT.out.2.2.2 rfl (by decide) (.slice (some ⟨w.heap.size, 0, none⟩) 0 0) 0 ([]) rfl (((Lk.Blk.new2 (Below.refl _ w) _ (g := w.heap.size) rfl).drew).own) pa n c (Mm.cellsT s.f n) rfl (HNIL.out) (HLEN.out) (HLIE.out.below ((Lk.Blk.new2 (Below.refl _ w) _ (g := w.heap.size) rfl).drew).bel) (Mm.cellsT_one _ _) (by unfold maxLen; omega) (by omega) ((((Lk.Blk.new2 (Below.refl _ w) _ (g := w.heap.size) rfl).drew).bel).size) ?_
            intro v1 W1 hown1 hgrow1
            rw [List.nil_append, Nat.zero_add] at hown1
            have HB1 := Lk.hid (Lk.belOwn (size := 4) (((Lk.Blk.new2 (Below.refl _ w) _ (g := w.heap.size) rfl).drew).bel) (((Lk.Blk.new2 (Below.refl _ w) _ (g := w.heap.size) rfl).drew).own) (Nat.le_refl _) hgrow1)
            have HOWN1 := Lk.hid hown1
            clear hown1 hgrow1
            refine hK.out _ _ ((Lk.belAt (HB1.out) 1 HTW.out).trans HC1.out) (fun hHz39q => ?_)
            clear hK K
            refine wpAnyH_ready (rs := [13]) (by kernel_rfl) (by simp) ?_
            refine AllReadyH.cons (o := ?oz40q) ?hz40q (fun K hK => ?rz40q) AllReadyH.nil
            case hz40q => (simp; rfl)
            case rz40q =>
              go_simp
              refine hK.out _ _ ((Lk.belAt (Lk.belAl HB1.out _) 1 HTW.out).trans HC1.out) (fun hHz41q => ?_)
              clear hK K
              refine wpAnyH_ready (rs := [14]) (by kernel_rfl) (by simp) ?_
              refine AllReadyH.cons (o := ?oz42q) ?hz42q (fun K hK => ?rz42q) AllReadyH.nil
              case hz42q => (simp; rfl)
              case rz42q =>
                refine Lk.step_append rfl _ _ 27 rfl w.heap.size 61 iT (.agg #[.int .i64 0, .int .i64 0, .int .i64 0, .bool false]) 4 32 Try.underlying27 HIT.out.1 HIT.out.2.1 HIT.out.2.2.1 HIT.out.2.2.2 rfl (by decide) v1 n (Mm.cellsT s.f n) rfl (HOWN1.out.alloc _) (some ⟨W1.heap.size, 0, none⟩) 1 1 ((Mm.four ⟨1, 0, s.clk, rd⟩)) rfl (fun h => nomatch h) (rfl) ((Lk.Blk.new HB1.out _).lies (cs := (Mm.four ⟨1, 0, s.clk, rd⟩))) (Mm.four_one _) (by unfold maxLen; omega) (by omega) ((Lk.belAl HB1.out _).size) ?_
                intro v2 W2 hown2 hgrow2
                have HB2 := Lk.hid (Lk.belOwn (size := 4) (Lk.belAl HB1.out _) (HOWN1.out.alloc _) (Nat.le_refl _) hgrow2)
                have HOWN2 := Lk.hid hown2
                clear hown2 hgrow2
                refine hK.out _ _ ((Lk.belAt (HB2.out) 1 HTW.out).trans HC1.out) (fun hHz43q => ?_)
                clear hK K
                refine wpAnyH_take (i := 15) (oi := ?oz44q15) (v := ?vz44q15) ?hiz44q15 ?hsz44q15 ?hfz44q15 ?hrz44q15 ?hQz44q15 (Or.inl ⟨?hwz44q15, ?hyz44q15⟩) ?hSz44q15 ?restz44q15
                case hiz44q15 => (simp; rfl)
                case hsz44q15 => kernel_rfl
                case hfz44q15 => kernel_rfl
                case hrz44q15 => kernel_rfl
                case hQz44q15 => exact fun _ _ _ h => h
                case hwz44q15 => rfl
                case hyz44q15 => (intro wq hSq; (try dsimp only at hSq); go_simp; (try with_reducible rfl))
                case hSz44q15 => assumption
                simp only [Act.put, List.setIfInBounds_toArray, List.set_cons_zero, List.set_cons_succ]
                refine wpAnyH_take (i := 16) (oi := ?oz45q16) (v := ?vz45q16) ?hiz45q16 ?hsz45q16 ?hfz45q16 ?hrz45q16 ?hQz45q16 (Or.inl ⟨?hwz45q16, ?hyz45q16⟩) ?hSz45q16 ?restz45q16
                case hiz45q16 => (simp; rfl)
                case hsz45q16 => kernel_rfl
                case hfz45q16 => kernel_rfl
                case hrz45q16 => kernel_rfl
                case hQz45q16 => exact fun _ _ _ h => h
                case hwz45q16 => rfl
                case hyz45q16 => (intro wq hSq; (try dsimp only at hSq); go_simp; (try with_reducible rfl))
                case hSz45q16 => assumption
                simp only [Act.put, List.setIfInBounds_toArray, List.set_cons_zero, List.set_cons_succ]
                refine wpAnyH_ready (rs := [17]) (by kernel_rfl) (by simp) ?_
                refine AllReadyH.cons (o := ?oz46q) ?hz46q (fun K hK => ?rz46q) AllReadyH.nil
                case hz46q => (simp; rfl)
                case rz46q =>
                  obtain ⟨pS, cS, rfl, -⟩ := Lk.Sl.own HOWN2.out
                  have hcT := (Lk.belAt HB2.out 0 HTW.out).trans HCW.out
                  have hfz := Mm.Rl.fr (HR.out.below HB2.out) 0
                  go_simp
                  clear hcT hfz
                  refine hK.out _ _ ((Mm.scOther _ ⟨q, 0, none⟩ ⟨q, 1, none⟩ _ (by simp)).trans ((Lk.belAt HB2.out 1 HTW.out).trans HC1.out)) (fun hHz47q => ?_)
                  clear hK K
                  refine wpAnyH_done (by kernel_rfl) ?_ _
                  obtain ⟨W3, hW3⟩ : ∃ W3, W2.setCell ⟨q, 0, none⟩ (.slice pS (n + 1) cS) = W3 := ⟨_, rfl⟩
                  have hR3 : Mm.Rl (W2.setCell ⟨q, 0, none⟩ (.slice pS (n + 1) cS)) q (Cg.beg s rd) := Mm.Rl.store HR.out HN.out HB2.out HOWN2.out HTW.out
                  have hB3 : Below q w (W2.setCell ⟨q, 0, none⟩ (.slice pS (n + 1) cS)) := (HB2.out.mono (Nat.le_of_lt HTW.out)).setCell (Nat.le_refl _) _
                  have hc3 : (W2.setCell ⟨q, 0, none⟩ (.slice pS (n + 1) cS)).cell? ⟨q, 0, none⟩ = some (.slice pS (n + 1) cS) := Mm.store0 HR.out HB2.out
                  rw [hW3] at hR3 hB3 hc3 ⊢
                  have HR3 := Mm.hid hR3
                  have HB3 := Mm.hid hB3
                  clear hW3 hR3 hB3
                  go_wp2_with fail
                  go_ret2
                  exact ⟨by rw [HN.out]; rfl, HR3.out, HB3.out⟩
          case rz38q =>
            go_simp
            refine hK.out _ _ ((Lk.belAt ((Lk.Blk.new2 (Lk.belAl (Below.refl _ w) _) _ (g := w.heap.size + 1) (by simp)).drew.bel) 1 HTW.out).trans HC1.out) (fun hHz48q => ?_)
            clear hK K
            exact Lk.wpAnyH_eq (by kernel_rfl) zkB
      case p =>
        refine wpAnyH_ready (rs := [6]) (by kernel_rfl) (by simp) ?_
        refine AllReadyH.cons (o := ?oz49q) ?hz49q (fun K hK => ?rz49q) AllReadyH.nil
        case hz49q => (simp; rfl)
        case rz49q =>
          refine Lk.step_append rfl _ _ 27 rfl w.heap.size 61 iT (.agg #[.int .i64 0, .int .i64 0, .int .i64 0, .bool false]) 4 32 Try.underlying27 HIT.out.1 HIT.out.2.1 HIT.out.2.2.1 HIT.out.2.2.2 rfl (by decide) (.slice (some ⟨w.heap.size, 0, none⟩) 0 0) 0 ([]) rfl ((((Lk.Blk.new2 (Below.refl _ w) _ (g := w.heap.size) rfl).alloc _).drew).own) pa n c (Mm.cellsT s.f n) rfl (HNIL.out) (HLEN.out) (HLIE.out.below (((Lk.Blk.new2 (Below.refl _ w) _ (g := w.heap.size) rfl).alloc _).drew).bel) (Mm.cellsT_one _ _) (by unfold maxLen; omega) (by omega) (((((Lk.Blk.new2 (Below.refl _ w) _ (g := w.heap.size) rfl).alloc _).drew).bel).size) ?_
          intro v1 W1 hown1 hgrow1
          rw [List.nil_append, Nat.zero_add] at hown1
          have HB1 := Lk.hid (Lk.belOwn (size := 4) ((((Lk.Blk.new2 (Below.refl _ w) _ (g := w.heap.size) rfl).alloc _).drew).bel) ((((Lk.Blk.new2 (Below.refl _ w) _ (g := w.heap.size) rfl).alloc _).drew).own) (Nat.le_refl _) hgrow1)
          have HOWN1 := Lk.hid hown1
          have HX1 := Lk.hid (((Lk.Blk.new2 (Lk.belAl (Below.refl _ w) _) _ (g := w.heap.size + 1) (by simp)).drew).grown hgrow1 (by simp [Value.ownBlock]) (fun k hk => by cases hk; exact Nat.le_refl _))
          clear hown1 hgrow1
          refine hK.out _ _ ((Lk.belAt (HB1.out) 1 HTW.out).trans HC1.out) (fun hHz50q => ?_)
          clear hK K
          refine wpAnyH_ready (rs := [14]) (by kernel_rfl) (by simp) ?_
          refine AllReadyH.cons (o := ?oz51q) ?hz51q (fun K hK => ?rz51q) AllReadyH.nil
          case hz51q => (simp; rfl)
          case rz51q =>
            refine Lk.step_append rfl _ _ 27 rfl w.heap.size 61 iT (.agg #[.int .i64 0, .int .i64 0, .int .i64 0, .bool false]) 4 32 Try.underlying27 HIT.out.1 HIT.out.2.1 HIT.out.2.2.1 HIT.out.2.2.2 rfl (by decide) v1 n (Mm.cellsT s.f n) rfl (HOWN1.out) (some ⟨w.heap.size + 1, 0, none⟩) 1 1 ((Mm.four ⟨1, 0, s.clk, rd⟩)) rfl (fun h => nomatch h) (rfl) (HX1.out.lies (cs := (Mm.four ⟨1, 0, s.clk, rd⟩))) (Mm.four_one _) (by unfold maxLen; omega) (by omega) ((HB1.out).size) ?_
            intro v2 W2 hown2 hgrow2
            have HB2 := Lk.hid (Lk.belOwn (size := 4) (HB1.out) (HOWN1.out) (Nat.le_refl _) hgrow2)
            have HOWN2 := Lk.hid hown2
            clear hown2 hgrow2
            refine hK.out _ _ ((Lk.belAt (HB2.out) 1 HTW.out).trans HC1.out) (fun hHz52q => ?_)
            clear hK K
            refine wpAnyH_take (i := 15) (oi := ?oz53q15) (v := ?vz53q15) ?hiz53q15 ?hsz53q15 ?hfz53q15 ?hrz53q15 ?hQz53q15 (Or.inl ⟨?hwz53q15, ?hyz53q15⟩) ?hSz53q15 ?restz53q15
            case hiz53q15 => (simp; rfl)
            case hsz53q15 => kernel_rfl
            case hfz53q15 => kernel_rfl
            case hrz53q15 => kernel_rfl
            case hQz53q15 => exact fun _ _ _ h => h
            case hwz53q15 => rfl
            case hyz53q15 => (intro wq hSq; (try dsimp only at hSq); go_simp; (try with_reducible rfl))
            case hSz53q15 => assumption
            simp only [Act.put, List.setIfInBounds_toArray, List.set_cons_zero, List.set_cons_succ]
            refine wpAnyH_take (i := 16) (oi := ?oz54q16) (v := ?vz54q16) ?hiz54q16 ?hsz54q16 ?hfz54q16 ?hrz54q16 ?hQz54q16 (Or.inl ⟨?hwz54q16, ?hyz54q16⟩) ?hSz54q16 ?restz54q16
            case hiz54q16 => (simp; rfl)
            case hsz54q16 => kernel_rfl
            case hfz54q16 => kernel_rfl
            case hrz54q16 => kernel_rfl
            case hQz54q16 => exact fun _ _ _ h => h
            case hwz54q16 => rfl
            case hyz54q16 => (intro wq hSq; (try dsimp only at hSq); go_simp; (try with_reducible rfl))
            case hSz54q16 => assumption
            simp only [Act.put, List.setIfInBounds_toArray, List.set_cons_zero, List.set_cons_succ]
            refine wpAnyH_ready (rs := [17]) (by kernel_rfl) (by simp) ?_
            refine AllReadyH.cons (o := ?oz55q) ?hz55q (fun K hK => ?rz55q) AllReadyH.nil
            case hz55q => (simp; rfl)
            case rz55q =>
              obtain ⟨pS, cS, rfl, -⟩ := Lk.Sl.own HOWN2.out
              have hcT := (Lk.belAt HB2.out 0 HTW.out).trans HCW.out
              have hfz := Mm.Rl.fr (HR.out.below HB2.out) 0
              go_simp
              clear hcT hfz
              refine hK.out _ _ ((Mm.scOther _ ⟨q, 0, none⟩ ⟨q, 1, none⟩ _ (by simp)).trans ((Lk.belAt HB2.out 1 HTW.out).trans HC1.out)) (fun hHz56q => ?_)
              clear hK K
              refine wpAnyH_done (by kernel_rfl) ?_ _
              obtain ⟨W3, hW3⟩ : ∃ W3, W2.setCell ⟨q, 0, none⟩ (.slice pS (n + 1) cS) = W3 := ⟨_, rfl⟩
              have hR3 : Mm.Rl (W2.setCell ⟨q, 0, none⟩ (.slice pS (n + 1) cS)) q (Cg.beg s rd) := Mm.Rl.store HR.out HN.out HB2.out HOWN2.out HTW.out
              have hB3 : Below q w (W2.setCell ⟨q, 0, none⟩ (.slice pS (n + 1) cS)) := (HB2.out.mono (Nat.le_of_lt HTW.out)).setCell (Nat.le_refl _) _
              have hc3 : (W2.setCell ⟨q, 0, none⟩ (.slice pS (n + 1) cS)).cell? ⟨q, 0, none⟩ = some (.slice pS (n + 1) cS) := Mm.store0 HR.out HB2.out
              rw [hW3] at hR3 hB3 hc3 ⊢
              have HR3 := Mm.hid hR3
              have HB3 := Mm.hid hB3
              clear hW3 hR3 hB3
              go_wp2_with fail
              go_ret2
              exact ⟨by rw [HN.out]; rfl, HR3.out, HB3.out⟩
    case p =>
      refine wpAnyH_ready (rs := [6]) (by kernel_rfl) (by simp) ?_
      refine AllReadyH.cons (o := ?oz57q) ?hz57q (fun K hK => ?rz57q) AllReadyH.nil
      case hz57q => (simp; rfl)
      case rz57q =>
        refine Lk.step_append rfl _ _ 27 rfl w.heap.size 61 iT (.agg #[.int .i64 0, .int .i64 0, .int .i64 0, .bool false]) 4 32 Try.underlying27 HIT.out.1 HIT.out.2.1 HIT.out.2.2.1 HIT.out.2.2.2 rfl (by decide) (.slice (some ⟨w.heap.size + 1, 0, none⟩) 0 0) 0 ([]) rfl (((Lk.Blk.new2 (Lk.belAl (Below.refl _ w) _) _ (g := w.heap.size + 1) (by simp)).drew).own) pa n c (Mm.cellsT s.f n) rfl (HNIL.out) (HLEN.out) (HLIE.out.below ((Lk.Blk.new2 (Lk.belAl (Below.refl _ w) _) _ (g := w.heap.size + 1) (by simp)).drew).bel) (Mm.cellsT_one _ _) (by unfold maxLen; omega) (by omega) ((((Lk.Blk.new2 (Lk.belAl (Below.refl _ w) _) _ (g := w.heap.size + 1) (by simp)).drew).bel).size) ?_
        intro v1 W1 hown1 hgrow1
        rw [List.nil_append, Nat.zero_add] at hown1
        have HB1 := Lk.hid (Lk.belOwn (size := 4) (((Lk.Blk.new2 (Lk.belAl (Below.refl _ w) _) _ (g := w.heap.size + 1) (by simp)).drew).bel) (((Lk.Blk.new2 (Lk.belAl (Below.refl _ w) _) _ (g := w.heap.size + 1) (by simp)).drew).own) (Nat.le_refl _) hgrow1)
        have HOWN1 := Lk.hid hown1
        have HX1 := Lk.hid ((((Lk.Blk.new2 (Below.refl _ w) _ (g := w.heap.size) rfl).alloc _).drew).grown hgrow1 (by simp [Value.ownBlock]) (fun k hk => by cases hk; simp))
        clear hown1 hgrow1
        refine hK.out _ _ ((Lk.belAt (HB1.out) 1 HTW.out).trans HC1.out) (fun hHz58q => ?_)
        clear hK K
        refine wpAnyH_ready (rs := [14]) (by kernel_rfl) (by simp) ?_
        refine AllReadyH.cons (o := ?oz59q) ?hz59q (fun K hK => ?rz59q) AllReadyH.nil
        case hz59q => (simp; rfl)
        case rz59q =>
          refine Lk.step_append rfl _ _ 27 rfl w.heap.size 61 iT (.agg #[.int .i64 0, .int .i64 0, .int .i64 0, .bool false]) 4 32 Try.underlying27 HIT.out.1 HIT.out.2.1 HIT.out.2.2.1 HIT.out.2.2.2 rfl (by decide) v1 n (Mm.cellsT s.f n) rfl (HOWN1.out) (some ⟨w.heap.size, 0, none⟩) 1 1 ((Mm.four ⟨1, 0, s.clk, rd⟩)) rfl (fun h => nomatch h) (rfl) (HX1.out.lies (cs := (Mm.four ⟨1, 0, s.clk, rd⟩))) (Mm.four_one _) (by unfold maxLen; omega) (by omega) ((HB1.out).size) ?_
          intro v2 W2 hown2 hgrow2
          have HB2 := Lk.hid (Lk.belOwn (size := 4) (HB1.out) (HOWN1.out) (Nat.le_refl _) hgrow2)
          have HOWN2 := Lk.hid hown2
          clear hown2 hgrow2
          refine hK.out _ _ ((Lk.belAt (HB2.out) 1 HTW.out).trans HC1.out) (fun hHz60q => ?_)
          clear hK K
          refine wpAnyH_take (i := 15) (oi := ?oz61q15) (v := ?vz61q15) ?hiz61q15 ?hsz61q15 ?hfz61q15 ?hrz61q15 ?hQz61q15 (Or.inl ⟨?hwz61q15, ?hyz61q15⟩) ?hSz61q15 ?restz61q15
          case hiz61q15 => (simp; rfl)
          case hsz61q15 => kernel_rfl
          case hfz61q15 => kernel_rfl
          case hrz61q15 => kernel_rfl
          case hQz61q15 => exact fun _ _ _ h => h
          case hwz61q15 => rfl
          case hyz61q15 => (intro wq hSq; (try dsimp only at hSq); go_simp; (try with_reducible rfl))
          case hSz61q15 => assumption
          simp only [Act.put, List.setIfInBounds_toArray, List.set_cons_zero, List.set_cons_succ]
          refine wpAnyH_take (i := 16) (oi := ?oz62q16) (v := ?vz62q16) ?hiz62q16 ?hsz62q16 ?hfz62q16 ?hrz62q16 ?hQz62q16 (Or.inl ⟨?hwz62q16, ?hyz62q16⟩) ?hSz62q16 ?restz62q16
          case hiz62q16 => (simp; rfl)
          case hsz62q16 => kernel_rfl
          case hfz62q16 => kernel_rfl
          case hrz62q16 => kernel_rfl
          case hQz62q16 => exact fun _ _ _ h => h
          case hwz62q16 => rfl
          case hyz62q16 => (intro wq hSq; (try dsimp only at hSq); go_simp; (try with_reducible rfl))
          case hSz62q16 => assumption
          simp only [Act.put, List.setIfInBounds_toArray, List.set_cons_zero, List.set_cons_succ]
          refine wpAnyH_ready (rs := [17]) (by kernel_rfl) (by simp) ?_
          refine AllReadyH.cons (o := ?oz63q) ?hz63q (fun K hK => ?rz63q) AllReadyH.nil
          case hz63q => (simp; rfl)
          case rz63q =>
            obtain ⟨pS, cS, rfl, -⟩ := Lk.Sl.own HOWN2.out
            have hcT := (Lk.belAt HB2.out 0 HTW.out).trans HCW.out
            have hfz := Mm.Rl.fr (HR.out.below HB2.out) 0
            go_simp
            clear hcT hfz
            refine hK.out _ _ ((Mm.scOther _ ⟨q, 0, none⟩ ⟨q, 1, none⟩ _ (by simp)).trans ((Lk.belAt HB2.out 1 HTW.out).trans HC1.out)) (fun hHz64q => ?_)
            clear hK K
            refine wpAnyH_done (by kernel_rfl) ?_ _
            obtain ⟨W3, hW3⟩ : ∃ W3, W2.setCell ⟨q, 0, none⟩ (.slice pS (n + 1) cS) = W3 := ⟨_, rfl⟩
            have hR3 : Mm.Rl (W2.setCell ⟨q, 0, none⟩ (.slice pS (n + 1) cS)) q (Cg.beg s rd) := Mm.Rl.store HR.out HN.out HB2.out HOWN2.out HTW.out
            have hB3 : Below q w (W2.setCell ⟨q, 0, none⟩ (.slice pS (n + 1) cS)) := (HB2.out.mono (Nat.le_of_lt HTW.out)).setCell (Nat.le_refl _) _
            have hc3 : (W2.setCell ⟨q, 0, none⟩ (.slice pS (n + 1) cS)).cell? ⟨q, 0, none⟩ = some (.slice pS (n + 1) cS) := Mm.store0 HR.out HB2.out
            rw [hW3] at hR3 hB3 hc3 ⊢
            have HR3 := Mm.hid hR3
            have HB3 := Mm.hid hB3
            clear hW3 hR3 hB3
            go_wp2_with fail
            go_ret2
            exact ⟨by rw [HN.out]; rfl, HR3.out, HB3.out⟩
end Go.Proofs.Ytdbbamjijhaeoaa
