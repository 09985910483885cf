/- Insert. -/
import Derived.Test.YtoobljkjhpkghaaHa2
import Derived.Deep.RegionHeld3
namespace Go.Proofs.Ytoobljkjhpkghaa
open Go.RowKit

/-- A block that is none of a relation's. -/
def Hp.Fr (w : World) (b g : Nat) : Prop := g ≠ b ∧ ∀ sv, w.cell? ⟨b, 0, none⟩ = some sv → sv.ownBlock ≠ some g
/-- A relation whose slice has L versions. -/
def Hp.RlL (w : World) (base b : Nat) (r : Hp.R) (L : Nat) (sv : Value) : Prop := L = r.vs.length ∧ Hp.Rl w base b r sv
theorem Hp.RlL.own' {w : World} {base b L : Nat} {r : Hp.R} {sv : Value} (h : Hp.RlL w base b r L sv) : w.ownsRow base 100 4 sv L (Hp.cellsR r.vs) := by obtain ⟨rfl, h⟩ := h; exact h.own
theorem Hp.RlL.ne' {w : World} {base b L : Nat} {r : Hp.R} {sv : Value} (h : Hp.RlL w base b r L sv) : sv.ownBlock ≠ some b := h.2.ne
theorem Hp.RlL.blk' {w : World} {base b L : Nat} {r : Hp.R} {sv : Value} (h : Hp.RlL w base b r L sv) : w.heap[b]? = some (.cells #[sv, .int .i64 (r.nx : Int)] 94 (0, 0)) := h.2.blk

set_option maxRecDepth 100000 in
set_option maxHeartbeats 4000000 in
theorem insert_fr (w : World) (base b : Nat) (r : Hp.R) (x : Int) (p : Option Addr) (c : Nat) (xs : List Vl.V) (hR : Hid (Hp.Rn w base b r)) (hI : Hid (Hp.Inv r)) (hn : xs.length ≤ 1000000) (hnil : p = none → xs.length = 0 ∧ c = 0) (hs : Hid (∀ v ∈ xs, v.s.size ≤ 100000)) (H : Hid (Vl.RowIn w p xs)) :
    Calls Try.prog 14 #[.pointer (some ⟨b, 0, none⟩), .int .i64 x, .slice p xs.length c] w fun e w' => ∃ q d, e = .returned (.tuple #[.int .i64 (Hp.insA r x : Int), .int .i64 (Hp.insE r x : Int)]) ∧ Hp.Rn w' base b (Hp.insS r x q d xs) ∧ Below base w w' ∧ w.heap.size ≤ w'.heap.size ∧ ∀ g, g < w.heap.size → Hp.Fr w b g → w'.heap[g]? = w.heap[g]? ∧ Hp.Fr w' b g := by
  obtain ⟨sv, hl⟩ := hR.out
  have c0 := hl.c0
  have c1 := hl.c1
  have hlt := Mm.heapLt hl.blk
  have hlo := hl.lo
  have hbase : base ≤ w.heap.size := by omega
  obtain ⟨q, d, rfl, hq1, hq2, hq3⟩ := hl.shape
  obtain ⟨L, hL⟩ : ∃ L, L = r.vs.length := ⟨_, rfl⟩
  rw [← hL] at c0 hl
  have HL : Hid (Hp.RlL w base b r L (.slice q L d)) := Vl.hid ⟨hL, hl⟩
  have hlen := hI.out.len
  rw [← hL] at hlen
  have hnx := hI.out.nx
  have HSS := Vl.hid hL
  clear hl hq1 hq2 hq3 hL
  by_cases g1 : x < 1
  · rw [show Hp.insE r x = 1 from if_pos g1, show Hp.insA r x = 0 from if_pos g1]
    rw [show Hp.insS r x = fun _ _ _ => r from by funext q d xs; exact if_pos g1]
    go_enter Try.func14, Try.ntmps14
    go_wp2_with fail
    go_ret2
    first | exact ⟨none, 0, rfl, hR.out, Below.refl _ _, Nat.le_refl _, fun g _ h => ⟨rfl, h⟩⟩ | exact ⟨rfl, hR.out, Below.refl _ _, Nat.le_refl _, fun g _ h => ⟨rfl, h⟩⟩
  · by_cases g2 : L = 512
    · have g2' : r.vs.length = 512 := by rw [← HSS.out]; exact g2
      rw [show Hp.insE r x = 74 from by unfold Hp.insE; rw [if_neg g1, if_pos (Or.inl g2')], show Hp.insA r x = 0 from by unfold Hp.insA; rw [if_neg g1, if_pos (Or.inl g2')]]
      rw [show Hp.insS r x = fun _ _ _ => r from by funext q d xs; unfold Hp.insS; rw [if_neg g1, if_pos (Or.inl g2')]]
      clear g2'
      go_enter Try.func14, Try.ntmps14
      go_wp2_with fail
      go_ret2
      first | exact ⟨none, 0, rfl, hR.out, Below.refl _ _, Nat.le_refl _, fun g _ h => ⟨rfl, h⟩⟩ | exact ⟨rfl, hR.out, Below.refl _ _, Nat.le_refl _, fun g _ h => ⟨rfl, h⟩⟩
    · have g2' : r.vs.length ≠ 512 := by rw [← HSS.out]; exact g2
      by_cases g3 : 65535 < r.nx
      · rw [show Hp.insE r x = 74 from by unfold Hp.insE; rw [if_neg g1, if_pos (Or.inr g3)], show Hp.insA r x = 0 from by unfold Hp.insA; rw [if_neg g1, if_pos (Or.inr g3)]]
        rw [show Hp.insS r x = fun _ _ _ => r from by funext q d xs; unfold Hp.insS; rw [if_neg g1, if_pos (Or.inr g3)]]
        clear g2'
        go_enter Try.func14, Try.ntmps14
        go_wp2_with fail
        go_ret2
        first | exact ⟨none, 0, rfl, hR.out, Below.refl _ _, Nat.le_refl _, fun g _ h => ⟨rfl, h⟩⟩ | exact ⟨rfl, hR.out, Below.refl _ _, Nat.le_refl _, fun g _ h => ⟨rfl, h⟩⟩
      · have g4 : ¬(r.vs.length = 512 ∨ 65535 < r.nx) := by omega
        rw [show Hp.insE r x = 0 from by unfold Hp.insE; rw [if_neg g1, if_neg g4], show Hp.insA r x = r.nx from by unfold Hp.insA; rw [if_neg g1, if_neg g4]]
        rw [show Hp.insS r x = fun p c xs => ⟨r.vs ++ [⟨r.nx, x, 0, p, c, xs⟩], r.nx + 1⟩ from by funext q d xs; unfold Hp.insS; rw [if_neg g1, if_neg g4]]
        have HC0 := Vl.hid c0
        have HX : Hid (Vl.RowIn w.drew p xs) := Vl.hid (Vl.Lies.drew H.out)
        clear g2' g4 HSS
        go_enter Try.func14, Try.ntmps14
        go_wp2_with fail
        clear c0 c1
        refine wp_region_held_drew (S := fun _ => True) (by kernel_rfl) (trivial) (fun hH => ?_)
        refine wpAnyH_take (i := 0) (oi := ?oz1q0) (v := ?vz1q0) ?hiz1q0 ?hsz1q0 ?hfz1q0 ?hrz1q0 ?hQz1q0 (Or.inl ⟨?hwz1q0, ?hyz1q0⟩) ?hSz1q0 ?restz1q0
        case hiz1q0 => (simp; rfl)
        case hsz1q0 => kernel_rfl
        case hfz1q0 => kernel_rfl
        case hrz1q0 => kernel_rfl
        case hQz1q0 => exact fun _ _ _ h => h
        case hwz1q0 => rfl
        case hyz1q0 => (intro wq hSq; (try dsimp only at hSq); go_simp; (try with_reducible rfl))
        case hSz1q0 => assumption
        simp only [Act.put, List.setIfInBounds_toArray, List.set_cons_zero, List.set_cons_succ]
        refine wpAnyH_take (i := 1) (oi := ?oz2q1) (v := ?vz2q1) ?hiz2q1 ?hsz2q1 ?hfz2q1 ?hrz2q1 ?hQz2q1 (Or.inl ⟨?hwz2q1, ?hyz2q1⟩) ?hSz2q1 ?restz2q1
        case hiz2q1 => (simp; rfl)
        case hsz2q1 => kernel_rfl
        case hfz2q1 => kernel_rfl
        case hrz2q1 => kernel_rfl
        case hQz2q1 => exact fun _ _ _ h => h
        case hwz2q1 => rfl
        case hyz2q1 => (intro wq hSq; (try dsimp only at hSq); go_simp; (try with_reducible rfl))
        case hSz2q1 => assumption
        simp only [Act.put, List.setIfInBounds_toArray, List.set_cons_zero, List.set_cons_succ]
        refine wpAnyH_take (i := 2) (oi := ?oz3q2) (v := ?vz3q2) ?hiz3q2 ?hsz3q2 ?hfz3q2 ?hrz3q2 ?hQz3q2 (Or.inl ⟨?hwz3q2, ?hyz3q2⟩) ?hSz3q2 ?restz3q2
        case hiz3q2 => (simp; rfl)
        case hsz3q2 => kernel_rfl
        case hfz3q2 => kernel_rfl
        case hrz3q2 => kernel_rfl
        case hQz3q2 => exact fun _ _ _ h => h
        case hwz3q2 => rfl
        case hyz3q2 => (intro wq hSq; (try dsimp only at hSq); go_simp; (try with_reducible rfl))
        case hSz3q2 => assumption
        simp only [Act.put, List.setIfInBounds_toArray, List.set_cons_zero, List.set_cons_succ]
        refine wpAnyH_take (i := 3) (oi := ?oz4q3) (v := ?vz4q3) ?hiz4q3 ?hsz4q3 ?hfz4q3 ?hrz4q3 ?hQz4q3 (Or.inl ⟨?hwz4q3, ?hyz4q3⟩) ?hSz4q3 ?restz4q3
        case hiz4q3 => (simp; rfl)
        case hsz4q3 => kernel_rfl
        case hfz4q3 => kernel_rfl
        case hrz4q3 => kernel_rfl
        case hQz4q3 => exact fun _ _ _ h => h
        case hwz4q3 => rfl
        case hyz4q3 => (intro wq hSq; (try dsimp only at hSq); go_simp; (try with_reducible rfl))
        case hSz4q3 => assumption
        simp only [Act.put, List.setIfInBounds_toArray, List.set_cons_zero, List.set_cons_succ]
        refine wpAnyH_take (i := 5) (oi := ?oz5q5) (v := ?vz5q5) ?hiz5q5 ?hsz5q5 ?hfz5q5 ?hrz5q5 ?hQz5q5 (Or.inl ⟨?hwz5q5, ?hyz5q5⟩) ?hSz5q5 ?restz5q5
        case hiz5q5 => (simp; rfl)
        case hsz5q5 => kernel_rfl
        case hfz5q5 => kernel_rfl
        case hrz5q5 => kernel_rfl
        case hQz5q5 => exact fun _ _ _ h => h
        case hwz5q5 => rfl
        case hyz5q5 => (intro wq hSq; (try dsimp only at hSq); go_simp; (try with_reducible rfl))
        case hSz5q5 => assumption
        simp only [Act.put, List.setIfInBounds_toArray, List.set_cons_zero, List.set_cons_succ]
        refine wpAnyH_take (i := 6) (oi := ?oz6q6) (v := ?vz6q6) ?hiz6q6 ?hsz6q6 ?hfz6q6 ?hrz6q6 ?hQz6q6 (Or.inl ⟨?hwz6q6, ?hyz6q6⟩) ?hSz6q6 ?restz6q6
        case hiz6q6 => (simp; rfl)
        case hsz6q6 => kernel_rfl
        case hfz6q6 => kernel_rfl
        case hrz6q6 => kernel_rfl
        case hQz6q6 => exact fun _ _ _ h => h
        case hwz6q6 => rfl
        case hyz6q6 => (intro wq hSq; (try dsimp only at hSq); go_simp; (try with_reducible rfl))
        case hSz6q6 => assumption
        simp only [Act.put, List.setIfInBounds_toArray, List.set_cons_zero, List.set_cons_succ]
        refine wpAnyH_take (i := 7) (oi := ?oz7q7) (v := ?vz7q7) ?hiz7q7 ?hsz7q7 ?hfz7q7 ?hrz7q7 ?hQz7q7 (Or.inl ⟨?hwz7q7, ?hyz7q7⟩) ?hSz7q7 ?restz7q7
        case hiz7q7 => (simp; rfl)
        case hsz7q7 => kernel_rfl
        case hfz7q7 => kernel_rfl
        case hrz7q7 => kernel_rfl
        case hQz7q7 => exact fun _ _ _ h => h
        case hwz7q7 => rfl
        case hyz7q7 => (intro wq hSq; (try dsimp only at hSq); go_simp; (try with_reducible rfl))
        case hSz7q7 => assumption
        simp only [Act.put, List.setIfInBounds_toArray, List.set_cons_zero, List.set_cons_succ]
        refine wpAnyH_ready (rs := [4, 8]) (by kernel_rfl) (by simp) ?_
        refine AllReadyH.cons (o := ?oz8q) ?hz8q (fun K hK => ?rz8q) (AllReadyH.cons (o := ?oz9q) ?hz9q (fun K hK => ?rz9q) AllReadyH.nil)
        case hz8q => (simp; rfl)
        case hz9q => (simp; rfl)
        case rz8q =>
          have hc5 : w.drew.cell? ⟨b, 0, none⟩ = some (.slice q L d) := HC0.out
          go_simp
          clear hc5
          refine hK.out _ _ (trivial) (fun hHz10q => ?_)
          clear hK K
          refine wpAnyH_ready (rs := [8]) (by kernel_rfl) (by simp) ?_
          refine AllReadyH.cons (o := ?oz11q) ?hz11q (fun K hK => ?rz11q) AllReadyH.nil
          case hz11q => (simp; rfl)
          case rz11q =>
            go_simp
            refine (own_any p xs.length c xs _ rfl hn hnil hs HX).mono ?_
            rintro e w2 ⟨v2, rfl, hown2, hb2⟩
            obtain ⟨p2, c2, rfl, hc2, -⟩ := Vl.lies_own hown2
            have HB2 : Hid (Below w.heap.size w w2) := Vl.hid ((Below.refl _ w).drew.trans hb2)
            have HO2 : Hid (w2.ownsRow w.heap.size 50 4 (.slice p2 xs.length c2) xs.length (Vl.cellsV xs)) := Vl.hid hown2
            have HC2 : Hid (w2.cell? ⟨b, 0, none⟩ = some (.slice q L d)) := Vl.hid ((HB2.out.cell (p := ⟨b, 0, none⟩) hlt).trans HC0.out)
            clear hown2 hb2
            go_wp2_with fail
            refine hK.out _ _ (trivial) (fun hHz12q => ?_)
            clear hK K
            refine wpAnyH_take (i := 9) (oi := ?oz13q9) (v := ?vz13q9) ?hiz13q9 ?hsz13q9 ?hfz13q9 ?hrz13q9 ?hQz13q9 (Or.inl ⟨?hwz13q9, ?hyz13q9⟩) ?hSz13q9 ?restz13q9
            case hiz13q9 => (simp; rfl)
            case hsz13q9 => kernel_rfl
            case hfz13q9 => kernel_rfl
            case hrz13q9 => kernel_rfl
            case hQz13q9 => exact fun _ _ _ h => h
            case hwz13q9 => rfl
            case hyz13q9 => (intro wq hSq; (try dsimp only at hSq); go_simp; (try with_reducible rfl))
            case hSz13q9 => assumption
            simp only [Act.put, List.setIfInBounds_toArray, List.set_cons_zero, List.set_cons_succ]
            refine wpAnyH_take (i := 10) (oi := ?oz14q10) (v := ?vz14q10) ?hiz14q10 ?hsz14q10 ?hfz14q10 ?hrz14q10 ?hQz14q10 (Or.inl ⟨?hwz14q10, ?hyz14q10⟩) ?hSz14q10 ?restz14q10
            case hiz14q10 => (simp; rfl)
            case hsz14q10 => kernel_rfl
            case hfz14q10 => kernel_rfl
            case hrz14q10 => kernel_rfl
            case hQz14q10 => exact fun _ _ _ h => h
            case hwz14q10 => rfl
            case hyz14q10 => (intro wq hSq; (try dsimp only at hSq); go_simp; (try with_reducible rfl))
            case hSz14q10 => assumption
            simp only [Act.put, List.setIfInBounds_toArray, List.set_cons_zero, List.set_cons_succ]
            refine wpAnyH_ready (rs := [11]) (by kernel_rfl) (by simp) ?_
            refine AllReadyH.cons (o := ?oz15q) ?hz15q (fun K hK => ?rz15q) AllReadyH.nil
            case hz15q => (simp; rfl)
            case rz15q =>
              go_simp
              refine hK.out _ _ (trivial) (fun hHz16q => ?_)
              clear hK K
              refine wpAnyH_ready (rs := [12]) (by kernel_rfl) (by simp) ?_
              refine AllReadyH.cons (o := ?oz17q) ?hz17q (fun K hK => ?rz17q) AllReadyH.nil
              case hz17q => (simp; rfl)
              case rz17q =>
                refine Hp.stepV rfl _ _ rfl base (.slice q L d) L (Hp.cellsR r.vs) ⟨r.nx, x, 0, p2, c2, xs⟩ rfl (w := w2.alloc (.cells #[.int .i64 (r.nx : Int), .int .i64 x, .int .i64 0, .slice p2 xs.length c2] 100)) (Hp.ownKeep HL.out.own' (fun g hg => ?_)) w2.heap.size rfl (Hp.four_new w2 ⟨r.nx, x, 0, p2, c2, xs⟩ _ rfl) (by omega) (Nat.le_trans hbase (Nat.le_trans HB2.out.size (by simp))) ?_
                · have hq := Hp.ownLt HL.out.own' hg
                  exact (Mm.oldAt w2 _ (Nat.lt_of_lt_of_le hq.2 HB2.out.size)).trans (HB2.out.block g hq.2)
                intro v3 W3 hown3 hg3 hat3
                obtain ⟨pS, cS, rfl, -, -⟩ := Vl.lies_own hown3
                have HO3 := Vl.hid hown3
                have HAT3 := Vl.hid hat3
                have HG3 : Hid (w.grownBy W3 (Value.slice q L d).ownBlock) := Vl.hid (Hp.grTr (HB2.out.alloc HB2.out.size _) hg3)
                have HOY : Hid (W3.ownsRow base 50 4 (.slice p2 xs.length c2) xs.length (Vl.cellsV xs)) := Vl.hid (Hp.ownBase (Hp.ownKeep HO2.out (fun g hg => by
                  have hq := Hp.ownLt HO2.out hg
                  refine (hg3.block g (Nat.lt_of_lt_of_le hq.2 (by simp)) (fun e => ?_)).trans (Mm.oldAt w2 _ hq.2)
                  have hq3 := Hp.ownLt HL.out.own' e.symm
                  omega)) hbase)
                have HY2 : Hid (∀ g, (Value.slice p2 xs.length c2).ownBlock = some g → w.heap.size ≤ g ∧ (Value.slice pS (L + 1) cS).ownBlock ≠ some g) := Vl.hid (fun g hg => by
                  have hq := Hp.ownLt HO2.out hg
                  refine ⟨hq.1, fun e => ?_⟩
                  rcases hat3 with hat3 | hat3
                  · rw [hat3] at e
                    have hq3 := Hp.ownLt HL.out.own' e
                    omega
                  · have := hat3 g e
                    simp at this; omega)
                have HA3 : Hid ((Value.slice pS (L + 1) cS).ownBlock = (Value.slice q L d).ownBlock ∨ ∀ g, (Value.slice pS (L + 1) cS).ownBlock = some g → w.heap.size ≤ g) := Vl.hid (by
                  rcases hat3 with hat3 | hat3
                  · exact Or.inl hat3
                  · exact Or.inr (fun g hg => by have := hat3 g hg; have := HB2.out.size; simp at *; omega))
                clear hown3 hg3 hat3
                refine hK.out _ _ (trivial) (fun hHz18q => ?_)
                clear hK K
                refine wpAnyH_take (i := 13) (oi := ?oz19q13) (v := ?vz19q13) ?hiz19q13 ?hsz19q13 ?hfz19q13 ?hrz19q13 ?hQz19q13 (Or.inl ⟨?hwz19q13, ?hyz19q13⟩) ?hSz19q13 ?restz19q13
                case hiz19q13 => (simp; rfl)
                case hsz19q13 => kernel_rfl
                case hfz19q13 => kernel_rfl
                case hrz19q13 => kernel_rfl
                case hQz19q13 => exact fun _ _ _ h => h
                case hwz19q13 => rfl
                case hyz19q13 => (intro wq hSq; (try dsimp only at hSq); go_simp; (try with_reducible rfl))
                case hSz19q13 => assumption
                simp only [Act.put, List.setIfInBounds_toArray, List.set_cons_zero, List.set_cons_succ]
                refine wpAnyH_take (i := 14) (oi := ?oz20q14) (v := ?vz20q14) ?hiz20q14 ?hsz20q14 ?hfz20q14 ?hrz20q14 ?hQz20q14 (Or.inl ⟨?hwz20q14, ?hyz20q14⟩) ?hSz20q14 ?restz20q14
                case hiz20q14 => (simp; rfl)
                case hsz20q14 => kernel_rfl
                case hfz20q14 => kernel_rfl
                case hrz20q14 => kernel_rfl
                case hQz20q14 => exact fun _ _ _ h => h
                case hwz20q14 => rfl
                case hyz20q14 => (intro wq hSq; (try dsimp only at hSq); go_simp; (try with_reducible rfl))
                case hSz20q14 => assumption
                simp only [Act.put, List.setIfInBounds_toArray, List.set_cons_zero, List.set_cons_succ]
                refine wpAnyH_ready (rs := [15]) (by kernel_rfl) (by simp) ?_
                refine AllReadyH.cons (o := ?oz21q) ?hz21q (fun K hK => ?rz21q) AllReadyH.nil
                case hz21q => (simp; rfl)
                case rz21q =>
                  have hW3 : W3.heap[b]? = some (.cells #[.slice q L d, .int .i64 (r.nx : Int)] 94 (0, 0)) := (HG3.out.block b hlt (fun e => HL.out.ne' e.symm)).trans HL.out.blk'
                  have hcT : W3.cell? ⟨b, 0, none⟩ = some (.slice q L d) := Mm.cellOf hW3 rfl
                  have hfz : W3.frozen? ⟨b, 0, none⟩ = false := by simp [World.frozen?, hW3]
                  go_simp
                  clear hcT hfz hW3
                  refine hK.out _ _ (trivial) (fun hHz22q => ?_)
                  clear hK K
                  refine wpAnyH_done (by kernel_rfl) ?_ _
                  have hW3 : W3.heap[b]? = some (.cells #[.slice q L d, .int .i64 (r.nx : Int)] 94 (0, 0)) := (HG3.out.block b hlt (fun e => HL.out.ne' e.symm)).trans HL.out.blk'
                  obtain ⟨W4, hW4⟩ : ∃ W4, W3.setCell ⟨b, 0, none⟩ (.slice pS (L + 1) cS) = W4 := ⟨_, rfl⟩
                  have HR4 : Hid (Hp.Rl ((W3.setCell ⟨b, 0, none⟩ (.slice pS (L + 1) cS)).setCell ⟨b, 1, none⟩ (.int .i64 ((r.nx : Int) + 1))) base b ⟨r.vs ++ [⟨r.nx, x, 0, p2, c2, xs⟩], r.nx + 1⟩ (.slice pS (L + 1) cS)) := Vl.hid (Hp.Rl.put HL.out.2 (y := ⟨r.nx, x, 0, p2, c2, xs⟩) HG3.out (HL.out.1 ▸ HO3.out) HA3.out HOY.out HY2.out hn)
                  have HB4 : Hid (Below base w (W3.setCell ⟨b, 0, none⟩ (.slice pS (L + 1) cS))) := Vl.hid ((((Below.refl base w).grown HG3.out hbase (fun k hk => (Hp.ownLt HL.out.own' hk).1))).setCell hlo _)
                  have hW4b : (W3.setCell ⟨b, 0, none⟩ (.slice pS (L + 1) cS)).heap[b]? = some (.cells #[.slice pS (L + 1) cS, .int .i64 (r.nx : Int)] 94 (0, 0)) := Hp.set0_heap hW3
                  have hsz4 : w.heap.size ≤ (W3.setCell ⟨b, 0, none⟩ (.slice pS (L + 1) cS)).heap.size := by simpa using HG3.out.size
                  rw [hW4] at HR4 HB4 hW4b hsz4 ⊢
                  have e1 : W4.cell? ⟨b, 1, none⟩ = some (.int .i64 (r.nx : Int)) := Mm.cellOf hW4b rfl
                  have e2 : W4.frozen? ⟨b, 1, none⟩ = false := by simp [World.frozen?, hW4b]
                  have HE4 : Hid (W4.cell? ⟨b, 0, none⟩ = some (.slice pS (L + 1) cS)) := Vl.hid (Mm.cellOf hW4b rfl)
                  have HW4 : Hid (∀ g, g ≠ b → W4.heap[g]? = W3.heap[g]?) := Vl.hid (fun g hg => hW4 ▸ heap_setCell_other W3 ⟨b, 0, none⟩ g _ hg)
                  clear hW4 hW4b hW3
                  go_wp2_with fail
                  go_ret2
                  refine ⟨p2, c2, rfl, ⟨_, HR4.out⟩, HB4.out.setCell hlo _, by simpa using hsz4, fun g hg hf => ?_⟩
                  have hsv := hf.2 _ HC0.out
                  refine ⟨(heap_setCell_other W4 ⟨b, 1, none⟩ g _ hf.1).trans ((HW4.out g hf.1).trans (HG3.out.block g hg (fun e => hsv e.symm))), hf.1, fun sv' hsv' => ?_⟩
                  have e4 : (W4.setCell ⟨b, 1, none⟩ (.int .i64 ((r.nx : Int) + 1))).cell? ⟨b, 0, none⟩ = some (.slice pS (L + 1) cS) := (Mm.scOther W4 ⟨b, 1, none⟩ ⟨b, 0, none⟩ _ (by simp)).trans HE4.out
                  rw [e4] at hsv'
                  cases hsv'
                  rcases HA3.out with h3 | h3
                  · rw [h3]; exact hsv
                  · intro e; have := h3 g e; omega
        case rz9q =>
          go_simp
          refine (own_any p xs.length c xs _ rfl hn hnil hs HX).mono ?_
          rintro e w2 ⟨v2, rfl, hown2, hb2⟩
          obtain ⟨p2, c2, rfl, hc2, -⟩ := Vl.lies_own hown2
          have HB2 : Hid (Below w.heap.size w w2) := Vl.hid ((Below.refl _ w).drew.trans hb2)
          have HO2 : Hid (w2.ownsRow w.heap.size 50 4 (.slice p2 xs.length c2) xs.length (Vl.cellsV xs)) := Vl.hid hown2
          have HC2 : Hid (w2.cell? ⟨b, 0, none⟩ = some (.slice q L d)) := Vl.hid ((HB2.out.cell (p := ⟨b, 0, none⟩) hlt).trans HC0.out)
          clear hown2 hb2
          go_wp2_with fail
          refine hK.out _ _ (trivial) (fun hHz23q => ?_)
          clear hK K
          refine wpAnyH_take (i := 9) (oi := ?oz24q9) (v := ?vz24q9) ?hiz24q9 ?hsz24q9 ?hfz24q9 ?hrz24q9 ?hQz24q9 (Or.inl ⟨?hwz24q9, ?hyz24q9⟩) ?hSz24q9 ?restz24q9
          case hiz24q9 => (simp; rfl)
          case hsz24q9 => kernel_rfl
          case hfz24q9 => kernel_rfl
          case hrz24q9 => kernel_rfl
          case hQz24q9 => exact fun _ _ _ h => h
          case hwz24q9 => rfl
          case hyz24q9 => (intro wq hSq; (try dsimp only at hSq); go_simp; (try with_reducible rfl))
          case hSz24q9 => assumption
          simp only [Act.put, List.setIfInBounds_toArray, List.set_cons_zero, List.set_cons_succ]
          refine wpAnyH_take (i := 10) (oi := ?oz25q10) (v := ?vz25q10) ?hiz25q10 ?hsz25q10 ?hfz25q10 ?hrz25q10 ?hQz25q10 (Or.inl ⟨?hwz25q10, ?hyz25q10⟩) ?hSz25q10 ?restz25q10
          case hiz25q10 => (simp; rfl)
          case hsz25q10 => kernel_rfl
          case hfz25q10 => kernel_rfl
          case hrz25q10 => kernel_rfl
          case hQz25q10 => exact fun _ _ _ h => h
          case hwz25q10 => rfl
          case hyz25q10 => (intro wq hSq; (try dsimp only at hSq); go_simp; (try with_reducible rfl))
          case hSz25q10 => assumption
          simp only [Act.put, List.setIfInBounds_toArray, List.set_cons_zero, List.set_cons_succ]
          refine wpAnyH_ready (rs := [4, 11]) (by kernel_rfl) (by simp) ?_
          refine AllReadyH.cons (o := ?oz26q) ?hz26q (fun K hK => ?rz26q) (AllReadyH.cons (o := ?oz27q) ?hz27q (fun K hK => ?rz27q) AllReadyH.nil)
          case hz26q => (simp; rfl)
          case hz27q => (simp; rfl)
          case rz26q =>
            have hc5 : w2.cell? ⟨b, 0, none⟩ = some (.slice q L d) := HC2.out
            go_simp
            clear hc5
            refine hK.out _ _ (trivial) (fun hHz28q => ?_)
            clear hK K
            refine wpAnyH_ready (rs := [11]) (by kernel_rfl) (by simp) ?_
            refine AllReadyH.cons (o := ?oz29q) ?hz29q (fun K hK => ?rz29q) AllReadyH.nil
            case hz29q => (simp; rfl)
            case rz29q =>
              go_simp
              refine hK.out _ _ (trivial) (fun hHz30q => ?_)
              clear hK K
              refine wpAnyH_ready (rs := [12]) (by kernel_rfl) (by simp) ?_
              refine AllReadyH.cons (o := ?oz31q) ?hz31q (fun K hK => ?rz31q) AllReadyH.nil
              case hz31q => (simp; rfl)
              case rz31q =>
                refine Hp.stepV rfl _ _ rfl base (.slice q L d) L (Hp.cellsR r.vs) ⟨r.nx, x, 0, p2, c2, xs⟩ rfl (w := w2.alloc (.cells #[.int .i64 (r.nx : Int), .int .i64 x, .int .i64 0, .slice p2 xs.length c2] 100)) (Hp.ownKeep HL.out.own' (fun g hg => ?_)) w2.heap.size rfl (Hp.four_new w2 ⟨r.nx, x, 0, p2, c2, xs⟩ _ rfl) (by omega) (Nat.le_trans hbase (Nat.le_trans HB2.out.size (by simp))) ?_
                · have hq := Hp.ownLt HL.out.own' hg
                  exact (Mm.oldAt w2 _ (Nat.lt_of_lt_of_le hq.2 HB2.out.size)).trans (HB2.out.block g hq.2)
                intro v3 W3 hown3 hg3 hat3
                obtain ⟨pS, cS, rfl, -, -⟩ := Vl.lies_own hown3
                have HO3 := Vl.hid hown3
                have HAT3 := Vl.hid hat3
                have HG3 : Hid (w.grownBy W3 (Value.slice q L d).ownBlock) := Vl.hid (Hp.grTr (HB2.out.alloc HB2.out.size _) hg3)
                have HOY : Hid (W3.ownsRow base 50 4 (.slice p2 xs.length c2) xs.length (Vl.cellsV xs)) := Vl.hid (Hp.ownBase (Hp.ownKeep HO2.out (fun g hg => by
                  have hq := Hp.ownLt HO2.out hg
                  refine (hg3.block g (Nat.lt_of_lt_of_le hq.2 (by simp)) (fun e => ?_)).trans (Mm.oldAt w2 _ hq.2)
                  have hq3 := Hp.ownLt HL.out.own' e.symm
                  omega)) hbase)
                have HY2 : Hid (∀ g, (Value.slice p2 xs.length c2).ownBlock = some g → w.heap.size ≤ g ∧ (Value.slice pS (L + 1) cS).ownBlock ≠ some g) := Vl.hid (fun g hg => by
                  have hq := Hp.ownLt HO2.out hg
                  refine ⟨hq.1, fun e => ?_⟩
                  rcases hat3 with hat3 | hat3
                  · rw [hat3] at e
                    have hq3 := Hp.ownLt HL.out.own' e
                    omega
                  · have := hat3 g e
                    simp at this; omega)
                have HA3 : Hid ((Value.slice pS (L + 1) cS).ownBlock = (Value.slice q L d).ownBlock ∨ ∀ g, (Value.slice pS (L + 1) cS).ownBlock = some g → w.heap.size ≤ g) := Vl.hid (by
                  rcases hat3 with hat3 | hat3
                  · exact Or.inl hat3
                  · exact Or.inr (fun g hg => by have := hat3 g hg; have := HB2.out.size; simp at *; omega))
                clear hown3 hg3 hat3
                refine hK.out _ _ (trivial) (fun hHz32q => ?_)
                clear hK K
                refine wpAnyH_take (i := 13) (oi := ?oz33q13) (v := ?vz33q13) ?hiz33q13 ?hsz33q13 ?hfz33q13 ?hrz33q13 ?hQz33q13 (Or.inl ⟨?hwz33q13, ?hyz33q13⟩) ?hSz33q13 ?restz33q13
                case hiz33q13 => (simp; rfl)
                case hsz33q13 => kernel_rfl
                case hfz33q13 => kernel_rfl
                case hrz33q13 => kernel_rfl
                case hQz33q13 => exact fun _ _ _ h => h
                case hwz33q13 => rfl
                case hyz33q13 => (intro wq hSq; (try dsimp only at hSq); go_simp; (try with_reducible rfl))
                case hSz33q13 => assumption
                simp only [Act.put, List.setIfInBounds_toArray, List.set_cons_zero, List.set_cons_succ]
                refine wpAnyH_take (i := 14) (oi := ?oz34q14) (v := ?vz34q14) ?hiz34q14 ?hsz34q14 ?hfz34q14 ?hrz34q14 ?hQz34q14 (Or.inl ⟨?hwz34q14, ?hyz34q14⟩) ?hSz34q14 ?restz34q14
                case hiz34q14 => (simp; rfl)
                case hsz34q14 => kernel_rfl
                case hfz34q14 => kernel_rfl
                case hrz34q14 => kernel_rfl
                case hQz34q14 => exact fun _ _ _ h => h
                case hwz34q14 => rfl
                case hyz34q14 => (intro wq hSq; (try dsimp only at hSq); go_simp; (try with_reducible rfl))
                case hSz34q14 => assumption
                simp only [Act.put, List.setIfInBounds_toArray, List.set_cons_zero, List.set_cons_succ]
                refine wpAnyH_ready (rs := [15]) (by kernel_rfl) (by simp) ?_
                refine AllReadyH.cons (o := ?oz35q) ?hz35q (fun K hK => ?rz35q) AllReadyH.nil
                case hz35q => (simp; rfl)
                case rz35q =>
                  have hW3 : W3.heap[b]? = some (.cells #[.slice q L d, .int .i64 (r.nx : Int)] 94 (0, 0)) := (HG3.out.block b hlt (fun e => HL.out.ne' e.symm)).trans HL.out.blk'
                  have hcT : W3.cell? ⟨b, 0, none⟩ = some (.slice q L d) := Mm.cellOf hW3 rfl
                  have hfz : W3.frozen? ⟨b, 0, none⟩ = false := by simp [World.frozen?, hW3]
                  go_simp
                  clear hcT hfz hW3
                  refine hK.out _ _ (trivial) (fun hHz36q => ?_)
                  clear hK K
                  refine wpAnyH_done (by kernel_rfl) ?_ _
                  have hW3 : W3.heap[b]? = some (.cells #[.slice q L d, .int .i64 (r.nx : Int)] 94 (0, 0)) := (HG3.out.block b hlt (fun e => HL.out.ne' e.symm)).trans HL.out.blk'
                  obtain ⟨W4, hW4⟩ : ∃ W4, W3.setCell ⟨b, 0, none⟩ (.slice pS (L + 1) cS) = W4 := ⟨_, rfl⟩
                  have HR4 : Hid (Hp.Rl ((W3.setCell ⟨b, 0, none⟩ (.slice pS (L + 1) cS)).setCell ⟨b, 1, none⟩ (.int .i64 ((r.nx : Int) + 1))) base b ⟨r.vs ++ [⟨r.nx, x, 0, p2, c2, xs⟩], r.nx + 1⟩ (.slice pS (L + 1) cS)) := Vl.hid (Hp.Rl.put HL.out.2 (y := ⟨r.nx, x, 0, p2, c2, xs⟩) HG3.out (HL.out.1 ▸ HO3.out) HA3.out HOY.out HY2.out hn)
                  have HB4 : Hid (Below base w (W3.setCell ⟨b, 0, none⟩ (.slice pS (L + 1) cS))) := Vl.hid ((((Below.refl base w).grown HG3.out hbase (fun k hk => (Hp.ownLt HL.out.own' hk).1))).setCell hlo _)
                  have hW4b : (W3.setCell ⟨b, 0, none⟩ (.slice pS (L + 1) cS)).heap[b]? = some (.cells #[.slice pS (L + 1) cS, .int .i64 (r.nx : Int)] 94 (0, 0)) := Hp.set0_heap hW3
                  have hsz4 : w.heap.size ≤ (W3.setCell ⟨b, 0, none⟩ (.slice pS (L + 1) cS)).heap.size := by simpa using HG3.out.size
                  rw [hW4] at HR4 HB4 hW4b hsz4 ⊢
                  have e1 : W4.cell? ⟨b, 1, none⟩ = some (.int .i64 (r.nx : Int)) := Mm.cellOf hW4b rfl
                  have e2 : W4.frozen? ⟨b, 1, none⟩ = false := by simp [World.frozen?, hW4b]
                  have HE4 : Hid (W4.cell? ⟨b, 0, none⟩ = some (.slice pS (L + 1) cS)) := Vl.hid (Mm.cellOf hW4b rfl)
                  have HW4 : Hid (∀ g, g ≠ b → W4.heap[g]? = W3.heap[g]?) := Vl.hid (fun g hg => hW4 ▸ heap_setCell_other W3 ⟨b, 0, none⟩ g _ hg)
                  clear hW4 hW4b hW3
                  go_wp2_with fail
                  go_ret2
                  refine ⟨p2, c2, rfl, ⟨_, HR4.out⟩, HB4.out.setCell hlo _, by simpa using hsz4, fun g hg hf => ?_⟩
                  have hsv := hf.2 _ HC0.out
                  refine ⟨(heap_setCell_other W4 ⟨b, 1, none⟩ g _ hf.1).trans ((HW4.out g hf.1).trans (HG3.out.block g hg (fun e => hsv e.symm))), hf.1, fun sv' hsv' => ?_⟩
                  have e4 : (W4.setCell ⟨b, 1, none⟩ (.int .i64 ((r.nx : Int) + 1))).cell? ⟨b, 0, none⟩ = some (.slice pS (L + 1) cS) := (Mm.scOther W4 ⟨b, 1, none⟩ ⟨b, 0, none⟩ _ (by simp)).trans HE4.out
                  rw [e4] at hsv'
                  cases hsv'
                  rcases HA3.out with h3 | h3
                  · rw [h3]; exact hsv
                  · intro e; have := h3 g e; omega
          case rz27q =>
            go_simp
            refine hK.out _ _ (trivial) (fun hHz37q => ?_)
            clear hK K
            refine wpAnyH_ready (rs := [4]) (by kernel_rfl) (by simp) ?_
            refine AllReadyH.cons (o := ?oz38q) ?hz38q (fun K hK => ?rz38q) AllReadyH.nil
            case hz38q => (simp; rfl)
            case rz38q =>
              have hc5 : (w2.alloc (.cells #[.int .i64 (r.nx : Int), .int .i64 x, .int .i64 0, .slice p2 xs.length c2] 100)).cell? ⟨b, 0, none⟩ = some (.slice q L d) := ((Below.refl _ w2).alloc (Nat.le_refl _) _).cell (p := ⟨b, 0, none⟩) (Nat.lt_of_lt_of_le hlt HB2.out.size) |>.trans HC2.out
              go_simp
              clear hc5
              refine hK.out _ _ (trivial) (fun hHz39q => ?_)
              clear hK K
              refine wpAnyH_ready (rs := [12]) (by kernel_rfl) (by simp) ?_
              refine AllReadyH.cons (o := ?oz40q) ?hz40q (fun K hK => ?rz40q) AllReadyH.nil
              case hz40q => (simp; rfl)
              case rz40q =>
                refine Hp.stepV rfl _ _ rfl base (.slice q L d) L (Hp.cellsR r.vs) ⟨r.nx, x, 0, p2, c2, xs⟩ rfl (w := w2.alloc (.cells #[.int .i64 (r.nx : Int), .int .i64 x, .int .i64 0, .slice p2 xs.length c2] 100)) (Hp.ownKeep HL.out.own' (fun g hg => ?_)) w2.heap.size rfl (Hp.four_new w2 ⟨r.nx, x, 0, p2, c2, xs⟩ _ rfl) (by omega) (Nat.le_trans hbase (Nat.le_trans HB2.out.size (by simp))) ?_
                · have hq := Hp.ownLt HL.out.own' hg
                  exact (Mm.oldAt w2 _ (Nat.lt_of_lt_of_le hq.2 HB2.out.size)).trans (HB2.out.block g hq.2)
                intro v3 W3 hown3 hg3 hat3
                obtain ⟨pS, cS, rfl, -, -⟩ := Vl.lies_own hown3
                have HO3 := Vl.hid hown3
                have HAT3 := Vl.hid hat3
                have HG3 : Hid (w.grownBy W3 (Value.slice q L d).ownBlock) := Vl.hid (Hp.grTr (HB2.out.alloc HB2.out.size _) hg3)
                have HOY : Hid (W3.ownsRow base 50 4 (.slice p2 xs.length c2) xs.length (Vl.cellsV xs)) := Vl.hid (Hp.ownBase (Hp.ownKeep HO2.out (fun g hg => by
                  have hq := Hp.ownLt HO2.out hg
                  refine (hg3.block g (Nat.lt_of_lt_of_le hq.2 (by simp)) (fun e => ?_)).trans (Mm.oldAt w2 _ hq.2)
                  have hq3 := Hp.ownLt HL.out.own' e.symm
                  omega)) hbase)
                have HY2 : Hid (∀ g, (Value.slice p2 xs.length c2).ownBlock = some g → w.heap.size ≤ g ∧ (Value.slice pS (L + 1) cS).ownBlock ≠ some g) := Vl.hid (fun g hg => by
                  have hq := Hp.ownLt HO2.out hg
                  refine ⟨hq.1, fun e => ?_⟩
                  rcases hat3 with hat3 | hat3
                  · rw [hat3] at e
                    have hq3 := Hp.ownLt HL.out.own' e
                    omega
                  · have := hat3 g e
                    simp at this; omega)
                have HA3 : Hid ((Value.slice pS (L + 1) cS).ownBlock = (Value.slice q L d).ownBlock ∨ ∀ g, (Value.slice pS (L + 1) cS).ownBlock = some g → w.heap.size ≤ g) := Vl.hid (by
                  rcases hat3 with hat3 | hat3
                  · exact Or.inl hat3
                  · exact Or.inr (fun g hg => by have := hat3 g hg; have := HB2.out.size; simp at *; omega))
                clear hown3 hg3 hat3
                refine hK.out _ _ (trivial) (fun hHz41q => ?_)
                clear hK K
                refine wpAnyH_take (i := 13) (oi := ?oz42q13) (v := ?vz42q13) ?hiz42q13 ?hsz42q13 ?hfz42q13 ?hrz42q13 ?hQz42q13 (Or.inl ⟨?hwz42q13, ?hyz42q13⟩) ?hSz42q13 ?restz42q13
                case hiz42q13 => (simp; rfl)
                case hsz42q13 => kernel_rfl
                case hfz42q13 => kernel_rfl
                case hrz42q13 => kernel_rfl
                case hQz42q13 => exact fun _ _ _ h => h
                case hwz42q13 => rfl
                case hyz42q13 => (intro wq hSq; (try dsimp only at hSq); go_simp; (try with_reducible rfl))
                case hSz42q13 => assumption
                simp only [Act.put, List.setIfInBounds_toArray, List.set_cons_zero, List.set_cons_succ]
                refine wpAnyH_take (i := 14) (oi := ?oz43q14) (v := ?vz43q14) ?hiz43q14 ?hsz43q14 ?hfz43q14 ?hrz43q14 ?hQz43q14 (Or.inl ⟨?hwz43q14, ?hyz43q14⟩) ?hSz43q14 ?restz43q14
                case hiz43q14 => (simp; rfl)
                case hsz43q14 => kernel_rfl
                case hfz43q14 => kernel_rfl
                case hrz43q14 => kernel_rfl
                case hQz43q14 => exact fun _ _ _ h => h
                case hwz43q14 => rfl
                case hyz43q14 => (intro wq hSq; (try dsimp only at hSq); go_simp; (try with_reducible rfl))
                case hSz43q14 => assumption
                simp only [Act.put, List.setIfInBounds_toArray, List.set_cons_zero, List.set_cons_succ]
                refine wpAnyH_ready (rs := [15]) (by kernel_rfl) (by simp) ?_
                refine AllReadyH.cons (o := ?oz44q) ?hz44q (fun K hK => ?rz44q) AllReadyH.nil
                case hz44q => (simp; rfl)
                case rz44q =>
                  have hW3 : W3.heap[b]? = some (.cells #[.slice q L d, .int .i64 (r.nx : Int)] 94 (0, 0)) := (HG3.out.block b hlt (fun e => HL.out.ne' e.symm)).trans HL.out.blk'
                  have hcT : W3.cell? ⟨b, 0, none⟩ = some (.slice q L d) := Mm.cellOf hW3 rfl
                  have hfz : W3.frozen? ⟨b, 0, none⟩ = false := by simp [World.frozen?, hW3]
                  go_simp
                  clear hcT hfz hW3
                  refine hK.out _ _ (trivial) (fun hHz45q => ?_)
                  clear hK K
                  refine wpAnyH_done (by kernel_rfl) ?_ _
                  have hW3 : W3.heap[b]? = some (.cells #[.slice q L d, .int .i64 (r.nx : Int)] 94 (0, 0)) := (HG3.out.block b hlt (fun e => HL.out.ne' e.symm)).trans HL.out.blk'
                  obtain ⟨W4, hW4⟩ : ∃ W4, W3.setCell ⟨b, 0, none⟩ (.slice pS (L + 1) cS) = W4 := ⟨_, rfl⟩
                  have HR4 : Hid (Hp.Rl ((W3.setCell ⟨b, 0, none⟩ (.slice pS (L + 1) cS)).setCell ⟨b, 1, none⟩ (.int .i64 ((r.nx : Int) + 1))) base b ⟨r.vs ++ [⟨r.nx, x, 0, p2, c2, xs⟩], r.nx + 1⟩ (.slice pS (L + 1) cS)) := Vl.hid (Hp.Rl.put HL.out.2 (y := ⟨r.nx, x, 0, p2, c2, xs⟩) HG3.out (HL.out.1 ▸ HO3.out) HA3.out HOY.out HY2.out hn)
                  have HB4 : Hid (Below base w (W3.setCell ⟨b, 0, none⟩ (.slice pS (L + 1) cS))) := Vl.hid ((((Below.refl base w).grown HG3.out hbase (fun k hk => (Hp.ownLt HL.out.own' hk).1))).setCell hlo _)
                  have hW4b : (W3.setCell ⟨b, 0, none⟩ (.slice pS (L + 1) cS)).heap[b]? = some (.cells #[.slice pS (L + 1) cS, .int .i64 (r.nx : Int)] 94 (0, 0)) := Hp.set0_heap hW3
                  have hsz4 : w.heap.size ≤ (W3.setCell ⟨b, 0, none⟩ (.slice pS (L + 1) cS)).heap.size := by simpa using HG3.out.size
                  rw [hW4] at HR4 HB4 hW4b hsz4 ⊢
                  have e1 : W4.cell? ⟨b, 1, none⟩ = some (.int .i64 (r.nx : Int)) := Mm.cellOf hW4b rfl
                  have e2 : W4.frozen? ⟨b, 1, none⟩ = false := by simp [World.frozen?, hW4b]
                  have HE4 : Hid (W4.cell? ⟨b, 0, none⟩ = some (.slice pS (L + 1) cS)) := Vl.hid (Mm.cellOf hW4b rfl)
                  have HW4 : Hid (∀ g, g ≠ b → W4.heap[g]? = W3.heap[g]?) := Vl.hid (fun g hg => hW4 ▸ heap_setCell_other W3 ⟨b, 0, none⟩ g _ hg)
                  clear hW4 hW4b hW3
                  go_wp2_with fail
                  go_ret2
                  refine ⟨p2, c2, rfl, ⟨_, HR4.out⟩, HB4.out.setCell hlo _, by simpa using hsz4, fun g hg hf => ?_⟩
                  have hsv := hf.2 _ HC0.out
                  refine ⟨(heap_setCell_other W4 ⟨b, 1, none⟩ g _ hf.1).trans ((HW4.out g hf.1).trans (HG3.out.block g hg (fun e => hsv e.symm))), hf.1, fun sv' hsv' => ?_⟩
                  have e4 : (W4.setCell ⟨b, 1, none⟩ (.int .i64 ((r.nx : Int) + 1))).cell? ⟨b, 0, none⟩ = some (.slice pS (L + 1) cS) := (Mm.scOther W4 ⟨b, 1, none⟩ ⟨b, 0, none⟩ _ (by simp)).trans HE4.out
                  rw [e4] at hsv'
                  cases hsv'
                  rcases HA3.out with h3 | h3
                  · rw [h3]; exact hsv
                  · intro e; have := h3 g e; omega

theorem insert_any (w : World) (base b : Nat) (r : Hp.R) (x : Int) (p : Option Addr) (c : Nat) (xs : List Vl.V) (hR : Hid (Hp.Rn w base b r)) (hI : Hid (Hp.Inv r)) (hn : xs.length ≤ 1000000) (hnil : p = none → xs.length = 0 ∧ c = 0) (hs : Hid (∀ v ∈ xs, v.s.size ≤ 100000)) (H : Hid (Vl.RowIn w p xs)) :
    Calls Try.prog 14 #[.pointer (some ⟨b, 0, none⟩), .int .i64 x, .slice p xs.length c] w fun e w' => ∃ q d, e = .returned (.tuple #[.int .i64 (Hp.insA r x : Int), .int .i64 (Hp.insE r x : Int)]) ∧ Hp.Rn w' base b (Hp.insS r x q d xs) ∧ Below base w w' ∧ w.heap.size ≤ w'.heap.size :=
  (insert_fr w base b r x p c xs hR hI hn hnil hs H).mono (fun _ _ ⟨q, d, h1, h2, h3, h4, _⟩ => ⟨q, d, h1, h2, h3, h4⟩)
end Go.Proofs.Ytoobljkjhpkghaa
