/- The reference's nodes walked. -/
import Derived.Test.YthikdfcndppoaaaWf1
namespace Go.Proofs.Ythikdfcndppoaaa
open Go.RowKit

set_option maxRecDepth 100000 in
set_option maxHeartbeats 8000000 in
theorem nodes_any (W0 : World) (q : Option Addr) (c0 n0 : Nat) (E0 : Kn.El) (hl : Hid (Mm.EIn W0 q E0)) (hn0 : Hid (n0 = E0.length)) (hn1 : n0 < 1000) :
    Calls Try.prog 22 #[.slice q n0 c0] W0 fun e w' => ∃ (v : Value) (N : List Int), e = .returned v ∧ Mm.Own w' W0.heap.size 3 v (Mm.its N) ∧ N.length ≤ 2 * n0 ∧ Kn.Rising N ∧ (∀ y, y ∈ N ↔ Kn.Nd E0 y) ∧ Below W0.heap.size W0 w' := by
  obtain ⟨i0, HI0⟩ : ∃ i, Hid (Try.prog.info? 3 = some i ∧ i.zero = some (.int .i64 0) ∧ i.size = 1 ∧ i.bytes = 8) := ⟨_, Try.type3, rfl, rfl, rfl⟩
  go_enter Try.func22, Try.ntmps22
  go_wp2_with fail
  go_loopw [3, 4] (fun v3 v4 wr => ∃ (i : Nat) (l : List Int), i ≤ n0 ∧ v4 = .int .i64 (i : Int) ∧ Hid (Mm.Own wr W0.heap.size 3 v3 (Mm.its l)) ∧ Hid (Lk.Nn E0 (2 * i) l) ∧ Hid (Below W0.heap.size W0 wr)) (fun _ v4 _ => n0 - (RowKit.intOf v4).toNat)
  case atStart => exact ⟨0, [], by omega, rfl, Mm.hid (Mm.Own.nil _ _ _), Mm.hid (Lk.Nn.start _), Mm.hid (Below.refl _ _)⟩
  case round =>
    obtain ⟨e, l1, he, rfl, HO1, HN1, HB1⟩ := hrel
    rename World => w1
    by_cases hlt : e < n0
    · obtain ⟨ed, hed⟩ : ∃ ed, E0[e]? = some ed := ⟨_, List.getElem?_eq_getElem (by rw [← hn0.out]; exact hlt)⟩
      obtain ⟨xa, xb⟩ := ed
      have HED := Mm.hid hed
      have HLL := Mm.hid hl.out
      clear hed
      go_wp2_with fail
      go_loopw [3, 5] (fun v3 v5 wr => ∃ (k : Nat) (l : List Int), k ≤ 2 ∧ v5 = .int .i64 (k : Int) ∧ Hid (Mm.Own wr W0.heap.size 3 v3 (Mm.its l)) ∧ Hid (Lk.Nn E0 (2 * e + k) l) ∧ Hid (Below W0.heap.size W0 wr)) (fun _ v5 _ => 2 - (RowKit.intOf v5).toNat)
      case atStart => exact ⟨0, l1, by omega, rfl, HO1, HN1, HB1⟩
      case round =>
        obtain ⟨k, l, hk, rfl, HO, HNN, HB⟩ := hrel
        rename World => w
        clear HO1 HN1 HB1
        by_cases hk2 : k < 2
        · obtain ⟨x, hx, b, o, eq, gk0, gk1, hxc⟩ : ∃ x, (Mm.flat E0)[2 * e + k]? = some x ∧ ∃ b o, q = some ⟨b, o, none⟩ ∧ (0 : Int) ≤ (k : Int) ∧ (k : Int) < 2 ∧ w.cell? ⟨b, o + e * 2 + k, none⟩ = some (.int .i64 x) := by
            obtain ⟨b, o, eq, _, d1, d2⟩ := (HLL.out.below HB.out) e (xa, xb) HED.out
            obtain ⟨f1, f2⟩ := Lk.flat_at E0 e (xa, xb) HED.out
            match k, hk2 with
            | 0, _ => exact ⟨xa, f1, b, o, eq, by omega, by omega, d1⟩
            | 1, _ => exact ⟨xb, f2, b, o, eq, by omega, by omega, d2⟩
          have HX := Mm.hid hx
          subst eq
          obtain ⟨p, c, ev, hs⟩ := Lk.ownSl HO.out
          have hnl := HNN.out.len
          rw [← hn0.out] at hnl
          obtain ⟨n, hnn⟩ : ∃ n, n = l.length := ⟨_, rfl⟩
          rw [← hnn] at hs hnl ev
          subst ev
          have hS := Mm.hid hs
          have HN := Mm.hid hnn
          have hn : n ≤ 2000 := by omega
          have HHB : Hid (Mm.Own w W0.heap.size 3 (.slice p n c) (Mm.its l)) := Mm.hid HO.out
          clear hs hnn hx HO
          have gk2 : k < 2 := hk2
          go_wp2_with fail
          go_loopw [7] (fun vi wr => ∃ i : Nat, i ≤ n ∧ vi = .int .i64 (i : Int) ∧ Hid (wr = w) ∧ Hid (∀ (j : Nat) a, j < i → l[j]? = some a → a < x)) (fun vi _ => n - (RowKit.intOf vi).toNat)
          case atStart => exact ⟨0, by omega, rfl, Mm.hid rfl, fun _ _ h => absurd h (Nat.not_lt_zero _)⟩
          case round =>
            obtain ⟨i, hi, rfl, hq, HI⟩ := hrel
            have hq2 := hq.out.symm
            clear hq
            subst hq2
            clear hxc
            by_cases hin : i < n
            · obtain ⟨a, ha⟩ : ∃ a, l[i]? = some a := ⟨_, List.getElem?_eq_getElem (by rw [← HN.out]; exact hin)⟩
              obtain ⟨b2, rfl, hlb, c0⟩ := hS.out.num ha
              have HA := Mm.hid ha
              clear ha hlb
              have g1 : (0 : Int) ≤ (i : Int) := by omega
              have g2 : (i : Int) < (n : Int) := by omega
              have gne : ((i : Int) == (n : Int)) = false := by simp; omega
              cases ht : decide (a < x)
              · cases he : (a != x)
                · go_wp2_with fail
                  exact ⟨⟨k + 1, l, by omega, by go_num, HHB, Mm.hid (HNN.out.put HX.out (Lk.put_same (by rw [HA.out, show a = x from by simpa using he]))), HB⟩, by simp [RowKit.intOf]; omega⟩
                · have HP : Hid (Lk.PutR l x (l.take i ++ [x] ++ l.drop i)) := Lk.put_new (by rw [← HN.out]; exact hi) HI.out (by intro a2 h2; rw [HA.out] at h2; cases h2; simp at ht he; omega)
                  obtain ⟨HNIL, HLEN, HLIE⟩ : Hid _ ∧ Hid _ ∧ Hid _ := Lk.put_facts hS.out HN.out hi
                  have hcap := hS.out.cap
                  have gc0 : (0 : Int) ≤ (i : Int) := by omega
                  have gc1 : (i : Int) ≤ (c : Int) := by omega
                  have gc2 : (i : Int) ≤ (n : Int) := by omega
                  have gc3 : (n : Int) ≤ (c : Int) := by omega
                  go_wp2_with fail
                  refine wp_region_held_drew (S := fun w' => Below w.heap.size w w') (by kernel_rfl) ((Below.refl _ _).drew) (fun hH => ?_)
                  refine wpAnyH_take (i := 1) (oi := ?oz1q1) (v := ?vz1q1) ?hiz1q1 ?hsz1q1 ?hfz1q1 ?hrz1q1 ?hQz1q1 (Or.inl ⟨?hwz1q1, ?hyz1q1⟩) ?hSz1q1 ?restz1q1
                  case hiz1q1 => (simp; rfl)
                  case hsz1q1 => kernel_rfl
                  case hfz1q1 => kernel_rfl
                  case hrz1q1 => kernel_rfl
                  case hQz1q1 => exact fun _ _ _ h => h
                  case hwz1q1 => rfl
                  case hyz1q1 => (intro wq hSq; (try dsimp only at hSq); go_simp; (try with_reducible rfl))
                  case hSz1q1 => assumption
                  simp only [Act.put, List.setIfInBounds_toArray, List.set_cons_zero, List.set_cons_succ]
                  refine wpAnyH_take (i := 2) (oi := ?oz2q2) (v := ?vz2q2) ?hiz2q2 ?hsz2q2 ?hfz2q2 ?hrz2q2 ?hQz2q2 (Or.inl ⟨?hwz2q2, ?hyz2q2⟩) ?hSz2q2 ?restz2q2
                  case hiz2q2 => (simp; rfl)
                  case hsz2q2 => kernel_rfl
                  case hfz2q2 => kernel_rfl
                  case hrz2q2 => kernel_rfl
                  case hQz2q2 => exact fun _ _ _ h => h
                  case hwz2q2 => rfl
                  case hyz2q2 => (intro wq hSq; (try dsimp only at hSq); go_simp; (try with_reducible rfl))
                  case hSz2q2 => assumption
                  simp only [Act.put, List.setIfInBounds_toArray, List.set_cons_zero, List.set_cons_succ]
                  refine wpAnyH_take (i := 3) (oi := ?oz3q3) (v := ?vz3q3) ?hiz3q3 ?hsz3q3 ?hfz3q3 ?hrz3q3 ?hQz3q3 (Or.inl ⟨?hwz3q3, ?hyz3q3⟩) ?hSz3q3 ?restz3q3
                  case hiz3q3 => (simp; rfl)
                  case hsz3q3 => kernel_rfl
                  case hfz3q3 => kernel_rfl
                  case hrz3q3 => kernel_rfl
                  case hQz3q3 => exact fun _ _ _ h => h
                  case hwz3q3 => rfl
                  case hyz3q3 => (intro wq hSq; (try dsimp only at hSq); go_simp; (try with_reducible rfl))
                  case hSz3q3 => assumption
                  simp only [Act.put, List.setIfInBounds_toArray, List.set_cons_zero, List.set_cons_succ]
                  refine wpAnyH_take (i := 5) (oi := ?oz4q5) (v := ?vz4q5) ?hiz4q5 ?hsz4q5 ?hfz4q5 ?hrz4q5 ?hQz4q5 (Or.inl ⟨?hwz4q5, ?hyz4q5⟩) ?hSz4q5 ?restz4q5
                  case hiz4q5 => (simp; rfl)
                  case hsz4q5 => kernel_rfl
                  case hfz4q5 => kernel_rfl
                  case hrz4q5 => kernel_rfl
                  case hQz4q5 => exact fun _ _ _ h => h
                  case hwz4q5 => rfl
                  case hyz4q5 => (intro wq hSq; (try dsimp only at hSq); go_simp; (try with_reducible rfl))
                  case hSz4q5 => assumption
                  simp only [Act.put, List.setIfInBounds_toArray, List.set_cons_zero, List.set_cons_succ]
                  refine wpAnyH_take (i := 8) (oi := ?oz5q8) (v := ?vz5q8) ?hiz5q8 ?hsz5q8 ?hfz5q8 ?hrz5q8 ?hQz5q8 (Or.inl ⟨?hwz5q8, ?hyz5q8⟩) ?hSz5q8 ?restz5q8
                  case hiz5q8 => (simp; rfl)
                  case hsz5q8 => kernel_rfl
                  case hfz5q8 => kernel_rfl
                  case hrz5q8 => kernel_rfl
                  case hQz5q8 => exact fun _ _ _ h => h
                  case hwz5q8 => rfl
                  case hyz5q8 => (intro wq hSq; (try dsimp only at hSq); go_simp; (try with_reducible rfl))
                  case hSz5q8 => assumption
                  simp only [Act.put, List.setIfInBounds_toArray, List.set_cons_zero, List.set_cons_succ]
                  refine wpAnyH_take (i := 9) (oi := ?oz6q9) (v := ?vz6q9) ?hiz6q9 ?hsz6q9 ?hfz6q9 ?hrz6q9 ?hQz6q9 (Or.inl ⟨?hwz6q9, ?hyz6q9⟩) ?hSz6q9 ?restz6q9
                  case hiz6q9 => (simp; rfl)
                  case hsz6q9 => kernel_rfl
                  case hfz6q9 => kernel_rfl
                  case hrz6q9 => kernel_rfl
                  case hQz6q9 => exact fun _ _ _ h => h
                  case hwz6q9 => rfl
                  case hyz6q9 => (intro wq hSq; (try dsimp only at hSq); go_simp; (try with_reducible rfl))
                  case hSz6q9 => assumption
                  simp only [Act.put, List.setIfInBounds_toArray, List.set_cons_zero, List.set_cons_succ]
                  refine wpAnyH_take (i := 10) (oi := ?oz7q10) (v := ?vz7q10) ?hiz7q10 ?hsz7q10 ?hfz7q10 ?hrz7q10 ?hQz7q10 (Or.inl ⟨?hwz7q10, ?hyz7q10⟩) ?hSz7q10 ?restz7q10
                  case hiz7q10 => (simp; rfl)
                  case hsz7q10 => kernel_rfl
                  case hfz7q10 => kernel_rfl
                  case hrz7q10 => kernel_rfl
                  case hQz7q10 => exact fun _ _ _ h => h
                  case hwz7q10 => rfl
                  case hyz7q10 => (intro wq hSq; (try dsimp only at hSq); go_simp; (try with_reducible rfl))
                  case hSz7q10 => assumption
                  simp only [Act.put, List.setIfInBounds_toArray, List.set_cons_zero, List.set_cons_succ]
                  refine wpAnyH_ready (rs := [0, 6]) (by kernel_rfl) (by simp) ?_
                  refine AllReadyH.cons (o := ?oz8q) ?hz8q (fun K hK => ?rz8q) (AllReadyH.cons (o := ?oz9q) ?hz9q (fun K hK => ?rz9q) AllReadyH.nil)
                  case hz8q => (simp; rfl)
                  case hz9q => (simp; rfl)
                  case rz8q =>
                    go_simp
                    refine hK.out _ _ ((Lk.Blk.new2 (Below.refl _ w) _ (g := w.heap.size) rfl).drew.bel) (fun hHz10q => ?_)
                    clear hK K
                    refine wpAnyH_ready (rs := [4, 6]) (by kernel_rfl) (by simp) ?_
                    refine AllReadyH.cons (o := ?oz11q) ?hz11q (fun K hK => ?rz11q) (AllReadyH.cons (o := ?oz12q) ?hz12q (fun K hK => ?rz12q) AllReadyH.nil)
                    case hz11q => (simp; rfl)
                    case hz12q => (simp; rfl)
                    case rz11q =>
                      refine Lk.step_append rfl _ _ 28 rfl w.heap.size 3 i0 (.int .i64 0) 1 8 Try.underlying28 HI0.out.1 HI0.out.2.1 HI0.out.2.2.1 HI0.out.2.2.2 rfl (by decide) (.slice (some ⟨w.heap.size, 0, none⟩) 0 0) 0 [] rfl (((Lk.Blk.new2 (Below.refl _ w) _ (g := w.heap.size) rfl).drew).own) _ i c (Lk.numsV (l.take i)) rfl (fun h => HNIL.out.1 (by first | exact trivial | exact h)) HLEN.out.1 (HLIE.out.1.below ((Lk.Blk.new2 (Below.refl _ w) _ (g := w.heap.size) rfl).drew).bel) (ints_oneCell .i64 _) (by unfold maxLen; omega) (by omega) (((Lk.Blk.new2 (Below.refl _ w) _ (g := w.heap.size) rfl).drew).bel.size) ?_
                      intro v1 W1 hown1 hgrow1
                      rw [List.nil_append, Nat.zero_add] at hown1
                      have HB1 := Lk.hid (Lk.belOwn (size := 1) ((Lk.Blk.new2 (Below.refl _ w) _ (g := w.heap.size) rfl).drew).bel ((Lk.Blk.new2 (Below.refl _ w) _ (g := w.heap.size) rfl).drew).own (Nat.le_refl _) hgrow1)
                      have HOWN1 := Lk.hid hown1
                      clear hown1 hgrow1
                      refine hK.out _ _ (HB1.out) (fun hHz13q => ?_)
                      clear hK K
                      refine wpAnyH_ready (rs := [6]) (by kernel_rfl) (by simp) ?_
                      refine AllReadyH.cons (o := ?oz14q) ?hz14q (fun K hK => ?rz14q) AllReadyH.nil
                      case hz14q => (simp; rfl)
                      case rz14q =>
                        go_simp
                        refine hK.out _ _ (Lk.belAl HB1.out _) (fun hHz15q => ?_)
                        clear hK K
                        refine wpAnyH_ready (rs := [7]) (by kernel_rfl) (by simp) ?_
                        refine AllReadyH.cons (o := ?oz16q) ?hz16q (fun K hK => ?rz16q) AllReadyH.nil
                        case hz16q => (simp; rfl)
                        case rz16q =>
                          refine Lk.step_append rfl _ _ 28 rfl w.heap.size 3 i0 (.int .i64 0) 1 8 Try.underlying28 HI0.out.1 HI0.out.2.1 HI0.out.2.2.1 HI0.out.2.2.2 rfl (by decide) v1 i (Lk.numsV (l.take i)) rfl (HOWN1.out.alloc _) (some ⟨W1.heap.size, 0, none⟩) 1 1 [.int .i64 x] rfl (fun h => nomatch h) rfl ((Lk.Blk.new HB1.out _).lies (cs := [.int .i64 x])) (ints_oneCell .i64 [x]) (by unfold maxLen; omega) (by omega) ((Lk.belAl HB1.out _).size) ?_
                          intro v2 W2 hown2 hgrow2
                          have HB2 := Lk.hid (Lk.belOwn (size := 1) (Lk.belAl HB1.out _) (HOWN1.out.alloc _) (Nat.le_refl _) hgrow2)
                          have HOWN2 := Lk.hid hown2
                          clear hown2 hgrow2
                          refine hK.out _ _ (HB2.out) (fun hHz17q => ?_)
                          clear hK K
                          refine wpAnyH_ready (rs := [11]) (by kernel_rfl) (by simp) ?_
                          refine AllReadyH.cons (o := ?oz18q) ?hz18q (fun K hK => ?rz18q) AllReadyH.nil
                          case hz18q => (simp; rfl)
                          case rz18q =>
                            refine Lk.step_append rfl _ _ 28 rfl w.heap.size 3 i0 (.int .i64 0) 1 8 Try.underlying28 HI0.out.1 HI0.out.2.1 HI0.out.2.2.1 HI0.out.2.2.2 rfl (by decide) v2 (i + 1) (Lk.numsV (l.take i) ++ [.int .i64 x]) rfl (HOWN2.out) _ (n - i) (c - i) (Lk.numsV (l.drop i)) rfl (fun h => HNIL.out.2 (by first | exact trivial | exact h)) HLEN.out.2 (HLIE.out.2.below HB2.out) (ints_oneCell .i64 _) (by unfold maxLen; omega) (by omega) (HB2.out.size) ?_
                            intro v3 W3 hown3 hgrow3
                            have HB3 := Lk.hid (Lk.belOwn (size := 1) (HB2.out) (HOWN2.out) (Nat.le_refl _) hgrow3)
                            have HOWN3 := Lk.hid hown3
                            clear hown3 hgrow3
                            refine hK.out _ _ (HB3.out) (fun hHz19q => ?_)
                            clear hK K
                            refine wpAnyH_take (i := 12) (oi := ?oz20q12) (v := ?vz20q12) ?hiz20q12 ?hsz20q12 ?hfz20q12 ?hrz20q12 ?hQz20q12 (Or.inl ⟨?hwz20q12, ?hyz20q12⟩) ?hSz20q12 ?restz20q12
                            case hiz20q12 => (simp; rfl)
                            case hsz20q12 => kernel_rfl
                            case hfz20q12 => kernel_rfl
                            case hrz20q12 => kernel_rfl
                            case hQz20q12 => exact fun _ _ _ h => h
                            case hwz20q12 => rfl
                            case hyz20q12 => (intro wq hSq; (try dsimp only at hSq); go_simp; (try with_reducible rfl))
                            case hSz20q12 => assumption
                            simp only [Act.put, List.setIfInBounds_toArray, List.set_cons_zero, List.set_cons_succ]
                            refine wpAnyH_done (by kernel_rfl) ?_ _
                            go_wp2_with fail
                            exact ⟨⟨k + 1, l.take i ++ [x] ++ l.drop i, by omega, by go_num, Mm.hid (Lk.slOwn HOWN3.out HN.out hi HB.out.size), Mm.hid (HNN.out.put HX.out HP.out), Mm.hid (Lk.belTr HB.out HB3.out)⟩, by simp [RowKit.intOf]; omega⟩
                    case rz12q =>
                      go_simp
                      refine hK.out _ _ ((Lk.Blk.new2 (Lk.belAl (Below.refl _ w) _) _ (g := w.heap.size + 1) (by simp)).drew.bel) (fun hHz21q => ?_)
                      clear hK K
                      refine wpAnyH_ready (rs := [4]) (by kernel_rfl) (by simp) ?_
                      refine AllReadyH.cons (o := ?oz22q) ?hz22q (fun K hK => ?rz22q) AllReadyH.nil
                      case hz22q => (simp; rfl)
                      case rz22q =>
                        refine Lk.step_append rfl _ _ 28 rfl w.heap.size 3 i0 (.int .i64 0) 1 8 Try.underlying28 HI0.out.1 HI0.out.2.1 HI0.out.2.2.1 HI0.out.2.2.2 rfl (by decide) (.slice (some ⟨w.heap.size, 0, none⟩) 0 0) 0 [] rfl ((((Lk.Blk.new2 (Below.refl _ w) _ (g := w.heap.size) rfl).alloc _).drew).own) _ i c (Lk.numsV (l.take i)) rfl (fun h => HNIL.out.1 (by first | exact trivial | exact h)) HLEN.out.1 (HLIE.out.1.below (((Lk.Blk.new2 (Below.refl _ w) _ (g := w.heap.size) rfl).alloc _).drew).bel) (ints_oneCell .i64 _) (by unfold maxLen; omega) (by omega) ((((Lk.Blk.new2 (Below.refl _ w) _ (g := w.heap.size) rfl).alloc _).drew).bel.size) ?_
                        intro v1 W1 hown1 hgrow1
                        rw [List.nil_append, Nat.zero_add] at hown1
                        have HB1 := Lk.hid (Lk.belOwn (size := 1) (((Lk.Blk.new2 (Below.refl _ w) _ (g := w.heap.size) rfl).alloc _).drew).bel (((Lk.Blk.new2 (Below.refl _ w) _ (g := w.heap.size) rfl).alloc _).drew).own (Nat.le_refl _) hgrow1)
                        have HOWN1 := Lk.hid hown1
                        have HX1 := Lk.hid (((Lk.Blk.new2 (Lk.belAl (Below.refl _ w) _) _ (g := w.heap.size + 1) (by simp)).drew).grown hgrow1 (by simp [Value.ownBlock]) (fun k hk => by cases hk; exact Nat.le_refl _))
                        clear hown1 hgrow1
                        refine hK.out _ _ (HB1.out) (fun hHz23q => ?_)
                        clear hK K
                        refine wpAnyH_ready (rs := [7]) (by kernel_rfl) (by simp) ?_
                        refine AllReadyH.cons (o := ?oz24q) ?hz24q (fun K hK => ?rz24q) AllReadyH.nil
                        case hz24q => (simp; rfl)
                        case rz24q =>
                          refine Lk.step_append rfl _ _ 28 rfl w.heap.size 3 i0 (.int .i64 0) 1 8 Try.underlying28 HI0.out.1 HI0.out.2.1 HI0.out.2.2.1 HI0.out.2.2.2 rfl (by decide) v1 i (Lk.numsV (l.take i)) rfl (HOWN1.out) (some ⟨w.heap.size + 1, 0, none⟩) 1 1 [.int .i64 x] rfl (fun h => nomatch h) rfl (HX1.out.lies (cs := [.int .i64 x])) (ints_oneCell .i64 [x]) (by unfold maxLen; omega) (by omega) ((HB1.out).size) ?_
                          intro v2 W2 hown2 hgrow2
                          have HB2 := Lk.hid (Lk.belOwn (size := 1) (HB1.out) (HOWN1.out) (Nat.le_refl _) hgrow2)
                          have HOWN2 := Lk.hid hown2
                          clear hown2 hgrow2
                          refine hK.out _ _ (HB2.out) (fun hHz25q => ?_)
                          clear hK K
                          refine wpAnyH_ready (rs := [11]) (by kernel_rfl) (by simp) ?_
                          refine AllReadyH.cons (o := ?oz26q) ?hz26q (fun K hK => ?rz26q) AllReadyH.nil
                          case hz26q => (simp; rfl)
                          case rz26q =>
                            refine Lk.step_append rfl _ _ 28 rfl w.heap.size 3 i0 (.int .i64 0) 1 8 Try.underlying28 HI0.out.1 HI0.out.2.1 HI0.out.2.2.1 HI0.out.2.2.2 rfl (by decide) v2 (i + 1) (Lk.numsV (l.take i) ++ [.int .i64 x]) rfl (HOWN2.out) _ (n - i) (c - i) (Lk.numsV (l.drop i)) rfl (fun h => HNIL.out.2 (by first | exact trivial | exact h)) HLEN.out.2 (HLIE.out.2.below HB2.out) (ints_oneCell .i64 _) (by unfold maxLen; omega) (by omega) (HB2.out.size) ?_
                            intro v3 W3 hown3 hgrow3
                            have HB3 := Lk.hid (Lk.belOwn (size := 1) (HB2.out) (HOWN2.out) (Nat.le_refl _) hgrow3)
                            have HOWN3 := Lk.hid hown3
                            clear hown3 hgrow3
                            refine hK.out _ _ (HB3.out) (fun hHz27q => ?_)
                            clear hK K
                            refine wpAnyH_take (i := 12) (oi := ?oz28q12) (v := ?vz28q12) ?hiz28q12 ?hsz28q12 ?hfz28q12 ?hrz28q12 ?hQz28q12 (Or.inl ⟨?hwz28q12, ?hyz28q12⟩) ?hSz28q12 ?restz28q12
                            case hiz28q12 => (simp; rfl)
                            case hsz28q12 => kernel_rfl
                            case hfz28q12 => kernel_rfl
                            case hrz28q12 => kernel_rfl
                            case hQz28q12 => exact fun _ _ _ h => h
                            case hwz28q12 => rfl
                            case hyz28q12 => (intro wq hSq; (try dsimp only at hSq); go_simp; (try with_reducible rfl))
                            case hSz28q12 => assumption
                            simp only [Act.put, List.setIfInBounds_toArray, List.set_cons_zero, List.set_cons_succ]
                            refine wpAnyH_done (by kernel_rfl) ?_ _
                            go_wp2_with fail
                            exact ⟨⟨k + 1, l.take i ++ [x] ++ l.drop i, by omega, by go_num, Mm.hid (Lk.slOwn HOWN3.out HN.out hi HB.out.size), Mm.hid (HNN.out.put HX.out HP.out), Mm.hid (Lk.belTr HB.out HB3.out)⟩, by simp [RowKit.intOf]; omega⟩
                  case rz9q =>
                    go_simp
                    refine hK.out _ _ ((Lk.Blk.new2 (Below.refl _ w) _ (g := w.heap.size) rfl).drew.bel) (fun hHz29q => ?_)
                    clear hK K
                    refine wpAnyH_ready (rs := [0]) (by kernel_rfl) (by simp) ?_
                    refine AllReadyH.cons (o := ?oz30q) ?hz30q (fun K hK => ?rz30q) AllReadyH.nil
                    case hz30q => (simp; rfl)
                    case rz30q =>
                      go_simp
                      refine hK.out _ _ ((Lk.Blk.new2 (Lk.belAl (Below.refl _ w) _) _ (g := w.heap.size + 1) (by simp)).drew.bel) (fun hHz31q => ?_)
                      clear hK K
                      refine wpAnyH_ready (rs := [4]) (by kernel_rfl) (by simp) ?_
                      refine AllReadyH.cons (o := ?oz32q) ?hz32q (fun K hK => ?rz32q) AllReadyH.nil
                      case hz32q => (simp; rfl)
                      case rz32q =>
                        refine Lk.step_append rfl _ _ 28 rfl w.heap.size 3 i0 (.int .i64 0) 1 8 Try.underlying28 HI0.out.1 HI0.out.2.1 HI0.out.2.2.1 HI0.out.2.2.2 rfl (by decide) (.slice (some ⟨w.heap.size + 1, 0, none⟩) 0 0) 0 [] rfl (((Lk.Blk.new2 (Lk.belAl (Below.refl _ w) _) _ (g := w.heap.size + 1) (by simp)).drew).own) _ i c (Lk.numsV (l.take i)) rfl (fun h => HNIL.out.1 (by first | exact trivial | exact h)) HLEN.out.1 (HLIE.out.1.below ((Lk.Blk.new2 (Lk.belAl (Below.refl _ w) _) _ (g := w.heap.size + 1) (by simp)).drew).bel) (ints_oneCell .i64 _) (by unfold maxLen; omega) (by omega) (((Lk.Blk.new2 (Lk.belAl (Below.refl _ w) _) _ (g := w.heap.size + 1) (by simp)).drew).bel.size) ?_
                        intro v1 W1 hown1 hgrow1
                        rw [List.nil_append, Nat.zero_add] at hown1
                        have HB1 := Lk.hid (Lk.belOwn (size := 1) ((Lk.Blk.new2 (Lk.belAl (Below.refl _ w) _) _ (g := w.heap.size + 1) (by simp)).drew).bel ((Lk.Blk.new2 (Lk.belAl (Below.refl _ w) _) _ (g := w.heap.size + 1) (by simp)).drew).own (Nat.le_refl _) hgrow1)
                        have HOWN1 := Lk.hid hown1
                        have HX1 := Lk.hid ((((Lk.Blk.new2 (Below.refl _ w) _ (g := w.heap.size) rfl).alloc _).drew).grown hgrow1 (by simp [Value.ownBlock]) (fun k hk => by cases hk; simp))
                        clear hown1 hgrow1
                        refine hK.out _ _ (HB1.out) (fun hHz33q => ?_)
                        clear hK K
                        refine wpAnyH_ready (rs := [7]) (by kernel_rfl) (by simp) ?_
                        refine AllReadyH.cons (o := ?oz34q) ?hz34q (fun K hK => ?rz34q) AllReadyH.nil
                        case hz34q => (simp; rfl)
                        case rz34q =>
                          refine Lk.step_append rfl _ _ 28 rfl w.heap.size 3 i0 (.int .i64 0) 1 8 Try.underlying28 HI0.out.1 HI0.out.2.1 HI0.out.2.2.1 HI0.out.2.2.2 rfl (by decide) v1 i (Lk.numsV (l.take i)) rfl (HOWN1.out) (some ⟨w.heap.size, 0, none⟩) 1 1 [.int .i64 x] rfl (fun h => nomatch h) rfl (HX1.out.lies (cs := [.int .i64 x])) (ints_oneCell .i64 [x]) (by unfold maxLen; omega) (by omega) ((HB1.out).size) ?_
                          intro v2 W2 hown2 hgrow2
                          have HB2 := Lk.hid (Lk.belOwn (size := 1) (HB1.out) (HOWN1.out) (Nat.le_refl _) hgrow2)
                          have HOWN2 := Lk.hid hown2
                          clear hown2 hgrow2
                          refine hK.out _ _ (HB2.out) (fun hHz35q => ?_)
                          clear hK K
                          refine wpAnyH_ready (rs := [11]) (by kernel_rfl) (by simp) ?_
                          refine AllReadyH.cons (o := ?oz36q) ?hz36q (fun K hK => ?rz36q) AllReadyH.nil
                          case hz36q => (simp; rfl)
                          case rz36q =>
                            refine Lk.step_append rfl _ _ 28 rfl w.heap.size 3 i0 (.int .i64 0) 1 8 Try.underlying28 HI0.out.1 HI0.out.2.1 HI0.out.2.2.1 HI0.out.2.2.2 rfl (by decide) v2 (i + 1) (Lk.numsV (l.take i) ++ [.int .i64 x]) rfl (HOWN2.out) _ (n - i) (c - i) (Lk.numsV (l.drop i)) rfl (fun h => HNIL.out.2 (by first | exact trivial | exact h)) HLEN.out.2 (HLIE.out.2.below HB2.out) (ints_oneCell .i64 _) (by unfold maxLen; omega) (by omega) (HB2.out.size) ?_
                            intro v3 W3 hown3 hgrow3
                            have HB3 := Lk.hid (Lk.belOwn (size := 1) (HB2.out) (HOWN2.out) (Nat.le_refl _) hgrow3)
                            have HOWN3 := Lk.hid hown3
                            clear hown3 hgrow3
                            refine hK.out _ _ (HB3.out) (fun hHz37q => ?_)
                            clear hK K
                            refine wpAnyH_take (i := 12) (oi := ?oz38q12) (v := ?vz38q12) ?hiz38q12 ?hsz38q12 ?hfz38q12 ?hrz38q12 ?hQz38q12 (Or.inl ⟨?hwz38q12, ?hyz38q12⟩) ?hSz38q12 ?restz38q12
                            case hiz38q12 => (simp; rfl)
                            case hsz38q12 => kernel_rfl
                            case hfz38q12 => kernel_rfl
                            case hrz38q12 => kernel_rfl
                            case hQz38q12 => exact fun _ _ _ h => h
                            case hwz38q12 => rfl
                            case hyz38q12 => (intro wq hSq; (try dsimp only at hSq); go_simp; (try with_reducible rfl))
                            case hSz38q12 => assumption
                            simp only [Act.put, List.setIfInBounds_toArray, List.set_cons_zero, List.set_cons_succ]
                            refine wpAnyH_done (by kernel_rfl) ?_ _
                            go_wp2_with fail
                            exact ⟨⟨k + 1, l.take i ++ [x] ++ l.drop i, by omega, by go_num, Mm.hid (Lk.slOwn HOWN3.out HN.out hi HB.out.size), Mm.hid (HNN.out.put HX.out HP.out), Mm.hid (Lk.belTr HB.out HB3.out)⟩, by simp [RowKit.intOf]; omega⟩
              · go_wp2_with fail
                refine ⟨⟨i + 1, by omega, by go_num, trivial, fun j z hj hz => ?_⟩, by simp [RowKit.intOf]; omega⟩
                by_cases e : j = i
                · subst e
                  rw [HA.out] at hz
                  cases hz
                  simpa using ht
                · exact HI.out j z (by omega) hz
            · have geq : ((i : Int) == (n : Int)) = true := by simp; omega
              rcases p with _ | ad
              · have HP : Hid (Lk.PutR l x (l.take i ++ [x] ++ l.drop i)) := Lk.put_new (by rw [← HN.out]; exact hi) HI.out (by intro a2 h2; have := (List.getElem?_eq_some_iff.1 h2).1; rw [← HN.out] at this; omega)
                obtain ⟨HNIL, HLEN, HLIE⟩ : Hid _ ∧ Hid _ ∧ Hid _ := Lk.put_facts0 hS.out HN.out hi
                have hcap := hS.out.cap
                have gc0 : (0 : Int) ≤ (i : Int) := by omega
                have gc1 : (i : Int) ≤ (c : Int) := by omega
                have gc2 : (i : Int) ≤ (n : Int) := by omega
                have gc3 : (n : Int) ≤ (c : Int) := by omega
                go_wp2_with fail
                refine wp_region_held_drew (S := fun w' => Below w.heap.size w w') (by kernel_rfl) ((Below.refl _ _).drew) (fun hH => ?_)
                refine wpAnyH_take (i := 1) (oi := ?oy1q1) (v := ?vy1q1) ?hiy1q1 ?hsy1q1 ?hfy1q1 ?hry1q1 ?hQy1q1 (Or.inl ⟨?hwy1q1, ?hyy1q1⟩) ?hSy1q1 ?resty1q1
                case hiy1q1 => (simp; rfl)
                case hsy1q1 => kernel_rfl
                case hfy1q1 => kernel_rfl
                case hry1q1 => kernel_rfl
                case hQy1q1 => exact fun _ _ _ h => h
                case hwy1q1 => rfl
                case hyy1q1 => (intro wq hSq; (try dsimp only at hSq); go_simp; (try with_reducible rfl))
                case hSy1q1 => assumption
                simp only [Act.put, List.setIfInBounds_toArray, List.set_cons_zero, List.set_cons_succ]
                refine wpAnyH_take (i := 2) (oi := ?oy2q2) (v := ?vy2q2) ?hiy2q2 ?hsy2q2 ?hfy2q2 ?hry2q2 ?hQy2q2 (Or.inl ⟨?hwy2q2, ?hyy2q2⟩) ?hSy2q2 ?resty2q2
                case hiy2q2 => (simp; rfl)
                case hsy2q2 => kernel_rfl
                case hfy2q2 => kernel_rfl
                case hry2q2 => kernel_rfl
                case hQy2q2 => exact fun _ _ _ h => h
                case hwy2q2 => rfl
                case hyy2q2 => (intro wq hSq; (try dsimp only at hSq); go_simp; (try with_reducible rfl))
                case hSy2q2 => assumption
                simp only [Act.put, List.setIfInBounds_toArray, List.set_cons_zero, List.set_cons_succ]
                refine wpAnyH_take (i := 3) (oi := ?oy3q3) (v := ?vy3q3) ?hiy3q3 ?hsy3q3 ?hfy3q3 ?hry3q3 ?hQy3q3 (Or.inl ⟨?hwy3q3, ?hyy3q3⟩) ?hSy3q3 ?resty3q3
                case hiy3q3 => (simp; rfl)
                case hsy3q3 => kernel_rfl
                case hfy3q3 => kernel_rfl
                case hry3q3 => kernel_rfl
                case hQy3q3 => exact fun _ _ _ h => h
                case hwy3q3 => rfl
                case hyy3q3 => (intro wq hSq; (try dsimp only at hSq); go_simp; (try with_reducible rfl))
                case hSy3q3 => assumption
                simp only [Act.put, List.setIfInBounds_toArray, List.set_cons_zero, List.set_cons_succ]
                refine wpAnyH_take (i := 5) (oi := ?oy4q5) (v := ?vy4q5) ?hiy4q5 ?hsy4q5 ?hfy4q5 ?hry4q5 ?hQy4q5 (Or.inl ⟨?hwy4q5, ?hyy4q5⟩) ?hSy4q5 ?resty4q5
                case hiy4q5 => (simp; rfl)
                case hsy4q5 => kernel_rfl
                case hfy4q5 => kernel_rfl
                case hry4q5 => kernel_rfl
                case hQy4q5 => exact fun _ _ _ h => h
                case hwy4q5 => rfl
                case hyy4q5 => (intro wq hSq; (try dsimp only at hSq); go_simp; (try with_reducible rfl))
                case hSy4q5 => assumption
                simp only [Act.put, List.setIfInBounds_toArray, List.set_cons_zero, List.set_cons_succ]
                refine wpAnyH_take (i := 8) (oi := ?oy5q8) (v := ?vy5q8) ?hiy5q8 ?hsy5q8 ?hfy5q8 ?hry5q8 ?hQy5q8 (Or.inl ⟨?hwy5q8, ?hyy5q8⟩) ?hSy5q8 ?resty5q8
                case hiy5q8 => (simp; rfl)
                case hsy5q8 => kernel_rfl
                case hfy5q8 => kernel_rfl
                case hry5q8 => kernel_rfl
                case hQy5q8 => exact fun _ _ _ h => h
                case hwy5q8 => rfl
                case hyy5q8 => (intro wq hSq; (try dsimp only at hSq); go_simp; (try with_reducible rfl))
                case hSy5q8 => assumption
                simp only [Act.put, List.setIfInBounds_toArray, List.set_cons_zero, List.set_cons_succ]
                refine wpAnyH_take (i := 9) (oi := ?oy6q9) (v := ?vy6q9) ?hiy6q9 ?hsy6q9 ?hfy6q9 ?hry6q9 ?hQy6q9 (Or.inl ⟨?hwy6q9, ?hyy6q9⟩) ?hSy6q9 ?resty6q9
                case hiy6q9 => (simp; rfl)
                case hsy6q9 => kernel_rfl
                case hfy6q9 => kernel_rfl
                case hry6q9 => kernel_rfl
                case hQy6q9 => exact fun _ _ _ h => h
                case hwy6q9 => rfl
                case hyy6q9 => (intro wq hSq; (try dsimp only at hSq); go_simp; (try with_reducible rfl))
                case hSy6q9 => assumption
                simp only [Act.put, List.setIfInBounds_toArray, List.set_cons_zero, List.set_cons_succ]
                refine wpAnyH_take (i := 10) (oi := ?oy7q10) (v := ?vy7q10) ?hiy7q10 ?hsy7q10 ?hfy7q10 ?hry7q10 ?hQy7q10 (Or.inl ⟨?hwy7q10, ?hyy7q10⟩) ?hSy7q10 ?resty7q10
                case hiy7q10 => (simp; rfl)
                case hsy7q10 => kernel_rfl
                case hfy7q10 => kernel_rfl
                case hry7q10 => kernel_rfl
                case hQy7q10 => exact fun _ _ _ h => h
                case hwy7q10 => rfl
                case hyy7q10 => (intro wq hSq; (try dsimp only at hSq); go_simp; (try with_reducible rfl))
                case hSy7q10 => assumption
                simp only [Act.put, List.setIfInBounds_toArray, List.set_cons_zero, List.set_cons_succ]
                refine wpAnyH_ready (rs := [0, 6]) (by kernel_rfl) (by simp) ?_
                refine AllReadyH.cons (o := ?oy8q) ?hy8q (fun K hK => ?ry8q) (AllReadyH.cons (o := ?oy9q) ?hy9q (fun K hK => ?ry9q) AllReadyH.nil)
                case hy8q => (simp; rfl)
                case hy9q => (simp; rfl)
                case ry8q =>
                  go_simp
                  refine hK.out _ _ ((Lk.Blk.new2 (Below.refl _ w) _ (g := w.heap.size) rfl).drew.bel) (fun hHy10q => ?_)
                  clear hK K
                  refine wpAnyH_ready (rs := [4, 6]) (by kernel_rfl) (by simp) ?_
                  refine AllReadyH.cons (o := ?oy11q) ?hy11q (fun K hK => ?ry11q) (AllReadyH.cons (o := ?oy12q) ?hy12q (fun K hK => ?ry12q) AllReadyH.nil)
                  case hy11q => (simp; rfl)
                  case hy12q => (simp; rfl)
                  case ry11q =>
                    refine Lk.step_append rfl _ _ 28 rfl w.heap.size 3 i0 (.int .i64 0) 1 8 Try.underlying28 HI0.out.1 HI0.out.2.1 HI0.out.2.2.1 HI0.out.2.2.2 rfl (by decide) (.slice (some ⟨w.heap.size, 0, none⟩) 0 0) 0 [] rfl (((Lk.Blk.new2 (Below.refl _ w) _ (g := w.heap.size) rfl).drew).own) _ i c (Lk.numsV (l.take i)) rfl (fun h => HNIL.out.1 (by first | exact trivial | exact h)) HLEN.out.1 (HLIE.out.1.below ((Lk.Blk.new2 (Below.refl _ w) _ (g := w.heap.size) rfl).drew).bel) (ints_oneCell .i64 _) (by unfold maxLen; omega) (by omega) (((Lk.Blk.new2 (Below.refl _ w) _ (g := w.heap.size) rfl).drew).bel.size) ?_
                    intro v1 W1 hown1 hgrow1
                    rw [List.nil_append, Nat.zero_add] at hown1
                    have HB1 := Lk.hid (Lk.belOwn (size := 1) ((Lk.Blk.new2 (Below.refl _ w) _ (g := w.heap.size) rfl).drew).bel ((Lk.Blk.new2 (Below.refl _ w) _ (g := w.heap.size) rfl).drew).own (Nat.le_refl _) hgrow1)
                    have HOWN1 := Lk.hid hown1
                    clear hown1 hgrow1
                    refine hK.out _ _ (HB1.out) (fun hHy13q => ?_)
                    clear hK K
                    refine wpAnyH_ready (rs := [6]) (by kernel_rfl) (by simp) ?_
                    refine AllReadyH.cons (o := ?oy14q) ?hy14q (fun K hK => ?ry14q) AllReadyH.nil
                    case hy14q => (simp; rfl)
                    case ry14q =>
                      go_simp
                      refine hK.out _ _ (Lk.belAl HB1.out _) (fun hHy15q => ?_)
                      clear hK K
                      refine wpAnyH_ready (rs := [7]) (by kernel_rfl) (by simp) ?_
                      refine AllReadyH.cons (o := ?oy16q) ?hy16q (fun K hK => ?ry16q) AllReadyH.nil
                      case hy16q => (simp; rfl)
                      case ry16q =>
                        refine Lk.step_append rfl _ _ 28 rfl w.heap.size 3 i0 (.int .i64 0) 1 8 Try.underlying28 HI0.out.1 HI0.out.2.1 HI0.out.2.2.1 HI0.out.2.2.2 rfl (by decide) v1 i (Lk.numsV (l.take i)) rfl (HOWN1.out.alloc _) (some ⟨W1.heap.size, 0, none⟩) 1 1 [.int .i64 x] rfl (fun h => nomatch h) rfl ((Lk.Blk.new HB1.out _).lies (cs := [.int .i64 x])) (ints_oneCell .i64 [x]) (by unfold maxLen; omega) (by omega) ((Lk.belAl HB1.out _).size) ?_
                        intro v2 W2 hown2 hgrow2
                        have HB2 := Lk.hid (Lk.belOwn (size := 1) (Lk.belAl HB1.out _) (HOWN1.out.alloc _) (Nat.le_refl _) hgrow2)
                        have HOWN2 := Lk.hid hown2
                        clear hown2 hgrow2
                        refine hK.out _ _ (HB2.out) (fun hHy17q => ?_)
                        clear hK K
                        refine wpAnyH_ready (rs := [11]) (by kernel_rfl) (by simp) ?_
                        refine AllReadyH.cons (o := ?oy18q) ?hy18q (fun K hK => ?ry18q) AllReadyH.nil
                        case hy18q => (simp; rfl)
                        case ry18q =>
                          refine Lk.step_append rfl _ _ 28 rfl w.heap.size 3 i0 (.int .i64 0) 1 8 Try.underlying28 HI0.out.1 HI0.out.2.1 HI0.out.2.2.1 HI0.out.2.2.2 rfl (by decide) v2 (i + 1) (Lk.numsV (l.take i) ++ [.int .i64 x]) rfl (HOWN2.out) _ (n - i) (c - i) (Lk.numsV (l.drop i)) rfl (fun h => HNIL.out.2 (by first | exact trivial | exact h)) HLEN.out.2 (HLIE.out.2.below HB2.out) (ints_oneCell .i64 _) (by unfold maxLen; omega) (by omega) (HB2.out.size) ?_
                          intro v3 W3 hown3 hgrow3
                          have HB3 := Lk.hid (Lk.belOwn (size := 1) (HB2.out) (HOWN2.out) (Nat.le_refl _) hgrow3)
                          have HOWN3 := Lk.hid hown3
                          clear hown3 hgrow3
                          refine hK.out _ _ (HB3.out) (fun hHy19q => ?_)
                          clear hK K
                          refine wpAnyH_take (i := 12) (oi := ?oy20q12) (v := ?vy20q12) ?hiy20q12 ?hsy20q12 ?hfy20q12 ?hry20q12 ?hQy20q12 (Or.inl ⟨?hwy20q12, ?hyy20q12⟩) ?hSy20q12 ?resty20q12
                          case hiy20q12 => (simp; rfl)
                          case hsy20q12 => kernel_rfl
                          case hfy20q12 => kernel_rfl
                          case hry20q12 => kernel_rfl
                          case hQy20q12 => exact fun _ _ _ h => h
                          case hwy20q12 => rfl
                          case hyy20q12 => (intro wq hSq; (try dsimp only at hSq); go_simp; (try with_reducible rfl))
                          case hSy20q12 => assumption
                          simp only [Act.put, List.setIfInBounds_toArray, List.set_cons_zero, List.set_cons_succ]
                          refine wpAnyH_done (by kernel_rfl) ?_ _
                          go_wp2_with fail
                          exact ⟨⟨k + 1, l.take i ++ [x] ++ l.drop i, by omega, by go_num, Mm.hid (Lk.slOwn HOWN3.out HN.out hi HB.out.size), Mm.hid (HNN.out.put HX.out HP.out), Mm.hid (Lk.belTr HB.out HB3.out)⟩, by simp [RowKit.intOf]; omega⟩
                  case ry12q =>
                    go_simp
                    refine hK.out _ _ ((Lk.Blk.new2 (Lk.belAl (Below.refl _ w) _) _ (g := w.heap.size + 1) (by simp)).drew.bel) (fun hHy21q => ?_)
                    clear hK K
                    refine wpAnyH_ready (rs := [4]) (by kernel_rfl) (by simp) ?_
                    refine AllReadyH.cons (o := ?oy22q) ?hy22q (fun K hK => ?ry22q) AllReadyH.nil
                    case hy22q => (simp; rfl)
                    case ry22q =>
                      refine Lk.step_append rfl _ _ 28 rfl w.heap.size 3 i0 (.int .i64 0) 1 8 Try.underlying28 HI0.out.1 HI0.out.2.1 HI0.out.2.2.1 HI0.out.2.2.2 rfl (by decide) (.slice (some ⟨w.heap.size, 0, none⟩) 0 0) 0 [] rfl ((((Lk.Blk.new2 (Below.refl _ w) _ (g := w.heap.size) rfl).alloc _).drew).own) _ i c (Lk.numsV (l.take i)) rfl (fun h => HNIL.out.1 (by first | exact trivial | exact h)) HLEN.out.1 (HLIE.out.1.below (((Lk.Blk.new2 (Below.refl _ w) _ (g := w.heap.size) rfl).alloc _).drew).bel) (ints_oneCell .i64 _) (by unfold maxLen; omega) (by omega) ((((Lk.Blk.new2 (Below.refl _ w) _ (g := w.heap.size) rfl).alloc _).drew).bel.size) ?_
                      intro v1 W1 hown1 hgrow1
                      rw [List.nil_append, Nat.zero_add] at hown1
                      have HB1 := Lk.hid (Lk.belOwn (size := 1) (((Lk.Blk.new2 (Below.refl _ w) _ (g := w.heap.size) rfl).alloc _).drew).bel (((Lk.Blk.new2 (Below.refl _ w) _ (g := w.heap.size) rfl).alloc _).drew).own (Nat.le_refl _) hgrow1)
                      have HOWN1 := Lk.hid hown1
                      have HX1 := Lk.hid (((Lk.Blk.new2 (Lk.belAl (Below.refl _ w) _) _ (g := w.heap.size + 1) (by simp)).drew).grown hgrow1 (by simp [Value.ownBlock]) (fun k hk => by cases hk; exact Nat.le_refl _))
                      clear hown1 hgrow1
                      refine hK.out _ _ (HB1.out) (fun hHy23q => ?_)
                      clear hK K
                      refine wpAnyH_ready (rs := [7]) (by kernel_rfl) (by simp) ?_
                      refine AllReadyH.cons (o := ?oy24q) ?hy24q (fun K hK => ?ry24q) AllReadyH.nil
                      case hy24q => (simp; rfl)
                      case ry24q =>
                        refine Lk.step_append rfl _ _ 28 rfl w.heap.size 3 i0 (.int .i64 0) 1 8 Try.underlying28 HI0.out.1 HI0.out.2.1 HI0.out.2.2.1 HI0.out.2.2.2 rfl (by decide) v1 i (Lk.numsV (l.take i)) rfl (HOWN1.out) (some ⟨w.heap.size + 1, 0, none⟩) 1 1 [.int .i64 x] rfl (fun h => nomatch h) rfl (HX1.out.lies (cs := [.int .i64 x])) (ints_oneCell .i64 [x]) (by unfold maxLen; omega) (by omega) ((HB1.out).size) ?_
                        intro v2 W2 hown2 hgrow2
                        have HB2 := Lk.hid (Lk.belOwn (size := 1) (HB1.out) (HOWN1.out) (Nat.le_refl _) hgrow2)
                        have HOWN2 := Lk.hid hown2
                        clear hown2 hgrow2
                        refine hK.out _ _ (HB2.out) (fun hHy25q => ?_)
                        clear hK K
                        refine wpAnyH_ready (rs := [11]) (by kernel_rfl) (by simp) ?_
                        refine AllReadyH.cons (o := ?oy26q) ?hy26q (fun K hK => ?ry26q) AllReadyH.nil
                        case hy26q => (simp; rfl)
                        case ry26q =>
                          refine Lk.step_append rfl _ _ 28 rfl w.heap.size 3 i0 (.int .i64 0) 1 8 Try.underlying28 HI0.out.1 HI0.out.2.1 HI0.out.2.2.1 HI0.out.2.2.2 rfl (by decide) v2 (i + 1) (Lk.numsV (l.take i) ++ [.int .i64 x]) rfl (HOWN2.out) _ (n - i) (c - i) (Lk.numsV (l.drop i)) rfl (fun h => HNIL.out.2 (by first | exact trivial | exact h)) HLEN.out.2 (HLIE.out.2.below HB2.out) (ints_oneCell .i64 _) (by unfold maxLen; omega) (by omega) (HB2.out.size) ?_
                          intro v3 W3 hown3 hgrow3
                          have HB3 := Lk.hid (Lk.belOwn (size := 1) (HB2.out) (HOWN2.out) (Nat.le_refl _) hgrow3)
                          have HOWN3 := Lk.hid hown3
                          clear hown3 hgrow3
                          refine hK.out _ _ (HB3.out) (fun hHy27q => ?_)
                          clear hK K
                          refine wpAnyH_take (i := 12) (oi := ?oy28q12) (v := ?vy28q12) ?hiy28q12 ?hsy28q12 ?hfy28q12 ?hry28q12 ?hQy28q12 (Or.inl ⟨?hwy28q12, ?hyy28q12⟩) ?hSy28q12 ?resty28q12
                          case hiy28q12 => (simp; rfl)
                          case hsy28q12 => kernel_rfl
                          case hfy28q12 => kernel_rfl
                          case hry28q12 => kernel_rfl
                          case hQy28q12 => exact fun _ _ _ h => h
                          case hwy28q12 => rfl
                          case hyy28q12 => (intro wq hSq; (try dsimp only at hSq); go_simp; (try with_reducible rfl))
                          case hSy28q12 => assumption
                          simp only [Act.put, List.setIfInBounds_toArray, List.set_cons_zero, List.set_cons_succ]
                          refine wpAnyH_done (by kernel_rfl) ?_ _
                          go_wp2_with fail
                          exact ⟨⟨k + 1, l.take i ++ [x] ++ l.drop i, by omega, by go_num, Mm.hid (Lk.slOwn HOWN3.out HN.out hi HB.out.size), Mm.hid (HNN.out.put HX.out HP.out), Mm.hid (Lk.belTr HB.out HB3.out)⟩, by simp [RowKit.intOf]; omega⟩
                case ry9q =>
                  go_simp
                  refine hK.out _ _ ((Lk.Blk.new2 (Below.refl _ w) _ (g := w.heap.size) rfl).drew.bel) (fun hHy29q => ?_)
                  clear hK K
                  refine wpAnyH_ready (rs := [0]) (by kernel_rfl) (by simp) ?_
                  refine AllReadyH.cons (o := ?oy30q) ?hy30q (fun K hK => ?ry30q) AllReadyH.nil
                  case hy30q => (simp; rfl)
                  case ry30q =>
                    go_simp
                    refine hK.out _ _ ((Lk.Blk.new2 (Lk.belAl (Below.refl _ w) _) _ (g := w.heap.size + 1) (by simp)).drew.bel) (fun hHy31q => ?_)
                    clear hK K
                    refine wpAnyH_ready (rs := [4]) (by kernel_rfl) (by simp) ?_
                    refine AllReadyH.cons (o := ?oy32q) ?hy32q (fun K hK => ?ry32q) AllReadyH.nil
                    case hy32q => (simp; rfl)
                    case ry32q =>
                      refine Lk.step_append rfl _ _ 28 rfl w.heap.size 3 i0 (.int .i64 0) 1 8 Try.underlying28 HI0.out.1 HI0.out.2.1 HI0.out.2.2.1 HI0.out.2.2.2 rfl (by decide) (.slice (some ⟨w.heap.size + 1, 0, none⟩) 0 0) 0 [] rfl (((Lk.Blk.new2 (Lk.belAl (Below.refl _ w) _) _ (g := w.heap.size + 1) (by simp)).drew).own) _ i c (Lk.numsV (l.take i)) rfl (fun h => HNIL.out.1 (by first | exact trivial | exact h)) HLEN.out.1 (HLIE.out.1.below ((Lk.Blk.new2 (Lk.belAl (Below.refl _ w) _) _ (g := w.heap.size + 1) (by simp)).drew).bel) (ints_oneCell .i64 _) (by unfold maxLen; omega) (by omega) (((Lk.Blk.new2 (Lk.belAl (Below.refl _ w) _) _ (g := w.heap.size + 1) (by simp)).drew).bel.size) ?_
                      intro v1 W1 hown1 hgrow1
                      rw [List.nil_append, Nat.zero_add] at hown1
                      have HB1 := Lk.hid (Lk.belOwn (size := 1) ((Lk.Blk.new2 (Lk.belAl (Below.refl _ w) _) _ (g := w.heap.size + 1) (by simp)).drew).bel ((Lk.Blk.new2 (Lk.belAl (Below.refl _ w) _) _ (g := w.heap.size + 1) (by simp)).drew).own (Nat.le_refl _) hgrow1)
                      have HOWN1 := Lk.hid hown1
                      have HX1 := Lk.hid ((((Lk.Blk.new2 (Below.refl _ w) _ (g := w.heap.size) rfl).alloc _).drew).grown hgrow1 (by simp [Value.ownBlock]) (fun k hk => by cases hk; simp))
                      clear hown1 hgrow1
                      refine hK.out _ _ (HB1.out) (fun hHy33q => ?_)
                      clear hK K
                      refine wpAnyH_ready (rs := [7]) (by kernel_rfl) (by simp) ?_
                      refine AllReadyH.cons (o := ?oy34q) ?hy34q (fun K hK => ?ry34q) AllReadyH.nil
                      case hy34q => (simp; rfl)
                      case ry34q =>
                        refine Lk.step_append rfl _ _ 28 rfl w.heap.size 3 i0 (.int .i64 0) 1 8 Try.underlying28 HI0.out.1 HI0.out.2.1 HI0.out.2.2.1 HI0.out.2.2.2 rfl (by decide) v1 i (Lk.numsV (l.take i)) rfl (HOWN1.out) (some ⟨w.heap.size, 0, none⟩) 1 1 [.int .i64 x] rfl (fun h => nomatch h) rfl (HX1.out.lies (cs := [.int .i64 x])) (ints_oneCell .i64 [x]) (by unfold maxLen; omega) (by omega) ((HB1.out).size) ?_
                        intro v2 W2 hown2 hgrow2
                        have HB2 := Lk.hid (Lk.belOwn (size := 1) (HB1.out) (HOWN1.out) (Nat.le_refl _) hgrow2)
                        have HOWN2 := Lk.hid hown2
                        clear hown2 hgrow2
                        refine hK.out _ _ (HB2.out) (fun hHy35q => ?_)
                        clear hK K
                        refine wpAnyH_ready (rs := [11]) (by kernel_rfl) (by simp) ?_
                        refine AllReadyH.cons (o := ?oy36q) ?hy36q (fun K hK => ?ry36q) AllReadyH.nil
                        case hy36q => (simp; rfl)
                        case ry36q =>
                          refine Lk.step_append rfl _ _ 28 rfl w.heap.size 3 i0 (.int .i64 0) 1 8 Try.underlying28 HI0.out.1 HI0.out.2.1 HI0.out.2.2.1 HI0.out.2.2.2 rfl (by decide) v2 (i + 1) (Lk.numsV (l.take i) ++ [.int .i64 x]) rfl (HOWN2.out) _ (n - i) (c - i) (Lk.numsV (l.drop i)) rfl (fun h => HNIL.out.2 (by first | exact trivial | exact h)) HLEN.out.2 (HLIE.out.2.below HB2.out) (ints_oneCell .i64 _) (by unfold maxLen; omega) (by omega) (HB2.out.size) ?_
                          intro v3 W3 hown3 hgrow3
                          have HB3 := Lk.hid (Lk.belOwn (size := 1) (HB2.out) (HOWN2.out) (Nat.le_refl _) hgrow3)
                          have HOWN3 := Lk.hid hown3
                          clear hown3 hgrow3
                          refine hK.out _ _ (HB3.out) (fun hHy37q => ?_)
                          clear hK K
                          refine wpAnyH_take (i := 12) (oi := ?oy38q12) (v := ?vy38q12) ?hiy38q12 ?hsy38q12 ?hfy38q12 ?hry38q12 ?hQy38q12 (Or.inl ⟨?hwy38q12, ?hyy38q12⟩) ?hSy38q12 ?resty38q12
                          case hiy38q12 => (simp; rfl)
                          case hsy38q12 => kernel_rfl
                          case hfy38q12 => kernel_rfl
                          case hry38q12 => kernel_rfl
                          case hQy38q12 => exact fun _ _ _ h => h
                          case hwy38q12 => rfl
                          case hyy38q12 => (intro wq hSq; (try dsimp only at hSq); go_simp; (try with_reducible rfl))
                          case hSy38q12 => assumption
                          simp only [Act.put, List.setIfInBounds_toArray, List.set_cons_zero, List.set_cons_succ]
                          refine wpAnyH_done (by kernel_rfl) ?_ _
                          go_wp2_with fail
                          exact ⟨⟨k + 1, l.take i ++ [x] ++ l.drop i, by omega, by go_num, Mm.hid (Lk.slOwn HOWN3.out HN.out hi HB.out.size), Mm.hid (HNN.out.put HX.out HP.out), Mm.hid (Lk.belTr HB.out HB3.out)⟩, by simp [RowKit.intOf]; omega⟩
              · obtain ⟨b3, rfl⟩ := hS.out.zero ad rfl
                have HP : Hid (Lk.PutR l x (l.take i ++ [x] ++ l.drop i)) := Lk.put_new (by rw [← HN.out]; exact hi) HI.out (by intro a2 h2; have := (List.getElem?_eq_some_iff.1 h2).1; rw [← HN.out] at this; omega)
                obtain ⟨HNIL, HLEN, HLIE⟩ : Hid _ ∧ Hid _ ∧ Hid _ := Lk.put_facts hS.out HN.out hi
                have hcap := hS.out.cap
                have gc0 : (0 : Int) ≤ (i : Int) := by omega
                have gc1 : (i : Int) ≤ (c : Int) := by omega
                have gc2 : (i : Int) ≤ (n : Int) := by omega
                have gc3 : (n : Int) ≤ (c : Int) := by omega
                go_wp2_with fail
                refine wp_region_held_drew (S := fun w' => Below w.heap.size w w') (by kernel_rfl) ((Below.refl _ _).drew) (fun hH => ?_)
                refine wpAnyH_take (i := 1) (oi := ?ox1q1) (v := ?vx1q1) ?hix1q1 ?hsx1q1 ?hfx1q1 ?hrx1q1 ?hQx1q1 (Or.inl ⟨?hwx1q1, ?hyx1q1⟩) ?hSx1q1 ?restx1q1
                case hix1q1 => (simp; rfl)
                case hsx1q1 => kernel_rfl
                case hfx1q1 => kernel_rfl
                case hrx1q1 => kernel_rfl
                case hQx1q1 => exact fun _ _ _ h => h
                case hwx1q1 => rfl
                case hyx1q1 => (intro wq hSq; (try dsimp only at hSq); go_simp; (try with_reducible rfl))
                case hSx1q1 => assumption
                simp only [Act.put, List.setIfInBounds_toArray, List.set_cons_zero, List.set_cons_succ]
                refine wpAnyH_take (i := 2) (oi := ?ox2q2) (v := ?vx2q2) ?hix2q2 ?hsx2q2 ?hfx2q2 ?hrx2q2 ?hQx2q2 (Or.inl ⟨?hwx2q2, ?hyx2q2⟩) ?hSx2q2 ?restx2q2
                case hix2q2 => (simp; rfl)
                case hsx2q2 => kernel_rfl
                case hfx2q2 => kernel_rfl
                case hrx2q2 => kernel_rfl
                case hQx2q2 => exact fun _ _ _ h => h
                case hwx2q2 => rfl
                case hyx2q2 => (intro wq hSq; (try dsimp only at hSq); go_simp; (try with_reducible rfl))
                case hSx2q2 => assumption
                simp only [Act.put, List.setIfInBounds_toArray, List.set_cons_zero, List.set_cons_succ]
                refine wpAnyH_take (i := 3) (oi := ?ox3q3) (v := ?vx3q3) ?hix3q3 ?hsx3q3 ?hfx3q3 ?hrx3q3 ?hQx3q3 (Or.inl ⟨?hwx3q3, ?hyx3q3⟩) ?hSx3q3 ?restx3q3
                case hix3q3 => (simp; rfl)
                case hsx3q3 => kernel_rfl
                case hfx3q3 => kernel_rfl
                case hrx3q3 => kernel_rfl
                case hQx3q3 => exact fun _ _ _ h => h
                case hwx3q3 => rfl
                case hyx3q3 => (intro wq hSq; (try dsimp only at hSq); go_simp; (try with_reducible rfl))
                case hSx3q3 => assumption
                simp only [Act.put, List.setIfInBounds_toArray, List.set_cons_zero, List.set_cons_succ]
                refine wpAnyH_take (i := 5) (oi := ?ox4q5) (v := ?vx4q5) ?hix4q5 ?hsx4q5 ?hfx4q5 ?hrx4q5 ?hQx4q5 (Or.inl ⟨?hwx4q5, ?hyx4q5⟩) ?hSx4q5 ?restx4q5
                case hix4q5 => (simp; rfl)
                case hsx4q5 => kernel_rfl
                case hfx4q5 => kernel_rfl
                case hrx4q5 => kernel_rfl
                case hQx4q5 => exact fun _ _ _ h => h
                case hwx4q5 => rfl
                case hyx4q5 => (intro wq hSq; (try dsimp only at hSq); go_simp; (try with_reducible rfl))
                case hSx4q5 => assumption
                simp only [Act.put, List.setIfInBounds_toArray, List.set_cons_zero, List.set_cons_succ]
                refine wpAnyH_take (i := 8) (oi := ?ox5q8) (v := ?vx5q8) ?hix5q8 ?hsx5q8 ?hfx5q8 ?hrx5q8 ?hQx5q8 (Or.inl ⟨?hwx5q8, ?hyx5q8⟩) ?hSx5q8 ?restx5q8
                case hix5q8 => (simp; rfl)
                case hsx5q8 => kernel_rfl
                case hfx5q8 => kernel_rfl
                case hrx5q8 => kernel_rfl
                case hQx5q8 => exact fun _ _ _ h => h
                case hwx5q8 => rfl
                case hyx5q8 => (intro wq hSq; (try dsimp only at hSq); go_simp; (try with_reducible rfl))
                case hSx5q8 => assumption
                simp only [Act.put, List.setIfInBounds_toArray, List.set_cons_zero, List.set_cons_succ]
                refine wpAnyH_take (i := 9) (oi := ?ox6q9) (v := ?vx6q9) ?hix6q9 ?hsx6q9 ?hfx6q9 ?hrx6q9 ?hQx6q9 (Or.inl ⟨?hwx6q9, ?hyx6q9⟩) ?hSx6q9 ?restx6q9
                case hix6q9 => (simp; rfl)
                case hsx6q9 => kernel_rfl
                case hfx6q9 => kernel_rfl
                case hrx6q9 => kernel_rfl
                case hQx6q9 => exact fun _ _ _ h => h
                case hwx6q9 => rfl
                case hyx6q9 => (intro wq hSq; (try dsimp only at hSq); go_simp; (try with_reducible rfl))
                case hSx6q9 => assumption
                simp only [Act.put, List.setIfInBounds_toArray, List.set_cons_zero, List.set_cons_succ]
                refine wpAnyH_take (i := 10) (oi := ?ox7q10) (v := ?vx7q10) ?hix7q10 ?hsx7q10 ?hfx7q10 ?hrx7q10 ?hQx7q10 (Or.inl ⟨?hwx7q10, ?hyx7q10⟩) ?hSx7q10 ?restx7q10
                case hix7q10 => (simp; rfl)
                case hsx7q10 => kernel_rfl
                case hfx7q10 => kernel_rfl
                case hrx7q10 => kernel_rfl
                case hQx7q10 => exact fun _ _ _ h => h
                case hwx7q10 => rfl
                case hyx7q10 => (intro wq hSq; (try dsimp only at hSq); go_simp; (try with_reducible rfl))
                case hSx7q10 => assumption
                simp only [Act.put, List.setIfInBounds_toArray, List.set_cons_zero, List.set_cons_succ]
                refine wpAnyH_ready (rs := [0, 6]) (by kernel_rfl) (by simp) ?_
                refine AllReadyH.cons (o := ?ox8q) ?hx8q (fun K hK => ?rx8q) (AllReadyH.cons (o := ?ox9q) ?hx9q (fun K hK => ?rx9q) AllReadyH.nil)
                case hx8q => (simp; rfl)
                case hx9q => (simp; rfl)
                case rx8q =>
                  go_simp
                  refine hK.out _ _ ((Lk.Blk.new2 (Below.refl _ w) _ (g := w.heap.size) rfl).drew.bel) (fun hHx10q => ?_)
                  clear hK K
                  refine wpAnyH_ready (rs := [4, 6]) (by kernel_rfl) (by simp) ?_
                  refine AllReadyH.cons (o := ?ox11q) ?hx11q (fun K hK => ?rx11q) (AllReadyH.cons (o := ?ox12q) ?hx12q (fun K hK => ?rx12q) AllReadyH.nil)
                  case hx11q => (simp; rfl)
                  case hx12q => (simp; rfl)
                  case rx11q =>
                    refine Lk.step_append rfl _ _ 28 rfl w.heap.size 3 i0 (.int .i64 0) 1 8 Try.underlying28 HI0.out.1 HI0.out.2.1 HI0.out.2.2.1 HI0.out.2.2.2 rfl (by decide) (.slice (some ⟨w.heap.size, 0, none⟩) 0 0) 0 [] rfl (((Lk.Blk.new2 (Below.refl _ w) _ (g := w.heap.size) rfl).drew).own) _ i c (Lk.numsV (l.take i)) rfl (fun h => HNIL.out.1 (by first | exact trivial | exact h)) HLEN.out.1 (HLIE.out.1.below ((Lk.Blk.new2 (Below.refl _ w) _ (g := w.heap.size) rfl).drew).bel) (ints_oneCell .i64 _) (by unfold maxLen; omega) (by omega) (((Lk.Blk.new2 (Below.refl _ w) _ (g := w.heap.size) rfl).drew).bel.size) ?_
                    intro v1 W1 hown1 hgrow1
                    rw [List.nil_append, Nat.zero_add] at hown1
                    have HB1 := Lk.hid (Lk.belOwn (size := 1) ((Lk.Blk.new2 (Below.refl _ w) _ (g := w.heap.size) rfl).drew).bel ((Lk.Blk.new2 (Below.refl _ w) _ (g := w.heap.size) rfl).drew).own (Nat.le_refl _) hgrow1)
                    have HOWN1 := Lk.hid hown1
                    clear hown1 hgrow1
                    refine hK.out _ _ (HB1.out) (fun hHx13q => ?_)
                    clear hK K
                    refine wpAnyH_ready (rs := [6]) (by kernel_rfl) (by simp) ?_
                    refine AllReadyH.cons (o := ?ox14q) ?hx14q (fun K hK => ?rx14q) AllReadyH.nil
                    case hx14q => (simp; rfl)
                    case rx14q =>
                      go_simp
                      refine hK.out _ _ (Lk.belAl HB1.out _) (fun hHx15q => ?_)
                      clear hK K
                      refine wpAnyH_ready (rs := [7]) (by kernel_rfl) (by simp) ?_
                      refine AllReadyH.cons (o := ?ox16q) ?hx16q (fun K hK => ?rx16q) AllReadyH.nil
                      case hx16q => (simp; rfl)
                      case rx16q =>
                        refine Lk.step_append rfl _ _ 28 rfl w.heap.size 3 i0 (.int .i64 0) 1 8 Try.underlying28 HI0.out.1 HI0.out.2.1 HI0.out.2.2.1 HI0.out.2.2.2 rfl (by decide) v1 i (Lk.numsV (l.take i)) rfl (HOWN1.out.alloc _) (some ⟨W1.heap.size, 0, none⟩) 1 1 [.int .i64 x] rfl (fun h => nomatch h) rfl ((Lk.Blk.new HB1.out _).lies (cs := [.int .i64 x])) (ints_oneCell .i64 [x]) (by unfold maxLen; omega) (by omega) ((Lk.belAl HB1.out _).size) ?_
                        intro v2 W2 hown2 hgrow2
                        have HB2 := Lk.hid (Lk.belOwn (size := 1) (Lk.belAl HB1.out _) (HOWN1.out.alloc _) (Nat.le_refl _) hgrow2)
                        have HOWN2 := Lk.hid hown2
                        clear hown2 hgrow2
                        refine hK.out _ _ (HB2.out) (fun hHx17q => ?_)
                        clear hK K
                        refine wpAnyH_ready (rs := [11]) (by kernel_rfl) (by simp) ?_
                        refine AllReadyH.cons (o := ?ox18q) ?hx18q (fun K hK => ?rx18q) AllReadyH.nil
                        case hx18q => (simp; rfl)
                        case rx18q =>
                          refine Lk.step_append rfl _ _ 28 rfl w.heap.size 3 i0 (.int .i64 0) 1 8 Try.underlying28 HI0.out.1 HI0.out.2.1 HI0.out.2.2.1 HI0.out.2.2.2 rfl (by decide) v2 (i + 1) (Lk.numsV (l.take i) ++ [.int .i64 x]) rfl (HOWN2.out) _ (n - i) (c - i) (Lk.numsV (l.drop i)) rfl (fun h => HNIL.out.2 (by first | exact trivial | exact h)) HLEN.out.2 (HLIE.out.2.below HB2.out) (ints_oneCell .i64 _) (by unfold maxLen; omega) (by omega) (HB2.out.size) ?_
                          intro v3 W3 hown3 hgrow3
                          have HB3 := Lk.hid (Lk.belOwn (size := 1) (HB2.out) (HOWN2.out) (Nat.le_refl _) hgrow3)
                          have HOWN3 := Lk.hid hown3
                          clear hown3 hgrow3
                          refine hK.out _ _ (HB3.out) (fun hHx19q => ?_)
                          clear hK K
                          refine wpAnyH_take (i := 12) (oi := ?ox20q12) (v := ?vx20q12) ?hix20q12 ?hsx20q12 ?hfx20q12 ?hrx20q12 ?hQx20q12 (Or.inl ⟨?hwx20q12, ?hyx20q12⟩) ?hSx20q12 ?restx20q12
                          case hix20q12 => (simp; rfl)
                          case hsx20q12 => kernel_rfl
                          case hfx20q12 => kernel_rfl
                          case hrx20q12 => kernel_rfl
                          case hQx20q12 => exact fun _ _ _ h => h
                          case hwx20q12 => rfl
                          case hyx20q12 => (intro wq hSq; (try dsimp only at hSq); go_simp; (try with_reducible rfl))
                          case hSx20q12 => assumption
                          simp only [Act.put, List.setIfInBounds_toArray, List.set_cons_zero, List.set_cons_succ]
                          refine wpAnyH_done (by kernel_rfl) ?_ _
                          go_wp2_with fail
                          exact ⟨⟨k + 1, l.take i ++ [x] ++ l.drop i, by omega, by go_num, Mm.hid (Lk.slOwn HOWN3.out HN.out hi HB.out.size), Mm.hid (HNN.out.put HX.out HP.out), Mm.hid (Lk.belTr HB.out HB3.out)⟩, by simp [RowKit.intOf]; omega⟩
                  case rx12q =>
                    go_simp
                    refine hK.out _ _ ((Lk.Blk.new2 (Lk.belAl (Below.refl _ w) _) _ (g := w.heap.size + 1) (by simp)).drew.bel) (fun hHx21q => ?_)
                    clear hK K
                    refine wpAnyH_ready (rs := [4]) (by kernel_rfl) (by simp) ?_
                    refine AllReadyH.cons (o := ?ox22q) ?hx22q (fun K hK => ?rx22q) AllReadyH.nil
                    case hx22q => (simp; rfl)
                    case rx22q =>
                      refine Lk.step_append rfl _ _ 28 rfl w.heap.size 3 i0 (.int .i64 0) 1 8 Try.underlying28 HI0.out.1 HI0.out.2.1 HI0.out.2.2.1 HI0.out.2.2.2 rfl (by decide) (.slice (some ⟨w.heap.size, 0, none⟩) 0 0) 0 [] rfl ((((Lk.Blk.new2 (Below.refl _ w) _ (g := w.heap.size) rfl).alloc _).drew).own) _ i c (Lk.numsV (l.take i)) rfl (fun h => HNIL.out.1 (by first | exact trivial | exact h)) HLEN.out.1 (HLIE.out.1.below (((Lk.Blk.new2 (Below.refl _ w) _ (g := w.heap.size) rfl).alloc _).drew).bel) (ints_oneCell .i64 _) (by unfold maxLen; omega) (by omega) ((((Lk.Blk.new2 (Below.refl _ w) _ (g := w.heap.size) rfl).alloc _).drew).bel.size) ?_
                      intro v1 W1 hown1 hgrow1
                      rw [List.nil_append, Nat.zero_add] at hown1
                      have HB1 := Lk.hid (Lk.belOwn (size := 1) (((Lk.Blk.new2 (Below.refl _ w) _ (g := w.heap.size) rfl).alloc _).drew).bel (((Lk.Blk.new2 (Below.refl _ w) _ (g := w.heap.size) rfl).alloc _).drew).own (Nat.le_refl _) hgrow1)
                      have HOWN1 := Lk.hid hown1
                      have HX1 := Lk.hid (((Lk.Blk.new2 (Lk.belAl (Below.refl _ w) _) _ (g := w.heap.size + 1) (by simp)).drew).grown hgrow1 (by simp [Value.ownBlock]) (fun k hk => by cases hk; exact Nat.le_refl _))
                      clear hown1 hgrow1
                      refine hK.out _ _ (HB1.out) (fun hHx23q => ?_)
                      clear hK K
                      refine wpAnyH_ready (rs := [7]) (by kernel_rfl) (by simp) ?_
                      refine AllReadyH.cons (o := ?ox24q) ?hx24q (fun K hK => ?rx24q) AllReadyH.nil
                      case hx24q => (simp; rfl)
                      case rx24q =>
                        refine Lk.step_append rfl _ _ 28 rfl w.heap.size 3 i0 (.int .i64 0) 1 8 Try.underlying28 HI0.out.1 HI0.out.2.1 HI0.out.2.2.1 HI0.out.2.2.2 rfl (by decide) v1 i (Lk.numsV (l.take i)) rfl (HOWN1.out) (some ⟨w.heap.size + 1, 0, none⟩) 1 1 [.int .i64 x] rfl (fun h => nomatch h) rfl (HX1.out.lies (cs := [.int .i64 x])) (ints_oneCell .i64 [x]) (by unfold maxLen; omega) (by omega) ((HB1.out).size) ?_
                        intro v2 W2 hown2 hgrow2
                        have HB2 := Lk.hid (Lk.belOwn (size := 1) (HB1.out) (HOWN1.out) (Nat.le_refl _) hgrow2)
                        have HOWN2 := Lk.hid hown2
                        clear hown2 hgrow2
                        refine hK.out _ _ (HB2.out) (fun hHx25q => ?_)
                        clear hK K
                        refine wpAnyH_ready (rs := [11]) (by kernel_rfl) (by simp) ?_
                        refine AllReadyH.cons (o := ?ox26q) ?hx26q (fun K hK => ?rx26q) AllReadyH.nil
                        case hx26q => (simp; rfl)
                        case rx26q =>
                          refine Lk.step_append rfl _ _ 28 rfl w.heap.size 3 i0 (.int .i64 0) 1 8 Try.underlying28 HI0.out.1 HI0.out.2.1 HI0.out.2.2.1 HI0.out.2.2.2 rfl (by decide) v2 (i + 1) (Lk.numsV (l.take i) ++ [.int .i64 x]) rfl (HOWN2.out) _ (n - i) (c - i) (Lk.numsV (l.drop i)) rfl (fun h => HNIL.out.2 (by first | exact trivial | exact h)) HLEN.out.2 (HLIE.out.2.below HB2.out) (ints_oneCell .i64 _) (by unfold maxLen; omega) (by omega) (HB2.out.size) ?_
                          intro v3 W3 hown3 hgrow3
                          have HB3 := Lk.hid (Lk.belOwn (size := 1) (HB2.out) (HOWN2.out) (Nat.le_refl _) hgrow3)
                          have HOWN3 := Lk.hid hown3
                          clear hown3 hgrow3
                          refine hK.out _ _ (HB3.out) (fun hHx27q => ?_)
                          clear hK K
                          refine wpAnyH_take (i := 12) (oi := ?ox28q12) (v := ?vx28q12) ?hix28q12 ?hsx28q12 ?hfx28q12 ?hrx28q12 ?hQx28q12 (Or.inl ⟨?hwx28q12, ?hyx28q12⟩) ?hSx28q12 ?restx28q12
                          case hix28q12 => (simp; rfl)
                          case hsx28q12 => kernel_rfl
                          case hfx28q12 => kernel_rfl
                          case hrx28q12 => kernel_rfl
                          case hQx28q12 => exact fun _ _ _ h => h
                          case hwx28q12 => rfl
                          case hyx28q12 => (intro wq hSq; (try dsimp only at hSq); go_simp; (try with_reducible rfl))
                          case hSx28q12 => assumption
                          simp only [Act.put, List.setIfInBounds_toArray, List.set_cons_zero, List.set_cons_succ]
                          refine wpAnyH_done (by kernel_rfl) ?_ _
                          go_wp2_with fail
                          exact ⟨⟨k + 1, l.take i ++ [x] ++ l.drop i, by omega, by go_num, Mm.hid (Lk.slOwn HOWN3.out HN.out hi HB.out.size), Mm.hid (HNN.out.put HX.out HP.out), Mm.hid (Lk.belTr HB.out HB3.out)⟩, by simp [RowKit.intOf]; omega⟩
                case rx9q =>
                  go_simp
                  refine hK.out _ _ ((Lk.Blk.new2 (Below.refl _ w) _ (g := w.heap.size) rfl).drew.bel) (fun hHx29q => ?_)
                  clear hK K
                  refine wpAnyH_ready (rs := [0]) (by kernel_rfl) (by simp) ?_
                  refine AllReadyH.cons (o := ?ox30q) ?hx30q (fun K hK => ?rx30q) AllReadyH.nil
                  case hx30q => (simp; rfl)
                  case rx30q =>
                    go_simp
                    refine hK.out _ _ ((Lk.Blk.new2 (Lk.belAl (Below.refl _ w) _) _ (g := w.heap.size + 1) (by simp)).drew.bel) (fun hHx31q => ?_)
                    clear hK K
                    refine wpAnyH_ready (rs := [4]) (by kernel_rfl) (by simp) ?_
                    refine AllReadyH.cons (o := ?ox32q) ?hx32q (fun K hK => ?rx32q) AllReadyH.nil
                    case hx32q => (simp; rfl)
                    case rx32q =>
                      refine Lk.step_append rfl _ _ 28 rfl w.heap.size 3 i0 (.int .i64 0) 1 8 Try.underlying28 HI0.out.1 HI0.out.2.1 HI0.out.2.2.1 HI0.out.2.2.2 rfl (by decide) (.slice (some ⟨w.heap.size + 1, 0, none⟩) 0 0) 0 [] rfl (((Lk.Blk.new2 (Lk.belAl (Below.refl _ w) _) _ (g := w.heap.size + 1) (by simp)).drew).own) _ i c (Lk.numsV (l.take i)) rfl (fun h => HNIL.out.1 (by first | exact trivial | exact h)) HLEN.out.1 (HLIE.out.1.below ((Lk.Blk.new2 (Lk.belAl (Below.refl _ w) _) _ (g := w.heap.size + 1) (by simp)).drew).bel) (ints_oneCell .i64 _) (by unfold maxLen; omega) (by omega) (((Lk.Blk.new2 (Lk.belAl (Below.refl _ w) _) _ (g := w.heap.size + 1) (by simp)).drew).bel.size) ?_
                      intro v1 W1 hown1 hgrow1
                      rw [List.nil_append, Nat.zero_add] at hown1
                      have HB1 := Lk.hid (Lk.belOwn (size := 1) ((Lk.Blk.new2 (Lk.belAl (Below.refl _ w) _) _ (g := w.heap.size + 1) (by simp)).drew).bel ((Lk.Blk.new2 (Lk.belAl (Below.refl _ w) _) _ (g := w.heap.size + 1) (by simp)).drew).own (Nat.le_refl _) hgrow1)
                      have HOWN1 := Lk.hid hown1
                      have HX1 := Lk.hid ((((Lk.Blk.new2 (Below.refl _ w) _ (g := w.heap.size) rfl).alloc _).drew).grown hgrow1 (by simp [Value.ownBlock]) (fun k hk => by cases hk; simp))
                      clear hown1 hgrow1
                      refine hK.out _ _ (HB1.out) (fun hHx33q => ?_)
                      clear hK K
                      refine wpAnyH_ready (rs := [7]) (by kernel_rfl) (by simp) ?_
                      refine AllReadyH.cons (o := ?ox34q) ?hx34q (fun K hK => ?rx34q) AllReadyH.nil
                      case hx34q => (simp; rfl)
                      case rx34q =>
                        refine Lk.step_append rfl _ _ 28 rfl w.heap.size 3 i0 (.int .i64 0) 1 8 Try.underlying28 HI0.out.1 HI0.out.2.1 HI0.out.2.2.1 HI0.out.2.2.2 rfl (by decide) v1 i (Lk.numsV (l.take i)) rfl (HOWN1.out) (some ⟨w.heap.size, 0, none⟩) 1 1 [.int .i64 x] rfl (fun h => nomatch h) rfl (HX1.out.lies (cs := [.int .i64 x])) (ints_oneCell .i64 [x]) (by unfold maxLen; omega) (by omega) ((HB1.out).size) ?_
                        intro v2 W2 hown2 hgrow2
                        have HB2 := Lk.hid (Lk.belOwn (size := 1) (HB1.out) (HOWN1.out) (Nat.le_refl _) hgrow2)
                        have HOWN2 := Lk.hid hown2
                        clear hown2 hgrow2
                        refine hK.out _ _ (HB2.out) (fun hHx35q => ?_)
                        clear hK K
                        refine wpAnyH_ready (rs := [11]) (by kernel_rfl) (by simp) ?_
                        refine AllReadyH.cons (o := ?ox36q) ?hx36q (fun K hK => ?rx36q) AllReadyH.nil
                        case hx36q => (simp; rfl)
                        case rx36q =>
                          refine Lk.step_append rfl _ _ 28 rfl w.heap.size 3 i0 (.int .i64 0) 1 8 Try.underlying28 HI0.out.1 HI0.out.2.1 HI0.out.2.2.1 HI0.out.2.2.2 rfl (by decide) v2 (i + 1) (Lk.numsV (l.take i) ++ [.int .i64 x]) rfl (HOWN2.out) _ (n - i) (c - i) (Lk.numsV (l.drop i)) rfl (fun h => HNIL.out.2 (by first | exact trivial | exact h)) HLEN.out.2 (HLIE.out.2.below HB2.out) (ints_oneCell .i64 _) (by unfold maxLen; omega) (by omega) (HB2.out.size) ?_
                          intro v3 W3 hown3 hgrow3
                          have HB3 := Lk.hid (Lk.belOwn (size := 1) (HB2.out) (HOWN2.out) (Nat.le_refl _) hgrow3)
                          have HOWN3 := Lk.hid hown3
                          clear hown3 hgrow3
                          refine hK.out _ _ (HB3.out) (fun hHx37q => ?_)
                          clear hK K
                          refine wpAnyH_take (i := 12) (oi := ?ox38q12) (v := ?vx38q12) ?hix38q12 ?hsx38q12 ?hfx38q12 ?hrx38q12 ?hQx38q12 (Or.inl ⟨?hwx38q12, ?hyx38q12⟩) ?hSx38q12 ?restx38q12
                          case hix38q12 => (simp; rfl)
                          case hsx38q12 => kernel_rfl
                          case hfx38q12 => kernel_rfl
                          case hrx38q12 => kernel_rfl
                          case hQx38q12 => exact fun _ _ _ h => h
                          case hwx38q12 => rfl
                          case hyx38q12 => (intro wq hSq; (try dsimp only at hSq); go_simp; (try with_reducible rfl))
                          case hSx38q12 => assumption
                          simp only [Act.put, List.setIfInBounds_toArray, List.set_cons_zero, List.set_cons_succ]
                          refine wpAnyH_done (by kernel_rfl) ?_ _
                          go_wp2_with fail
                          exact ⟨⟨k + 1, l.take i ++ [x] ++ l.drop i, by omega, by go_num, Mm.hid (Lk.slOwn HOWN3.out HN.out hi HB.out.size), Mm.hid (HNN.out.put HX.out HP.out), Mm.hid (Lk.belTr HB.out HB3.out)⟩, by simp [RowKit.intOf]; omega⟩
        · obtain rfl : k = 2 := by omega
          go_wp2_with fail
          exact ⟨⟨e + 1, l, by omega, by go_num, HO, HNN, HB⟩, by simp [RowKit.intOf]; omega⟩
    · obtain rfl : e = n0 := by omega
      have hnl := HN1.out.len
      go_wp2_with fail
      go_ret
      exact ⟨_, l1, rfl, HO1.out, by rw [hn0.out]; exact hnl, HN1.out.up, HN1.out.all (by rw [hn0.out]), HB1.out⟩
end Go.Proofs.Ythikdfcndppoaaa
