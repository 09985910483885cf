/- RowPads: the walk. -/
import Derived.Test.YtaclkmhgbmencaaL0
namespace Go.Proofs.Ytaclkmhgbmencaa
open Go.RowKit
attribute [local go_sem] Fl.run_store_float

set_option maxRecDepth 100000 in
set_option maxHeartbeats 8000000 in
theorem rowPads_law (p : Option Addr) (n c : Nat) (cs : List Vl.Col) (q : Option Addr) (m d : Nat) (xs : List Vl.V) (w : World) (hC : Vl.Col1 w p n c cs) (hR : Vl.Row1 w q m d xs) :
    Calls Try.prog 7 #[.slice p n c, .slice q m d] w fun e w' => e = .returned (.bool true) ∧ Below w.heap.size w w' := by
  have HC := Vl.hid hC
  have HR := Vl.hid hR
  have hn := hC.le
  have hm := hR.le
  clear hC hR
  go_enter Try.func7, Try.ntmps7
  go_wp2_with fail
  refine (largeColumns_any p n c cs _ HC.out.len HC.out.le (Vl.hid HC.out.row)).mono ?_
  rintro e w1 ⟨b, rfl, hb, hB⟩
  have HB1 := Vl.hid hB
  have HL := Vl.hid hb
  clear hB hb
  cases b
  · have hn50 : n ≤ 50 := HL.out rfl
    clear HL
    go_wp2_with fail
    refine (largeRow_any q m d xs _ HR.out.len HR.out.le (Vl.hid (HR.out.row.below HB1.out))).mono ?_
    rintro e w2 ⟨b, rfl, hb, hB⟩
    have HB2 := Vl.hid (Vl.btr HB1.out hB)
    have HL2 := Vl.hid hb
    clear hB hb
    cases b
    · have hm50 : m ≤ 50 := (HL2.out rfl).1
      have HPL : Hid ((Vl.padL cs xs).length = n) := Vl.hid (by rw [Vl.padL_length, HC.out.len])
      have HPW : Hid (Vl.padL cs (Vl.padL cs xs) = Vl.padL cs xs) := Vl.hid (Vl.padL_whole cs _ (Vl.padL_length cs xs))
      clear HL2 HB1
      obtain ⟨iV, HIV⟩ : ∃ i, Hid (Try.prog.info? 25 = some i ∧ i.zero = some (.agg #[.int .i64 0, .int .i64 0, .float .f64 0, .string ⟨#[]⟩]) ∧ i.size = 4 ∧ i.bytes = 40) := ⟨_, Try.type25, rfl, rfl, rfl⟩
      go_wp2_with (at_builtin; refine Vl.append_any rfl _ _ 38 rfl w2.heap.size 25 iV (.agg #[.int .i64 0, .int .i64 0, .float .f64 0, .string ⟨#[]⟩]) 4 40 Try.underlying38 HIV.out.1 HIV.out.2.1 HIV.out.2.2.1 HIV.out.2.2.2 rfl (by decide) (.slice (some ⟨w2.heap.size, 0, none⟩) 0 0) 0 [] rfl (Vl.own_at (Vl.new_at2 _ rfl) (Nat.le_refl _)) q m d (Vl.cellsV xs) rfl (HR.out.nil) (by rw [Vl.cellsV_length, HR.out.len]) ((HR.out.row.below HB2.out).al _) (Vl.cellsV_one _) (by unfold maxLen; omega) (by omega) (by simp) ?_)
      intro v' w3 hown hgrow
      obtain ⟨pin, cin, rfl, hcin, hnin, hin, hb⟩ := Vl.copied hown hgrow
      clear hown hgrow
      have HIN := Vl.hid (And.intro hcin hin)
      have HB3 := Vl.hid (Vl.btr HB2.out hb)
      clear hcin hnin hin hb
      go_wp2_with fail
      refine (pad_any p n c cs pin m cin xs _ HC.out.len HC.out.le (by omega) (Vl.hid (HC.out.row.below HB3.out)) HR.out.len (Vl.hid HIN.out.2)).mono ?_
      rintro e w4 ⟨pp, cp, rfl, hcp, hnp, hrow, hb⟩
      have HB4 := Vl.hid (Vl.btr HB3.out hb)
      have HP := Vl.hid (And.intro hnp hrow)
      clear hnp hrow hb HIN
      have hnn : ((n : Int) != (n : Int)) = false := by simp
      go_wp2_with (at_builtin; refine Vl.append_w rfl _ _ 38 rfl w4.heap.size 25 iV (.agg #[.int .i64 0, .int .i64 0, .float .f64 0, .string ⟨#[]⟩]) 4 40 Try.underlying38 HIV.out.1 HIV.out.2.1 HIV.out.2.2.1 HIV.out.2.2.2 rfl (by decide) (.slice (some ⟨w4.heap.size, 0, none⟩) 0 0) 0 [] rfl (Vl.own_at (Vl.new_at2 _ rfl) (Nat.le_refl _)) pp n cp (Vl.cellsV (Vl.padL cs xs)) rfl (HP.out.1) (by rw [Vl.cellsV_length, HPL.out]) (HP.out.2.al _) (Vl.cellsV_one _) (by unfold maxLen; omega) (by omega) (by simp) ?_)
      intro v' w5 hown hgrow
      obtain ⟨pin2, cin2, rfl, hcin, hnin, hin, hb⟩ := Vl.copied hown hgrow
      clear hown hgrow
      have HIN := Vl.hid (And.intro hcin hin)
      have HB5 := Vl.hid (Vl.btr HB4.out hb)
      have HP5 := Vl.hid (HP.out.2.below hb)
      clear hcin hnin hin hb
      go_wp2_with fail
      refine (pad_any p n c cs pin2 n cin2 (Vl.padL cs xs) _ HC.out.len HC.out.le (by omega) (Vl.hid (HC.out.row.below HB5.out)) HPL.out (Vl.hid HIN.out.2)).mono ?_
      rintro e w6 ⟨pq, cq, rfl, hcq, _, hrow, hb⟩
      rw [HPW.out] at hrow
      have HB6 := Vl.hid (Vl.btr HB5.out hb)
      have HP6 := Vl.hid (HP5.out.below hb)
      have HQ6 := Vl.hid hrow
      clear hrow hb HIN
      go_wp2_with fail
      refine (keepValues_same pq pp n cq cp (Vl.padL cs xs) _ HPL.out (by omega) hcq hcp HQ6 HP6).mono ?_
      rintro e w7 ⟨rfl, hb⟩
      have HB7 := Vl.hid (Vl.btr HB6.out hb)
      have HP7 := Vl.hid (HP6.out.below hb)
      clear hb HQ6 HP6 HP5 HB6 HB5 HB4 HB3
      obtain ⟨ys, HYS⟩ : ∃ ys, Hid (Vl.padL cs xs = ys) := ⟨_, Vl.hid rfl⟩
      rw [HYS.out] at HP7
      go_wp2_with fail
      go_loopw [6] (fun vi wr => ∃ k : Nat, k ≤ n ∧ vi = .int .i64 (k : Int) ∧ Hid (Vl.RowIn wr pp ys) ∧ Hid (Below w.heap.size w wr)) (fun vi _ => n - (RowKit.intOf vi).toNat)
      case atStart => exact ⟨0, by omega, rfl, HP7, HB7⟩
      case round =>
        obtain ⟨k, hk1, rfl, HRW, HB⟩ := hrel
        rename World => wr
        clear HP7 HB7 HP HB2
        by_cases hlt : k < n
        · obtain ⟨v, hv⟩ : ∃ v, cs[k]? = some v := ⟨cs[k]'(by rw [HC.out.len]; exact hlt), List.getElem?_eq_getElem _⟩
          have hyk := Vl.padL_get cs xs k v hv
          rw [HYS.out] at hyk
          by_cases hkm : k < m
          · obtain ⟨y, hxk⟩ : ∃ y, xs[k]? = some y := ⟨xs[k]'(by rw [HR.out.len]; exact hkm), List.getElem?_eq_getElem _⟩
            rw [hxk] at hyk
            obtain ⟨b1, o1, hp1, hr1⟩ := HRW.out.at hyk
            obtain ⟨b2, o2, hp2, hr2⟩ := (HR.out.row.below HB.out).at hxk
            have HS := Vl.hid (Vl.TwoS.of hr1 hr2 (Below.refl wr.heap.size wr))
            have hkm2 : ¬ m ≤ k := by omega
            clear hv hyk hxk hr1 hr2
            subst hp1 hp2
            go_wp2_with fail
            refine wp_region_held_drew (S := (fun w' => w'.cell? ⟨b1, o1 + k * 4, none⟩ = some (.int .i64 y.k) ∧ w'.cell? ⟨b1, o1 + k * 4 + 1, none⟩ = some (.int .i64 y.n) ∧ w'.cell? ⟨b1, o1 + k * 4 + 2, none⟩ = some (.float .f64 y.f) ∧ w'.cell? ⟨b1, o1 + k * 4 + 3, none⟩ = some (.string y.s) ∧ w'.cell? ⟨b2, o2 + k * 4, none⟩ = some (.int .i64 y.k) ∧ w'.cell? ⟨b2, o2 + k * 4 + 1, none⟩ = some (.int .i64 y.n) ∧ w'.cell? ⟨b2, o2 + k * 4 + 2, none⟩ = some (.float .f64 y.f) ∧ w'.cell? ⟨b2, o2 + k * 4 + 3, none⟩ = some (.string y.s) ∧ b1 < w'.heap.size ∧ b2 < w'.heap.size ∧ Below wr.heap.size wr w')) (by kernel_rfl) (Vl.TwoS.drew HS.out) (fun hH => ?_)
            refine wpAnyH_take (i := 0) (oi := ?oa0) (v := ?va0) ?hia0 ?hsa0 ?hfa0 ?hra0 ?hQa0 (Or.inl ⟨?hwa0, ?hya0⟩) ?hSa0 ?resta0
            case hia0 => (simp; rfl)
            case hsa0 => kernel_rfl
            case hfa0 => kernel_rfl
            case hra0 => kernel_rfl
            case hQa0 => exact fun _ _ _ h => h
            case hwa0 => rfl
            case hya0 => (intro wq hSq; (try dsimp only at hSq); go_simp; (try with_reducible rfl))
            case hSa0 => assumption
            simp only [Act.put, List.setIfInBounds_toArray, List.set_cons_zero, List.set_cons_succ]
            refine wpAnyH_take (i := 1) (oi := ?oa1) (v := ?va1) ?hia1 ?hsa1 ?hfa1 ?hra1 ?hQa1 (Or.inl ⟨?hwa1, ?hya1⟩) ?hSa1 ?resta1
            case hia1 => (simp; rfl)
            case hsa1 => kernel_rfl
            case hfa1 => kernel_rfl
            case hra1 => kernel_rfl
            case hQa1 => exact fun _ _ _ h => h
            case hwa1 => rfl
            case hya1 => (intro wq hSq; (try dsimp only at hSq); go_simp; (try with_reducible rfl))
            case hSa1 => assumption
            simp only [Act.put, List.setIfInBounds_toArray, List.set_cons_zero, List.set_cons_succ]
            refine wpAnyH_take (i := 2) (oi := ?oa2) (v := ?va2) ?hia2 ?hsa2 ?hfa2 ?hra2 ?hQa2 (Or.inl ⟨?hwa2, ?hya2⟩) ?hSa2 ?resta2
            case hia2 => (simp; rfl)
            case hsa2 => kernel_rfl
            case hfa2 => kernel_rfl
            case hra2 => kernel_rfl
            case hQa2 => exact fun _ _ _ h => h
            case hwa2 => rfl
            case hya2 => (intro wq hSq; (try dsimp only at hSq); go_simp; (try with_reducible rfl))
            case hSa2 => assumption
            simp only [Act.put, List.setIfInBounds_toArray, List.set_cons_zero, List.set_cons_succ]
            refine wpAnyH_take (i := 3) (oi := ?oa3) (v := ?va3) ?hia3 ?hsa3 ?hfa3 ?hra3 ?hQa3 (Or.inl ⟨?hwa3, ?hya3⟩) ?hSa3 ?resta3
            case hia3 => (simp; rfl)
            case hsa3 => kernel_rfl
            case hfa3 => kernel_rfl
            case hra3 => kernel_rfl
            case hQa3 => exact fun _ _ _ h => h
            case hwa3 => rfl
            case hya3 => (intro wq hSq; (try dsimp only at hSq); go_simp; (try with_reducible rfl))
            case hSa3 => assumption
            simp only [Act.put, List.setIfInBounds_toArray, List.set_cons_zero, List.set_cons_succ]
            refine wpAnyH_take (i := 4) (oi := ?oa4) (v := ?va4) ?hia4 ?hsa4 ?hfa4 ?hra4 ?hQa4 (Or.inl ⟨?hwa4, ?hya4⟩) ?hSa4 ?resta4
            case hia4 => (simp; rfl)
            case hsa4 => kernel_rfl
            case hfa4 => kernel_rfl
            case hra4 => kernel_rfl
            case hQa4 => exact fun _ _ _ h => h
            case hwa4 => rfl
            case hya4 => (intro wq hSq; (try dsimp only at hSq); go_simp; (try with_reducible rfl))
            case hSa4 => assumption
            simp only [Act.put, List.setIfInBounds_toArray, List.set_cons_zero, List.set_cons_succ]
            refine wpAnyH_take (i := 5) (oi := ?oa5) (v := ?va5) ?hia5 ?hsa5 ?hfa5 ?hra5 ?hQa5 (Or.inl ⟨?hwa5, ?hya5⟩) ?hSa5 ?resta5
            case hia5 => (simp; rfl)
            case hsa5 => kernel_rfl
            case hfa5 => kernel_rfl
            case hra5 => kernel_rfl
            case hQa5 => exact fun _ _ _ h => h
            case hwa5 => rfl
            case hya5 => (intro wq hSq; (try dsimp only at hSq); go_simp; (try with_reducible rfl))
            case hSa5 => assumption
            simp only [Act.put, List.setIfInBounds_toArray, List.set_cons_zero, List.set_cons_succ]
            refine wpAnyH_take (i := 6) (oi := ?oa6) (v := ?va6) ?hia6 ?hsa6 ?hfa6 ?hra6 ?hQa6 (Or.inl ⟨?hwa6, ?hya6⟩) ?hSa6 ?resta6
            case hia6 => (simp; rfl)
            case hsa6 => kernel_rfl
            case hfa6 => kernel_rfl
            case hra6 => kernel_rfl
            case hQa6 => exact fun _ _ _ h => h
            case hwa6 => rfl
            case hya6 => (intro wq hSq; (try dsimp only at hSq); go_simp; (try with_reducible rfl))
            case hSa6 => assumption
            simp only [Act.put, List.setIfInBounds_toArray, List.set_cons_zero, List.set_cons_succ]
            refine wpAnyH_take (i := 7) (oi := ?oa7) (v := ?va7) ?hia7 ?hsa7 ?hfa7 ?hra7 ?hQa7 (Or.inl ⟨?hwa7, ?hya7⟩) ?hSa7 ?resta7
            case hia7 => (simp; rfl)
            case hsa7 => kernel_rfl
            case hfa7 => kernel_rfl
            case hra7 => kernel_rfl
            case hQa7 => exact fun _ _ _ h => h
            case hwa7 => rfl
            case hya7 => (intro wq hSq; (try dsimp only at hSq); go_simp; (try with_reducible rfl))
            case hSa7 => assumption
            simp only [Act.put, List.setIfInBounds_toArray, List.set_cons_zero, List.set_cons_succ]
            refine wpAnyH_take (i := 8) (oi := ?oa8) (v := ?va8) ?hia8 ?hsa8 ?hfa8 ?hra8 ?hQa8 (Or.inl ⟨?hwa8, ?hya8⟩) ?hSa8 ?resta8
            case hia8 => (simp; rfl)
            case hsa8 => kernel_rfl
            case hfa8 => kernel_rfl
            case hra8 => kernel_rfl
            case hQa8 => exact fun _ _ _ h => h
            case hwa8 => rfl
            case hya8 => (intro wq hSq; (try dsimp only at hSq); go_simp; (try with_reducible rfl))
            case hSa8 => assumption
            simp only [Act.put, List.setIfInBounds_toArray, List.set_cons_zero, List.set_cons_succ]
            refine wpAnyH_take (i := 9) (oi := ?oa9) (v := ?va9) ?hia9 ?hsa9 ?hfa9 ?hra9 ?hQa9 (Or.inl ⟨?hwa9, ?hya9⟩) ?hSa9 ?resta9
            case hia9 => (simp; rfl)
            case hsa9 => kernel_rfl
            case hfa9 => kernel_rfl
            case hra9 => kernel_rfl
            case hQa9 => exact fun _ _ _ h => h
            case hwa9 => rfl
            case hya9 => (intro wq hSq; (try dsimp only at hSq); go_simp; (try with_reducible rfl))
            case hSa9 => assumption
            simp only [Act.put, List.setIfInBounds_toArray, List.set_cons_zero, List.set_cons_succ]
            refine wpAnyH_take (i := 10) (oi := ?oa10) (v := ?va10) ?hia10 ?hsa10 ?hfa10 ?hra10 ?hQa10 (Or.inl ⟨?hwa10, ?hya10⟩) ?hSa10 ?resta10
            case hia10 => (simp; rfl)
            case hsa10 => kernel_rfl
            case hfa10 => kernel_rfl
            case hra10 => kernel_rfl
            case hQa10 => exact fun _ _ _ h => h
            case hwa10 => rfl
            case hya10 => (intro wq hSq; (try dsimp only at hSq); go_simp; (try with_reducible rfl))
            case hSa10 => assumption
            simp only [Act.put, List.setIfInBounds_toArray, List.set_cons_zero, List.set_cons_succ]
            refine wpAnyH_take (i := 11) (oi := ?oa11) (v := ?va11) ?hia11 ?hsa11 ?hfa11 ?hra11 ?hQa11 (Or.inl ⟨?hwa11, ?hya11⟩) ?hSa11 ?resta11
            case hia11 => (simp; rfl)
            case hsa11 => kernel_rfl
            case hfa11 => kernel_rfl
            case hra11 => kernel_rfl
            case hQa11 => exact fun _ _ _ h => h
            case hwa11 => rfl
            case hya11 => (intro wq hSq; (try dsimp only at hSq); go_simp; (try with_reducible rfl))
            case hSa11 => assumption
            simp only [Act.put, List.setIfInBounds_toArray, List.set_cons_zero, List.set_cons_succ]
            refine wpAnyH_take (i := 12) (oi := ?oa12) (v := ?va12) ?hia12 ?hsa12 ?hfa12 ?hra12 ?hQa12 (Or.inl ⟨?hwa12, ?hya12⟩) ?hSa12 ?resta12
            case hia12 => (simp; rfl)
            case hsa12 => kernel_rfl
            case hfa12 => kernel_rfl
            case hra12 => kernel_rfl
            case hQa12 => exact fun _ _ _ h => h
            case hwa12 => rfl
            case hya12 => (intro wq hSq; (try dsimp only at hSq); go_simp; (try with_reducible rfl))
            case hSa12 => assumption
            simp only [Act.put, List.setIfInBounds_toArray, List.set_cons_zero, List.set_cons_succ]
            refine wpAnyH_ready (rs := [13]) (by kernel_rfl) (by simp) ?_
            refine AllReadyH.cons (o := ?oa13) ?hia13 (fun K hK => ?_) AllReadyH.nil
            case hia13 => (simp; rfl)
            go_simp
            refine (keepValue_same y _).mono ?_
            rintro e wz ⟨rfl, hb⟩
            go_wp2_with fail
            refine hK.out _ _ ?_ (fun hH2 => ?_)
            · exact Vl.TwoS.keep hb hH
            clear hK K hb hH
            refine wpAnyH_take (i := 14) (oi := ?oa14) (v := ?va14) ?hia14 ?hsa14 ?hfa14 ?hra14 ?hQa14 (Or.inl ⟨?hwa14, ?hya14⟩) ?hSa14 ?resta14
            case hia14 => (simp; rfl)
            case hsa14 => kernel_rfl
            case hfa14 => kernel_rfl
            case hra14 => kernel_rfl
            case hQa14 => exact fun _ _ _ h => h
            case hwa14 => rfl
            case hya14 => (intro wq hSq; (try dsimp only at hSq); go_simp; (try with_reducible rfl))
            case hSa14 => assumption
            simp only [Act.put, List.setIfInBounds_toArray, List.set_cons_zero, List.set_cons_succ]
            refine wpAnyH_take (i := 15) (oi := ?oa15) (v := ?va15) ?hia15 ?hsa15 ?hfa15 ?hra15 ?hQa15 (Or.inl ⟨?hwa15, ?hya15⟩) ?hSa15 ?resta15
            case hia15 => (simp; rfl)
            case hsa15 => kernel_rfl
            case hfa15 => kernel_rfl
            case hra15 => kernel_rfl
            case hQa15 => exact fun _ _ _ h => h
            case hwa15 => rfl
            case hya15 => (intro wq hSq; (try dsimp only at hSq); go_simp; (try with_reducible rfl))
            case hSa15 => assumption
            simp only [Act.put, List.setIfInBounds_toArray, List.set_cons_zero, List.set_cons_succ]
            refine wpAnyH_take (i := 16) (oi := ?oa16) (v := ?va16) ?hia16 ?hsa16 ?hfa16 ?hra16 ?hQa16 (Or.inl ⟨?hwa16, ?hya16⟩) ?hSa16 ?resta16
            case hia16 => (simp; rfl)
            case hsa16 => kernel_rfl
            case hfa16 => kernel_rfl
            case hra16 => kernel_rfl
            case hQa16 => exact fun _ _ _ h => h
            case hwa16 => rfl
            case hya16 => (intro wq hSq; (try dsimp only at hSq); go_simp; (try with_reducible rfl))
            case hSa16 => assumption
            simp only [Act.put, List.setIfInBounds_toArray, List.set_cons_zero, List.set_cons_succ]
            refine wpAnyH_take (i := 17) (oi := ?oa17) (v := ?va17) ?hia17 ?hsa17 ?hfa17 ?hra17 ?hQa17 (Or.inl ⟨?hwa17, ?hya17⟩) ?hSa17 ?resta17
            case hia17 => (simp; rfl)
            case hsa17 => kernel_rfl
            case hfa17 => kernel_rfl
            case hra17 => kernel_rfl
            case hQa17 => exact fun _ _ _ h => h
            case hwa17 => rfl
            case hya17 => (intro wq hSq; (try dsimp only at hSq); go_simp; (try with_reducible rfl))
            case hSa17 => assumption
            simp only [Act.put, List.setIfInBounds_toArray, List.set_cons_zero, List.set_cons_succ]
            refine wpAnyH_take (i := 18) (oi := ?oa18) (v := ?va18) ?hia18 ?hsa18 ?hfa18 ?hra18 ?hQa18 (Or.inl ⟨?hwa18, ?hya18⟩) ?hSa18 ?resta18
            case hia18 => (simp; rfl)
            case hsa18 => kernel_rfl
            case hfa18 => kernel_rfl
            case hra18 => kernel_rfl
            case hQa18 => exact fun _ _ _ h => h
            case hwa18 => rfl
            case hya18 => (intro wq hSq; (try dsimp only at hSq); go_simp; (try with_reducible rfl))
            case hSa18 => assumption
            simp only [Act.put, List.setIfInBounds_toArray, List.set_cons_zero, List.set_cons_succ]
            refine wpAnyH_take (i := 19) (oi := ?oa19) (v := ?va19) ?hia19 ?hsa19 ?hfa19 ?hra19 ?hQa19 (Or.inl ⟨?hwa19, ?hya19⟩) ?hSa19 ?resta19
            case hia19 => (simp; rfl)
            case hsa19 => kernel_rfl
            case hfa19 => kernel_rfl
            case hra19 => kernel_rfl
            case hQa19 => exact fun _ _ _ h => h
            case hwa19 => rfl
            case hya19 => (intro wq hSq; (try dsimp only at hSq); go_simp; (try with_reducible rfl))
            case hSa19 => assumption
            simp only [Act.put, List.setIfInBounds_toArray, List.set_cons_zero, List.set_cons_succ]
            refine wpAnyH_take (i := 20) (oi := ?oa20) (v := ?va20) ?hia20 ?hsa20 ?hfa20 ?hra20 ?hQa20 (Or.inl ⟨?hwa20, ?hya20⟩) ?hSa20 ?resta20
            case hia20 => (simp; rfl)
            case hsa20 => kernel_rfl
            case hfa20 => kernel_rfl
            case hra20 => kernel_rfl
            case hQa20 => exact fun _ _ _ h => h
            case hwa20 => rfl
            case hya20 => (intro wq hSq; (try dsimp only at hSq); go_simp; (try with_reducible rfl))
            case hSa20 => assumption
            simp only [Act.put, List.setIfInBounds_toArray, List.set_cons_zero, List.set_cons_succ]
            refine wpAnyH_take (i := 21) (oi := ?oa21) (v := ?va21) ?hia21 ?hsa21 ?hfa21 ?hra21 ?hQa21 (Or.inl ⟨?hwa21, ?hya21⟩) ?hSa21 ?resta21
            case hia21 => (simp; rfl)
            case hsa21 => kernel_rfl
            case hfa21 => kernel_rfl
            case hra21 => kernel_rfl
            case hQa21 => exact fun _ _ _ h => h
            case hwa21 => rfl
            case hya21 => (intro wq hSq; (try dsimp only at hSq); go_simp; (try with_reducible rfl))
            case hSa21 => assumption
            simp only [Act.put, List.setIfInBounds_toArray, List.set_cons_zero, List.set_cons_succ]
            refine wpAnyH_take (i := 22) (oi := ?oa22) (v := undef) ?hia22 ?hsa22 ?hfa22 ?hra22 ?hQa22 (Or.inr ⟨?hwa22, rfl⟩) ?hSa22 ?resta22
            case hia22 => (simp; rfl)
            case hsa22 => kernel_rfl
            case hfa22 => kernel_rfl
            case hra22 => kernel_rfl
            case hQa22 => exact fun _ _ _ h => h
            case hwa22 => rfl
            case hSa22 => assumption
            simp only [Act.put, List.setIfInBounds_toArray, List.set_cons_zero, List.set_cons_succ]
            refine wpAnyH_take (i := 23) (oi := ?oa23) (v := undef) ?hia23 ?hsa23 ?hfa23 ?hra23 ?hQa23 (Or.inr ⟨?hwa23, rfl⟩) ?hSa23 ?resta23
            case hia23 => (simp; rfl)
            case hsa23 => kernel_rfl
            case hfa23 => kernel_rfl
            case hra23 => kernel_rfl
            case hQa23 => exact fun _ _ _ h => h
            case hwa23 => rfl
            case hSa23 => assumption
            simp only [Act.put, List.setIfInBounds_toArray, List.set_cons_zero, List.set_cons_succ]
            refine wpAnyH_take (i := 24) (oi := ?oa24) (v := undef) ?hia24 ?hsa24 ?hfa24 ?hra24 ?hQa24 (Or.inr ⟨?hwa24, rfl⟩) ?hSa24 ?resta24
            case hia24 => (simp; rfl)
            case hsa24 => kernel_rfl
            case hfa24 => kernel_rfl
            case hra24 => kernel_rfl
            case hQa24 => exact fun _ _ _ h => h
            case hwa24 => rfl
            case hSa24 => assumption
            simp only [Act.put, List.setIfInBounds_toArray, List.set_cons_zero, List.set_cons_succ]
            refine wpAnyH_take (i := 25) (oi := ?oa25) (v := undef) ?hia25 ?hsa25 ?hfa25 ?hra25 ?hQa25 (Or.inr ⟨?hwa25, rfl⟩) ?hSa25 ?resta25
            case hia25 => (simp; rfl)
            case hsa25 => kernel_rfl
            case hfa25 => kernel_rfl
            case hra25 => kernel_rfl
            case hQa25 => exact fun _ _ _ h => h
            case hwa25 => rfl
            case hSa25 => assumption
            simp only [Act.put, List.setIfInBounds_toArray, List.set_cons_zero, List.set_cons_succ]
            refine wpAnyH_take (i := 26) (oi := ?oa26) (v := undef) ?hia26 ?hsa26 ?hfa26 ?hra26 ?hQa26 (Or.inr ⟨?hwa26, rfl⟩) ?hSa26 ?resta26
            case hia26 => (simp; rfl)
            case hsa26 => kernel_rfl
            case hfa26 => kernel_rfl
            case hra26 => kernel_rfl
            case hQa26 => exact fun _ _ _ h => h
            case hwa26 => rfl
            case hSa26 => assumption
            simp only [Act.put, List.setIfInBounds_toArray, List.set_cons_zero, List.set_cons_succ]
            refine wpAnyH_take (i := 27) (oi := ?oa27) (v := undef) ?hia27 ?hsa27 ?hfa27 ?hra27 ?hQa27 (Or.inr ⟨?hwa27, rfl⟩) ?hSa27 ?resta27
            case hia27 => (simp; rfl)
            case hsa27 => kernel_rfl
            case hfa27 => kernel_rfl
            case hra27 => kernel_rfl
            case hQa27 => exact fun _ _ _ h => h
            case hwa27 => rfl
            case hSa27 => assumption
            simp only [Act.put, List.setIfInBounds_toArray, List.set_cons_zero, List.set_cons_succ]
            refine wpAnyH_take (i := 28) (oi := ?oa28) (v := undef) ?hia28 ?hsa28 ?hfa28 ?hra28 ?hQa28 (Or.inr ⟨?hwa28, rfl⟩) ?hSa28 ?resta28
            case hia28 => (simp; rfl)
            case hsa28 => kernel_rfl
            case hfa28 => kernel_rfl
            case hra28 => kernel_rfl
            case hQa28 => exact fun _ _ _ h => h
            case hwa28 => rfl
            case hSa28 => assumption
            simp only [Act.put, List.setIfInBounds_toArray, List.set_cons_zero, List.set_cons_succ]
            refine wpAnyH_take (i := 29) (oi := ?oa29) (v := undef) ?hia29 ?hsa29 ?hfa29 ?hra29 ?hQa29 (Or.inr ⟨?hwa29, rfl⟩) ?hSa29 ?resta29
            case hia29 => (simp; rfl)
            case hsa29 => kernel_rfl
            case hfa29 => kernel_rfl
            case hra29 => kernel_rfl
            case hQa29 => exact fun _ _ _ h => h
            case hwa29 => rfl
            case hSa29 => assumption
            simp only [Act.put, List.setIfInBounds_toArray, List.set_cons_zero, List.set_cons_succ]
            refine wpAnyH_take (i := 30) (oi := ?oa30) (v := undef) ?hia30 ?hsa30 ?hfa30 ?hra30 ?hQa30 (Or.inr ⟨?hwa30, rfl⟩) ?hSa30 ?resta30
            case hia30 => (simp; rfl)
            case hsa30 => kernel_rfl
            case hfa30 => kernel_rfl
            case hra30 => kernel_rfl
            case hQa30 => exact fun _ _ _ h => h
            case hwa30 => rfl
            case hSa30 => assumption
            simp only [Act.put, List.setIfInBounds_toArray, List.set_cons_zero, List.set_cons_succ]
            refine wpAnyH_take (i := 31) (oi := ?oa31) (v := undef) ?hia31 ?hsa31 ?hfa31 ?hra31 ?hQa31 (Or.inr ⟨?hwa31, rfl⟩) ?hSa31 ?resta31
            case hia31 => (simp; rfl)
            case hsa31 => kernel_rfl
            case hfa31 => kernel_rfl
            case hra31 => kernel_rfl
            case hQa31 => exact fun _ _ _ h => h
            case hwa31 => rfl
            case hSa31 => assumption
            simp only [Act.put, List.setIfInBounds_toArray, List.set_cons_zero, List.set_cons_succ]
            refine wpAnyH_take (i := 32) (oi := ?oa32) (v := undef) ?hia32 ?hsa32 ?hfa32 ?hra32 ?hQa32 (Or.inr ⟨?hwa32, rfl⟩) ?hSa32 ?resta32
            case hia32 => (simp; rfl)
            case hsa32 => kernel_rfl
            case hfa32 => kernel_rfl
            case hra32 => kernel_rfl
            case hQa32 => exact fun _ _ _ h => h
            case hwa32 => rfl
            case hSa32 => assumption
            simp only [Act.put, List.setIfInBounds_toArray, List.set_cons_zero, List.set_cons_succ]
            refine wpAnyH_take (i := 33) (oi := ?oa33) (v := ?va33) ?hia33 ?hsa33 ?hfa33 ?hra33 ?hQa33 (Or.inl ⟨?hwa33, ?hya33⟩) ?hSa33 ?resta33
            case hia33 => (simp; rfl)
            case hsa33 => kernel_rfl
            case hfa33 => kernel_rfl
            case hra33 => kernel_rfl
            case hQa33 => exact fun _ _ _ h => h
            case hwa33 => rfl
            case hya33 => (intro wq hSq; (try dsimp only at hSq); go_simp; (try with_reducible rfl))
            case hSa33 => assumption
            simp only [Act.put, List.setIfInBounds_toArray, List.set_cons_zero, List.set_cons_succ]
            refine wpAnyH_take (i := 34) (oi := ?oa34) (v := ?va34) ?hia34 ?hsa34 ?hfa34 ?hra34 ?hQa34 (Or.inl ⟨?hwa34, ?hya34⟩) ?hSa34 ?resta34
            case hia34 => (simp; rfl)
            case hsa34 => kernel_rfl
            case hfa34 => kernel_rfl
            case hra34 => kernel_rfl
            case hQa34 => exact fun _ _ _ h => h
            case hwa34 => rfl
            case hya34 => (intro wq hSq; (try dsimp only at hSq); go_simp; (try with_reducible rfl))
            case hSa34 => assumption
            simp only [Act.put, List.setIfInBounds_toArray, List.set_cons_zero, List.set_cons_succ]
            refine wpAnyH_done (by kernel_rfl) ?_ _
            have HZ := Vl.hid (Vl.TwoS.parts hH2).2.2
            clear hH2
            go_wp2_with fail
            exact ⟨⟨k + 1, by omega, by go_num, HRW.out.below HZ.out, Vl.btr HB.out HZ.out⟩, by simp [RowKit.intOf]; omega⟩
          · have hxk : xs[k]? = none := List.getElem?_eq_none (by have := HR.out.len; omega)
            rw [hxk] at hyk
            obtain ⟨b1, o1, hp1, hr1⟩ := HRW.out.at (show ys[k]? = some v.d from hyk)
            obtain ⟨b2, o2, hp2, hr2⟩ := (HC.out.row.below HB.out).at hv
            have HS := Vl.hid (Vl.CVS.of hr2 hr1 (Below.refl wr.heap.size wr))
            have hkm2 : m ≤ k := by omega
            clear hv hyk hxk hr1 hr2
            subst hp1 hp2
            go_wp2_with fail
            refine wp_region_held_drew (S := (fun w' => w'.cell? ⟨b2, o2 + k * 7, none⟩ = some (.string v.nm) ∧ w'.cell? ⟨b2, o2 + k * 7 + 1, none⟩ = some (.int .i64 v.k) ∧ w'.cell? ⟨b2, o2 + k * 7 + 2, none⟩ = some (.bool v.nn) ∧ w'.cell? ⟨b2, o2 + k * 7 + 3, none⟩ = some (.int .i64 v.d.k) ∧ w'.cell? ⟨b2, o2 + k * 7 + 4, none⟩ = some (.int .i64 v.d.n) ∧ w'.cell? ⟨b2, o2 + k * 7 + 5, none⟩ = some (.float .f64 v.d.f) ∧ w'.cell? ⟨b2, o2 + k * 7 + 6, none⟩ = some (.string v.d.s) ∧ w'.cell? ⟨b1, o1 + k * 4, none⟩ = some (.int .i64 v.d.k) ∧ w'.cell? ⟨b1, o1 + k * 4 + 1, none⟩ = some (.int .i64 v.d.n) ∧ w'.cell? ⟨b1, o1 + k * 4 + 2, none⟩ = some (.float .f64 v.d.f) ∧ w'.cell? ⟨b1, o1 + k * 4 + 3, none⟩ = some (.string v.d.s) ∧ b2 < w'.heap.size ∧ b1 < w'.heap.size ∧ Below wr.heap.size wr w')) (by kernel_rfl) (Vl.CVS.drew HS.out) (fun hH => ?_)
            refine wpAnyH_take (i := 0) (oi := ?ob0) (v := ?vb0) ?hib0 ?hsb0 ?hfb0 ?hrb0 ?hQb0 (Or.inl ⟨?hwb0, ?hyb0⟩) ?hSb0 ?restb0
            case hib0 => (simp; rfl)
            case hsb0 => kernel_rfl
            case hfb0 => kernel_rfl
            case hrb0 => kernel_rfl
            case hQb0 => exact fun _ _ _ h => h
            case hwb0 => rfl
            case hyb0 => (intro wq hSq; (try dsimp only at hSq); go_simp; (try with_reducible rfl))
            case hSb0 => assumption
            simp only [Act.put, List.setIfInBounds_toArray, List.set_cons_zero, List.set_cons_succ]
            refine wpAnyH_take (i := 1) (oi := ?ob1) (v := ?vb1) ?hib1 ?hsb1 ?hfb1 ?hrb1 ?hQb1 (Or.inl ⟨?hwb1, ?hyb1⟩) ?hSb1 ?restb1
            case hib1 => (simp; rfl)
            case hsb1 => kernel_rfl
            case hfb1 => kernel_rfl
            case hrb1 => kernel_rfl
            case hQb1 => exact fun _ _ _ h => h
            case hwb1 => rfl
            case hyb1 => (intro wq hSq; (try dsimp only at hSq); go_simp; (try with_reducible rfl))
            case hSb1 => assumption
            simp only [Act.put, List.setIfInBounds_toArray, List.set_cons_zero, List.set_cons_succ]
            refine wpAnyH_take (i := 2) (oi := ?ob2) (v := ?vb2) ?hib2 ?hsb2 ?hfb2 ?hrb2 ?hQb2 (Or.inl ⟨?hwb2, ?hyb2⟩) ?hSb2 ?restb2
            case hib2 => (simp; rfl)
            case hsb2 => kernel_rfl
            case hfb2 => kernel_rfl
            case hrb2 => kernel_rfl
            case hQb2 => exact fun _ _ _ h => h
            case hwb2 => rfl
            case hyb2 => (intro wq hSq; (try dsimp only at hSq); go_simp; (try with_reducible rfl))
            case hSb2 => assumption
            simp only [Act.put, List.setIfInBounds_toArray, List.set_cons_zero, List.set_cons_succ]
            refine wpAnyH_take (i := 3) (oi := ?ob3) (v := ?vb3) ?hib3 ?hsb3 ?hfb3 ?hrb3 ?hQb3 (Or.inl ⟨?hwb3, ?hyb3⟩) ?hSb3 ?restb3
            case hib3 => (simp; rfl)
            case hsb3 => kernel_rfl
            case hfb3 => kernel_rfl
            case hrb3 => kernel_rfl
            case hQb3 => exact fun _ _ _ h => h
            case hwb3 => rfl
            case hyb3 => (intro wq hSq; (try dsimp only at hSq); go_simp; (try with_reducible rfl))
            case hSb3 => assumption
            simp only [Act.put, List.setIfInBounds_toArray, List.set_cons_zero, List.set_cons_succ]
            refine wpAnyH_take (i := 4) (oi := ?ob4) (v := ?vb4) ?hib4 ?hsb4 ?hfb4 ?hrb4 ?hQb4 (Or.inl ⟨?hwb4, ?hyb4⟩) ?hSb4 ?restb4
            case hib4 => (simp; rfl)
            case hsb4 => kernel_rfl
            case hfb4 => kernel_rfl
            case hrb4 => kernel_rfl
            case hQb4 => exact fun _ _ _ h => h
            case hwb4 => rfl
            case hyb4 => (intro wq hSq; (try dsimp only at hSq); go_simp; (try with_reducible rfl))
            case hSb4 => assumption
            simp only [Act.put, List.setIfInBounds_toArray, List.set_cons_zero, List.set_cons_succ]
            refine wpAnyH_take (i := 5) (oi := ?ob5) (v := undef) ?hib5 ?hsb5 ?hfb5 ?hrb5 ?hQb5 (Or.inr ⟨?hwb5, rfl⟩) ?hSb5 ?restb5
            case hib5 => (simp; rfl)
            case hsb5 => kernel_rfl
            case hfb5 => kernel_rfl
            case hrb5 => kernel_rfl
            case hQb5 => exact fun _ _ _ h => h
            case hwb5 => rfl
            case hSb5 => assumption
            simp only [Act.put, List.setIfInBounds_toArray, List.set_cons_zero, List.set_cons_succ]
            refine wpAnyH_take (i := 6) (oi := ?ob6) (v := undef) ?hib6 ?hsb6 ?hfb6 ?hrb6 ?hQb6 (Or.inr ⟨?hwb6, rfl⟩) ?hSb6 ?restb6
            case hib6 => (simp; rfl)
            case hsb6 => kernel_rfl
            case hfb6 => kernel_rfl
            case hrb6 => kernel_rfl
            case hQb6 => exact fun _ _ _ h => h
            case hwb6 => rfl
            case hSb6 => assumption
            simp only [Act.put, List.setIfInBounds_toArray, List.set_cons_zero, List.set_cons_succ]
            refine wpAnyH_take (i := 7) (oi := ?ob7) (v := undef) ?hib7 ?hsb7 ?hfb7 ?hrb7 ?hQb7 (Or.inr ⟨?hwb7, rfl⟩) ?hSb7 ?restb7
            case hib7 => (simp; rfl)
            case hsb7 => kernel_rfl
            case hfb7 => kernel_rfl
            case hrb7 => kernel_rfl
            case hQb7 => exact fun _ _ _ h => h
            case hwb7 => rfl
            case hSb7 => assumption
            simp only [Act.put, List.setIfInBounds_toArray, List.set_cons_zero, List.set_cons_succ]
            refine wpAnyH_take (i := 8) (oi := ?ob8) (v := undef) ?hib8 ?hsb8 ?hfb8 ?hrb8 ?hQb8 (Or.inr ⟨?hwb8, rfl⟩) ?hSb8 ?restb8
            case hib8 => (simp; rfl)
            case hsb8 => kernel_rfl
            case hfb8 => kernel_rfl
            case hrb8 => kernel_rfl
            case hQb8 => exact fun _ _ _ h => h
            case hwb8 => rfl
            case hSb8 => assumption
            simp only [Act.put, List.setIfInBounds_toArray, List.set_cons_zero, List.set_cons_succ]
            refine wpAnyH_take (i := 9) (oi := ?ob9) (v := undef) ?hib9 ?hsb9 ?hfb9 ?hrb9 ?hQb9 (Or.inr ⟨?hwb9, rfl⟩) ?hSb9 ?restb9
            case hib9 => (simp; rfl)
            case hsb9 => kernel_rfl
            case hfb9 => kernel_rfl
            case hrb9 => kernel_rfl
            case hQb9 => exact fun _ _ _ h => h
            case hwb9 => rfl
            case hSb9 => assumption
            simp only [Act.put, List.setIfInBounds_toArray, List.set_cons_zero, List.set_cons_succ]
            refine wpAnyH_take (i := 10) (oi := ?ob10) (v := undef) ?hib10 ?hsb10 ?hfb10 ?hrb10 ?hQb10 (Or.inr ⟨?hwb10, rfl⟩) ?hSb10 ?restb10
            case hib10 => (simp; rfl)
            case hsb10 => kernel_rfl
            case hfb10 => kernel_rfl
            case hrb10 => kernel_rfl
            case hQb10 => exact fun _ _ _ h => h
            case hwb10 => rfl
            case hSb10 => assumption
            simp only [Act.put, List.setIfInBounds_toArray, List.set_cons_zero, List.set_cons_succ]
            refine wpAnyH_take (i := 11) (oi := ?ob11) (v := undef) ?hib11 ?hsb11 ?hfb11 ?hrb11 ?hQb11 (Or.inr ⟨?hwb11, rfl⟩) ?hSb11 ?restb11
            case hib11 => (simp; rfl)
            case hsb11 => kernel_rfl
            case hfb11 => kernel_rfl
            case hrb11 => kernel_rfl
            case hQb11 => exact fun _ _ _ h => h
            case hwb11 => rfl
            case hSb11 => assumption
            simp only [Act.put, List.setIfInBounds_toArray, List.set_cons_zero, List.set_cons_succ]
            refine wpAnyH_take (i := 12) (oi := ?ob12) (v := undef) ?hib12 ?hsb12 ?hfb12 ?hrb12 ?hQb12 (Or.inr ⟨?hwb12, rfl⟩) ?hSb12 ?restb12
            case hib12 => (simp; rfl)
            case hsb12 => kernel_rfl
            case hfb12 => kernel_rfl
            case hrb12 => kernel_rfl
            case hQb12 => exact fun _ _ _ h => h
            case hwb12 => rfl
            case hSb12 => assumption
            simp only [Act.put, List.setIfInBounds_toArray, List.set_cons_zero, List.set_cons_succ]
            refine wpAnyH_take (i := 13) (oi := ?ob13) (v := undef) ?hib13 ?hsb13 ?hfb13 ?hrb13 ?hQb13 (Or.inr ⟨?hwb13, rfl⟩) ?hSb13 ?restb13
            case hib13 => (simp; rfl)
            case hsb13 => kernel_rfl
            case hfb13 => kernel_rfl
            case hrb13 => kernel_rfl
            case hQb13 => exact fun _ _ _ h => h
            case hwb13 => rfl
            case hSb13 => assumption
            simp only [Act.put, List.setIfInBounds_toArray, List.set_cons_zero, List.set_cons_succ]
            refine wpAnyH_take (i := 14) (oi := ?ob14) (v := undef) ?hib14 ?hsb14 ?hfb14 ?hrb14 ?hQb14 (Or.inr ⟨?hwb14, rfl⟩) ?hSb14 ?restb14
            case hib14 => (simp; rfl)
            case hsb14 => kernel_rfl
            case hfb14 => kernel_rfl
            case hrb14 => kernel_rfl
            case hQb14 => exact fun _ _ _ h => h
            case hwb14 => rfl
            case hSb14 => assumption
            simp only [Act.put, List.setIfInBounds_toArray, List.set_cons_zero, List.set_cons_succ]
            refine wpAnyH_take (i := 15) (oi := ?ob15) (v := ?vb15) ?hib15 ?hsb15 ?hfb15 ?hrb15 ?hQb15 (Or.inl ⟨?hwb15, ?hyb15⟩) ?hSb15 ?restb15
            case hib15 => (simp; rfl)
            case hsb15 => kernel_rfl
            case hfb15 => kernel_rfl
            case hrb15 => kernel_rfl
            case hQb15 => exact fun _ _ _ h => h
            case hwb15 => rfl
            case hyb15 => (intro wq hSq; (try dsimp only at hSq); go_simp; (try with_reducible rfl))
            case hSb15 => assumption
            simp only [Act.put, List.setIfInBounds_toArray, List.set_cons_zero, List.set_cons_succ]
            refine wpAnyH_take (i := 16) (oi := ?ob16) (v := ?vb16) ?hib16 ?hsb16 ?hfb16 ?hrb16 ?hQb16 (Or.inl ⟨?hwb16, ?hyb16⟩) ?hSb16 ?restb16
            case hib16 => (simp; rfl)
            case hsb16 => kernel_rfl
            case hfb16 => kernel_rfl
            case hrb16 => kernel_rfl
            case hQb16 => exact fun _ _ _ h => h
            case hwb16 => rfl
            case hyb16 => (intro wq hSq; (try dsimp only at hSq); go_simp; (try with_reducible rfl))
            case hSb16 => assumption
            simp only [Act.put, List.setIfInBounds_toArray, List.set_cons_zero, List.set_cons_succ]
            refine wpAnyH_take (i := 17) (oi := ?ob17) (v := ?vb17) ?hib17 ?hsb17 ?hfb17 ?hrb17 ?hQb17 (Or.inl ⟨?hwb17, ?hyb17⟩) ?hSb17 ?restb17
            case hib17 => (simp; rfl)
            case hsb17 => kernel_rfl
            case hfb17 => kernel_rfl
            case hrb17 => kernel_rfl
            case hQb17 => exact fun _ _ _ h => h
            case hwb17 => rfl
            case hyb17 => (intro wq hSq; (try dsimp only at hSq); go_simp; (try with_reducible rfl))
            case hSb17 => assumption
            simp only [Act.put, List.setIfInBounds_toArray, List.set_cons_zero, List.set_cons_succ]
            refine wpAnyH_take (i := 18) (oi := ?ob18) (v := ?vb18) ?hib18 ?hsb18 ?hfb18 ?hrb18 ?hQb18 (Or.inl ⟨?hwb18, ?hyb18⟩) ?hSb18 ?restb18
            case hib18 => (simp; rfl)
            case hsb18 => kernel_rfl
            case hfb18 => kernel_rfl
            case hrb18 => kernel_rfl
            case hQb18 => exact fun _ _ _ h => h
            case hwb18 => rfl
            case hyb18 => (intro wq hSq; (try dsimp only at hSq); go_simp; (try with_reducible rfl))
            case hSb18 => assumption
            simp only [Act.put, List.setIfInBounds_toArray, List.set_cons_zero, List.set_cons_succ]
            refine wpAnyH_take (i := 19) (oi := ?ob19) (v := ?vb19) ?hib19 ?hsb19 ?hfb19 ?hrb19 ?hQb19 (Or.inl ⟨?hwb19, ?hyb19⟩) ?hSb19 ?restb19
            case hib19 => (simp; rfl)
            case hsb19 => kernel_rfl
            case hfb19 => kernel_rfl
            case hrb19 => kernel_rfl
            case hQb19 => exact fun _ _ _ h => h
            case hwb19 => rfl
            case hyb19 => (intro wq hSq; (try dsimp only at hSq); go_simp; (try with_reducible rfl))
            case hSb19 => assumption
            simp only [Act.put, List.setIfInBounds_toArray, List.set_cons_zero, List.set_cons_succ]
            refine wpAnyH_take (i := 20) (oi := ?ob20) (v := ?vb20) ?hib20 ?hsb20 ?hfb20 ?hrb20 ?hQb20 (Or.inl ⟨?hwb20, ?hyb20⟩) ?hSb20 ?restb20
            case hib20 => (simp; rfl)
            case hsb20 => kernel_rfl
            case hfb20 => kernel_rfl
            case hrb20 => kernel_rfl
            case hQb20 => exact fun _ _ _ h => h
            case hwb20 => rfl
            case hyb20 => (intro wq hSq; (try dsimp only at hSq); go_simp; (try with_reducible rfl))
            case hSb20 => assumption
            simp only [Act.put, List.setIfInBounds_toArray, List.set_cons_zero, List.set_cons_succ]
            refine wpAnyH_take (i := 21) (oi := ?ob21) (v := ?vb21) ?hib21 ?hsb21 ?hfb21 ?hrb21 ?hQb21 (Or.inl ⟨?hwb21, ?hyb21⟩) ?hSb21 ?restb21
            case hib21 => (simp; rfl)
            case hsb21 => kernel_rfl
            case hfb21 => kernel_rfl
            case hrb21 => kernel_rfl
            case hQb21 => exact fun _ _ _ h => h
            case hwb21 => rfl
            case hyb21 => (intro wq hSq; (try dsimp only at hSq); go_simp; (try with_reducible rfl))
            case hSb21 => assumption
            simp only [Act.put, List.setIfInBounds_toArray, List.set_cons_zero, List.set_cons_succ]
            refine wpAnyH_take (i := 22) (oi := ?ob22) (v := ?vb22) ?hib22 ?hsb22 ?hfb22 ?hrb22 ?hQb22 (Or.inl ⟨?hwb22, ?hyb22⟩) ?hSb22 ?restb22
            case hib22 => (simp; rfl)
            case hsb22 => kernel_rfl
            case hfb22 => kernel_rfl
            case hrb22 => kernel_rfl
            case hQb22 => exact fun _ _ _ h => h
            case hwb22 => rfl
            case hyb22 => (intro wq hSq; (try dsimp only at hSq); go_simp; (try with_reducible rfl))
            case hSb22 => assumption
            simp only [Act.put, List.setIfInBounds_toArray, List.set_cons_zero, List.set_cons_succ]
            refine wpAnyH_take (i := 23) (oi := ?ob23) (v := ?vb23) ?hib23 ?hsb23 ?hfb23 ?hrb23 ?hQb23 (Or.inl ⟨?hwb23, ?hyb23⟩) ?hSb23 ?restb23
            case hib23 => (simp; rfl)
            case hsb23 => kernel_rfl
            case hfb23 => kernel_rfl
            case hrb23 => kernel_rfl
            case hQb23 => exact fun _ _ _ h => h
            case hwb23 => rfl
            case hyb23 => (intro wq hSq; (try dsimp only at hSq); go_simp; (try with_reducible rfl))
            case hSb23 => assumption
            simp only [Act.put, List.setIfInBounds_toArray, List.set_cons_zero, List.set_cons_succ]
            refine wpAnyH_take (i := 24) (oi := ?ob24) (v := ?vb24) ?hib24 ?hsb24 ?hfb24 ?hrb24 ?hQb24 (Or.inl ⟨?hwb24, ?hyb24⟩) ?hSb24 ?restb24
            case hib24 => (simp; rfl)
            case hsb24 => kernel_rfl
            case hfb24 => kernel_rfl
            case hrb24 => kernel_rfl
            case hQb24 => exact fun _ _ _ h => h
            case hwb24 => rfl
            case hyb24 => (intro wq hSq; (try dsimp only at hSq); go_simp; (try with_reducible rfl))
            case hSb24 => assumption
            simp only [Act.put, List.setIfInBounds_toArray, List.set_cons_zero, List.set_cons_succ]
            refine wpAnyH_take (i := 25) (oi := ?ob25) (v := ?vb25) ?hib25 ?hsb25 ?hfb25 ?hrb25 ?hQb25 (Or.inl ⟨?hwb25, ?hyb25⟩) ?hSb25 ?restb25
            case hib25 => (simp; rfl)
            case hsb25 => kernel_rfl
            case hfb25 => kernel_rfl
            case hrb25 => kernel_rfl
            case hQb25 => exact fun _ _ _ h => h
            case hwb25 => rfl
            case hyb25 => (intro wq hSq; (try dsimp only at hSq); go_simp; (try with_reducible rfl))
            case hSb25 => assumption
            simp only [Act.put, List.setIfInBounds_toArray, List.set_cons_zero, List.set_cons_succ]
            refine wpAnyH_take (i := 26) (oi := ?ob26) (v := ?vb26) ?hib26 ?hsb26 ?hfb26 ?hrb26 ?hQb26 (Or.inl ⟨?hwb26, ?hyb26⟩) ?hSb26 ?restb26
            case hib26 => (simp; rfl)
            case hsb26 => kernel_rfl
            case hfb26 => kernel_rfl
            case hrb26 => kernel_rfl
            case hQb26 => exact fun _ _ _ h => h
            case hwb26 => rfl
            case hyb26 => (intro wq hSq; (try dsimp only at hSq); go_simp; (try with_reducible rfl))
            case hSb26 => assumption
            simp only [Act.put, List.setIfInBounds_toArray, List.set_cons_zero, List.set_cons_succ]
            refine wpAnyH_take (i := 27) (oi := ?ob27) (v := ?vb27) ?hib27 ?hsb27 ?hfb27 ?hrb27 ?hQb27 (Or.inl ⟨?hwb27, ?hyb27⟩) ?hSb27 ?restb27
            case hib27 => (simp; rfl)
            case hsb27 => kernel_rfl
            case hfb27 => kernel_rfl
            case hrb27 => kernel_rfl
            case hQb27 => exact fun _ _ _ h => h
            case hwb27 => rfl
            case hyb27 => (intro wq hSq; (try dsimp only at hSq); go_simp; (try with_reducible rfl))
            case hSb27 => assumption
            simp only [Act.put, List.setIfInBounds_toArray, List.set_cons_zero, List.set_cons_succ]
            refine wpAnyH_take (i := 28) (oi := ?ob28) (v := ?vb28) ?hib28 ?hsb28 ?hfb28 ?hrb28 ?hQb28 (Or.inl ⟨?hwb28, ?hyb28⟩) ?hSb28 ?restb28
            case hib28 => (simp; rfl)
            case hsb28 => kernel_rfl
            case hfb28 => kernel_rfl
            case hrb28 => kernel_rfl
            case hQb28 => exact fun _ _ _ h => h
            case hwb28 => rfl
            case hyb28 => (intro wq hSq; (try dsimp only at hSq); go_simp; (try with_reducible rfl))
            case hSb28 => assumption
            simp only [Act.put, List.setIfInBounds_toArray, List.set_cons_zero, List.set_cons_succ]
            refine wpAnyH_take (i := 29) (oi := ?ob29) (v := ?vb29) ?hib29 ?hsb29 ?hfb29 ?hrb29 ?hQb29 (Or.inl ⟨?hwb29, ?hyb29⟩) ?hSb29 ?restb29
            case hib29 => (simp; rfl)
            case hsb29 => kernel_rfl
            case hfb29 => kernel_rfl
            case hrb29 => kernel_rfl
            case hQb29 => exact fun _ _ _ h => h
            case hwb29 => rfl
            case hyb29 => (intro wq hSq; (try dsimp only at hSq); go_simp; (try with_reducible rfl))
            case hSb29 => assumption
            simp only [Act.put, List.setIfInBounds_toArray, List.set_cons_zero, List.set_cons_succ]
            refine wpAnyH_take (i := 30) (oi := ?ob30) (v := ?vb30) ?hib30 ?hsb30 ?hfb30 ?hrb30 ?hQb30 (Or.inl ⟨?hwb30, ?hyb30⟩) ?hSb30 ?restb30
            case hib30 => (simp; rfl)
            case hsb30 => kernel_rfl
            case hfb30 => kernel_rfl
            case hrb30 => kernel_rfl
            case hQb30 => exact fun _ _ _ h => h
            case hwb30 => rfl
            case hyb30 => (intro wq hSq; (try dsimp only at hSq); go_simp; (try with_reducible rfl))
            case hSb30 => assumption
            simp only [Act.put, List.setIfInBounds_toArray, List.set_cons_zero, List.set_cons_succ]
            refine wpAnyH_ready (rs := [31]) (by kernel_rfl) (by simp) ?_
            refine AllReadyH.cons (o := ?ob31) ?hib31 (fun K hK => ?_) AllReadyH.nil
            case hib31 => (simp; rfl)
            go_simp
            refine (keepValue_same v.d _).mono ?_
            rintro e wz ⟨rfl, hb⟩
            go_wp2_with fail
            refine hK.out _ _ ?_ (fun hH2 => ?_)
            · exact Vl.CVS.keep hb hH
            clear hK K hb hH
            refine wpAnyH_take (i := 32) (oi := ?ob32) (v := ?vb32) ?hib32 ?hsb32 ?hfb32 ?hrb32 ?hQb32 (Or.inl ⟨?hwb32, ?hyb32⟩) ?hSb32 ?restb32
            case hib32 => (simp; rfl)
            case hsb32 => kernel_rfl
            case hfb32 => kernel_rfl
            case hrb32 => kernel_rfl
            case hQb32 => exact fun _ _ _ h => h
            case hwb32 => rfl
            case hyb32 => (intro wq hSq; (try dsimp only at hSq); go_simp; (try with_reducible rfl))
            case hSb32 => assumption
            simp only [Act.put, List.setIfInBounds_toArray, List.set_cons_zero, List.set_cons_succ]
            refine wpAnyH_take (i := 33) (oi := ?ob33) (v := ?vb33) ?hib33 ?hsb33 ?hfb33 ?hrb33 ?hQb33 (Or.inl ⟨?hwb33, ?hyb33⟩) ?hSb33 ?restb33
            case hib33 => (simp; rfl)
            case hsb33 => kernel_rfl
            case hfb33 => kernel_rfl
            case hrb33 => kernel_rfl
            case hQb33 => exact fun _ _ _ h => h
            case hwb33 => rfl
            case hyb33 => (intro wq hSq; (try dsimp only at hSq); go_simp; (try with_reducible rfl))
            case hSb33 => assumption
            simp only [Act.put, List.setIfInBounds_toArray, List.set_cons_zero, List.set_cons_succ]
            refine wpAnyH_take (i := 34) (oi := ?ob34) (v := ?vb34) ?hib34 ?hsb34 ?hfb34 ?hrb34 ?hQb34 (Or.inl ⟨?hwb34, ?hyb34⟩) ?hSb34 ?restb34
            case hib34 => (simp; rfl)
            case hsb34 => kernel_rfl
            case hfb34 => kernel_rfl
            case hrb34 => kernel_rfl
            case hQb34 => exact fun _ _ _ h => h
            case hwb34 => rfl
            case hyb34 => (intro wq hSq; (try dsimp only at hSq); go_simp; (try with_reducible rfl))
            case hSb34 => assumption
            simp only [Act.put, List.setIfInBounds_toArray, List.set_cons_zero, List.set_cons_succ]
            refine wpAnyH_done (by kernel_rfl) ?_ _
            have HZ := Vl.hid (Vl.CVS.parts hH2).2.2
            clear hH2
            go_wp2_with fail
            exact ⟨⟨k + 1, by omega, by go_num, HRW.out.below HZ.out, Vl.btr HB.out HZ.out⟩, by simp [RowKit.intOf]; omega⟩
        · obtain rfl : k = n := by omega
          go_wp2_with fail
          refine (wakes_any _).mono ?_
          rintro e wk ⟨rfl, hb⟩
          have HBK := Vl.hid (Vl.btr HB.out hb)
          clear hb
          go_wp2_with fail
          go_ret
          exact ⟨rfl, HBK.out⟩
    · go_wp2_with fail
      refine (wakes_any _).mono ?_
      rintro e wk ⟨rfl, hb⟩
      have HBK := Vl.hid (Vl.btr HB2.out hb)
      clear hb
      go_wp2_with fail
      go_ret
      exact ⟨rfl, HBK.out⟩
  · go_wp2_with fail
    refine (wakes_any _).mono ?_
    rintro e wk ⟨rfl, hb⟩
    have HBK := Vl.hid (Vl.btr HB1.out hb)
    clear hb
    go_wp2_with fail
    go_ret
    exact ⟨rfl, HBK.out⟩

end Go.Proofs.Ytaclkmhgbmencaa
