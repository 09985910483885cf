/- RowFills: the walk. -/
import Derived.Test.YtaclkmhgbmencaaL0
namespace Go.Proofs.Ytaclkmhgbmencaa
open Go.RowKit
attribute [local go_sem] Fl.run_store_float

set_option maxRecDepth 100000 in
set_option maxHeartbeats 8000000 in
theorem rowFills_law (p : Option Addr) (n c : Nat) (cs : List Vl.Col) (q : Option Addr) (m d : Nat) (xs : List Vl.V) (x : Vl.Col) (w : World) (hC : Vl.Col1 w p n c cs) (hR : Vl.Row1 w q m d xs) (_ : True) :
    Calls Try.prog 4 #[.slice p n c, .slice q m d, .agg #[.string x.nm, .int .i64 x.k, .bool x.nn, .int .i64 x.d.k, .int .i64 x.d.n, .float .f64 x.d.f, .string x.d.s]] w fun e w' => e = .returned (.bool true) ∧ Below w.heap.size w w' := by
  have HC := Vl.hid hC
  have HR := Vl.hid hR
  have hn := hC.le
  have hm := hR.le
  have HS0 := Vl.hid (Vl.CB.start w x 27)
  clear hC hR
  go_enter Try.func4, Try.ntmps4
  go_wp2_with fail
  refine (largeColumns_any p n c cs _ HC.out.len HC.out.le (Vl.hid (HC.out.row.below HS0.out.b))).mono ?_
  rintro e w1 ⟨b, rfl, hb, hB⟩
  have HS1 := Vl.hid (HS0.out.step hB)
  have HB1 := Vl.hid HS1.out.b
  have HL := Vl.hid hb
  clear hB hb HS0
  cases b
  · have hn50 : n ≤ 50 := HL.out rfl
    clear HL
    go_wp2_with fail
    refine (largeRow_any q m d xs _ HR.out.len HR.out.le (Vl.hid (HR.out.row.below HB1.out))).mono ?_
    rintro e w2 ⟨b, rfl, hb, hB⟩
    have HS2 := Vl.hid (HS1.out.step hB)
    have HB2 := Vl.hid HS2.out.b
    have HL2 := Vl.hid hb
    clear hB hb HS1
    cases b
    · have hm50 : m ≤ 50 := (HL2.out rfl).1
      clear HL2
      obtain ⟨p0, p1, p2, p3, p4, p5, p6⟩ := HS2.out.c.box
      go_wp2_with fail
      refine (largeColumns_any (some ⟨w2.heap.size, 0, none⟩) 1 1 [x] _ rfl (Nat.le_refl _) (Vl.hid (Vl.C7.made x _ rfl).lies)).mono ?_
      rintro e w3 ⟨b, rfl, _, hB⟩
      have HS3 := Vl.hid (HS2.out.step (Vl.btr (Vl.bal (Below.refl _ _) _) hB))
      have HB3 := Vl.hid HS3.out.b
      clear hB HS2 p0 p1 p2 p3 p4 p5 p6
      cases b
      · clear HB1 HB2
        have HFL : Hid ((Vl.fillL cs xs).length ≤ 100000) := Vl.hid (by unfold Vl.fillL; split; rw [Vl.padL_length, HC.out.len]; omega; simp)
        have HPL : Hid ((Vl.padL cs xs).length = n) := Vl.hid (by rw [Vl.padL_length, HC.out.len])
        obtain ⟨iV, HIV⟩ : ∃ i, Hid (Try.prog.info? 25 = some i ∧ i.zero = some (.agg #[.int .i64 0, .int .i64 0, .float .f64 0, .string ⟨#[]⟩]) ∧ i.size = 4 ∧ i.bytes = 40) := ⟨_, Try.type25, rfl, rfl, rfl⟩
        obtain ⟨iC, HIC⟩ : ∃ i, Hid (Try.prog.info? 27 = some i ∧ i.zero = some (.agg #[.string ⟨#[]⟩, .int .i64 0, .bool false, .int .i64 0, .int .i64 0, .float .f64 0, .string ⟨#[]⟩]) ∧ i.size = 7 ∧ i.bytes = 72) := ⟨_, Try.type27, rfl, rfl, rfl⟩
        go_wp2_with (at_builtin; refine Vl.append_any rfl _ _ 38 rfl w3.heap.size 25 iV (.agg #[.int .i64 0, .int .i64 0, .float .f64 0, .string ⟨#[]⟩]) 4 40 Try.underlying38 HIV.out.1 HIV.out.2.1 HIV.out.2.2.1 HIV.out.2.2.2 rfl (by decide) (.slice (some ⟨w3.heap.size, 0, none⟩) 0 0) 0 [] rfl (Vl.own_at (Vl.new_at2 _ rfl) (Nat.le_refl _)) q m d (Vl.cellsV xs) rfl (HR.out.nil) (by rw [Vl.cellsV_length, HR.out.len]) ((HR.out.row.below HB3.out).al _) (Vl.cellsV_one _) (by unfold maxLen; omega) (by omega) (by simp) ?_)
        intro v' w4 hown hgrow
        obtain ⟨pin, cin, rfl, hcin, hnin, hin, hb⟩ := Vl.copied hown hgrow
        clear hown hgrow
        have HIN := Vl.hid hin
        have HS4 := Vl.hid (HS3.out.step hb)
        clear hin hb hnin HB3 HS3
        go_wp2_with (at_builtin; refine Vl.append_any rfl _ _ 22 rfl w4.heap.size 27 iC (.agg #[.string ⟨#[]⟩, .int .i64 0, .bool false, .int .i64 0, .int .i64 0, .float .f64 0, .string ⟨#[]⟩]) 7 72 Try.underlying22 HIC.out.1 HIC.out.2.1 HIC.out.2.2.1 HIC.out.2.2.2 rfl (by decide) (.slice (some ⟨w4.heap.size, 0, none⟩) 0 0) 0 [] rfl (Vl.own_at (Vl.new_at2 _ rfl) (Nat.le_refl _)) p n c (Vl.cellsC cs) rfl (HC.out.nil) (by rw [Vl.cellsC_length, HC.out.len]) ((HC.out.row.below HS4.out.b).al _) (Vl.cellsC_one _) (by unfold maxLen; omega) (by omega) (by simp) ?_)
        intro v' w5 hown hgrow
        obtain ⟨pl, cl, rfl, hcl, hnl, hlin, hb⟩ := Vl.copied hown hgrow
        clear hown hgrow
        have HLN := Vl.hid hlin
        have HS5 := Vl.hid (HS4.out.step hb)
        have HIN5 := Vl.hid (HIN.out.below hb)
        clear hlin hb hnl HS4 HIN
        go_wp2_with fail
        refine (fill_any pl n cl cs pin m cin xs _ HC.out.len hcl (by omega) HLN HR.out.len HIN5).mono ?_
        rintro e w6 ⟨pa, ca, rfl, hca, _, hra, hb⟩
        obtain ⟨L, HL⟩ : ∃ L, Hid ((Vl.fillL cs xs).length = L) := ⟨_, Vl.hid rfl⟩
        obtain ⟨E, HE⟩ : ∃ E, Hid (Vl.fillE cs xs = E) := ⟨_, Vl.hid rfl⟩
        rw [HL.out, HE.out]
        rw [HL.out] at hca HFL
        have HS6 := Vl.hid (HS5.out.step hb)
        have HIN6 := Vl.hid (HIN5.out.below hb)
        have HA6 := Vl.hid hra
        clear hra hb HS5 HIN5 HLN
        go_wp2_with fail
        refine (refFill_any p n c cs q m d xs _ HC.out.len HC.out.le (by omega) (Vl.hid (HC.out.row.below HS6.out.b)) HR.out.len (Vl.hid (HR.out.row.below HS6.out.b))).mono ?_
        rintro e w7 ⟨pb, cb, rfl, hcb, hrb, hb⟩
        rw [HL.out, HE.out]
        rw [HL.out] at hcb
        have HS7 := Vl.hid (HS6.out.step hb)
        have HIN7 := Vl.hid (HIN6.out.below hb)
        have HA7 := Vl.hid (HA6.out.below hb)
        have HR7 := Vl.hid hrb
        clear hrb hb HS6 HIN6 HA6
        have hee : (E != E) = false := by simp
        go_wp2_with fail
        refine (keepValues_same pa pb L ca cb (Vl.fillL cs xs) _ HL.out HFL.out hca hcb HA7 HR7).mono ?_
        rintro e w8 ⟨rfl, hb⟩
        have HS8 := Vl.hid (HS7.out.step hb)
        have HIN8 := Vl.hid (HIN7.out.below hb)
        clear hb HS7 HIN7 HA7 HR7
        go_wp2_with fail
        refine (pad_any p n c cs pin m cin xs _ HC.out.len HC.out.le (by omega) (Vl.hid (HC.out.row.below HS8.out.b)) HR.out.len HIN8).mono ?_
        rintro e w9 ⟨pc, cc, rfl, hcc, _, hrc, hb⟩
        have HS9 := Vl.hid (HS8.out.step hb)
        have HIN9 := Vl.hid (HIN8.out.below hb)
        have HP9 := Vl.hid hrc
        clear hb hrc HS8 HIN8
        go_wp2_with fail
        refine (refPad_any p n c cs q m d xs _ HC.out.len HC.out.le (by omega) (Vl.hid (HC.out.row.below HS9.out.b)) HR.out.len (Vl.hid (HR.out.row.below HS9.out.b))).mono ?_
        rintro e w10 ⟨pd, cd, rfl, hcd, hrd, hb⟩
        have HS10 := Vl.hid (HS9.out.step hb)
        have HIN10 := Vl.hid (HIN9.out.below hb)
        have HP10 := Vl.hid (HP9.out.below hb)
        have HQ10 := Vl.hid hrd
        clear hb hrd HS9 HIN9 HP9
        go_wp2_with fail
        refine (keepValues_same pc pd n cc cd (Vl.padL cs xs) _ HPL.out (by omega) hcc hcd HP10 HQ10).mono ?_
        rintro e w11 ⟨rfl, hb⟩
        have HS11 := Vl.hid (HS10.out.step hb)
        have HIN11 := Vl.hid (HIN10.out.below hb)
        clear hb HS10 HIN10 HP10 HQ10
        go_wp2_with fail
        refine (keepValues_same pin q m cin d xs _ HR.out.len (by omega) hcin HR.out.le HIN11 (Vl.hid (HR.out.row.below HS11.out.b))).mono ?_
        rintro e w12 ⟨rfl, hb⟩
        have HS12 := Vl.hid (HS11.out.step hb)
        clear hb HS11 HIN11
        go_wp2_with fail
        go_loopw [12] (fun vi wr => ∃ k : Nat, k ≤ m ∧ vi = .int .i64 (k : Int) ∧ Hid (Vl.CB w x wr)) (fun vi _ => m - (RowKit.intOf vi).toNat)
        case atStart => exact ⟨0, by omega, rfl, HS12⟩
        case round =>
          obtain ⟨k, hk1, rfl, HS⟩ := hrel
          rename World => wr
          by_cases hlt : k < m
          · obtain ⟨y, hy⟩ : ∃ y, xs[k]? = some y := ⟨xs[k]'(by rw [HR.out.len]; exact hlt), List.getElem?_eq_getElem _⟩
            obtain ⟨b2, o2, hp2, hr2⟩ := (HR.out.row.below HS.out.b).at hy
            have HV := Vl.hid (Vl.CVS.of HS.out.c hr2 (Below.refl wr.heap.size wr))
            clear hy hr2
            subst hp2
            obtain ⟨T, HT⟩ : ∃ T, Hid (Vl.takesE x y = T) := ⟨_, Vl.hid rfl⟩
            have htt : (T != T) = false := by simp
            go_wp2_with fail
            go_region_held3 (fun w' => w'.cell? ⟨w.heap.size, 0, none⟩ = some (.string x.nm) ∧ w'.cell? ⟨w.heap.size, 1, none⟩ = some (.int .i64 x.k) ∧ w'.cell? ⟨w.heap.size, 2, none⟩ = some (.bool x.nn) ∧ w'.cell? ⟨w.heap.size, 3, none⟩ = some (.int .i64 x.d.k) ∧ w'.cell? ⟨w.heap.size, 4, none⟩ = some (.int .i64 x.d.n) ∧ w'.cell? ⟨w.heap.size, 5, none⟩ = some (.float .f64 x.d.f) ∧ w'.cell? ⟨w.heap.size, 6, none⟩ = some (.string x.d.s) ∧ w'.cell? ⟨b2, o2 + k * 4, none⟩ = some (.int .i64 y.k) ∧ w'.cell? ⟨b2, o2 + k * 4 + 1, none⟩ = some (.int .i64 y.n) ∧ w'.cell? ⟨b2, o2 + k * 4 + 2, none⟩ = some (.float .f64 y.f) ∧ w'.cell? ⟨b2, o2 + k * 4 + 3, none⟩ = some (.string y.s) ∧ w.heap.size < w'.heap.size ∧ b2 < w'.heap.size ∧ Below wr.heap.size wr w')
              (first | exact Vl.CVS.drew HV.out | exact Vl.CVS.keep hb (by assumption))
              (first | (go_at_call 23; refine (takes_any x y _).mono ?_; rintro e2 w2 ⟨rfl, hb⟩; rw [HT.out]) | (go_at_call 24; refine (refTakes_any x y _).mono ?_; rintro e2 w2 ⟨rfl, hb⟩; rw [HT.out]))
            rename World => wz
            have hz : Vl.CVS w.heap.size 0 b2 (o2 + k * 4) x y wr wz := by assumption
            have HZ := Vl.hid (HS.out.step hz.b)
            clear hz
            go_wp2_with fail
            exact ⟨⟨k + 1, by omega, by go_num, HZ.out⟩, by simp [RowKit.intOf]; omega⟩
          · obtain rfl : k = m := by omega
            have HB := Vl.hid HS.out.b
            go_wp2_with fail
            refine (wakes_any _).mono ?_
            rintro e wk ⟨rfl, hb⟩
            have HBK := Vl.hid (Vl.btr HB.out hb)
            clear hb
            go_wp2_with fail
            go_ret
            exact ⟨rfl, HBK.out⟩
      · go_wp2_with fail
        refine (wakes_any _).mono ?_
        rintro e wk ⟨rfl, hb⟩
        have HBK := Vl.hid (Vl.btr HB3.out hb)
        clear hb
        go_wp2_with fail
        go_ret
        exact ⟨rfl, HBK.out⟩
    · go_wp2_with fail
      refine (wakes_any _).mono ?_
      rintro e wk ⟨rfl, hb⟩
      have HBK := Vl.hid (Vl.btr HB2.out hb)
      clear hb
      go_wp2_with fail
      go_ret
      exact ⟨rfl, HBK.out⟩
  · go_wp2_with fail
    refine (wakes_any _).mono ?_
    rintro e wk ⟨rfl, hb⟩
    have HBK := Vl.hid (Vl.btr HB1.out hb)
    clear hb
    go_wp2_with fail
    go_ret
    exact ⟨rfl, HBK.out⟩

end Go.Proofs.Ytaclkmhgbmencaa
