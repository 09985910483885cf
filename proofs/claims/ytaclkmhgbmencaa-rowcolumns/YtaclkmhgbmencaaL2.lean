/- RowColumns: the walk. -/
import Derived.Test.YtaclkmhgbmencaaL0
namespace Go.Proofs.Ytaclkmhgbmencaa
open Go.RowKit
attribute [local go_sem] Fl.run_store_float

set_option maxRecDepth 100000 in
set_option maxHeartbeats 8000000 in
theorem rowColumns_law (p : Option Addr) (n c : Nat) (cs : List Vl.Col) (x : Vl.Col) (nm : ByteArray) (w : World) (hC : Vl.Col1 w p n c cs) (_ : True) (_ : nm.size ≤ maxLen) :
    Calls Try.prog 3 #[.slice p n c, .agg #[.string x.nm, .int .i64 x.k, .bool x.nn, .int .i64 x.d.k, .int .i64 x.d.n, .float .f64 x.d.f, .string x.d.s], .string nm] w fun e w' => e = .returned (.bool true) ∧ Below w.heap.size w w' := by
  have HC := Vl.hid hC
  have hn := hC.le
  have HS0 := Vl.hid (Vl.CB.start w x 27)
  clear hC
  go_enter Try.func3, Try.ntmps3
  go_wp2_with fail
  refine (largeColumns_any p n c cs _ HC.out.len HC.out.le (Vl.hid (HC.out.row.below HS0.out.b))).mono ?_
  rintro e w1 ⟨b, rfl, hb, hB⟩
  have HS1 := Vl.hid (HS0.out.step hB)
  have HB1 := Vl.hid HS1.out.b
  have HL := Vl.hid hb
  clear hB hb HS0
  cases b
  · have hn50 : n ≤ 50 := HL.out rfl
    clear HL
    obtain ⟨p0, p1, p2, p3, p4, p5, p6⟩ := HS1.out.c.box
    go_wp2_with fail
    refine (largeColumns_any (some ⟨w1.heap.size, 0, none⟩) 1 1 [x] _ rfl (Nat.le_refl _) (Vl.hid (Vl.C7.made x _ rfl).lies)).mono ?_
    rintro e w2 ⟨b, rfl, _, hB⟩
    have HS2 := Vl.hid (HS1.out.step (Vl.btr (Vl.bal (Below.refl _ _) _) hB))
    have HB2 := Vl.hid HS2.out.b
    clear hB HS1 p0 p1 p2 p3 p4 p5 p6
    cases b
    · cases hs : decide ((1000 : Int) < (nm.size : Int))
      · have HAL : Hid ((Vl.addL cs x).length ≤ 100000) := Vl.hid (by unfold Vl.addL; split; rw [List.length_append, HC.out.len]; simp; omega; simp)
        obtain ⟨iC, HIC⟩ : ∃ i, Hid (Try.prog.info? 27 = some i ∧ i.zero = some (.agg #[.string ⟨#[]⟩, .int .i64 0, .bool false, .int .i64 0, .int .i64 0, .float .f64 0, .string ⟨#[]⟩]) ∧ i.size = 7 ∧ i.bytes = 72) := ⟨_, Try.type27, rfl, rfl, rfl⟩
        go_wp2_with (at_builtin; refine Vl.append_any rfl _ _ 22 rfl w2.heap.size 27 iC (.agg #[.string ⟨#[]⟩, .int .i64 0, .bool false, .int .i64 0, .int .i64 0, .float .f64 0, .string ⟨#[]⟩]) 7 72 Try.underlying22 HIC.out.1 HIC.out.2.1 HIC.out.2.2.1 HIC.out.2.2.2 rfl (by decide) (.slice (some ⟨w2.heap.size, 0, none⟩) 0 0) 0 [] rfl (Vl.own_at (Vl.new_at2 _ rfl) (Nat.le_refl _)) p n c (Vl.cellsC cs) rfl (HC.out.nil) (by rw [Vl.cellsC_length, HC.out.len]) ((HC.out.row.below HB2.out).al _) (Vl.cellsC_one _) (by unfold maxLen; omega) (by omega) (by simp) ?_)
        intro v' w3 hown hgrow
        obtain ⟨pin, cin, rfl, hcin, hnin, hin, hb⟩ := Vl.copied hown hgrow
        clear hown hgrow
        have HIN := Vl.hid hin
        have HS3 := Vl.hid (HS2.out.step hb)
        clear hin hb hnin HB2 HS2 HB1
        obtain ⟨p0, p1, p2, p3, p4, p5, p6⟩ := HS3.out.c.box
        go_wp2_with fail
        refine (add_any pin n cin cs x _ HC.out.len hcin (by omega) HIN).mono ?_
        rintro e w4 ⟨pa, ca, rfl, hca, _, hra, hb⟩
        obtain ⟨L, HL⟩ : ∃ L, Hid ((Vl.addL cs x).length = L) := ⟨_, Vl.hid rfl⟩
        obtain ⟨E, HE⟩ : ∃ E, Hid (Vl.addE cs x = E) := ⟨_, Vl.hid rfl⟩
        rw [HL.out, HE.out]
        rw [HL.out] at hca HAL
        have HS4 := Vl.hid (HS3.out.step hb)
        have HIN4 := Vl.hid (HIN.out.below hb)
        have HA4 := Vl.hid hra
        clear hra hb HS3 HIN p0 p1 p2 p3 p4 p5 p6
        obtain ⟨p0, p1, p2, p3, p4, p5, p6⟩ := HS4.out.c.box
        go_wp2_with fail
        refine (refAdd_any p n c cs x _ HC.out.len HC.out.le (by omega) (Vl.hid (HC.out.row.below HS4.out.b))).mono ?_
        rintro e w5 ⟨pb, cb, rfl, hcb, hrb, hb⟩
        rw [HL.out, HE.out]
        rw [HL.out] at hcb
        have HB5 := Vl.hid (HS4.out.step hb).b
        have HIN5 := Vl.hid (HIN4.out.below hb)
        have HA5 := Vl.hid (HA4.out.below hb)
        have HR5 := Vl.hid hrb
        clear hrb hb HS4 HIN4 HA4 p0 p1 p2 p3 p4 p5 p6
        go_wp2_with fail
        refine (goodC_any pin n cin cs _ HC.out.len hcin (by omega) HIN5).mono ?_
        rintro e w6 ⟨rfl, hb⟩
        obtain ⟨G, HG⟩ : ∃ G, Hid (Vl.colsB cs = G) := ⟨_, Vl.hid rfl⟩
        rw [HG.out]
        have HB6 := Vl.hid (Vl.btr HB5.out hb)
        have HIN6 := Vl.hid (HIN5.out.below hb)
        have HA6 := Vl.hid (HA5.out.below hb)
        have HR6 := Vl.hid (HR5.out.below hb)
        clear hb HB5 HIN5 HA5 HR5
        go_wp2_with fail
        refine (refGoodC_any p n c cs _ HC.out.len HC.out.le (Vl.hid (HC.out.row.below HB6.out))).mono ?_
        rintro e w7 ⟨rfl, hb⟩
        rw [HG.out]
        have HB7 := Vl.hid (Vl.btr HB6.out hb)
        have HIN7 := Vl.hid (HIN6.out.below hb)
        have HA7 := Vl.hid (HA6.out.below hb)
        have HR7 := Vl.hid (HR6.out.below hb)
        clear hb HB6 HIN6 HA6 HR6
        have hgg : (G == G) = true := by simp
        go_wp2_with fail
        refine (find_any pin n cin cs nm _ HC.out.len hcin (by omega) HIN7).mono ?_
        rintro e w8 ⟨rfl, hb⟩
        obtain ⟨F, HF⟩ : ∃ F, Hid (Vl.findN cs nm = F) := ⟨_, Vl.hid rfl⟩
        rw [HF.out]
        have HB8 := Vl.hid (Vl.btr HB7.out hb)
        have HIN8 := Vl.hid (HIN7.out.below hb)
        have HA8 := Vl.hid (HA7.out.below hb)
        have HR8 := Vl.hid (HR7.out.below hb)
        clear hb HB7 HIN7 HA7 HR7
        go_wp2_with fail
        refine (refFind_any p n c cs nm _ HC.out.len HC.out.le (by omega) (Vl.hid (HC.out.row.below HB8.out))).mono ?_
        rintro e w9 ⟨rfl, hb⟩
        rw [HF.out]
        have HB9 := Vl.hid (Vl.btr HB8.out hb)
        have HIN9 := Vl.hid (HIN8.out.below hb)
        have HA9 := Vl.hid (HA8.out.below hb)
        have HR9 := Vl.hid (HR8.out.below hb)
        clear hb HB8 HIN8 HA8 HR8
        have hff : (F == F) = true := by simp
        have hee : (E == E) = true := by simp
        go_wp2_with fail
        refine (keepColumns_same pa pb L ca cb (Vl.addL cs x) _ HL.out HAL.out hca hcb HA9 HR9).mono ?_
        rintro e w10 ⟨rfl, hb⟩
        have HB10 := Vl.hid (Vl.btr HB9.out hb)
        have HIN10 := Vl.hid (HIN9.out.below hb)
        clear hb HB9 HIN9 HA9 HR9
        go_wp2_with fail
        refine (keepColumns_same pin p n cin c cs _ HC.out.len (by omega) hcin HC.out.le HIN10 (Vl.hid (HC.out.row.below HB10.out))).mono ?_
        rintro e w11 ⟨rfl, hb⟩
        have HB11 := Vl.hid (Vl.btr HB10.out hb)
        clear hb HB10 HIN10
        go_wp2_with fail
        refine (wakes_any _).mono ?_
        rintro e wk ⟨rfl, hb⟩
        have HBK := Vl.hid (Vl.btr HB11.out hb)
        clear hb
        go_wp2_with fail
        go_ret
        exact ⟨rfl, HBK.out⟩
      · go_wp2_with fail
        refine (wakes_any _).mono ?_
        rintro e wk ⟨rfl, hb⟩
        have HBK := Vl.hid (Vl.btr HB2.out hb)
        clear hb
        go_wp2_with fail
        go_ret
        exact ⟨rfl, HBK.out⟩
    · go_wp2_with fail
      refine (wakes_any _).mono ?_
      rintro e wk ⟨rfl, hb⟩
      have HBK := Vl.hid (Vl.btr HB2.out hb)
      clear hb
      go_wp2_with fail
      go_ret
      exact ⟨rfl, HBK.out⟩
  · go_wp2_with fail
    refine (wakes_any _).mono ?_
    rintro e wk ⟨rfl, hb⟩
    have HBK := Vl.hid (Vl.btr HB1.out hb)
    clear hb
    go_wp2_with fail
    go_ret
    exact ⟨rfl, HBK.out⟩

end Go.Proofs.Ytaclkmhgbmencaa
