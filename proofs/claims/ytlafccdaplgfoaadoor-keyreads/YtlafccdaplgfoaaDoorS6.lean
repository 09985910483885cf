/- Split. -/
import Derived.Test.YtlafccdaplgfoaaDoorS5
namespace Go.Proofs.YtlafccdaplgfoaaDoor
open Go.RowKit
attribute [local go_sem] Fl.run_store_float
attribute [local go_sem ↓] Go.wp_at_zero Go.wp_at_succ
namespace Ky
open Vl
/-- What an entry's key is read as. -/
def EntIs (l : List UInt8) : Option (V × Nat) → Prop
  | none => ∀ v n, GoodV v → n < 65536 → keyL v ++ beL n 2 ≠ l
  | some p => GoodV p.1 ∧ p.2 < 65536 ∧ keyL p.1 ++ beL p.2 2 = l
theorem be2_inj {m n : Nat} (hm : m < 65536) (hn : n < 65536) (h : beL m 2 = beL n 2) : m = n := by
  have := congrArg nvL h
  rw [nvL_beL, nvL_beL] at this
  omega
theorem EntIs.one {l : List UInt8} {o p : Option (V × Nat)} (h : EntIs l o) (h' : EntIs l p) : o = p := by
  cases o with
  | none => cases p with
    | none => rfl
    | some v => exact absurd h'.2.2 (h v.1 v.2 h'.1 h'.2.1)
  | some u => cases p with
    | none => exact absurd h.2.2 (h' u.1 u.2 h.1 h.2.1)
    | some v =>
      obtain ⟨e1, e2⟩ := key_front h.1 h'.1 (h.2.2.trans h'.2.2.symm)
      have e3 := be2_inj h.2.1 h'.2.1 e2
      rw [show u = v from Prod.ext e1 e3]
/-- What Split answers. -/
def splT : Option (V × Nat) → Value
  | none => .tuple #[.agg #[.int .i64 0, .int .i64 0, .float .f64 0, .string ⟨#[]⟩], .int .i64 0, .int .i64 11]
  | some p => .tuple #[.agg #[.int .i64 p.1.k, .int .i64 p.1.n, .float .f64 p.1.f, .string p.1.s], .int .i64 (p.2 : Int), .int .i64 0]
theorem ent_short {l : List UInt8} (h : l.length < 2) : EntIs l none := fun v n _ _ e => by
  rw [← e, List.length_append, beL_length] at h; omega
theorem ent_of {s : ByteArray} {m : Nat} (hm : s.size = m + 2) {o : Option V} (h : KeyIs (s.extract 0 m).data.toList o) {n : Nat} (hn : n = nvL (s.extract m s.size).data.toList) :
    n < 65536 ∧ EntIs s.data.toList (o.map fun v => (v, n)) := by
  have e1 : (s.extract 0 m).data.toList = s.data.toList.take m := by rw [extract_list]; simp
  have e2 : (s.extract m s.size).data.toList = s.data.toList.drop m := by rw [extract_list, size_list, List.take_length]
  have hl : (s.extract m s.size).data.toList.length = 2 := by rw [← size_list, ByteArray.size_extract]; omega
  have hlt : n < 65536 := by rw [hn]; have := nvL_lt (s.extract m s.size).data.toList; rwa [hl] at this
  have hb : beL n 2 = s.data.toList.drop m := by rw [hn, ← e2]; have := beL_nvL (s.extract m s.size).data.toList; rwa [hl] at this
  have hsp := List.take_append_drop m s.data.toList
  refine ⟨hlt, ?_⟩
  cases o with
  | none =>
    intro v n' hv hn' e
    refine h v hv ?_
    rw [e1, ← e]
    have hk : (keyL v).length = m := by
      have := congrArg List.length e
      rw [List.length_append, beL_length, ← size_list] at this; omega
    rw [← hk, List.take_left]
  | some v => exact ⟨h.1, hlt, by rw [h.2, hb, e1, hsp]⟩
end Ky

set_option maxRecDepth 100000 in
set_option maxHeartbeats 1000000 in
theorem split_short (s : ByteArray) (w : World) (h : s.size < 2) :
    Calls Tryd.prog 21 #[.string s] w fun e w' => ∃ o, e = .returned (Ky.splT o) ∧ Ky.EntIs s.data.toList o ∧ Below w.heap.size w w' := by
  have HE := Vl.hid (Ky.ent_short (l := s.data.toList) (by rw [← Ky.size_list]; exact h))
  have h2 : decide ((s.size : Int) - 2 < 0) = true := decide_eq_true (by omega)
  have hb : (s.size : Int) < 2 := by omega
  clear h
  go_enter Tryd.func21, Tryd.ntmps21
  go_wp2_with fail
  exact bodyPost_ret (v := .tuple #[.agg #[.int .i64 0, .int .i64 0, .float .f64 0, .string ⟨#[]⟩], .int .i64 0, .int .i64 11]) (by simp [results, Tryd.results21, go_sem]) rfl ⟨none, rfl, HE.out, Vl.bal (Below.refl _ _) _⟩

set_option maxRecDepth 100000 in
set_option maxHeartbeats 1000000 in
theorem split_long (s : ByteArray) (w : World) (m : Nat) (hM : Ky.Mx w) (hs : s.size ≤ 50000) (h : s.size = m + 2) :
    Calls Tryd.prog 21 #[.string s] w fun e w' => ∃ o, e = .returned (Ky.splT o) ∧ Ky.EntIs s.data.toList o ∧ Below w.heap.size w w' := by
  have h2 : (s.size : Int) - 2 = (m : Int) := by omega
  have h3 : (m : Int) ≤ (s.size : Int) := by omega
  have hm5 : m ≤ 50000 := by omega
  have HH := Vl.hid h
  have HM := Vl.hid (hM.below (Vl.bal (Below.refl _ _) (.cells #[.int .i64 0, .int .i64 0, .float .f64 0, .string ⟨#[]⟩] 24)))
  clear hM h
  go_enter Tryd.func21, Tryd.ntmps21
  go_wp2_with fail
  refine (value_any (s.extract 0 m) _ HM.out (by rw [ByteArray.size_extract]; omega)).mono ?_
  rintro e w1 ⟨o, rfl, hk, hb⟩
  have HZ := Vl.hid ((Ky.Cell4.made w ⟨0, 0, 0, ⟨#[]⟩⟩ 24).below hb)
  have HB := Vl.hid (Vl.btr (Vl.bal (Below.refl _ _) _) hb)
  have HK := Vl.hid hk
  clear hb hk HM
  have hzl := HZ.out.lt
  obtain ⟨d0, d1, d2, d3, g0, g1, g2, g3⟩ := id HZ.out
  cases o with
  | none =>
    have HE := Vl.hid (Ky.ent_of HH.out HK.out rfl).2
    unfold Ky.valT
    go_upto_region 5 with fail
    obtain ⟨W, hW, hC, hB⟩ : ∃ W, ((((w1.setCell ⟨w.heap.size, 0, none⟩ (.int .i64 0)).setCell ⟨w.heap.size, 1, none⟩ (.int .i64 0)).setCell ⟨w.heap.size, 2, none⟩ (.float .f64 0)).setCell ⟨w.heap.size, 3, none⟩ (.string ⟨#[]⟩)) = W ∧ Ky.Cell4 W w.heap.size ⟨0, 0, 0, ⟨#[]⟩⟩ ∧ Below w.heap.size w W := ⟨_, rfl, HZ.out.set ⟨0, 0, 0, ⟨#[]⟩⟩, (((HB.out.setCell (Nat.le_refl _) _).setCell (Nat.le_refl _) _).setCell (Nat.le_refl _) _).setCell (Nat.le_refl _) _⟩
    rw [hW]
    have HBW := Vl.hid hB
    have hzl := hC.lt
    clear hW hB HB HZ d0 d1 d2 d3 g0 g1 g2 g3
    obtain ⟨d0, d1, d2, d3, g0, g1, g2, g3⟩ := hC
    go_wp2_with fail
    refine bodyPost_ret (v := .tuple #[.agg #[.int .i64 0, .int .i64 0, .float .f64 0, .string ⟨#[]⟩], .int .i64 0, .int .i64 11]) (by simp [results, Tryd.results21, go_sem, d0, d1, d2, d3]) rfl ⟨none, rfl, HE.out, ?_⟩
    exact (((HBW.out.setCell (Nat.le_refl _) _).setCell (Nat.le_refl _) _).setCell (Nat.le_refl _) _).setCell (Nat.le_refl _) _
  | some v =>
    obtain ⟨hn1, hn2⟩ := Ky.ent_of HH.out HK.out (n := Ky.nvL (s.extract m s.size).data.toList) rfl
    generalize hnn : Ky.nvL (s.extract m s.size).data.toList = n at hn1 hn2
    have HNN := Vl.hid hnn
    have HE := Vl.hid hn2
    have hwn : IntKind.i64.wrap (n : Int) = (n : Int) := by rw [IntKind.wrap_i64]; omega
    have HTo : Hid (∀ W, Calls Tryd.prog 34 #[.string (s.extract m s.size)] W fun e w' => e = .returned (.int .u64 (n : Int)) ∧ w' = W) := Vl.hid (fun W =>
      (told_any (s.extract m s.size) W (by rw [ByteArray.size_extract]; omega)).mono fun e w' ⟨u, _, h1, h2, h3⟩ => ⟨by
        have hh := HH.out
        rw [h1, h2 (by rw [ByteArray.size_extract]; omega), HNN.out], h3⟩)
    clear hnn hn2
    unfold Ky.valT
    go_upto_region 5 with fail
    obtain ⟨W, hW, hC, hB⟩ : ∃ W, ((((w1.setCell ⟨w.heap.size, 0, none⟩ (.int .i64 v.k)).setCell ⟨w.heap.size, 1, none⟩ (.int .i64 v.n)).setCell ⟨w.heap.size, 2, none⟩ (.float .f64 v.f)).setCell ⟨w.heap.size, 3, none⟩ (.string v.s)) = W ∧ Ky.Cell4 W w.heap.size v ∧ Below w.heap.size w W := ⟨_, rfl, HZ.out.set v, (((HB.out.setCell (Nat.le_refl _) _).setCell (Nat.le_refl _) _).setCell (Nat.le_refl _) _).setCell (Nat.le_refl _) _⟩
    rw [hW]
    have HBW := Vl.hid hB
    have hzl := hC.lt
    clear hW hB HB HZ d0 d1 d2 d3 g0 g1 g2 g3
    obtain ⟨d0, d1, d2, d3, g0, g1, g2, g3⟩ := hC
    go_wp2_with fail
    go_region_with (first | (go_at_call 34; refine (HTo.out _).mono ?_; rintro e w3 ⟨rfl, hq⟩; obtain rfl := hq.symm))
    all_goals
      go_wp2_with fail
      refine bodyPost_ret (v := .tuple #[.agg #[.int .i64 v.k, .int .i64 v.n, .float .f64 v.f, .string v.s], .int .i64 (n : Int), .int .i64 0]) (by simp [results, Tryd.results21, go_sem, d0, d1, d2, d3]) rfl ⟨some (v, n), rfl, HE.out, ?_⟩
      exact ((((Below.drew HBW.out).setCell (Nat.le_refl _) _).setCell (Nat.le_refl _) _).setCell (Nat.le_refl _) _).setCell (Nat.le_refl _) _

theorem split_any (s : ByteArray) (w : World) (hM : Ky.Mx w) (hs : s.size ≤ 50000) :
    Calls Tryd.prog 21 #[.string s] w fun e w' => ∃ o, e = .returned (Ky.splT o) ∧ Ky.EntIs s.data.toList o ∧ Below w.heap.size w w' := by
  by_cases h : s.size < 2
  · exact split_short s w h
  · exact split_long s w (s.size - 2) hM hs (by omega)

end Go.Proofs.YtlafccdaplgfoaaDoor
