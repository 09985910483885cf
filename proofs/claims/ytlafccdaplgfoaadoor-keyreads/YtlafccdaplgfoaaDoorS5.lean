/- Walks of Value and Split. -/
import Derived.Test.YtlafccdaplgfoaaDoorS4
import Derived.Deep.DeepCutAuto
namespace Go.Proofs.YtlafccdaplgfoaaDoor
open Go.RowKit
attribute [local go_sem] Fl.run_store_float
attribute [local go_sem ↓] Go.wp_at_zero Go.wp_at_succ
namespace Ky
open Vl
theorem atf {w w1 : World} (hb : Below w.heap.size w w1) {b o : Nat} (h : b < w.heap.size) : w1.frozen? ⟨b, o, none⟩ = w.frozen? ⟨b, o, none⟩ := (Vl.bcell hb).2 b o h
/-- What Value answers. -/
def valT : Option V → Value
  | none => .tuple #[.agg #[.int .i64 0, .int .i64 0, .float .f64 0, .string ⟨#[]⟩], .int .i64 11]
  | some v => .tuple #[.agg #[.int .i64 v.k, .int .i64 v.n, .float .f64 v.f, .string v.s], .int .i64 0]
/-- Four cells in a block hold a value and may be written. -/
structure Cell4 (w : World) (b : Nat) (v : V) : Prop where
  c0 : w.cell? ⟨b, 0, none⟩ = some (.int .i64 v.k)
  c1 : w.cell? ⟨b, 1, none⟩ = some (.int .i64 v.n)
  c2 : w.cell? ⟨b, 2, none⟩ = some (.float .f64 v.f)
  c3 : w.cell? ⟨b, 3, none⟩ = some (.string v.s)
  f0 : w.frozen? ⟨b, 0, none⟩ = false
  f1 : w.frozen? ⟨b, 1, none⟩ = false
  f2 : w.frozen? ⟨b, 2, none⟩ = false
  f3 : w.frozen? ⟨b, 3, none⟩ = false
theorem Cell4.lt {w : World} {b : Nat} {v : V} (h : Cell4 w b v) : b < w.heap.size := World.block_lt_of_cell? _ _ h.c0
theorem Cell4.below {w w1 : World} {b : Nat} {v : V} (h : Cell4 w b v) (hb : Below w.heap.size w w1) : Cell4 w1 b v :=
  ⟨(atc hb h.lt).trans h.c0, (atc hb h.lt).trans h.c1, (atc hb h.lt).trans h.c2, (atc hb h.lt).trans h.c3, (atf hb h.lt).trans h.f0, (atf hb h.lt).trans h.f1, (atf hb h.lt).trans h.f2, (atf hb h.lt).trans h.f3⟩
theorem Cell4.made (w : World) (v : V) (t : TypeId) : Cell4 (w.alloc (.cells #[.int .i64 v.k, .int .i64 v.n, .float .f64 v.f, .string v.s] t)) w.heap.size v := by
  constructor <;> simp [go_sem]
theorem Cell4.made' {w : World} (v : V) (t : TypeId) {n : Nat} (h : n = w.heap.size) : Cell4 (w.alloc (.cells #[.int .i64 v.k, .int .i64 v.n, .float .f64 v.f, .string v.s] t)) n v := by
  subst h; exact Cell4.made w v t
theorem Cell4.drew {w : World} {b : Nat} {v : V} (h : Cell4 w b v) : Cell4 w.drew b v := ⟨h.c0, h.c1, h.c2, h.c3, h.f0, h.f1, h.f2, h.f3⟩
theorem Cell4.al {w : World} {b : Nat} {v : V} (h : Cell4 w b v) (o : Obj) : Cell4 (w.alloc o) b v := h.below (Vl.bal (Below.refl _ _) o)
theorem fz_set {w : World} {a b : Addr} {v : Value} : (w.setCell a v).frozen? b = w.frozen? b := World.frozen?_setCell _ _ _ _
theorem Cell4.set {w : World} {b : Nat} {u : V} (h : Cell4 w b u) (v : V) : Cell4 ((((w.setCell ⟨b, 0, none⟩ (.int .i64 v.k)).setCell ⟨b, 1, none⟩ (.int .i64 v.n)).setCell ⟨b, 2, none⟩ (.float .f64 v.f)).setCell ⟨b, 3, none⟩ (.string v.s)) b v := by
  have h0 := h.c0; have h1 := h.c1; have h2 := h.c2; have h3 := h.c3
  have f0 := h.f0; have f1 := h.f1; have f2 := h.f2; have f3 := h.f3
  constructor <;> simp [go_sem, h0, h1, h2, h3, f0, f1, f2, f3]
theorem Cell4.other {w : World} {b b' : Nat} {u : V} (h : Cell4 w b u) (hne : b' ≠ b) (x0 x1 x2 x3 : Value) : Cell4 ((((w.setCell ⟨b', 0, none⟩ x0).setCell ⟨b', 1, none⟩ x1).setCell ⟨b', 2, none⟩ x2).setCell ⟨b', 3, none⟩ x3) b u := by
  have h0 := h.c0; have h1 := h.c1; have h2 := h.c2; have h3 := h.c3
  have f0 := h.f0; have f1 := h.f1; have f2 := h.f2; have f3 := h.f3
  have hn := hne
  constructor <;> simp [go_sem, h0, h1, h2, h3, f0, f1, f2, f3]
theorem head_of {s : ByteArray} (h : 0 < s.size) : s.data.toList = s.data.toList.getD 0 0 :: (s.extract 1 s.size).data.toList := by
  rw [extract_list]
  cases hl : s.data.toList with
  | nil => rw [size_list, hl] at h; cases h
  | cons c x => rw [size_list, hl]; simp
theorem key_ne_nil (v : V) : keyL v ≠ [] := by unfold keyL; simp
end Ky

set_option maxRecDepth 100000 in
set_option maxHeartbeats 2000000 in
theorem value_empty (w : World) :
    Calls Tryd.prog 19 #[.string ⟨#[]⟩] w fun e w' => e = .returned (Ky.valT none) ∧ Below w.heap.size w w' := by
  go_enter Tryd.func19, Tryd.ntmps19
  have he : ((⟨#[]⟩ : ByteArray).toList == (⟨#[]⟩ : ByteArray).toList) = true := by simp
  go_wp2_with fail
  exact bodyPost_ret (v := .tuple #[.agg #[.int .i64 0, .int .i64 0, .float .f64 0, .string ⟨#[]⟩], .int .i64 11]) (by simp [results, Tryd.results19, go_sem]) rfl ⟨rfl, Vl.bal (Below.refl _ _) _⟩

set_option maxRecDepth 100000 in
set_option maxHeartbeats 1000000 in
theorem value_some (s : ByteArray) (w : World) (hM : Ky.Mx w) (hs : s.size ≤ 50000) (h0 : 0 < s.size) :
    Calls Tryd.prog 19 #[.string s] w fun e w' => ∃ o, e = .returned (Ky.valT o) ∧ Ky.KeyIs s.data.toList o ∧ Below w.heap.size w w' := by
  have he : (s.toList == []) = false := by
    rw [ByteArray.toList_eq, beq_eq_false_iff_ne]; intro e; rw [Ky.size_list, e] at h0; cases h0
  have hX0 : ∀ w, (Instr.index 9 (.string s) (.int .i64 0)).run Tryd.prog w = .ok (.int .u8 (Vl.cAt s 0 : Int)) w := fun w => Vl.idx_str 9 Tryd.underlying9 s 0 h0 w
  have HD := Vl.hid (Ky.head_of h0)
  have hc : Vl.cAt s 0 = (s.data.toList.getD 0 0).toNat := rfl
  generalize s.data.toList.getD 0 0 = c at hc HD
  have hc8 := UInt8.toNat_lt c
  rw [hc] at hX0
  clear hc
  have hwc : IntKind.i64.wrap (c.toNat : Int) = (c.toNat : Int) := by rw [IntKind.wrap_i64]; omega
  have hx : (s.extract 1 s.size).size ≤ 50000 := by rw [ByteArray.size_extract]; omega
  have h1 : (1 : Int) ≤ (s.size : Int) := by omega
  have HM := Vl.hid hM
  clear hM
  go_enter Tryd.func19, Tryd.ntmps19
  go_upto_region 3 with fail
  go_cut [4, 5] (fun p t wc => ∃ b v ok, p = .pointer (some ⟨b, 0, none⟩) ∧ t = .bool ok ∧ Hid (Ky.Cell4 wc b v) ∧ Hid (Ky.Cell4 wc w.heap.size ⟨0, 0, 0, ⟨#[]⟩⟩) ∧ Hid (Ky.Took c (s.extract 1 s.size).data.toList v ok) ∧ Hid (Below w.heap.size w wc))
  case first =>
    go_region_with (first | (go_at_call 32; refine (take_any c _ _ (Ky.mxb (by first | exact Below.drew (Vl.bal (Below.refl _ _) _) | exact Below.drew (Vl.bal (Vl.bal (Below.refl _ _) _) _)) HM.out) hx).mono ?_; rintro e w2 ⟨v, ok, rfl, ht, hb2⟩; obtain ⟨hc2, hf2⟩ := Vl.bcell hb2; have HT := Vl.hid ht; have HB2 := Vl.hid hb2; clear ht hb2))
    all_goals
      go_wp2_with fail
      go_meet
      case rel =>
        refine ⟨_, v, ok, rfl, rfl, ?_, ?_, HT, ?_⟩
        · first
          | exact Vl.hid (Ky.Cell4.made _ _ _)
          | exact Vl.hid (Ky.Cell4.set (Ky.Cell4.below (Ky.Cell4.drew (Ky.Cell4.made' ⟨0, 0, 0, ⟨#[]⟩⟩ _ (by simp))) HB2.out) v)
        · first
          | exact Vl.hid (Ky.Cell4.al (Ky.Cell4.below (Ky.Cell4.drew (Ky.Cell4.made _ ⟨0, 0, 0, ⟨#[]⟩⟩ _)) HB2.out) _)
          | exact Vl.hid (Ky.Cell4.other (Ky.Cell4.below (Ky.Cell4.drew (Ky.Cell4.al (Ky.Cell4.made _ ⟨0, 0, 0, ⟨#[]⟩⟩ _) _)) HB2.out) (by omega) _ _ _ _)
        · first
          | exact Vl.hid (Vl.bal (Vl.btr (Below.drew (Vl.bal (Below.refl _ _) _)) HB2.out) _)
          | exact Vl.hid (((((Vl.btr (Below.drew (Vl.bal (Vl.bal (Below.refl _ _) _) _)) HB2.out).setCell (Nat.le_succ _) _).setCell (Nat.le_succ _) _).setCell (Nat.le_succ _) _).setCell (Nat.le_succ _) _)
  case rest =>
    obtain ⟨b, v, ok, rfl, rfl, HV, HZ, HT, HB⟩ := hcut
    have hbl := HV.out.lt
    have hzl := HZ.out.lt
    obtain ⟨c0, c1, c2, c3, f0, f1, f2, f3⟩ := id HV.out
    obtain ⟨d0, d1, d2, d3, g0, g1, g2, g3⟩ := id HZ.out
    cases ok
    · have HN : Hid (∀ u, Ky.GoodV u → Ky.keyL u ≠ s.data.toList) := Vl.hid (fun u hu => by rw [HD.out]; exact HT.out.no (.inl rfl) u hu)
      go_wp2_with fail
      refine bodyPost_ret (v := .tuple #[.agg #[.int .i64 0, .int .i64 0, .float .f64 0, .string ⟨#[]⟩], .int .i64 11]) (by simp [results, Tryd.results19, go_sem, d0, d1, d2, d3]) rfl ⟨none, rfl, HN.out, ?_⟩
      first | exact HB.out | exact (((HB.out.setCell (Nat.le_refl _) _).setCell (Nat.le_refl _) _).setCell (Nat.le_refl _) _).setCell (Nat.le_refl _) _
    · have HS := Vl.hid HT.out.s
      go_wp2_with fail
      refine (good_any _ _ _ _ _).mono ?_
      rintro e w3 ⟨rfl, hb3⟩
      have HB3 := Vl.hid (Vl.btr HB.out hb3)
      have HV3 := Vl.hid (HV.out.below hb3)
      have HZ3 := Vl.hid (HZ.out.below hb3)
      clear hb3 c0 c1 c2 c3 f0 f1 f2 f3 d0 d1 d2 d3 g0 g1 g2 g3 HB HV HZ hbl hzl
      have hbl := HV3.out.lt
      have hzl := HZ3.out.lt
      obtain ⟨c0, c1, c2, c3, f0, f1, f2, f3⟩ := id HV3.out
      obtain ⟨d0, d1, d2, d3, g0, g1, g2, g3⟩ := id HZ3.out
      cases hg : Vl.goodB v.k v.n v.f v.s
      · have HN : Hid (∀ u, Ky.GoodV u → Ky.keyL u ≠ s.data.toList) := Vl.hid (fun u hu => by rw [HD.out]; exact HT.out.no (.inr hg) u hu)
        go_wp2_with fail
        refine bodyPost_ret (v := .tuple #[.agg #[.int .i64 0, .int .i64 0, .float .f64 0, .string ⟨#[]⟩], .int .i64 11]) (by simp [results, Tryd.results19, go_sem, d0, d1, d2, d3]) rfl ⟨none, rfl, HN.out, ?_⟩
        first | exact HB3.out | exact (((HB3.out.setCell (Nat.le_refl _) _).setCell (Nat.le_refl _) _).setCell (Nat.le_refl _) _).setCell (Nat.le_refl _) _
      · have HK : Hid (Ky.KeyIs s.data.toList (some v)) := Vl.hid ⟨HT.out.i.good hg, by rw [HD.out]; exact HT.out.yes rfl hg⟩
        go_wp2_with fail
        refine bodyPost_ret (v := .tuple #[.agg #[.int .i64 v.k, .int .i64 v.n, .float .f64 v.f, .string v.s], .int .i64 0]) (by simp [results, Tryd.results19, go_sem, d0, d1, d2, d3]) rfl ⟨some v, rfl, HK.out, ?_⟩
        first | exact HB3.out | exact (((HB3.out.setCell (Nat.le_refl _) _).setCell (Nat.le_refl _) _).setCell (Nat.le_refl _) _).setCell (Nat.le_refl _) _

theorem value_any (s : ByteArray) (w : World) (hM : Ky.Mx w) (hs : s.size ≤ 50000) :
    Calls Tryd.prog 19 #[.string s] w fun e w' => ∃ o, e = .returned (Ky.valT o) ∧ Ky.KeyIs s.data.toList o ∧ Below w.heap.size w w' := by
  by_cases h0 : 0 < s.size
  · exact value_some s w hM hs h0
  · obtain rfl : s = ⟨#[]⟩ := Ky.ext_list (by rw [Ky.size_list] at h0; show s.data.toList = []; exact List.length_eq_zero_iff.1 (by omega))
    exact (value_empty w).mono fun e w' ⟨h1, h2⟩ => ⟨none, h1, fun v _ => Ky.key_ne_nil v, h2⟩

end Go.Proofs.YtlafccdaplgfoaaDoor
