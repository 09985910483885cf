/- The reference's Entry, Least, After. -/
import Derived.Test.YtlafccdaplgfoaaDoorKR2
namespace Go.Proofs.YtlafccdaplgfoaaDoor
open Go.RowKit
attribute [local go_sem] Fl.run_store_float

theorem Ky.conv2 {P : Program} {T S B : TypeId} (hT : P.underlying T = some (.slice B)) (hB : P.underlying B = some (.int .u8)) (hS : P.underlying S = some .string) (W : World) (r : Nat) (x y : UInt8) (h : W.cell? ⟨r, 0, none⟩ = some (.int .u8 (x.toNat : Int))) (h2 : W.cell? ⟨r, 1, none⟩ = some (.int .u8 (y.toNat : Int))) :
    (convert T S (.slice (some ⟨r, 0, none⟩) 2 2)).run P W = .ok (.string ⟨#[x, y]⟩) W := by
  have := run_convert_bytes_back (P := P) W T S B ⟨r, 0, none⟩ 2 [x, y] hT hB hS (fun j hj => by
    have e : j = 0 ∨ j = 1 := by simp at hj; omega
    rcases e with rfl | rfl
    · rw [Vl.add_plain]; exact h
    · rw [Vl.add_plain]; exact h2)
  exact this
theorem Ky.be2 (m : Nat) : Vl.beL m 2 = [(m / 256 % 256).toUInt8, (m % 256).toUInt8] := by
  simp [Vl.beL, List.range_succ]

set_option maxRecDepth 100000 in
set_option maxHeartbeats 2000000 in
theorem refEntry_yes (v : Vl.V) (m : Nat) (w : World) (hM : Ky.Mx w) (hv : Ky.GoodV v) (hm : m < 65536) :
    Calls Tryd.prog 14 #[.agg #[.int .i64 v.k, .int .i64 v.n, .float .f64 v.f, .string v.s], .int .i64 (m : Int)] w fun e w' => e = .returned (.tuple #[.string (Ky.entB v (m : Int)), .int .i64 0]) ∧ Below w.heap.size w w' := by
  have HS0 := Vl.hid (Ky.St1.start w v hM)
  have HE : Hid (Ky.keyB v ++ ⟨#[(m / 256 % 256).toUInt8, (m % 256).toUInt8]⟩ = Ky.entB v (m : Int)) := Vl.hid (Ky.ext_list (by rw [Ky.append_list, Ky.entB_good hv hm, Ky.be2]; rfl))
  have hks := Ky.keyB_size hv
  have HV := Vl.hid hv.inn
  have e1 := Ky.ofB_good hv
  have e2 := Ky.ofE_good hv
  have HO := Vl.hid (And.intro e1 e2)
  have hd1 : decide ((m : Int) < 0) = false := decide_eq_false (by omega)
  have hd2 : decide ((65535 : Int) < (m : Int)) = false := decide_eq_false (by omega)
  have w1 : (m : Int) / 256 = (((m / 256 % 256).toUInt8.toNat : Nat) : Int) := by rw [Vl.byte_of]; omega
  have w2 : (m : Int) % 256 = (((m % 256).toUInt8.toNat : Nat) : Int) := by rw [Vl.byte_of]
  have hcv : ∀ (W : World) (r : Nat), W.cell? ⟨r, 0, none⟩ = some (.int .u8 ((m : Int) / 256)) → W.cell? ⟨r, 1, none⟩ = some (.int .u8 ((m : Int) % 256)) → (convert 60 9 (.slice (some ⟨r, 0, none⟩) 2 2)).run Tryd.prog W = .ok (.string ⟨#[(m / 256 % 256).toUInt8, (m % 256).toUInt8]⟩) W := fun W r h g => Ky.conv2 Tryd.underlying60 Tryd.underlying5 Tryd.underlying9 W r _ _ (by rw [h, w1]) (by rw [g, w2])
  clear w1 w2
  clear hM hv e1 e2
  obtain ⟨p0, p1, p2, p3⟩ := HS0.out.a.four
  go_enter Tryd.func14, Tryd.ntmps14
  go_wp2_with fail
  refine (refOf_any v _ HS0.out.m HV.out).mono ?_
  rintro e w1 ⟨rfl, hb⟩
  rw [HO.out.1, HO.out.2]
  have HS1 := Vl.hid (HS0.out.step hb)
  clear hb HS0 p0 p1 p2 p3
  go_wp2_with fail
  go_ret2
  exact ⟨by rw [← HE.out]; rfl, (HS1.out.al _).l⟩

set_option maxRecDepth 100000 in
set_option maxHeartbeats 2000000 in
theorem refEntry_no (v : Vl.V) (n : Int) (w : World) (hM : Ky.Mx w) (hv : Ky.In v) (h : Vl.goodB v.k v.n v.f v.s = false ∨ (Vl.goodB v.k v.n v.f v.s = true ∧ (n < 0 ∨ 65535 < n))) :
    Calls Tryd.prog 14 #[.agg #[.int .i64 v.k, .int .i64 v.n, .float .f64 v.f, .string v.s], .int .i64 n] w fun e w' => e = .returned (.tuple #[.string ⟨#[]⟩, .int .i64 (Ky.entE v n)]) ∧ Below w.heap.size w w' := by
  have HS0 := Vl.hid (Ky.St1.start w v hM)
  have HV := Vl.hid hv
  clear hM hv
  obtain ⟨p0, p1, p2, p3⟩ := HS0.out.a.four
  rcases h with hg | ⟨hg, hn⟩
  · have HE : Hid (Ky.ofE v = 11 ∧ Ky.entE v n = 11) := Vl.hid ⟨by unfold Ky.ofE; rw [hg]; rfl, by unfold Ky.entE; rw [hg]; rfl⟩
    rw [HE.out.2]
    go_enter Tryd.func14, Tryd.ntmps14
    go_wp2_with fail
    refine (refOf_any v _ HS0.out.m HV.out).mono ?_
    rintro e w1 ⟨rfl, hb⟩
    rw [HE.out.1]
    go_wp2_with fail
    go_ret2
    exact ⟨rfl, Vl.btr HS0.out.l hb⟩
  · have HE : Hid (Ky.ofE v = 0 ∧ Ky.entE v n = 1) := Vl.hid ⟨by unfold Ky.ofE; rw [hg]; rfl, by unfold Ky.entE; rw [hg, if_pos rfl, if_pos hn]⟩
    rw [HE.out.2]
    have hd : (decide (n < 0) = true) ∨ (decide (n < 0) = false ∧ decide (65535 < n) = true) := by
      by_cases h : n < 0
      · exact .inl (decide_eq_true h)
      · exact .inr ⟨decide_eq_false h, decide_eq_true (by omega)⟩
    clear hn hg
    rcases hd with hd | ⟨hd, hd2⟩
    all_goals
      go_enter Tryd.func14, Tryd.ntmps14
      go_wp2_with fail
      refine (refOf_any v _ HS0.out.m HV.out).mono ?_
      rintro e w1 ⟨rfl, hb⟩
      rw [HE.out.1]
      go_wp2_with fail
      go_ret2
      exact ⟨rfl, Vl.btr HS0.out.l hb⟩

theorem refEntry_any (v : Vl.V) (n : Int) (w : World) (hM : Ky.Mx w) (hv : Ky.In v) :
    Calls Tryd.prog 14 #[.agg #[.int .i64 v.k, .int .i64 v.n, .float .f64 v.f, .string v.s], .int .i64 n] w fun e w' => e = .returned (.tuple #[.string (Ky.entB v n), .int .i64 (Ky.entE v n)]) ∧ Below w.heap.size w w' := by
  cases hg : Vl.goodB v.k v.n v.f v.s
  · have e : Ky.entB v n = ⟨#[]⟩ := by unfold Ky.entB; rw [hg]; rfl
    rw [e]; exact refEntry_no v n w hM hv (.inl hg)
  · by_cases hn : n < 0 ∨ 65535 < n
    · have e : Ky.entB v n = ⟨#[]⟩ := by unfold Ky.entB; rw [hg, if_pos rfl, if_pos hn]
      rw [e]; exact refEntry_no v n w hM hv (.inr ⟨hg, hn⟩)
    · obtain ⟨m, rfl⟩ : ∃ m : Nat, n = m := ⟨n.toNat, by omega⟩
      rw [Ky.entE_good (hv.good hg) (by omega : m < 65536)]
      exact refEntry_yes v m w hM (hv.good hg) (by omega)

set_option maxHeartbeats 1000000 in
theorem refLeast_any (v : Vl.V) (w : World) (hM : Ky.Mx w) (hv : Ky.In v) :
    Calls Tryd.prog 16 #[.agg #[.int .i64 v.k, .int .i64 v.n, .float .f64 v.f, .string v.s]] w fun e w' => e = .returned (.tuple #[.string (Ky.entB v 0), .int .i64 (Ky.entE v 0)]) ∧ Below w.heap.size w w' := by
  have HS0 := Vl.hid (Ky.St1.start w v hM)
  have HV := Vl.hid hv
  clear hM hv
  obtain ⟨p0, p1, p2, p3⟩ := HS0.out.a.four
  go_enter Tryd.func16, Tryd.ntmps16
  go_wp2_with fail
  refine (refEntry_any v 0 _ HS0.out.m HV.out).mono ?_
  rintro e w1 ⟨rfl, hb⟩
  go_wp2_with fail
  go_ret2
  exact ⟨rfl, Vl.btr HS0.out.l hb⟩

set_option maxHeartbeats 1000000 in
theorem refAfter_any (v : Vl.V) (w : World) (hM : Ky.Mx w) (hv : Ky.In v) :
    Calls Tryd.prog 18 #[.agg #[.int .i64 v.k, .int .i64 v.n, .float .f64 v.f, .string v.s]] w fun e w' => e = .returned (.tuple #[.string (Ky.aftB v), .int .i64 (Ky.ofE v)]) ∧ Below w.heap.size w w' := by
  have HS0 := Vl.hid (Ky.St1.start w v hM)
  have HV := Vl.hid hv
  clear hM hv
  obtain ⟨p0, p1, p2, p3⟩ := HS0.out.a.four
  cases hg : Vl.goodB v.k v.n v.f v.s
  · have HE : Hid (Ky.entE v 65535 = 11) := Vl.hid (by unfold Ky.entE; rw [hg]; rfl)
    have e1 : Ky.aftB v = ⟨#[]⟩ := by unfold Ky.aftB; rw [hg]; rfl
    have e2 : Ky.ofE v = 11 := by unfold Ky.ofE; rw [hg]; rfl
    rw [e1, e2]
    clear e1 e2 hg
    go_enter Tryd.func18, Tryd.ntmps18
    go_wp2_with fail
    refine (refEntry_any v 65535 _ HS0.out.m HV.out).mono ?_
    rintro e w1 ⟨rfl, hb⟩
    rw [HE.out]
    go_wp2_with fail
    go_ret2
    exact ⟨rfl, Vl.btr HS0.out.l hb⟩
  · have hG := HV.out.good hg
    have HE : Hid (Ky.entE v 65535 = 0) := Vl.hid (Ky.entE_good (m := 65535) hG (by omega))
    have hl : (Ky.entB v 65535).size ≤ 50000 := Ky.entB_size (n := 65535) hG (by omega)
    have e1 : Ky.aftB v = Ky.entB v 65535 ++ ⟨#[0]⟩ := by unfold Ky.aftB; rw [hg]; rfl
    have e2 : Ky.ofE v = 0 := by unfold Ky.ofE; rw [hg]; rfl
    rw [e1, e2]
    clear e1 e2 hg hG
    go_enter Tryd.func18, Tryd.ntmps18
    go_wp2_with fail
    refine (refEntry_any v 65535 _ HS0.out.m HV.out).mono ?_
    rintro e w1 ⟨rfl, hb⟩
    rw [HE.out]
    go_wp2_with fail
    go_ret2
    exact ⟨rfl, Vl.btr HS0.out.l hb⟩

end Go.Proofs.YtlafccdaplgfoaaDoor
