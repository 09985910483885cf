/- Walks of take. -/
import Derived.Test.YtlafccdaplgfoaaDoorS3
namespace Go.Proofs.YtlafccdaplgfoaaDoor
open Go.RowKit
attribute [local go_sem] Fl.run_store_float
attribute [local go_sem ↓] Go.wp_at_zero Go.wp_at_succ
namespace Ky
open Vl
theorem wrap_sN {u : Nat} (h : u < 18446744073709551616) : wrap64 (u : Int) = sN u := by
  unfold wrap64 sN; split <;> omega
/-- What take tells, held against the keys there are. -/
structure Took (c : UInt8) (l : List UInt8) (v : V) (ok : Bool) : Prop where
  s : v.s.size ≤ l.length
  i : In v
  yes : ok = true → goodB v.k v.n v.f v.s = true → keyL v = c :: l
  no : ok = false ∨ goodB v.k v.n v.f v.s = false → ∀ u, GoodV u → keyL u ≠ c :: l
theorem in0 (k : Int) (s : ByteArray) : In ⟨k, 0, 0, s⟩ := ⟨by simp, by simp, by simp⟩
theorem took_0 (l : List UInt8) (ok : Bool) (h : ok = true ↔ l = []) : Took 0 l ⟨0, 0, 0, ⟨#[]⟩⟩ ok := by
  refine ⟨Nat.zero_le _, in0 _ _, fun h1 _ => ?_, fun h1 u hu e => ?_⟩
  · rw [h.1 h1]; rfl
  · obtain ⟨e1, e2⟩ := key_cons hu e
    have e3 : u.k = 0 := by rw [e1]; rfl
    rw [body_0 e3] at e2
    rcases h1 with h1 | h1
    · rw [h.2 e2.symm] at h1; cases h1
    · rw [Ky.good_0.g] at h1; cases h1
theorem took_1 (l : List UInt8) (u : Nat) (hu : u < 18446744073709551616) (ok : Bool) (h : ok = true ↔ l.length = 1) (he : l.length = 1 → u = nvL l) : Took 1 l ⟨1, wrap64 (u : Int), 0, ⟨#[]⟩⟩ ok := by
  rw [wrap_sN hu]
  refine ⟨Nat.zero_le _, ⟨(sN_bd hu).1, (sN_bd hu).2, by simp⟩, fun h1 h2 => ?_, fun h1 v hv e => ?_⟩
  · have hl := h.1 h1
    show 1 :: bodyL _ = _
    rw [body_1 rfl, uN_sN hu, he hl, nvL_1 hl]
  · obtain ⟨e1, e2⟩ := key_cons hv e
    have e3 : v.k = 1 := by rw [e1]; rfl
    rw [body_1 e3] at e2
    have hl : l.length = 1 := by rw [← e2, beL_length]
    rcases h1 with h1 | h1
    · rw [h.2 hl] at h1; cases h1
    · have hn : v.n = 0 ∨ v.n = 1 := by rcases hv.cases with q | q | q | q | q <;> first | (exfalso; omega) | exact q.2.1
      have hun : u = uN v.n := by
        rw [he hl, ← e2, nvL_beL, Nat.mod_eq_of_lt (by unfold uN; omega)]
      have hs : sN u = v.n := by rw [hun, sN_uN hv.n1 hv.n2]
      rw [(Ky.good_1 (n := sN u) (by rw [hs]; exact hn)).g] at h1; cases h1
theorem took_2 (l : List UInt8) (u : Nat) (hu : u < 18446744073709551616) (ok : Bool) (h : ok = true ↔ l.length = 8) (he : l.length = 8 → u = nvL l) : Took 2 l ⟨2, wrap64 (flipN u : Int), 0, ⟨#[]⟩⟩ ok := by
  have hf := flipN_lt hu
  rw [wrap_sN hf]
  refine ⟨Nat.zero_le _, ⟨(sN_bd hf).1, (sN_bd hf).2, by simp⟩, fun h1 h2 => ?_, fun h1 v hv e => ?_⟩
  · have hl := h.1 h1
    show 2 :: bodyL _ = _
    rw [body_2 rfl, uN_sN hf, flip_flip hu, he hl, nvL_8 hl]
  · obtain ⟨e1, e2⟩ := key_cons hv e
    have e3 : v.k = 2 := by rw [e1]; rfl
    rw [body_2 e3] at e2
    have hl : l.length = 8 := by rw [← e2, beL_length]
    rcases h1 with h1 | h1
    · rw [h.2 hl] at h1; cases h1
    · rw [(Ky.good_2 (sN_bd hf).1 (sN_bd hf).2).g] at h1; cases h1
theorem unb_bits {x : Nat} (hx : x < 18446744073709551616) : Fl.unbN (Fl.bitsN x) = Fl.canonN x := by
  have := Fl.canonN_lt hx
  unfold Fl.bitsN Fl.unbN
  split <;> split <;> omega
theorem canon_of {x : Nat} (h : Fl.isB x = true) : Fl.canonN x = x := by
  unfold Fl.isB at h
  simp at h
  exact h.symm
theorem took_3 (l : List UInt8) (u : Nat) (hu : u < 18446744073709551616) (ok : Bool) (h : ok = true ↔ Fl.isB (Fl.unbN u) = true ∧ l.length = 8) (he : l.length = 8 → u = nvL l) : Took 3 l ⟨3, 0, Fl.gotN (Fl.unbN u), ⟨#[]⟩⟩ ok := by
  have hb := Fl.unbN_lt hu
  refine ⟨Nat.zero_le _, ⟨by simp, by simp, Fl.gotN_lt hb⟩, fun h1 h2 => ?_, fun h1 v hv e => ?_⟩
  · obtain ⟨hi, hl⟩ := h.1 h1
    show 3 :: bodyL _ = _
    have eg : Fl.gotN (Fl.unbN u) = Fl.unbN u := by unfold Fl.gotN; rw [if_pos hi]
    rw [body_3 rfl]
    show 3 :: beL (Fl.bitsN (Fl.gotN (Fl.unbN u))) 8 = _
    rw [eg, Fl.bits_unb hu hi, he hl, nvL_8 hl]
  · obtain ⟨e1, e2⟩ := key_cons hv e
    have e3 : v.k = 3 := by rw [e1]; rfl
    rw [body_3 e3] at e2
    have hl : l.length = 8 := by rw [← e2, beL_length]
    have hi : Fl.isB v.f = true := by rcases hv.cases with q | q | q | q | q <;> first | (exfalso; omega) | exact q.2.2.1
    have hun : u = Fl.bitsN v.f := by
      rw [he hl, ← e2, nvL_beL, Nat.mod_eq_of_lt (Fl.bitsN_lt hv.f)]
    have hx : Fl.unbN u = v.f := by rw [hun, unb_bits hv.f, canon_of hi]
    rcases h1 with h1 | h1
    · rw [h.2 ⟨by rw [hx]; exact hi, hl⟩] at h1; cases h1
    · have eg : Fl.gotN (Fl.unbN u) = v.f := by unfold Fl.gotN; rw [hx, if_pos hi]
      have := (Ky.good_3 hi hv.f).g
      simp only [eg] at h1
      rw [this] at h1; cases h1
theorem took_4 (l : List UInt8) (t : ByteArray) (ok : Bool) (hs : t.size ≤ l.length) (h1 : ok = true → l = esc t.data.toList ++ [0, 1]) (h2 : ok = false → ∀ b, l ≠ esc b ++ [0, 1]) : Took 4 l ⟨4, 0, 0, t⟩ ok := by
  refine ⟨hs, in0 _ _, fun h3 _ => ?_, fun h3 v hv e => ?_⟩
  · show 4 :: bodyL _ = _
    rw [body_4 rfl, h1 h3]
  · obtain ⟨e1, e2⟩ := key_cons hv e
    have e3 : v.k = 4 := by rw [e1]; rfl
    rw [body_4 e3] at e2
    cases ok with
    | false => exact h2 rfl _ e2.symm
    | true =>
      have h := h1 rfl
      rw [← e2] at h
      have h' := List.append_cancel_right h
      have h'' : v.s.data.toList = t.data.toList := by rw [← unesc_esc v.s.data.toList, h', unesc_esc]
      have hz : v.s.size ≤ 256 := by rcases hv.cases with q | q | q | q | q <;> first | (exfalso; omega) | exact q.2.2.2
      rcases h3 with h3 | h3
      · cases h3
      · rw [(Ky.good_4 (s := t) (by rw [size_list, ← h'', ← size_list]; exact hz)).g] at h3; cases h3
theorem took_5 (c : UInt8) (hc : 4 < c.toNat) (l : List UInt8) : Took c l ⟨0, 0, 0, ⟨#[]⟩⟩ false := by
  refine ⟨Nat.zero_le _, in0 _ _, (fun h => by cases h), fun _ v hv e => ?_⟩
  obtain ⟨e1, _⟩ := key_cons hv e
  have := hv.kind
  omega
end Ky

set_option maxRecDepth 100000 in
set_option maxHeartbeats 1000000 in
theorem take_0 (x : ByteArray) (w : World) :
    Calls Tryd.prog 32 #[.int .i64 0, .string x] w fun e w' => ∃ v ok, e = .returned (.tuple #[.agg #[.int .i64 v.k, .int .i64 v.n, .float .f64 v.f, .string v.s], .bool ok]) ∧ Ky.Took 0 x.data.toList v ok ∧ Below w.heap.size w w' := by
  go_enter Tryd.func32, Tryd.ntmps32
  go_wp2_with fail
  refine bodyPost_ret (v := .tuple #[.agg #[.int .i64 0, .int .i64 0, .float .f64 0, .string ⟨#[]⟩], .bool (x.toList == [])]) (by simp [results, Tryd.results32, go_sem]) rfl ⟨⟨0, 0, 0, ⟨#[]⟩⟩, _, rfl, Ky.took_0 _ _ (by rw [ByteArray.toList_eq, beq_iff_eq]), Vl.bal (Below.refl _ _) _⟩

set_option maxRecDepth 100000 in
set_option maxHeartbeats 1000000 in
theorem take_1 (x : ByteArray) (w : World) (hx : x.size ≤ 50000) :
    Calls Tryd.prog 32 #[.int .i64 1, .string x] w fun e w' => ∃ v ok, e = .returned (.tuple #[.agg #[.int .i64 v.k, .int .i64 v.n, .float .f64 v.f, .string v.s], .bool ok]) ∧ Ky.Took 1 x.data.toList v ok ∧ Below w.heap.size w w' := by
  go_enter Tryd.func32, Tryd.ntmps32
  go_wp2_with fail
  refine (told_any x _ (by omega)).mono ?_
  rintro e w1 ⟨u, hu, rfl, hn, hq⟩
  obtain rfl := hq.symm
  have HN := Vl.hid hn
  clear hn
  go_wp2_with fail
  refine bodyPost_ret (v := .tuple #[.agg #[.int .i64 1, .int .i64 (wrap64 (u : Int)), .float .f64 0, .string ⟨#[]⟩], .bool ((x.size : Int) == 1)]) (by simp [results, Tryd.results32, go_sem]) rfl ⟨⟨1, wrap64 (u : Int), 0, ⟨#[]⟩⟩, _, rfl, Ky.took_1 _ u hu _ (by rw [beq_iff_eq, ← Ky.size_list]; omega) (fun h => HN.out (by rw [Ky.size_list]; omega)), Vl.bal (Below.refl _ _) _⟩

set_option maxRecDepth 100000 in
set_option maxHeartbeats 1000000 in
theorem take_2 (x : ByteArray) (w : World) (hx : x.size ≤ 50000) :
    Calls Tryd.prog 32 #[.int .i64 2, .string x] w fun e w' => ∃ v ok, e = .returned (.tuple #[.agg #[.int .i64 v.k, .int .i64 v.n, .float .f64 v.f, .string v.s], .bool ok]) ∧ Ky.Took 2 x.data.toList v ok ∧ Below w.heap.size w w' := by
  go_enter Tryd.func32, Tryd.ntmps32
  go_wp2_with fail
  refine (told_any x _ (by omega)).mono ?_
  rintro e w1 ⟨u, hu, rfl, hn, hq⟩
  obtain rfl := hq.symm
  have HN := Vl.hid hn
  clear hn
  have hfl := Ky.flip_u64 u hu
  go_wp2_with fail
  refine bodyPost_ret (v := .tuple #[.agg #[.int .i64 2, .int .i64 (wrap64 (Ky.flipN u : Int)), .float .f64 0, .string ⟨#[]⟩], .bool ((x.size : Int) == 8)]) (by simp [results, Tryd.results32, go_sem]) rfl ⟨⟨2, wrap64 (Ky.flipN u : Int), 0, ⟨#[]⟩⟩, _, rfl, Ky.took_2 _ u hu _ (by rw [beq_iff_eq, ← Ky.size_list]; omega) (fun h => HN.out (by rw [Ky.size_list]; omega)), Vl.bal (Below.refl _ _) _⟩

set_option maxRecDepth 100000 in
set_option maxHeartbeats 1000000 in
theorem take_3 (x : ByteArray) (w : World) (hx : x.size ≤ 50000) :
    Calls Tryd.prog 32 #[.int .i64 3, .string x] w fun e w' => ∃ v ok, e = .returned (.tuple #[.agg #[.int .i64 v.k, .int .i64 v.n, .float .f64 v.f, .string v.s], .bool ok]) ∧ Ky.Took 3 x.data.toList v ok ∧ Below w.heap.size w w' := by
  go_enter Tryd.func32, Tryd.ntmps32
  go_wp2_with fail
  refine (told_any x _ (by omega)).mono ?_
  rintro e w1 ⟨u, hu, rfl, hn, hq⟩
  obtain rfl := hq.symm
  have HN := Vl.hid hn
  clear hn
  go_wp2_with fail
  refine (from_any u _ hu).mono ?_
  rintro e w1 ⟨rfl, hq⟩
  obtain rfl := hq.symm
  cases hi : Fl.isB (Fl.unbN u)
  · go_wp2_with fail
    refine bodyPost_ret (v := .tuple #[.agg #[.int .i64 3, .int .i64 0, .float .f64 (Fl.gotN (Fl.unbN u)), .string ⟨#[]⟩], .bool false]) (by simp [results, Tryd.results32, go_sem]) rfl ⟨⟨3, 0, Fl.gotN (Fl.unbN u), ⟨#[]⟩⟩, _, rfl, Ky.took_3 _ u hu _ (by rw [hi]; simp) (fun h => HN.out (by rw [Ky.size_list]; omega)), Vl.bal (Below.refl _ _) _⟩
  · go_wp2_with fail
    refine bodyPost_ret (v := .tuple #[.agg #[.int .i64 3, .int .i64 0, .float .f64 (Fl.gotN (Fl.unbN u)), .string ⟨#[]⟩], .bool ((x.size : Int) == 8)]) (by simp [results, Tryd.results32, go_sem]) rfl ⟨⟨3, 0, Fl.gotN (Fl.unbN u), ⟨#[]⟩⟩, _, rfl, Ky.took_3 _ u hu _ (by rw [hi, beq_iff_eq, ← Ky.size_list]; simp; omega) (fun h => HN.out (by rw [Ky.size_list]; omega)), Vl.bal (Below.refl _ _) _⟩

set_option maxRecDepth 100000 in
set_option maxHeartbeats 1000000 in
theorem take_4 (x : ByteArray) (w : World) (hM : Ky.Mx w) (hx : x.size ≤ 50000) :
    Calls Tryd.prog 32 #[.int .i64 4, .string x] w fun e w' => ∃ v ok, e = .returned (.tuple #[.agg #[.int .i64 v.k, .int .i64 v.n, .float .f64 v.f, .string v.s], .bool ok]) ∧ Ky.Took 4 x.data.toList v ok ∧ Below w.heap.size w w' := by
  have HM := Vl.hid (hM.below (Vl.bal (Below.refl _ _) (.cells #[.int .i64 0, .int .i64 0, .float .f64 0, .string ⟨#[]⟩] 24)))
  clear hM
  go_enter Tryd.func32, Tryd.ntmps32
  go_wp2_with fail
  refine (plain_key x _ HM.out hx).mono ?_
  rintro e w1 ⟨t, ok, rfl, hs, h1, h2, hb⟩
  have HT := Vl.hid (Ky.took_4 x.data.toList t ok (by rw [← Ky.size_list]; exact hs) h1 h2)
  obtain ⟨hc, hf⟩ := Vl.bcell hb
  have hz : w.heap.size < w1.heap.size := by have := hb.size; simp at this; omega
  have HB := Vl.hid (Vl.btr (Vl.bal (Below.refl _ _) _) hb)
  clear hb h1 h2
  go_wp2_with fail
  refine bodyPost_ret (v := .tuple #[.agg #[.int .i64 4, .int .i64 0, .float .f64 0, .string t], .bool ok]) (by simp [results, Tryd.results32, go_sem, hc]) rfl ⟨⟨4, 0, 0, t⟩, _, rfl, HT.out, ?_⟩
  exact (((HB.out.setCell (Nat.le_refl _) _).setCell (Nat.le_refl _) _).setCell (Nat.le_refl _) _).setCell (Nat.le_refl _) _

set_option maxRecDepth 100000 in
set_option maxHeartbeats 1000000 in
theorem take_5 (c : UInt8) (hc : 4 < c.toNat) (x : ByteArray) (w : World) :
    Calls Tryd.prog 32 #[.int .i64 (c.toNat : Int), .string x] w fun e w' => ∃ v ok, e = .returned (.tuple #[.agg #[.int .i64 v.k, .int .i64 v.n, .float .f64 v.f, .string v.s], .bool ok]) ∧ Ky.Took c x.data.toList v ok ∧ Below w.heap.size w w' := by
  have HT := Vl.hid (Ky.took_5 c hc x.data.toList)
  obtain ⟨k, hk⟩ : ∃ k : Int, k = (c.toNat : Int) := ⟨_, rfl⟩
  have b0 : (k == 0) = false := beq_eq_false_iff_ne.2 (by omega)
  have b1 : (k == 1) = false := beq_eq_false_iff_ne.2 (by omega)
  have b2 : (k == 2) = false := beq_eq_false_iff_ne.2 (by omega)
  have b3 : (k == 3) = false := beq_eq_false_iff_ne.2 (by omega)
  have b4 : (k == 4) = false := beq_eq_false_iff_ne.2 (by omega)
  rw [← hk]
  clear hk hc
  go_enter Tryd.func32, Tryd.ntmps32
  go_wp2_with fail
  exact bodyPost_ret (v := .tuple #[.agg #[.int .i64 0, .int .i64 0, .float .f64 0, .string ⟨#[]⟩], .bool false]) (by simp [results, Tryd.results32, go_sem]) rfl ⟨⟨0, 0, 0, ⟨#[]⟩⟩, _, rfl, HT.out, Vl.bal (Below.refl _ _) _⟩

theorem take_any (c : UInt8) (x : ByteArray) (w : World) (hM : Ky.Mx w) (hx : x.size ≤ 50000) :
    Calls Tryd.prog 32 #[.int .i64 (c.toNat : Int), .string x] w fun e w' => ∃ v ok, e = .returned (.tuple #[.agg #[.int .i64 v.k, .int .i64 v.n, .float .f64 v.f, .string v.s], .bool ok]) ∧ Ky.Took c x.data.toList v ok ∧ Below w.heap.size w w' := by
  by_cases h0 : c = 0
  · subst h0; exact take_0 x w
  by_cases h1 : c = 1
  · subst h1; exact take_1 x w hx
  by_cases h2 : c = 2
  · subst h2; exact take_2 x w hx
  by_cases h3 : c = 3
  · subst h3; exact take_3 x w hx
  by_cases h4 : c = 4
  · subst h4; exact take_4 x w hM hx
  refine take_5 c ?_ x w
  have e0 : c.toNat ≠ 0 := fun e => h0 (UInt8.toNat_inj.1 e)
  have e1 : c.toNat ≠ 1 := fun e => h1 (UInt8.toNat_inj.1 e)
  have e2 : c.toNat ≠ 2 := fun e => h2 (UInt8.toNat_inj.1 e)
  have e3 : c.toNat ≠ 3 := fun e => h3 (UInt8.toNat_inj.1 e)
  have e4 : c.toNat ≠ 4 := fun e => h4 (UInt8.toNat_inj.1 e)
  omega

end Go.Proofs.YtlafccdaplgfoaaDoor
