/- The statement on what was encoded and decoded: walked. -/
import Derived.Test.YtanljohnmaokeaaX1
import Derived.Test.YtanljohnmaokeaaX2
import Derived.Test.YtanljohnmaokeaaM4
namespace Go.Proofs.Ytanljohnmaokeaa
open Go.RowKit
attribute [local go_sem] Fl.run_store_float

theorem Vl.body_le {k n : Int} {f : Nat} {s : ByteArray} (hg : Vl.goodB k n f s = true) : (Vl.body k n f s).size ≤ 300 := by
  unfold Vl.body
  split
  · decide
  split
  · rw [Vl.beA_size]; omega
  split
  · rw [Vl.beA_size]; omega
  split
  · rw [Vl.beA_size]; omega
  · rename_i h0 h1 h2 h3
    rw [ByteArray.size_append, Vl.beA_size]
    unfold Vl.goodB at hg
    rw [if_neg h0, if_neg h1, if_neg h2, if_neg h3] at hg
    split at hg
    · unfold Vl.good4 at hg
      simp only [Bool.and_eq_true, decide_eq_true_iff] at hg
      omega
    · cases hg
theorem Vl.encS_size (k n : Int) (f : Nat) (s : ByteArray) : (Vl.encS k n f s).size = 1 + (Vl.body k n f s).size := by
  unfold Vl.encS; rw [ByteArray.size_append]; rfl
/-- What a box of a value holds. -/
theorem Vl.box {w w1 : World} (v : Vl.V) (h : Nat) (hh : w.heap[h]? = some (.cells v.cs 24)) (hb : Below w.heap.size w w1) :
    w1.cell? ⟨h, 0, none⟩ = some (.int .i64 v.k) ∧ w1.cell? ⟨h, 1, none⟩ = some (.int .i64 v.n) ∧ w1.cell? ⟨h, 2, none⟩ = some (.float .f64 v.f) ∧ w1.cell? ⟨h, 3, none⟩ = some (.string v.s) ∧ h < w1.heap.size ∧ w1.heap[h]? = some (.cells v.cs 24) := by
  have hl : h < w.heap.size := by
    rcases Nat.lt_or_ge h w.heap.size with c | c
    · exact c
    · rw [Array.getElem?_eq_none c] at hh; cases hh
  have h1 : w1.heap[h]? = some (.cells v.cs 24) := by rw [hb.block h hl]; exact hh
  refine ⟨?_, ?_, ?_, ?_, Nat.lt_of_lt_of_le hl hb.size, h1⟩ <;> simp [World.cell?, h1, Vl.V.cs]
theorem Vl.boxed (w : World) (v : Vl.V) : (w.alloc (.cells v.cs 24)).heap[w.heap.size]? = some (.cells v.cs 24) := by
  show (w.heap.push _)[w.heap.size]? = _; simp

theorem Vl.decT_some (v : Vl.V) (sz : Nat) : Vl.decT (some ⟨v, sz⟩) = .tuple #[.agg #[.int .i64 v.k, .int .i64 v.n, .float .f64 v.f, .string v.s], .int .i64 (1 + (sz : Int)), .bool true] := rfl
theorem Vl.decT_none : Vl.decT none = .tuple #[.agg #[.int .i64 0, .int .i64 0, .float .f64 0, .string ⟨#[]⟩], .int .i64 0, .bool false] := rfl

set_option maxHeartbeats 1000000 in
theorem back_large (v : Vl.V) (s ahead : ByteArray) (w : World) (h : 20000 < s.size ∨ 20000 < ahead.size ∨ 2000 < v.s.size) :
    Calls Try.prog 7 #[.agg #[.int .i64 v.k, .int .i64 v.n, .float .f64 v.f, .string v.s], .string s, .string ahead] w fun e w' => e = .returned (.bool true) ∧ Below w.heap.size w w' := by
  cases h1 : decide ((20000 : Int) < (s.size : Int)) <;> cases h2 : decide ((20000 : Int) < (ahead.size : Int)) <;> cases h3 : decide ((2000 : Int) < (v.s.size : Int))
  · simp at h1 h2 h3; omega
  all_goals
    clear h
    go_enter Try.func7, Try.ntmps7
    go_wp2_with (first | (go_at_call 9; refine (largeValue_any v _).mono ?_; rintro e w' ⟨rfl, rfl⟩) | (go_at_call 10; refine (wakes_any _).mono ?_; rintro e w' ⟨rfl, hb⟩))
    go_ret
    exact ⟨rfl, by first | exact Vl.btr (Vl.bal (Below.refl _ _) _) hb | exact Vl.btr (Vl.bal (Vl.bal (Below.refl _ _) _) _) hb⟩

set_option maxRecDepth 100000 in
set_option maxHeartbeats 4000000 in
theorem back_first (v : Vl.V) (s ahead : ByteArray) (w : World) (hn1 : -9223372036854775808 ≤ v.n) (hn2 : v.n ≤ 9223372036854775807) (hf : v.f < 18446744073709551616) (hs : s.size ≤ 20000) (ha : ahead.size ≤ 20000) (hv : v.s.size ≤ 2000) :
    Calls Try.prog 7 #[.agg #[.int .i64 v.k, .int .i64 v.n, .float .f64 v.f, .string v.s], .string s, .string ahead] w fun e w' => e = .returned (.bool true) ∧ Below w.heap.size w w' := by
  have h1 : decide ((20000 : Int) < (s.size : Int)) = false := decide_eq_false (by omega)
  have h2 : decide ((20000 : Int) < (ahead.size : Int)) = false := decide_eq_false (by omega)
  have h3 : decide ((2000 : Int) < (v.s.size : Int)) = false := decide_eq_false (by omega)
  have HN1 := Vl.hid hn1
  have HN2 := Vl.hid hn2
  have HF := Vl.hid hf
  clear hn1 hn2 hf
  cases hd : Vl.dec s 0 with
  | none =>
    have HD := Vl.hid hd
    clear hd
    cases hg : Vl.goodB v.k v.n v.f v.s
    · have HG := Vl.hid hg
      clear hg
      go_enter Try.func7, Try.ntmps7
      go_wp2_with fail
      refine (largeValue_any v _).mono ?_
      rintro e w' ⟨rfl, hq⟩
      have hB0 : Below w.heap.size w w' := by rw [hq]; exact Vl.bal (Vl.bal (Below.refl _ _) _) _
      obtain ⟨a0, a1, a2, a3, a4, a5⟩ := Vl.box v w.heap.size (Vl.boxed w v) (w1 := w') (by rw [hq]; exact Vl.bal (Below.refl _ _) _)
      have HB0 := Vl.hid hB0
      clear hq hB0
      go_wp2_with fail
      refine (encode_any v.k v.n v.f v.s _ HF.out).mono ?_
      rintro e w1 ⟨rfl, hb1⟩
      have e1 : Vl.encR v.k v.n v.f v.s = ⟨#[]⟩ := by unfold Vl.encR; rw [HG.out]; rfl
      have e2 : Vl.encE v.k v.n v.f v.s = 11 := by unfold Vl.encE; rw [HG.out]; rfl
      rw [e1, e2]
      have HB3 := Vl.hid (Vl.btr HB0.out hb1)
      clear e1 e2 hb1 a0 a1 a2 a3 a4 a5
      go_wp2_with fail
      refine (decode_any _ _ _ (by omega)).mono ?_
      rintro e w4 ⟨rfl, hb4⟩
      rw [HD.out, Vl.decT_none]
      have HB4 := Vl.hid (Vl.btr HB3.out hb4)
      clear hb4
      go_wp2_with (first | (go_at_call 10; refine (wakes_any _).mono ?_; rintro e w5 ⟨rfl, hb5⟩))
      go_ret
      exact ⟨rfl, Vl.btr (Vl.bal HB4.out _) hb5⟩
    · have HG := Vl.hid hg
      clear hg
      go_enter Try.func7, Try.ntmps7
      go_wp2_with fail
      refine (largeValue_any v _).mono ?_
      rintro e w' ⟨rfl, hq⟩
      have hB0 : Below w.heap.size w w' := by rw [hq]; exact Vl.bal (Vl.bal (Below.refl _ _) _) _
      obtain ⟨a0, a1, a2, a3, a4, a5⟩ := Vl.box v w.heap.size (Vl.boxed w v) (w1 := w') (by rw [hq]; exact Vl.bal (Below.refl _ _) _)
      have HB0 := Vl.hid hB0
      clear hq hB0
      go_wp2_with fail
      refine (encode_any v.k v.n v.f v.s _ HF.out).mono ?_
      rintro e w1 ⟨rfl, hb1⟩
      have e1 : Vl.encR v.k v.n v.f v.s = Vl.encS v.k v.n v.f v.s := by unfold Vl.encR; rw [HG.out]; rfl
      have e2 : Vl.encE v.k v.n v.f v.s = 0 := by unfold Vl.encE; rw [HG.out]; rfl
      rw [e1, e2]
      have hsz : (Vl.encS v.k v.n v.f v.s).size ≤ 301 := by rw [Vl.encS_size]; have := Vl.body_le HG.out; omega
      obtain ⟨b0, b1, b2, b3, b4, b5⟩ := Vl.box v w.heap.size a5 hb1
      have HB1 := Vl.hid (Vl.btr HB0.out hb1)
      clear e1 e2 hb1 a0 a1 a2 a3 a4 a5
      go_wp2_with fail
      refine (decode_any _ _ _ (by rw [ByteArray.size_append, ByteArray.size_append]; show _ + _ + 1 ≤ _; omega)).mono ?_
      rintro e w2 ⟨rfl, hb2⟩
      rw [Vl.dec_enc v.k v.n v.f v.s ahead HN1.out HN2.out HF.out HG.out, Vl.decT_some]
      have hz : (1 : Int) + ((Vl.body v.k v.n v.f v.s).size : Int) = ((Vl.encS v.k v.n v.f v.s).size : Int) := by rw [Vl.encS_size]; omega
      rw [hz]
      obtain ⟨c0, c1, c2, c3, c4, c5⟩ := Vl.box v w.heap.size b5 hb2
      have HB2 := Vl.hid (Vl.btr HB1.out hb2)
      clear hz hb2 b0 b1 b2 b3 b4 b5
      go_wp2_with fail
      refine (keepValue_same v _).mono ?_
      rintro e w3 ⟨rfl, hb3⟩
      have HB3 := Vl.hid (Vl.btr (Vl.bal HB2.out _) hb3)
      clear hb3 c0 c1 c2 c3 c4 c5
      go_wp2_with fail
      refine (decode_any _ _ _ (by omega)).mono ?_
      rintro e w4 ⟨rfl, hb4⟩
      rw [HD.out, Vl.decT_none]
      have HB4 := Vl.hid (Vl.btr HB3.out hb4)
      clear hb4
      go_wp2_with (first | (go_at_call 10; refine (wakes_any _).mono ?_; rintro e w5 ⟨rfl, hb5⟩))
      go_ret
      exact ⟨rfl, Vl.btr (Vl.bal HB4.out _) hb5⟩
  | some g =>
    have HD := Vl.hid hd
    clear hd
    cases hg : Vl.goodB v.k v.n v.f v.s
    · have HG := Vl.hid hg
      clear hg
      go_enter Try.func7, Try.ntmps7
      go_wp2_with fail
      refine (largeValue_any v _).mono ?_
      rintro e w' ⟨rfl, hq⟩
      have hB0 : Below w.heap.size w w' := by rw [hq]; exact Vl.bal (Vl.bal (Below.refl _ _) _) _
      obtain ⟨a0, a1, a2, a3, a4, a5⟩ := Vl.box v w.heap.size (Vl.boxed w v) (w1 := w') (by rw [hq]; exact Vl.bal (Below.refl _ _) _)
      have HB0 := Vl.hid hB0
      clear hq hB0
      go_wp2_with fail
      refine (encode_any v.k v.n v.f v.s _ HF.out).mono ?_
      rintro e w1 ⟨rfl, hb1⟩
      have e1 : Vl.encR v.k v.n v.f v.s = ⟨#[]⟩ := by unfold Vl.encR; rw [HG.out]; rfl
      have e2 : Vl.encE v.k v.n v.f v.s = 11 := by unfold Vl.encE; rw [HG.out]; rfl
      rw [e1, e2]
      have HB3 := Vl.hid (Vl.btr HB0.out hb1)
      clear e1 e2 hb1 a0 a1 a2 a3 a4 a5
      have HK := Vl.hid (Vl.dec_back (a := 0) HD.out)
      go_wp2_with fail
      refine (decode_any _ _ _ (by omega)).mono ?_
      rintro e w4 ⟨rfl, hb4⟩
      rw [HD.out, Vl.decT_some]
      have HB4 := Vl.hid (Vl.btr HB3.out hb4)
      clear hb4
      go_wp2_with fail
      refine (encode_any g.v.k g.v.n g.v.f g.v.s _ HK.out.lt).mono ?_
      rintro e w5 ⟨rfl, hb5⟩
      have e1 : Vl.encR g.v.k g.v.n g.v.f g.v.s = s.extract 0 (1 + g.sz) := by unfold Vl.encR; rw [HK.out.good, if_pos rfl, HK.out.enc, Nat.zero_add]
      have e2 : Vl.encE g.v.k g.v.n g.v.f g.v.s = 0 := by unfold Vl.encE; rw [HK.out.good]; rfl
      have hle : 1 + g.sz ≤ s.size := by have := HK.out.le; omega
      have hxs : (s.extract 0 (1 + g.sz)).size = 1 + g.sz := by rw [ByteArray.size_extract]; omega
      rw [e1, e2]
      have HB5 := Vl.hid (Vl.btr (Vl.bal HB4.out _) hb5)
      have t1 : decide ((1 : Int) + (g.sz : Int) ≤ (s.size : Int)) = true := decide_eq_true (by omega)
      clear e1 e2 hb5
      go_wp2_with (first | (go_at_call 10; refine (wakes_any _).mono ?_; rintro e w6 ⟨rfl, hb6⟩))
      go_ret
      exact ⟨rfl, Vl.btr HB5.out hb6⟩
    · have HG := Vl.hid hg
      clear hg
      go_enter Try.func7, Try.ntmps7
      go_wp2_with fail
      refine (largeValue_any v _).mono ?_
      rintro e w' ⟨rfl, hq⟩
      have hB0 : Below w.heap.size w w' := by rw [hq]; exact Vl.bal (Vl.bal (Below.refl _ _) _) _
      obtain ⟨a0, a1, a2, a3, a4, a5⟩ := Vl.box v w.heap.size (Vl.boxed w v) (w1 := w') (by rw [hq]; exact Vl.bal (Below.refl _ _) _)
      have HB0 := Vl.hid hB0
      clear hq hB0
      go_wp2_with fail
      refine (encode_any v.k v.n v.f v.s _ HF.out).mono ?_
      rintro e w1 ⟨rfl, hb1⟩
      have e1 : Vl.encR v.k v.n v.f v.s = Vl.encS v.k v.n v.f v.s := by unfold Vl.encR; rw [HG.out]; rfl
      have e2 : Vl.encE v.k v.n v.f v.s = 0 := by unfold Vl.encE; rw [HG.out]; rfl
      rw [e1, e2]
      have hsz : (Vl.encS v.k v.n v.f v.s).size ≤ 301 := by rw [Vl.encS_size]; have := Vl.body_le HG.out; omega
      obtain ⟨b0, b1, b2, b3, b4, b5⟩ := Vl.box v w.heap.size a5 hb1
      have HB1 := Vl.hid (Vl.btr HB0.out hb1)
      clear e1 e2 hb1 a0 a1 a2 a3 a4 a5
      go_wp2_with fail
      refine (decode_any _ _ _ (by rw [ByteArray.size_append, ByteArray.size_append]; show _ + _ + 1 ≤ _; omega)).mono ?_
      rintro e w2 ⟨rfl, hb2⟩
      rw [Vl.dec_enc v.k v.n v.f v.s ahead HN1.out HN2.out HF.out HG.out, Vl.decT_some]
      have hz : (1 : Int) + ((Vl.body v.k v.n v.f v.s).size : Int) = ((Vl.encS v.k v.n v.f v.s).size : Int) := by rw [Vl.encS_size]; omega
      rw [hz]
      obtain ⟨c0, c1, c2, c3, c4, c5⟩ := Vl.box v w.heap.size b5 hb2
      have HB2 := Vl.hid (Vl.btr HB1.out hb2)
      clear hz hb2 b0 b1 b2 b3 b4 b5
      go_wp2_with fail
      refine (keepValue_same v _).mono ?_
      rintro e w3 ⟨rfl, hb3⟩
      have HB3 := Vl.hid (Vl.btr (Vl.bal HB2.out _) hb3)
      clear hb3 c0 c1 c2 c3 c4 c5
      have HK := Vl.hid (Vl.dec_back (a := 0) HD.out)
      go_wp2_with fail
      refine (decode_any _ _ _ (by omega)).mono ?_
      rintro e w4 ⟨rfl, hb4⟩
      rw [HD.out, Vl.decT_some]
      have HB4 := Vl.hid (Vl.btr HB3.out hb4)
      clear hb4
      go_wp2_with fail
      refine (encode_any g.v.k g.v.n g.v.f g.v.s _ HK.out.lt).mono ?_
      rintro e w5 ⟨rfl, hb5⟩
      have e1 : Vl.encR g.v.k g.v.n g.v.f g.v.s = s.extract 0 (1 + g.sz) := by unfold Vl.encR; rw [HK.out.good, if_pos rfl, HK.out.enc, Nat.zero_add]
      have e2 : Vl.encE g.v.k g.v.n g.v.f g.v.s = 0 := by unfold Vl.encE; rw [HK.out.good]; rfl
      have hle : 1 + g.sz ≤ s.size := by have := HK.out.le; omega
      have hxs : (s.extract 0 (1 + g.sz)).size = 1 + g.sz := by rw [ByteArray.size_extract]; omega
      rw [e1, e2]
      have HB5 := Vl.hid (Vl.btr (Vl.bal HB4.out _) hb5)
      have t1 : decide ((1 : Int) + (g.sz : Int) ≤ (s.size : Int)) = true := decide_eq_true (by omega)
      clear e1 e2 hb5
      go_wp2_with (first | (go_at_call 10; refine (wakes_any _).mono ?_; rintro e w6 ⟨rfl, hb6⟩))
      go_ret
      exact ⟨rfl, Vl.btr HB5.out hb6⟩

theorem back_any (v : Vl.V) (s ahead : ByteArray) (w : World) (hn1 : -9223372036854775808 ≤ v.n) (hn2 : v.n ≤ 9223372036854775807) (hf : v.f < 18446744073709551616) :
    Calls Try.prog 7 #[.agg #[.int .i64 v.k, .int .i64 v.n, .float .f64 v.f, .string v.s], .string s, .string ahead] w fun e w' => e = .returned (.bool true) ∧ Below w.heap.size w w' := by
  by_cases h : 20000 < s.size ∨ 20000 < ahead.size ∨ 2000 < v.s.size
  · exact back_large v s ahead w h
  · exact back_first v s ahead w hn1 hn2 hf (by omega) (by omega) (by omega)

end Go.Proofs.Ytanljohnmaokeaa
