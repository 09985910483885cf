/- Where a key stands in its leaf. -/
import Derived.Test.YtjnaafgiokdcbaaLa6
namespace Go.Proofs.Ytjnaafgiokdcbaa
open Go.RowKit

set_option maxRecDepth 100000 in
set_option maxHeartbeats 1000000 in
theorem isNaNS_any (x : ByteArray) (w : World) : Calls Try.prog 43 #[.string x] w fun e w' => e = .returned (.bool false) ∧ w' = w := by
  go_enter Try.func43, Try.ntmps43
  go_wp2
  go_ret
  exact ⟨by simp, rfl⟩

set_option maxRecDepth 100000 in
set_option maxHeartbeats 1000000 in
theorem isNaNC_any (x : ByteArray) (w : World) : Calls Try.prog 47 #[.string x] w fun e w' => e = .returned (.bool false) ∧ w' = w := by
  go_enter Try.func47, Try.ntmps47
  go_wp2
  go_ret
  exact ⟨by simp, rfl⟩

set_option maxRecDepth 100000 in
set_option maxHeartbeats 1000000 in
theorem less_any (x y : ByteArray) (w : World) : Calls Try.prog 42 #[.string x, .string y] w fun e w' => e = .returned (.bool (Lf.lt x y)) ∧ w' = w := by
  go_enter Try.func42, Try.ntmps42
  go_wp2_with (go_at_call 47; refine (isNaNC_any _ _).mono ?_; rintro e w' ⟨rfl, rfl⟩)
  go_ret
  exact ⟨rfl, rfl⟩

set_option maxRecDepth 100000 in
set_option maxHeartbeats 2000000 in
theorem bsearch_any (w : World) (q : Option Addr) (n c : Nat) (ks : List ByteArray) (k : ByteArray) (A B : List ByteArray) (hn : Hid (ks.length = n)) (hnb : n ≤ 10000) (hk : Hid (Lf.Kp ks k A B)) (hc : Hid (∀ (j : Nat) k', ks[j]? = some k' → ∃ g, q = some ⟨g, 0, none⟩ ∧ w.cell? ⟨g, j, none⟩ = some (.string k'))) :
    Calls Try.prog 34 #[.slice q n c, .string k] w fun e w' => e = .returned (.tuple #[.int .i64 (A.length : Int), .bool (decide (B.head? = some k))]) ∧ Below w.heap.size w w' := by
  obtain ⟨m, hm⟩ : ∃ m, m = A.length := ⟨_, rfl⟩
  have HMN : Hid (m ≤ n) := Mm.hid (by rw [← hn.out, hk.out.e, hm]; simp)
  have HM := Mm.hid hm
  rw [← hm]
  clear hm
  have hcw : Hid (∀ wr, Below w.heap.size w wr → ∀ (j : Nat) k', ks[j]? = some k' → ∃ g, q = some ⟨g, 0, none⟩ ∧ wr.cell? ⟨g, j, none⟩ = some (.string k')) := Mm.hid (fun wr hb j k' hj => by
    obtain ⟨g, h1, h2⟩ := hc.out j k' hj
    exact ⟨g, h1, (Mm.belAt hb j (World.block_lt_of_cell? w _ h2)).trans h2⟩)
  go_enter Try.func34, Try.ntmps34
  go_wp2_with fail
  go_loopw [7, 8, 9] (fun v7 v8 _ wr => ∃ lo hi : Nat, v7 = .int .i64 (lo : Int) ∧ v8 = .int .i64 (hi : Int) ∧ lo ≤ hi ∧ hi ≤ n ∧ Hid (lo ≤ m ∧ m ≤ hi) ∧ Hid (Below w.heap.size w wr)) (fun v7 v8 _ _ => (RowKit.intOf v8).toNat - (RowKit.intOf v7).toNat)
  case atStart => exact ⟨0, n, rfl, rfl, Nat.zero_le _, Nat.le_refl _, Mm.hid ⟨Nat.zero_le _, HMN.out⟩, Mm.hid (Below.refl _ _)⟩
  case round =>
    obtain ⟨lo, hi, rfl, rfl, hlh, hin, HI, HB⟩ := hrel
    rename World => wr
    by_cases hlt : lo < hi
    · obtain ⟨x, hx⟩ : ∃ x, ks[(lo + hi) / 2]? = some x := ⟨ks[(lo + hi) / 2]'(by rw [hn.out]; omega), List.getElem?_eq_getElem _⟩
      have HX := Mm.hid hx
      obtain ⟨g, rfl, d0⟩ := hcw.out wr HB.out _ x hx
      have g1 : (0 : Int) ≤ ((lo : Int) + (hi : Int)) / 2 := by omega
      have g2 : ((lo : Int) + (hi : Int)) / 2 < (n : Int) := by omega
      have g3 : (((lo : Int) + (hi : Int)) / 2).toNat = (lo + hi) / 2 := by omega
      clear hx
      by_cases hxm : (lo + hi) / 2 < m
      · have HL : Hid (Lf.lt x k = true) := Mm.hid (by
          have e := HX.out
          rw [hk.out.e, List.getElem?_append_left (by have := HM.out; omega)] at e
          exact hk.out.lo x (List.mem_of_getElem? e))
        have HI2 := Mm.hid hxm
        clear hxm
        go_wp2_with fail
        refine (less_any _ _ _).mono ?_
        rintro e w2 ⟨rfl, rfl⟩
        rw [HL.out]
        go_wp2_with fail
        exact ⟨⟨(lo + hi) / 2 + 1, hi, by go_num, rfl, by omega, hin, Mm.hid ⟨HI2.out, HI.out.2⟩, HB⟩, by simp [RowKit.intOf]; omega⟩
      · have HL : Hid (Lf.lt x k = false) := Mm.hid (by
          have e := HX.out
          rw [hk.out.e, List.getElem?_append_right (by have := HM.out; omega)] at e
          exact hk.out.hi x (List.mem_of_getElem? e))
        have HI2 : Hid (m ≤ (lo + hi) / 2) := Mm.hid (by omega)
        clear hxm
        go_wp2_with fail
        refine (less_any _ _ _).mono ?_
        rintro e w2 ⟨rfl, rfl⟩
        rw [HL.out]
        go_wp2_with fail
        exact ⟨⟨lo, (lo + hi) / 2, rfl, by go_num, by omega, by omega, Mm.hid ⟨HI.out.1, HI2.out⟩, HB⟩, by simp [RowKit.intOf]; omega⟩
    · have he : lo = hi := by omega
      subst he
      have hml : m = lo := by have := HI.out; omega
      subst hml
      by_cases hmn : m < n
      · obtain ⟨x, hx⟩ : ∃ x, ks[m]? = some x := ⟨ks[m]'(by rw [hn.out]; omega), List.getElem?_eq_getElem _⟩
        obtain ⟨g, rfl, d0⟩ := hcw.out wr HB.out _ x hx
        have HH : Hid (B.head? = some x) := Mm.hid (by
          rw [hk.out.e, HM.out, List.getElem?_append_right (Nat.le_refl _), Nat.sub_self] at hx
          cases B with
          | nil => simp at hx
          | cons b r => simpa using hx)
        clear hx
        cases hxk : x.toList == k.toList
        · have HD : Hid (decide (B.head? = some k) = false) := Mm.hid (by
            rw [HH.out]
            rw [Lf.eqB] at hxk
            exact decide_eq_false (fun e => of_decide_eq_false hxk (Option.some.inj e)))
          go_wp2_with (go_at_call 43; refine (isNaNS_any _ _).mono ?_; rintro e w' ⟨rfl, rfl⟩)
          go_ret2
          rw [HD.out]
          exact ⟨rfl, HB.out⟩
        · have HD : Hid (decide (B.head? = some k) = true) := Mm.hid (by
            rw [HH.out]
            rw [Lf.eqB] at hxk
            exact decide_eq_true (by rw [of_decide_eq_true hxk]))
          go_wp2_with (go_at_call 43; refine (isNaNS_any _ _).mono ?_; rintro e w' ⟨rfl, rfl⟩)
          go_ret2
          rw [HD.out]
          exact ⟨rfl, HB.out⟩
      · have HD : Hid (decide (B.head? = some k) = false) := Mm.hid (by
          have e : B = [] := by
            have h1 := hn.out
            rw [hk.out.e, List.length_append, ← HM.out] at h1
            exact List.length_eq_zero_iff.1 (by omega)
          rw [e]; simp)
        go_wp2_with (go_at_call 43; refine (isNaNS_any _ _).mono ?_; rintro e w' ⟨rfl, rfl⟩)
        go_ret2
        rw [HD.out]
        exact ⟨rfl, HB.out⟩

set_option maxRecDepth 100000 in
set_option maxHeartbeats 2000000 in
theorem find_any {h : Nat} {w : World} {tag : Nat → Option Lf.Tg} {p : Nat} {s : Lf.S} {bl : Nat → Nat} {kv : Nat → Value} {rv : Value} (H : Hid (Lf.Mem h w tag p s bl kv rv)) {k : ByteArray} {L R : List Lf.Pg} {P : Lf.Pg} (hs : Hid (Lf.Spl s k L P R)) (hz : Hid (Lf.Sm s)) {A B : List ByteArray} (hk : Hid (Lf.Kp P.ks k A B)) :
    Calls Try.prog 25 #[.pointer (some ⟨p, 0, none⟩), .string k] w fun e w' => e = .returned (.tuple #[.int .i64 (L.length : Int), .int .i64 (A.length : Int), .bool (decide (B.head? = some k))]) ∧ Below w.heap.size w w' := by
  have hpc := place_any H hs hz
  go_enter Try.func25, Try.ntmps25
  go_wp2_with fail
  refine hpc.mono ?_
  rintro e w1 ⟨rfl, hb⟩
  clear hpc
  have HM1 := Mm.hid (H.out.below hb)
  have HB := Mm.hid hb
  clear hb
  have hi : s.pgs[L.length]? = some P := by rw [hs.out.e]; simp
  obtain ⟨g, c, rfl, m1, m2, m3, m4, m5, m6⟩ := HM1.out.at hi
  have c1 := HM1.out.c1
  obtain ⟨q, c', ek, k1, k2, k3, k4, k5⟩ := HM1.out.ks hs.out.mem
  rw [ek] at m6
  have HKC := Mm.hid k5
  have hkb : P.ks.length ≤ 10000 := hz.out.kl P hs.out.mem
  obtain ⟨l, hl⟩ : ∃ l, l = L.length := ⟨_, rfl⟩
  rw [← hl] at m2 m3 ⊢
  have HLL := Mm.hid hl
  have hbs := bsearch_any w1 q P.ks.length c' P.ks k A B (Mm.hid rfl) hkb hk HKC
  have HBS := Mm.hid hbs
  have g1 : (0 : Int) ≤ (l : Int) := by omega
  have g2 : (l : Int) < (s.pgs.length : Int) := by omega
  clear hbs k2 k3 k4 k5 hi hl ek
  go_wp2_with fail
  refine HBS.out.mono ?_
  rintro e w2 ⟨rfl, hb2⟩
  have HB2 := Mm.hid (HB.out.trans (hb2.mono HB.out.size))
  clear hb2
  go_wp2_with fail
  go_ret3
  rw [← HLL.out]
  exact ⟨rfl, HB2.out⟩
end Go.Proofs.Ytjnaafgiokdcbaa
