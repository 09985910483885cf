/- strings.Clone; the leaf of a key. -/
import Derived.Test.YtjnaafgiokdcbaaGreatDoorGB
import Derived.Lib.BufferWrite
import Derived.Lib.UnsafeStr
namespace Go.Proofs.YtjnaafgiokdcbaaGreatDoor
open Go.RowKit

theorem Lf.row_of {w' : World} {base g m : Nat} {e : TypeId} {l : List Value} (h : w'.ownsRow base e 1 (.slice (some ⟨g, 0, none⟩) m m) m l) :
    ∃ cur : Array Value, w'.heap[g]? = some (.cells cur e (0, 0)) ∧ cur.size = m := by
  obtain ⟨_, ⟨h0, _⟩ | ⟨g', cap, cur, h0, hg, hh, h1, h2, h3, h4⟩⟩ := h
  · cases h0
  · cases h0
    exact ⟨cur, hh, by omega⟩
theorem Lf.setRow_at {w : World} {g : Nat} {cur cs : Array Value} {t : TypeId} (h : w.heap[g]? = some (.cells cur t (0, 0))) : (w.setRow g cs).heap[g]? = some (.cells cs t (0, 0)) := by
  simp only [World.setRow, Array.getElem?_modify, h]; rfl
theorem Lf.below_setRow {B : Nat} {a w : World} (h : Below B a w) {g : Nat} (hg : B ≤ g) (cs : Array Value) : Below B a (w.setRow g cs) :=
  h.trans ⟨rfl, rfl, rfl, by simp [World.setRow], fun k hk => by
    simp only [World.setRow, Array.getElem?_modify]
    rw [if_neg (by omega)]⟩

set_option maxRecDepth 100000 in
set_option maxHeartbeats 1000000 in
theorem lclone_in (s : ByteArray) (w : World) (hs : s.size ≤ 100000) :
    Calls Tryz.prog 75 #[.string s] w fun e w' => e = .returned (.string s) ∧ Below w.heap.size w w' := by
  by_cases h0 : s.size = 0
  · have hb : ((s.size : Int) == 0) = true := by simp [h0]
    have he : s = ⟨#[]⟩ := by cases s; rename_i d; congr; simpa [ByteArray.size] using h0
    have HE := Mm.hid he
    clear he h0
    go_enter Tryz.func75, Tryz.ntmps75
    go_wp2
    go_ret
    exact ⟨by rw [HE.out]; rfl, Below.refl _ _⟩
  · have hb : ((s.size : Int) == 0) = false := beq_eq_false_iff_ne.2 (by omega)
    have hsi : (s.size : Int) ≤ 100000 := by omega
    obtain ⟨i5, hi, hz0, hz1, hz2⟩ : ∃ i, Tryz.prog.info? 5 = some i ∧ i.zero = some (.int .u8 0) ∧ i.size = 1 ∧ i.bytes = 1 := ⟨_, Tryz.type5, rfl, rfl, rfl⟩
    go_enter Tryz.func75, Tryz.ntmps75
    go_wp2_with (first | (at_make; refine wpList_make_full _ rfl _ _ 106 rfl w.heap.size 5 i5 (.int .u8 0) 1 Tryz.underlying106 hi hz0 hz1 .i64 .i64 (s.size : Int) (s.size : Int) s.size rfl rfl rfl rfl (by rw [hz2]; omega) (by unfold maxLen; omega) (Nat.le_refl _) ?_; intro W1 hown hgrow))
    obtain ⟨cur, hg, hcs⟩ : ∃ cur : Array Value, W1.heap[w.heap.size]? = some (.cells cur 5 (0, 0)) ∧ cur.size = s.size := Lf.row_of hown
    have HB : Hid (Below w.heap.size w W1) := (Below.refl _ _).grown hgrow (Nat.le_refl _) (fun k h => by cases h)
    have hcp := Lib.run_copy_row_string (P := Tryz.prog) W1 106 9 3 5 w.heap.size 0 s.size s.size s cur 5 Tryz.underlying106 (by rw [hi]; simp [hz1]) hg (Nat.le_refl _) (by omega)
    rw [hcp]
    simp only [Result.andThen]
    rw [Oper.upon_value]
    have hrow : (cur.toList.take 0 ++ Lib.byteCells s.data.toList ++ cur.toList.drop (0 + s.size)).toArray = (Lib.byteCells s.data.toList).toArray := by
      rw [List.drop_of_length_le (by simp; omega)]; simp
    rw [hrow]
    have hW2 : (W1.setRow w.heap.size (Lib.byteCells s.data.toList).toArray).heap[w.heap.size]? = some (.cells (Lib.byteCells s.data.toList).toArray 5 (0, 0)) := Lf.setRow_at hg
    have HB2 : Hid (Below w.heap.size w (W1.setRow w.heap.size (Lib.byteCells s.data.toList).toArray)) := Lf.below_setRow HB.out (Nat.le_refl _) _
    generalize W1.setRow w.heap.size (Lib.byteCells s.data.toList).toArray = W2 at hW2 HB2
    have hus := Lib.run_unsafeString_row (P := Tryz.prog) W2 153 3 9 5 Tryz.underlying153 (by kernel_rfl) w.heap.size (Lib.byteCells s.data.toList).length (by simp [World.shape?, hW2]) s.data.toList (by intro e; apply h0; show s.data.size = 0; simpa using congrArg List.length e) (by rw [Lib.byteCells_length]; exact Nat.le_refl _) (by rw [(by simp : s.data.toList.length = s.size)]; omega)
      (fun j x hx => by rw [Mm.addPlain]; simp [World.cell?, hW2, Lib.byteCells, hx])
    have hsl : (s.data.toList.length : Int) = (s.size : Int) := by simp
    rw [hsl] at hus
    have HB3 : Hid (Below w.heap.size w (W2.freeze ⟨w.heap.size, 0, none⟩ s.data.toList.length)) := Lib.below_freeze HB2.out (Nat.le_refl _) _
    clear hcp hrow hown hgrow hg hW2 hi hz0 hz1 hz2
    go_wp2
    go_ret
    exact ⟨rfl, HB3.out⟩

set_option maxHeartbeats 1000000 in
theorem lclone_any (s : ByteArray) (w : World) (hs : s.size ≤ 100000) :
    Calls Tryz.prog 54 #[.string s] w fun e w' => e = .returned (.string s) ∧ Below w.heap.size w w' := by
  go_enter Tryz.func54, Tryz.ntmps54
  go_wp2_with (go_at_call 75; refine (lclone_in _ _ hs).mono ?_; rintro e w1 ⟨rfl, hb⟩)
  go_ret
  exact ⟨rfl, hb⟩


namespace Lf
/-- Numbers that any machine bears. -/
structure Sm (s : S) : Prop where
  pl : s.pgs.length ≤ 10000
  kl : ∀ P ∈ s.pgs, P.ks.length ≤ 10000
  la : s.last ≤ 10000
  cn : s.count ≤ 10000
  fa : s.fan ≤ 10000
  nn : ∀ P ∈ s.pgs, P.n ≤ 10000
  su : (s.pgs.map (fun P => P.ks.length)).sum ≤ 10000
theorem gtr_eq (a b : ByteArray) : (!Op.bytesLess a.toList b.toList && !a.toList == b.toList) = lt b a := by
  cases h : lt b a with
  | true =>
    have h1 : Op.bytesLess a.toList b.toList = false := lt_as h
    have h2 : (a.toList == b.toList) = false := by rw [eqB]; exact decide_eq_false (fun e => lt_ne h e.symm)
    rw [h1, h2]; rfl
  | false =>
    cases h2 : lt a b with
    | true => rw [show Op.bytesLess a.toList b.toList = true from h2]; rfl
    | false => rw [lt_tri h2 h]; simp
end Lf

set_option maxRecDepth 100000 in
set_option maxHeartbeats 2000000 in
theorem placeLit_any {h : Nat} {w : World} {tag : Nat → Option Lf.Tg} {p : Nat} {s : Lf.S} {bl : Nat → Nat} {kv : Nat → Value} {rv : Value} (H : Hid (Lf.Mem h w tag p s bl kv rv)) (i : Nat) (P : Lf.Pg) (hP : Hid (s.pgs[i]? = some P)) (k : ByteArray) (b1 b2 : Nat) (h1 : w.cell? ⟨b1, 0, none⟩ = some (.pointer (some ⟨p, 0, none⟩))) (h2 : w.cell? ⟨b2, 0, none⟩ = some (.string k)) :
    Calls Tryz.prog 91 #[.int .i64 (i : Int), .pointer (some ⟨b1, 0, none⟩), .pointer (some ⟨b2, 0, none⟩)] w fun e w' => e = .returned (.bool (Lf.lt k P.b)) ∧ Below w.heap.size w w' := by
  obtain ⟨g, c, rfl, m1, m2, m3, m4, m5, m6⟩ := H.out.at hP.out
  have c1 := H.out.c1
  have g1 : (0 : Int) ≤ (i : Int) := by omega
  have g2 : (i : Int) < (s.pgs.length : Int) := by omega
  go_enter Tryz.func91, Tryz.ntmps91
  go_wp2_with fail
  go_region
  go_wp2
  go_ret
  exact ⟨by rw [← Lf.gtr_eq]; rfl, rfl, rfl, rfl, Nat.le_refl _, fun _ _ => rfl⟩

set_option maxRecDepth 100000 in
set_option maxHeartbeats 2000000 in
theorem searchP_any {h : Nat} {w : World} {tag : Nat → Option Lf.Tg} {p : Nat} {s : Lf.S} {bl : Nat → Nat} {kv : Nat → Value} {rv : Value} (H : Hid (Lf.Mem h w tag p s bl kv rv)) {k : ByteArray} {L R : List Lf.Pg} {P : Lf.Pg} (hs : Hid (Lf.Spl s k L P R)) (n m : Nat) (hn : Hid (s.pgs.length = n)) (hm : Hid (L.length + 1 = m)) (hn2 : n ≤ 10000) (hmn : m ≤ n) (b1 b2 : Nat) (h1 : Hid (w.cell? ⟨b1, 0, none⟩ = some (.pointer (some ⟨p, 0, none⟩)) ∧ b1 < w.heap.size)) (h2 : Hid (w.cell? ⟨b2, 0, none⟩ = some (.string k) ∧ b2 < w.heap.size)) :
    Calls Tryz.prog 90 #[.int .i64 (n : Int), .func (.func 91) #[] #[.pointer (some ⟨b1, 0, none⟩), .pointer (some ⟨b2, 0, none⟩)]] w fun e w' => e = .returned (.int .i64 (m : Int)) ∧ Below w.heap.size w w' := by
  have HM := Mm.hid hmn
  clear hmn
  go_enter Tryz.func90, Tryz.ntmps90
  go_wp2_with fail
  go_loopw [5, 6, 7] (fun v5 v6 _ wr => ∃ lo hi : Nat, v5 = .int .i64 (lo : Int) ∧ v6 = .int .i64 (hi : Int) ∧ lo ≤ hi ∧ hi ≤ n ∧ Hid (lo ≤ m ∧ m ≤ hi) ∧ Hid (Below w.heap.size w wr)) (fun v5 v6 _ _ => (RowKit.intOf v6).toNat - (RowKit.intOf v5).toNat)
  case atStart => exact ⟨0, n, rfl, rfl, Nat.zero_le _, Nat.le_refl _, Mm.hid ⟨Nat.zero_le _, HM.out⟩, Mm.hid (Below.refl _ _)⟩
  case round =>
    obtain ⟨lo, hi, rfl, rfl, hlh, hin, HI, HB⟩ := hrel
    rename World => wr
    by_cases hlt : lo < hi
    · obtain ⟨Q, hQ⟩ : ∃ Q, s.pgs[(lo + hi) / 2]? = some Q := ⟨s.pgs[(lo + hi) / 2]'(by rw [hn.out]; omega), List.getElem?_eq_getElem _⟩
      have HQ := Mm.hid hQ
      have HMr := Mm.hid (H.out.below HB.out)
      have c1 : wr.cell? ⟨b1, 0, none⟩ = some (.pointer (some ⟨p, 0, none⟩)) := (Mm.belAt HB.out 0 h1.out.2).trans h1.out.1
      have c2 : wr.cell? ⟨b2, 0, none⟩ = some (.string k) := (Mm.belAt HB.out 0 h2.out.2).trans h2.out.1
      have hcall := placeLit_any HMr ((lo + hi) / 2) Q HQ k b1 b2 c1 c2
      have HE : (((lo + hi) / 2 : Nat) : Int) = ((lo : Int) + (hi : Int)) / 2 := by omega
      rw [HE] at hcall
      have HC := Mm.hid hcall
      clear hcall hQ c1 c2 HE
      by_cases hx : (lo + hi) / 2 < m
      · have HL : Hid (Lf.lt k Q.b = false) := Mm.hid (by
          have e := HQ.out
          rw [hs.out.e] at e
          rcases Nat.lt_or_ge ((lo + hi) / 2) L.length with h3 | h3
          · rw [List.getElem?_append_left h3] at e
            exact hs.out.lo Q (List.mem_of_getElem? e)
          · have h4 : (lo + hi) / 2 = L.length := by have := hm.out; omega
            rw [h4, List.getElem?_append_right (Nat.le_refl _)] at e
            simp at e
            rw [← e]; exact hs.out.at_)
        have HI2 := Mm.hid hx
        clear hx
        go_wp2_with fail
        refine HC.out.mono ?_
        rintro e w2 ⟨rfl, hb2⟩
        have HB2 := Mm.hid (HB.out.trans (hb2.mono HB.out.size))
        clear hb2
        rw [HL.out]
        go_wp2_with fail
        exact ⟨⟨(lo + hi) / 2 + 1, hi, by go_num, rfl, by omega, hin, Mm.hid ⟨HI2.out, HI.out.2⟩, HB2⟩, by simp [RowKit.intOf]; omega⟩
      · have HL : Hid (Lf.lt k Q.b = true) := Mm.hid (by
          have e := HQ.out
          rw [hs.out.e, List.getElem?_append_right (by have := hm.out; omega)] at e
          obtain ⟨t, ht⟩ : ∃ t, (lo + hi) / 2 - L.length = t + 1 := ⟨(lo + hi) / 2 - L.length - 1, by have := hm.out; omega⟩
          rw [ht, List.getElem?_cons_succ] at e
          exact hs.out.hi Q (List.mem_of_getElem? e))
        have HI2 : Hid (m ≤ (lo + hi) / 2) := Mm.hid (by omega)
        clear hx
        go_wp2_with fail
        refine HC.out.mono ?_
        rintro e w2 ⟨rfl, hb2⟩
        have HB2 := Mm.hid (HB.out.trans (hb2.mono HB.out.size))
        clear hb2
        rw [HL.out]
        go_wp2_with fail
        exact ⟨⟨lo, (lo + hi) / 2, rfl, by go_num, by omega, by omega, Mm.hid ⟨HI.out.1, HI2.out⟩, HB2⟩, by simp [RowKit.intOf]; omega⟩
    · have he : lo = hi := by omega
      subst he
      have HE : Hid (m = lo) := Mm.hid (by have := HI.out; omega)
      go_wp2_with fail
      go_ret
      exact ⟨by rw [HE.out]; rfl, HB.out⟩

set_option maxRecDepth 100000 in
set_option maxHeartbeats 2000000 in
theorem place_any {h : Nat} {w : World} {tag : Nat → Option Lf.Tg} {p : Nat} {s : Lf.S} {bl : Nat → Nat} {kv : Nat → Value} {rv : Value} (H : Hid (Lf.Mem h w tag p s bl kv rv)) {k : ByteArray} {L R : List Lf.Pg} {P : Lf.Pg} (hs : Hid (Lf.Spl s k L P R)) (hz : Hid (Lf.Sm s)) :
    Calls Tryz.prog 71 #[.pointer (some ⟨p, 0, none⟩), .string k] w fun e w' => e = .returned (.int .i64 (L.length : Int)) ∧ Below w.heap.size w w' := by
  obtain ⟨n, hn⟩ : ∃ n, n = s.pgs.length := ⟨_, rfl⟩
  have HL : Hid (L.length + 1 ≤ n) := Mm.hid (by rw [hn, hs.out.e]; simp)
  have hnb : n ≤ 10000 := by rw [hn]; exact hz.out.pl
  have hi : s.pgs[L.length]? = some P := by rw [hs.out.e]; simp
  obtain ⟨g, c, rfl, m1, m2, m3, m4, m5, m6⟩ := H.out.at hi
  rw [← hn] at m1
  have HN := Mm.hid hn.symm
  have HW2 : Hid (Below w.heap.size w ((w.alloc (.cells #[.pointer (some ⟨p, 0, none⟩)] 68)).alloc (.cells #[.string k] 9))) := Mm.hid (((Below.refl _ w).alloc (Nat.le_refl _) _).alloc (by simp) _)
  have HM2 := Mm.hid (H.out.below HW2.out)
  have c1 := HM2.out.c1
  rw [← hn] at c1
  have hL1 : L.length ≤ 10000 := by have := HL.out; omega
  clear m1 m2 m3 m4 m5 m6 hi hn
  go_enter Tryz.func71, Tryz.ntmps71
  go_wp2_with fail
  refine (searchP_any HM2 hs n (L.length + 1) HN (Mm.hid rfl) hnb HL.out w.heap.size (w.heap.size + 1) (Mm.hid ⟨?_, by simp; omega⟩) (Mm.hid ⟨?_, by simp⟩)).mono ?_
  · exact Mm.cellOf ((Mm.oldAt _ _ (by simp)).trans (Mm.newAt w _ rfl)) rfl
  · exact Mm.cellOf (Mm.newAt _ _ (by simp)) rfl
  rintro e w3 ⟨rfl, hb⟩
  have HB := Mm.hid (HW2.out.trans (hb.mono HW2.out.size))
  clear hb c1
  go_wp2_with fail
  go_ret
  exact ⟨by go_num, HB.out⟩

end Go.Proofs.YtjnaafgiokdcbaaGreatDoor

/- Where a key stands in its leaf. -/
namespace Go.Proofs.YtjnaafgiokdcbaaGreatDoor
open Go.RowKit

set_option maxRecDepth 100000 in
set_option maxHeartbeats 1000000 in
theorem isNaNS_any (x : ByteArray) (w : World) : Calls Tryz.prog 93 #[.string x] w fun e w' => e = .returned (.bool false) ∧ w' = w := by
  go_enter Tryz.func93, Tryz.ntmps93
  go_wp2
  go_ret
  exact ⟨by simp, rfl⟩

set_option maxRecDepth 100000 in
set_option maxHeartbeats 1000000 in
theorem isNaNC_any (x : ByteArray) (w : World) : Calls Tryz.prog 106 #[.string x] w fun e w' => e = .returned (.bool false) ∧ w' = w := by
  go_enter Tryz.func106, Tryz.ntmps106
  go_wp2
  go_ret
  exact ⟨by simp, rfl⟩

set_option maxRecDepth 100000 in
set_option maxHeartbeats 1000000 in
theorem less_any (x y : ByteArray) (w : World) : Calls Tryz.prog 92 #[.string x, .string y] w fun e w' => e = .returned (.bool (Lf.lt x y)) ∧ w' = w := by
  go_enter Tryz.func92, Tryz.ntmps92
  go_wp2_with (go_at_call 106; refine (isNaNC_any _ _).mono ?_; rintro e w' ⟨rfl, rfl⟩)
  go_ret
  exact ⟨rfl, rfl⟩

set_option maxRecDepth 100000 in
set_option maxHeartbeats 2000000 in
theorem bsearch_any (w : World) (q : Option Addr) (n c : Nat) (ks : List ByteArray) (k : ByteArray) (A B : List ByteArray) (hn : Hid (ks.length = n)) (hnb : n ≤ 10000) (hk : Hid (Lf.Kp ks k A B)) (hc : Hid (∀ (j : Nat) k', ks[j]? = some k' → ∃ g, q = some ⟨g, 0, none⟩ ∧ w.cell? ⟨g, j, none⟩ = some (.string k'))) :
    Calls Tryz.prog 72 #[.slice q n c, .string k] w fun e w' => e = .returned (.tuple #[.int .i64 (A.length : Int), .bool (decide (B.head? = some k))]) ∧ Below w.heap.size w w' := by
  obtain ⟨m, hm⟩ : ∃ m, m = A.length := ⟨_, rfl⟩
  have HMN : Hid (m ≤ n) := Mm.hid (by rw [← hn.out, hk.out.e, hm]; simp)
  have HM := Mm.hid hm
  rw [← hm]
  clear hm
  have hcw : Hid (∀ wr, Below w.heap.size w wr → ∀ (j : Nat) k', ks[j]? = some k' → ∃ g, q = some ⟨g, 0, none⟩ ∧ wr.cell? ⟨g, j, none⟩ = some (.string k')) := Mm.hid (fun wr hb j k' hj => by
    obtain ⟨g, h1, h2⟩ := hc.out j k' hj
    exact ⟨g, h1, (Mm.belAt hb j (World.block_lt_of_cell? w _ h2)).trans h2⟩)
  go_enter Tryz.func72, Tryz.ntmps72
  go_wp2_with fail
  go_loopw [7, 8, 9] (fun v7 v8 _ wr => ∃ lo hi : Nat, v7 = .int .i64 (lo : Int) ∧ v8 = .int .i64 (hi : Int) ∧ lo ≤ hi ∧ hi ≤ n ∧ Hid (lo ≤ m ∧ m ≤ hi) ∧ Hid (Below w.heap.size w wr)) (fun v7 v8 _ _ => (RowKit.intOf v8).toNat - (RowKit.intOf v7).toNat)
  case atStart => exact ⟨0, n, rfl, rfl, Nat.zero_le _, Nat.le_refl _, Mm.hid ⟨Nat.zero_le _, HMN.out⟩, Mm.hid (Below.refl _ _)⟩
  case round =>
    obtain ⟨lo, hi, rfl, rfl, hlh, hin, HI, HB⟩ := hrel
    rename World => wr
    by_cases hlt : lo < hi
    · obtain ⟨x, hx⟩ : ∃ x, ks[(lo + hi) / 2]? = some x := ⟨ks[(lo + hi) / 2]'(by rw [hn.out]; omega), List.getElem?_eq_getElem _⟩
      have HX := Mm.hid hx
      obtain ⟨g, rfl, d0⟩ := hcw.out wr HB.out _ x hx
      have g1 : (0 : Int) ≤ ((lo : Int) + (hi : Int)) / 2 := by omega
      have g2 : ((lo : Int) + (hi : Int)) / 2 < (n : Int) := by omega
      have g3 : (((lo : Int) + (hi : Int)) / 2).toNat = (lo + hi) / 2 := by omega
      clear hx
      by_cases hxm : (lo + hi) / 2 < m
      · have HL : Hid (Lf.lt x k = true) := Mm.hid (by
          have e := HX.out
          rw [hk.out.e, List.getElem?_append_left (by have := HM.out; omega)] at e
          exact hk.out.lo x (List.mem_of_getElem? e))
        have HI2 := Mm.hid hxm
        clear hxm
        go_wp2_with fail
        refine (less_any _ _ _).mono ?_
        rintro e w2 ⟨rfl, rfl⟩
        rw [HL.out]
        go_wp2_with fail
        exact ⟨⟨(lo + hi) / 2 + 1, hi, by go_num, rfl, by omega, hin, Mm.hid ⟨HI2.out, HI.out.2⟩, HB⟩, by simp [RowKit.intOf]; omega⟩
      · have HL : Hid (Lf.lt x k = false) := Mm.hid (by
          have e := HX.out
          rw [hk.out.e, List.getElem?_append_right (by have := HM.out; omega)] at e
          exact hk.out.hi x (List.mem_of_getElem? e))
        have HI2 : Hid (m ≤ (lo + hi) / 2) := Mm.hid (by omega)
        clear hxm
        go_wp2_with fail
        refine (less_any _ _ _).mono ?_
        rintro e w2 ⟨rfl, rfl⟩
        rw [HL.out]
        go_wp2_with fail
        exact ⟨⟨lo, (lo + hi) / 2, rfl, by go_num, by omega, by omega, Mm.hid ⟨HI.out.1, HI2.out⟩, HB⟩, by simp [RowKit.intOf]; omega⟩
    · have he : lo = hi := by omega
      subst he
      have hml : m = lo := by have := HI.out; omega
      subst hml
      by_cases hmn : m < n
      · obtain ⟨x, hx⟩ : ∃ x, ks[m]? = some x := ⟨ks[m]'(by rw [hn.out]; omega), List.getElem?_eq_getElem _⟩
        obtain ⟨g, rfl, d0⟩ := hcw.out wr HB.out _ x hx
        have HH : Hid (B.head? = some x) := Mm.hid (by
          rw [hk.out.e, HM.out, List.getElem?_append_right (Nat.le_refl _), Nat.sub_self] at hx
          cases B with
          | nil => simp at hx
          | cons b r => simpa using hx)
        clear hx
        cases hxk : x.toList == k.toList
        · have HD : Hid (decide (B.head? = some k) = false) := Mm.hid (by
            rw [HH.out]
            rw [Lf.eqB] at hxk
            exact decide_eq_false (fun e => of_decide_eq_false hxk (Option.some.inj e)))
          go_wp2_with (go_at_call 93; refine (isNaNS_any _ _).mono ?_; rintro e w' ⟨rfl, rfl⟩)
          go_ret2
          rw [HD.out]
          exact ⟨rfl, HB.out⟩
        · have HD : Hid (decide (B.head? = some k) = true) := Mm.hid (by
            rw [HH.out]
            rw [Lf.eqB] at hxk
            exact decide_eq_true (by rw [of_decide_eq_true hxk]))
          go_wp2_with (go_at_call 93; refine (isNaNS_any _ _).mono ?_; rintro e w' ⟨rfl, rfl⟩)
          go_ret2
          rw [HD.out]
          exact ⟨rfl, HB.out⟩
      · have HD : Hid (decide (B.head? = some k) = false) := Mm.hid (by
          have e : B = [] := by
            have h1 := hn.out
            rw [hk.out.e, List.length_append, ← HM.out] at h1
            exact List.length_eq_zero_iff.1 (by omega)
          rw [e]; simp)
        go_wp2_with (go_at_call 93; refine (isNaNS_any _ _).mono ?_; rintro e w' ⟨rfl, rfl⟩)
        go_ret2
        rw [HD.out]
        exact ⟨rfl, HB.out⟩

set_option maxRecDepth 100000 in
set_option maxHeartbeats 2000000 in
theorem find_any {h : Nat} {w : World} {tag : Nat → Option Lf.Tg} {p : Nat} {s : Lf.S} {bl : Nat → Nat} {kv : Nat → Value} {rv : Value} (H : Hid (Lf.Mem h w tag p s bl kv rv)) {k : ByteArray} {L R : List Lf.Pg} {P : Lf.Pg} (hs : Hid (Lf.Spl s k L P R)) (hz : Hid (Lf.Sm s)) {A B : List ByteArray} (hk : Hid (Lf.Kp P.ks k A B)) :
    Calls Tryz.prog 52 #[.pointer (some ⟨p, 0, none⟩), .string k] w fun e w' => e = .returned (.tuple #[.int .i64 (L.length : Int), .int .i64 (A.length : Int), .bool (decide (B.head? = some k))]) ∧ Below w.heap.size w w' := by
  have hpc := place_any H hs hz
  go_enter Tryz.func52, Tryz.ntmps52
  go_wp2_with fail
  refine hpc.mono ?_
  rintro e w1 ⟨rfl, hb⟩
  clear hpc
  have HM1 := Mm.hid (H.out.below hb)
  have HB := Mm.hid hb
  clear hb
  have hi : s.pgs[L.length]? = some P := by rw [hs.out.e]; simp
  obtain ⟨g, c, rfl, m1, m2, m3, m4, m5, m6⟩ := HM1.out.at hi
  have c1 := HM1.out.c1
  obtain ⟨q, c', ek, k1, k2, k3, k4, k5⟩ := HM1.out.ks hs.out.mem
  rw [ek] at m6
  have HKC := Mm.hid k5
  have hkb : P.ks.length ≤ 10000 := hz.out.kl P hs.out.mem
  obtain ⟨l, hl⟩ : ∃ l, l = L.length := ⟨_, rfl⟩
  rw [← hl] at m2 m3 ⊢
  have HLL := Mm.hid hl
  have hbs := bsearch_any w1 q P.ks.length c' P.ks k A B (Mm.hid rfl) hkb hk HKC
  have HBS := Mm.hid hbs
  have g1 : (0 : Int) ≤ (l : Int) := by omega
  have g2 : (l : Int) < (s.pgs.length : Int) := by omega
  clear hbs k2 k3 k4 k5 hi hl ek
  go_wp2_with fail
  refine HBS.out.mono ?_
  rintro e w2 ⟨rfl, hb2⟩
  have HB2 := Mm.hid (HB.out.trans (hb2.mono HB.out.size))
  clear hb2
  go_wp2_with fail
  go_ret3
  rw [← HLL.out]
  exact ⟨rfl, HB2.out⟩

end Go.Proofs.YtjnaafgiokdcbaaGreatDoor

/- Has, Of, Len, All, Keys. -/
namespace Go.Proofs.YtjnaafgiokdcbaaGreatDoor
open Go.RowKit

namespace Lf
/-- Leaves at a block, or none at all. -/
def nums (l : List Pg) : List Nat := l.map (fun P => P.n)
end Lf

set_option maxRecDepth 100000 in
set_option maxHeartbeats 2000000 in
theorem has_any {h : Nat} {w : World} {tag : Nat → Option Lf.Tg} {p : Nat} {s : Lf.S} {bl : Nat → Nat} {kv : Nat → Value} {rv : Value} (H : Hid (Lf.Mem h w tag p s bl kv rv)) {k : ByteArray} {L R : List Lf.Pg} {P : Lf.Pg} (hs : Hid (Lf.Spl s k L P R)) (hz : Hid (Lf.Sm s)) {A B : List ByteArray} (hk : Hid (Lf.Kp P.ks k A B)) :
    Calls Tryz.prog 44 #[.pointer (some ⟨p, 0, none⟩), .string k] w fun e w' => e = .returned (.bool (decide (B.head? = some k))) ∧ Below w.heap.size w w' := by
  have HF := Mm.hid (find_any H hs hz hk)
  go_enter Tryz.func44, Tryz.ntmps44
  go_wp2_with fail
  refine HF.out.mono ?_
  rintro e w1 ⟨rfl, hb⟩
  have HB := Mm.hid hb
  clear hb
  go_wp2_with fail
  go_ret
  exact ⟨rfl, HB.out⟩

set_option maxRecDepth 100000 in
set_option maxHeartbeats 2000000 in
theorem has_nil (k : ByteArray) (w : World) : Calls Tryz.prog 44 #[.pointer none, .string k] w fun e w' => e = .returned (.bool false) ∧ Below w.heap.size w w' := by
  go_enter Tryz.func44, Tryz.ntmps44
  go_wp2_with fail
  go_ret
  exact ⟨rfl, Below.refl _ _⟩

set_option maxRecDepth 100000 in
set_option maxHeartbeats 2000000 in
theorem leafof_any {h : Nat} {w : World} {tag : Nat → Option Lf.Tg} {p : Nat} {s : Lf.S} {bl : Nat → Nat} {kv : Nat → Value} {rv : Value} (H : Hid (Lf.Mem h w tag p s bl kv rv)) {k : ByteArray} {L R : List Lf.Pg} {P : Lf.Pg} (hs : Hid (Lf.Spl s k L P R)) (hz : Hid (Lf.Sm s)) :
    Calls Tryz.prog 56 #[.pointer (some ⟨p, 0, none⟩), .string k] w fun e w' => e = .returned (.int .i64 (P.n : Int)) ∧ Below w.heap.size w w' := by
  have HD := Mm.hid H.out.drew
  have HP := Mm.hid (place_any HD hs hz)
  have hi : s.pgs[L.length]? = some P := by rw [hs.out.e]; simp
  obtain ⟨g, c, rfl, m1, m2, m3, m4, m5, m6⟩ := H.out.at hi
  have c1 := H.out.c1
  obtain ⟨l, hl⟩ : ∃ l, l = L.length := ⟨_, rfl⟩
  rw [← hl] at m2 m3
  have HL := Mm.hid hl
  have HC : Hid (∀ w1, Below w.drew.heap.size w.drew w1 → w1.cell? ⟨p, 1, none⟩ = some (.slice (some ⟨g, 0, none⟩) s.pgs.length c) ∧ w1.cell? ⟨g, l, none⟩ = some (.pointer (some ⟨bl P.n, 0, none⟩)) ∧ w1.cell? ⟨bl P.n, 0, none⟩ = some (.int .i64 (P.n : Int))) := Mm.hid (fun w1 hb => ⟨(Mm.belAt hb _ (World.block_lt_of_cell? w _ c1)).trans c1, (Mm.belAt hb _ (World.block_lt_of_cell? w _ m3)).trans m3, (Mm.belAt hb _ (World.block_lt_of_cell? w _ m4)).trans m4⟩)
  have g1 : (0 : Int) ≤ (l : Int) := by omega
  have g2 : (l : Int) < (s.pgs.length : Int) := by omega
  have HS0 : Hid (w.drew.cell? ⟨p, 1, none⟩ = some (.slice (some ⟨g, 0, none⟩) s.pgs.length c) ∧ w.drew.cell? ⟨g, l, none⟩ = some (.pointer (some ⟨bl P.n, 0, none⟩)) ∧ w.drew.cell? ⟨bl P.n, 0, none⟩ = some (.int .i64 (P.n : Int))) := Mm.hid (HC.out _ (Below.refl _ _))
  clear hi hl m4 m5 m6 c1 m3
  go_enter Tryz.func56, Tryz.ntmps56
  go_wp2_with fail
  go_region_held3 (fun w' => w'.cell? ⟨p, 1, none⟩ = some (.slice (some ⟨g, 0, none⟩) s.pgs.length c) ∧ w'.cell? ⟨g, l, none⟩ = some (.pointer (some ⟨bl P.n, 0, none⟩)) ∧ w'.cell? ⟨bl P.n, 0, none⟩ = some (.int .i64 (P.n : Int))) (first | (with_reducible exact HS0.out) | (with_reducible exact HS1.out) | fail)
    ((go_at_call 71
      with_reducible refine HP.out.mono ?_
      rintro e w1 ⟨rfl, hb⟩
      rw [← HL.out]
      have HB := Mm.hid hb
      have HS1 := Mm.hid (HC.out w1 hb)
      clear hb))
  all_goals
    go_wp2_with fail
    go_ret
    exact ⟨rfl, HB.out.os, HB.out.tape, HB.out.output, HB.out.size, HB.out.block⟩

set_option maxRecDepth 100000 in
set_option maxHeartbeats 2000000 in
theorem of_nil (k : ByteArray) (w : World) : Calls Tryz.prog 56 #[.pointer none, .string k] w fun e w' => e = .returned (.int .i64 0) ∧ Below w.heap.size w w' := by
  go_enter Tryz.func56, Tryz.ntmps56
  go_wp2_with fail
  go_ret
  exact ⟨rfl, Below.refl _ _⟩

set_option maxRecDepth 100000 in
set_option maxHeartbeats 2000000 in
theorem len_any {h : Nat} {w : World} {tag : Nat → Option Lf.Tg} {p : Nat} {s : Lf.S} {bl : Nat → Nat} {kv : Nat → Value} {rv : Value} (H : Hid (Lf.Mem h w tag p s bl kv rv)) :
    Calls Tryz.prog 46 #[.pointer (some ⟨p, 0, none⟩)] w fun e w' => e = .returned (.int .i64 (s.count : Int)) ∧ Below w.heap.size w w' := by
  have c3 := H.out.c3
  go_enter Tryz.func46, Tryz.ntmps46
  go_wp2_with fail
  go_ret
  exact ⟨rfl, Below.refl _ _⟩

set_option maxRecDepth 100000 in
set_option maxHeartbeats 2000000 in
theorem len_nil (w : World) : Calls Tryz.prog 46 #[.pointer none] w fun e w' => e = .returned (.int .i64 0) ∧ Below w.heap.size w w' := by
  go_enter Tryz.func46, Tryz.ntmps46
  go_wp2_with fail
  go_ret
  exact ⟨rfl, Below.refl _ _⟩

set_option maxRecDepth 100000 in
set_option maxHeartbeats 2000000 in
theorem all_nil (w : World) : Calls Tryz.prog 47 #[.pointer none] w fun e w' => e = .returned (.slice none 0 0) ∧ Below w.heap.size w w' := by
  go_enter Tryz.func47, Tryz.ntmps47
  go_wp2_with fail
  go_ret
  exact ⟨rfl, Below.refl _ _⟩

set_option maxRecDepth 100000 in
set_option maxHeartbeats 2000000 in
theorem all_any {h : Nat} {w : World} {tag : Nat → Option Lf.Tg} {p : Nat} {s : Lf.S} {bl : Nat → Nat} {kv : Nat → Value} {rv : Value} (H : Hid (Lf.Mem h w tag p s bl kv rv)) (hz : Hid (Lf.Sm s)) (hne : s.pgs ≠ []) :
    Calls Tryz.prog 47 #[.pointer (some ⟨p, 0, none⟩)] w fun e w' => ∃ v, e = .returned v ∧ Mm.Own w' w.heap.size 3 v (Mm.nts (Lf.nums s.pgs)) ∧ Below w.heap.size w w' := by
  obtain ⟨P0, hP0⟩ : ∃ P, s.pgs[0]? = some P := ⟨s.pgs[0]'(List.length_pos_iff.2 hne), List.getElem?_eq_getElem _⟩
  obtain ⟨g, c, rfl, m1, _⟩ := H.out.at hP0
  have c1 := H.out.c1
  obtain ⟨n, hn⟩ : ∃ n, n = s.pgs.length := ⟨_, rfl⟩
  rw [← hn] at c1 m1
  have hnb : n ≤ 10000 := by rw [hn]; exact hz.out.pl
  have HN := Mm.hid hn
  clear hP0 hn hne
  go_enter Tryz.func47, Tryz.ntmps47
  go_wp2_with fail
  go_loopw [3, 5, 13] (fun vo _ vi wr => ∃ i : Nat, i ≤ n ∧ vi = .int .i64 (i : Int) ∧ Hid (Mm.Own wr w.heap.size 3 vo (Mm.nts ((Lf.nums s.pgs).take i))) ∧ Hid (Below w.heap.size w wr)) (fun _ _ vi _ => n - (RowKit.intOf vi).toNat)
  case atStart => exact ⟨0, Nat.zero_le _, rfl, Mm.hid (Mm.Own.nil _ _ _), Mm.hid (Below.refl _ _)⟩
  case round =>
    obtain ⟨i, hi1, rfl, HO, HB⟩ := hrel
    rename World => wr
    by_cases hlt : i < n
    · obtain ⟨P, hP⟩ : ∃ P, s.pgs[i]? = some P := ⟨s.pgs[i]'(by rw [← HN.out]; exact hlt), List.getElem?_eq_getElem _⟩
      have HMr := Mm.hid (H.out.below HB.out)
      obtain ⟨g', c', e1, _, _, m3, m4, _⟩ := HMr.out.at hP
      injection e1 with e1 _ _
      injection e1 with e1
      injection e1 with e1
      subst e1
      have HP := Mm.hid hP
      have g1 : (0 : Int) ≤ (i : Int) := by omega
      have g2 : (i : Int) < (n : Int) := by omega
      have HLN : Hid ((Mm.nts ((Lf.nums s.pgs).take i)).length < 1000000) := Mm.hid (by simp; omega)
      have HHB : Hid (w.heap.size ≤ wr.heap.size) := Mm.hid HB.out.size
      obtain ⟨q, cq, evo, _⟩ := HO.out.shape
      obtain ⟨Lq, hLq⟩ : ∃ Lq, Lq = (Mm.nts ((Lf.nums s.pgs).take i)).length := ⟨_, rfl⟩
      rw [← hLq] at evo
      subst evo
      clear hP hLq
      go_wp2_with (at_builtin; refine Mm.appI wr rfl _ _ rfl w.heap.size (.slice q Lq cq) (P.n : Int) _ rfl HO.out _ rfl (by simp) HLN.out HHB.out ?_; intro v1 w1 h1 h2 h3)
      have e : Mm.nts ((Lf.nums s.pgs).take (i + 1)) = Mm.nts ((Lf.nums s.pgs).take i) ++ [.int .i64 (P.n : Int)] := by
        rw [List.take_add_one]
        have : (Lf.nums s.pgs)[i]? = some P.n := by unfold Lf.nums; rw [List.getElem?_map, HP.out]; rfl
        rw [this, Mm.nts_app]; rfl
      exact ⟨⟨v1, _, .int .i64 ((i : Int) + 1), ⟨i + 1, by omega, by go_num, Mm.hid (by rw [e]; exact h1), Mm.hid (HB.out.grown h2 HHB.out (fun g hg => (HO.out.lt hg).2))⟩, rfl, rfl, rfl⟩, by simp [RowKit.intOf]; omega⟩
    · have he : i = n := by omega
      subst he
      go_wp2_with fail
      go_ret
      refine ⟨_, rfl, ?_, HB.out⟩
      have h1 := HO.out
      rw [List.take_of_length_le (by rw [HN.out]; simp [Lf.nums])] at h1
      exact h1

end Go.Proofs.YtjnaafgiokdcbaaGreatDoor

/- Keys. -/
namespace Go.Proofs.YtjnaafgiokdcbaaGreatDoor
open Go.RowKit

set_option maxRecDepth 100000 in
set_option maxHeartbeats 2000000 in
theorem cloneS_any (q : Option Addr) (n c : Nat) (ks : List ByteArray) (w : World) (hn : Hid (ks.length = n)) (hnb : n ≤ 10000) (hnil : q = none → n = 0 ∧ c = 0) (hc : Hid (∀ (j : Nat) k', ks[j]? = some k' → ∃ a, q = some a ∧ w.cell? (a.add j) = some (.string k'))) :
    Calls Tryz.prog 77 #[.slice q n c] w fun e w' => ∃ v, e = .returned v ∧ Mm.Own w' w.heap.size 9 v (Lf.strs ks) ∧ Below w.heap.size w w' := by
  have q0 : ∀ (w : World) (a : Option Addr) (n c n' c' : Nat), (binOp .eql 89 (.slice a n c) (.slice none n' c')).run Tryz.prog w = .ok (.bool a.isNone) w := fun w a n c n' c' => Lib.run_eql_slice_nil w _ _ a n c n' c' Tryz.underlying89
  cases q with
  | none =>
    obtain ⟨rfl, rfl⟩ := hnil rfl
    have he := List.length_eq_zero_iff.1 hn.out
    subst he
    go_enter Tryz.func77, Tryz.ntmps77
    go_wp2
    go_ret
    exact ⟨_, rfl, Mm.Own.nil _ _ _, Below.refl _ _⟩
  | some a =>
    obtain ⟨i0, hi0, hz0, hz1, hz2⟩ := infoS
    have hla : n ≤ 0 → True := fun _ => trivial
    have HC2 : Hid (∀ j u, (Lf.strs ks)[j]? = some u → (w.alloc (.cells #[] 9)).cell? (a.add j) = some u) := Mm.hid (fun j u hj => by
      obtain ⟨k', hk, rfl⟩ : ∃ k', ks[j]? = some k' ∧ Value.string k' = u := by
        unfold Lf.strs at hj
        rw [List.getElem?_map] at hj
        cases hk : ks[j]? with
        | none => rw [hk] at hj; cases hj
        | some k' => rw [hk] at hj; exact ⟨k', rfl, Option.some.inj hj⟩
      obtain ⟨a', e, h⟩ := hc.out j k' hk
      cases e
      exact Lib.cell?_alloc_some _ h)
    have HO2 : Hid ((w.alloc (.cells #[] 9)).ownsRow w.heap.size 9 1 (.slice (some ⟨w.heap.size, 0, none⟩) 0 0) 0 []) := Mm.hid (World.ownsRow_made w #[] 0 (Nat.le_refl _) (Nat.zero_le _) rfl)
    clear hnil hla
    go_enter Tryz.func77, Tryz.ntmps77
    go_wp2_with (at_builtin; refine wpList_append_own_at _ rfl _ _ 89 rfl w.heap.size 9 i0 (.string ⟨#[]⟩) 1 16 Tryz.underlying89 hi0 hz0 hz1 hz2 rfl (by decide) _ 0 [] rfl HO2.out a n c (Lf.strs ks) rfl (by rw [Lf.strs_len, hn.out, Nat.mul_one]) HC2.out (Lf.strs_one ks) (by unfold maxLen; omega) (by omega) (by simp) ?_; intro v1 w1 hown hgrow _ _)
    go_ret
    refine ⟨v1, rfl, ?_, ((Below.refl _ w).alloc (Nat.le_refl _) _).grown hgrow (by simp) (fun g hg => ?_)⟩
    · have e : (Lf.strs ks).length = 0 + n := by rw [Lf.strs_len, hn.out, Nat.zero_add]
      unfold Mm.Own
      rw [e]
      exact hown
    · have hg' : some w.heap.size = some g := hg
      exact Nat.le_of_eq (Option.some.inj hg')

namespace Lf
def ksOf (l : List Pg) (m : Int) : List ByteArray := match l.find? (fun P => (P.n : Int) == m) with | some P => P.ks | none => []
theorem find_at : ∀ {l : List Pg} {m : Int} {i : Nat} {P : Pg}, (∀ (j : Nat) Q, j < i → l[j]? = some Q → (Q.n : Int) ≠ m) → l[i]? = some P → (P.n : Int) = m → ksOf l m = P.ks
  | [], _, _, _, _, h, _ => by simp at h
  | Q :: r, m, 0, P, _, h, e => by
    simp at h; subst h
    unfold ksOf
    rw [List.find?_cons, show ((Q.n : Int) == m) = true by simpa using e]
  | Q :: r, m, i + 1, P, h1, h, e => by
    have hq : ((Q.n : Int) == m) = false := by simpa using h1 0 Q (by omega) rfl
    have ih := find_at (l := r) (m := m) (i := i) (P := P) (fun j X hj hX => h1 (j + 1) X (by omega) (by simpa using hX)) (by simpa using h) e
    unfold ksOf at ih ⊢
    rw [List.find?_cons, hq]
    exact ih
theorem find_no {l : List Pg} {m : Int} (h : ∀ (j : Nat) Q, l[j]? = some Q → (Q.n : Int) ≠ m) : ksOf l m = [] := by
  unfold ksOf
  rw [List.find?_eq_none.2 (fun P hP => by obtain ⟨j, hj⟩ := List.getElem?_of_mem hP; simpa using h j P hj)]
end Lf

end Go.Proofs.YtjnaafgiokdcbaaGreatDoor

/- Range. -/
namespace Go.Proofs.YtjnaafgiokdcbaaGreatDoor
open Go.RowKit

namespace Lf
theorem ne_emp {b : ByteArray} (h : b ≠ ⟨#[]⟩) : b.toList.isEmpty = false := by
  cases e : b.toList with
  | nil => exact absurd (toList_inj (by rw [e, ByteArray.toList_eq])) h
  | cons a r => rfl
def inR (frm to k : ByteArray) : Bool := !lt k frm && (decide (to = ⟨#[]⟩) || lt k to)
def upTo (to : ByteArray) (P : Pg) : Bool := decide (to = ⟨#[]⟩) || !lt to P.b
def keysIn (frm to : ByteArray) (l : List Pg) : List ByteArray := (l.flatMap (fun P => P.ks)).filter (inR frm to)
/-- What Range tells, from the leaf of its beginning on. -/
def rngK (frm to : ByteArray) (T : List Pg) : List ByteArray := keysIn frm to (T.takeWhile (upTo to))
def rngL (to : ByteArray) (T : List Pg) : List Nat := nums (T.takeWhile (upTo to))
theorem takeW_at {to : ByteArray} : ∀ {T : List Pg} {i : Nat} {P : Pg}, (∀ (j : Nat) Q, j < i → T[j]? = some Q → upTo to Q = true) → T[i]? = some P → upTo to P = false → T.takeWhile (upTo to) = T.take i
  | [], _, _, _, h, _ => by simp at h
  | Q :: r, 0, P, _, h, e => by simp at h; subst h; simp [e]
  | Q :: r, i + 1, P, h1, h, e => by
    have hq := h1 0 Q (by omega) rfl
    have ih := takeW_at (T := r) (i := i) (P := P) (fun j X hj hX => h1 (j + 1) X (by omega) (by simpa using hX)) (by simpa using h) e
    rw [List.takeWhile_cons_of_pos hq, ih]; rfl
theorem takeW_all {to : ByteArray} : ∀ {T : List Pg}, (∀ (j : Nat) Q, T[j]? = some Q → upTo to Q = true) → T.takeWhile (upTo to) = T
  | [], _ => rfl
  | Q :: r, h => by rw [List.takeWhile_cons_of_pos (h 0 Q rfl), takeW_all (fun j X hX => h (j + 1) X (by simpa using hX))]
theorem keysIn_app (frm to : ByteArray) (a b : List Pg) : keysIn frm to (a ++ b) = keysIn frm to a ++ keysIn frm to b := by simp [keysIn]
theorem keysIn_one (frm to : ByteArray) (P : Pg) : keysIn frm to [P] = P.ks.filter (inR frm to) := by simp [keysIn]
/-- Behind a key that is not below the end nothing is in the range, and no leaf's bound is not above it. -/
theorem stop_keys {frm to k : ByteArray} {ks : List ByteArray} {j : Nat} (hu : Up ks) (hk : ks[j]? = some k) (hto : to ≠ ⟨#[]⟩) (hkt : lt k to = false) : ks.filter (inR frm to) = (ks.take j).filter (inR frm to) := by
  have e : ks = ks.take j ++ ks.drop j := (List.take_append_drop j ks).symm
  have h2 : (ks.drop j).filter (inR frm to) = [] := by
    rw [List.filter_eq_nil_iff]
    intro x hx
    obtain ⟨t, ht⟩ := List.getElem?_of_mem hx
    rw [List.getElem?_drop] at ht
    have hxt : lt x to = false := by
      rcases Nat.eq_zero_or_pos t with h0 | h0
      · subst h0; rw [Nat.add_zero, hk] at ht; cases ht; exact hkt
      · obtain ⟨p1, p2⟩ := List.getElem?_eq_some_iff.1 hk
        obtain ⟨p3, p4⟩ := List.getElem?_eq_some_iff.1 ht
        have := List.pairwise_iff_getElem.1 hu j (j + t) p1 p3 (by omega)
        rw [p2, p4] at this
        exact le_tr hkt (lt_as this)
    unfold inR
    rw [hxt, decide_eq_false hto]
    simp
  have e3 : ks.filter (inR frm to) = (ks.take j ++ ks.drop j).filter (inR frm to) := by rw [← e]
  rw [e3, List.filter_append, h2, List.append_nil]
/-- Two rows of one's own: texts and numbers. -/
structure Two (w wr : World) (v1 v2 : Value) (a : List ByteArray) (b : List Nat) : Prop where
  o1 : Mm.Own wr w.heap.size 9 v1 (strs a)
  o2 : Mm.Own wr w.heap.size 3 v2 (Mm.nts b)
  ne : ∀ g, v1.ownBlock = some g → v2.ownBlock ≠ some g
  bel : Below w.heap.size w wr
theorem Two.below {w wr w2 : World} {v1 v2 : Value} {a : List ByteArray} {b : List Nat} (h : Two w wr v1 v2 a b) (hb : Below wr.heap.size wr w2) : Two w w2 v1 v2 a b := ⟨h.o1.below hb, h.o2.below hb, h.ne, h.bel.trans (hb.mono h.bel.size)⟩
theorem Two.add1 {w wr w1 : World} {v1 v2 v : Value} {a : List ByteArray} {b : List Nat} {k : ByteArray} (h : Two w wr v1 v2 a b) (ho : Mm.Own w1 w.heap.size 9 v (strs a ++ [.string k])) (hg : wr.grownBy w1 v1.ownBlock) (hl : v.ownBlock = v1.ownBlock ∨ ∀ g, v.ownBlock = some g → wr.heap.size ≤ g) : Two w w1 v v2 (a ++ [k]) b := by
  refine ⟨by simpa [strs] using ho, h.o2.keep (fun g hg2 => hg.block g (h.o2.lt hg2).1 (fun e => h.ne g e.symm hg2)), fun g hv hg2 => ?_, h.bel.grown hg h.bel.size (fun g e => (h.o1.lt e).2)⟩
  rcases hl with e | e
  · exact h.ne g (by rw [← e]; exact hv) hg2
  · have := e g hv; have := (h.o2.lt hg2).1; omega
theorem Two.add2 {w wr w1 : World} {v1 v2 v : Value} {a : List ByteArray} {b : List Nat} {n : Nat} (h : Two w wr v1 v2 a b) (ho : Mm.Own w1 w.heap.size 3 v (Mm.nts b ++ [.int .i64 (n : Int)])) (hg : wr.grownBy w1 v2.ownBlock) (hl : v.ownBlock = v2.ownBlock ∨ ∀ g, v.ownBlock = some g → wr.heap.size ≤ g) : Two w w1 v1 v a (b ++ [n]) := by
  refine ⟨h.o1.keep (fun g hg1 => hg.block g (h.o1.lt hg1).1 (fun e => h.ne g hg1 e.symm)), by rw [Mm.nts_app]; exact ho, fun g h1 hv => ?_, h.bel.grown hg h.bel.size (fun g e => (h.o2.lt e).2)⟩
  rcases hl with e | e
  · exact h.ne g h1 (by rw [← e]; exact hv)
  · have := e g hv; have := (h.o1.lt h1).1; omega
/-- append of a text. -/
theorem appT {ops : Array Oper} {rest : List Oper} {o : Oper} {a : Act} {Q : Exit → Act → World → Prop} (w0 : World) (hgd : o.guard = none) (s x : Operand)
    (ho : o.op = .call { callee := .builtin .append, args := #[s, x], argTypes := #[89, 89] }) (base : Nat) (v : Value) (y : ByteArray) (xs : List Value) (hs : a.eval s = v) (hown : Mm.Own w0 base 9 v xs) (B : Nat) (hx : a.eval x = .slice (some ⟨B, 0, none⟩) 1 1) (hB : B = w0.heap.size) (hlen : xs.length < 1000000) (hbase : base ≤ w0.heap.size)
    (h : ∀ v' w', Mm.Own w' base 9 v' (xs ++ [.string y]) → w0.grownBy w' v.ownBlock → (v'.ownBlock = v.ownBlock ∨ ∀ g, v'.ownBlock = some g → w0.heap.size ≤ g) → wpList Tryz.prog ops Q rest (a.put o.dst v') w') : wpList Tryz.prog ops Q (o :: rest) a (w0.alloc (.cells #[.string y] 9)) := by
  obtain ⟨i, h1, h2, h3, h4⟩ := infoS
  exact Mm.app1 w0 hgd s x 89 9 i _ 16 Tryz.underlying89 h1 h2 h3 h4 rfl (by decide) ho base v _ xs hs hown rfl B hx hB hlen hbase h
theorem strs_le_flat (f : ByteArray → Bool) (l : List Pg) : (strs ((l.flatMap (fun P => P.ks)).filter f)).length ≤ (l.map (fun P => P.ks.length)).sum := by
  rw [strs_len]
  refine Nat.le_trans (List.length_filter_le _ _) ?_
  rw [List.length_flatMap]
  exact Nat.le_refl _
theorem sum_sub {l : List Pg} (i : Nat) : ((l.take i).map (fun P => P.ks.length)).sum ≤ (l.map (fun P => P.ks.length)).sum := by
  have e : l.map (fun P => P.ks.length) = (l.take i).map (fun P => P.ks.length) ++ (l.drop i).map (fun P => P.ks.length) := by rw [← List.map_append, List.take_append_drop]
  rw [e, List.sum_append]
  exact Nat.le_add_right _ _
/-- How many keys there may be. -/
theorem cnt_le {frm to : ByteArray} {L T : List Pg} {s : S} (hc : (s.pgs.map (fun P => P.ks.length)).sum ≤ 10000) (he : s.pgs = L ++ T) {i j : Nat} {Q : Pg} (hQ : T[i]? = some Q) : (strs (keysIn frm to (T.take i) ++ (Q.ks.take j).filter (inR frm to))).length ≤ 900000 := by
  have h1 : (strs (keysIn frm to (T.take i))).length ≤ (T.map (fun P => P.ks.length)).sum := Nat.le_trans (strs_le_flat _ _) (sum_sub i)
  have h2 : (T.map (fun P => P.ks.length)).sum ≤ 10000 := by
    rw [he, List.map_append, List.sum_append] at hc
    omega
  have h3 : ((Q.ks.take j).filter (inR frm to)).length ≤ Q.ks.length := Nat.le_trans (List.length_filter_le _ _) (by rw [List.length_take]; omega)
  have h4 : Q.ks.length ≤ (T.map (fun P => P.ks.length)).sum := by
    have := sum_sub (l := T) (i + 1)
    rw [List.take_add_one, hQ] at this
    simp at this
    simp; omega
  rw [strs_len] at h1
  rw [strs_len, List.length_append]
  omega
/-- Where a key is not below the end, the leaves behind its own are above the end. -/
theorem takeW_stop {to k : ByteArray} {L T : List Pg} {s : S} {i : Nat} {Q : Pg} (h1 : ∀ (j : Nat) X, j < i + 1 → T[j]? = some X → upTo to X = true) (hb : s.pgs.Pairwise (fun P Q => lt P.b Q.b = true ∧ ∀ k ∈ P.ks, lt k Q.b = true)) (he : s.pgs = L ++ T) (hQ : T[i]? = some Q) (hk : k ∈ Q.ks) (hto : to ≠ ⟨#[]⟩) (hkt : lt k to = false) : T.takeWhile (upTo to) = T.take (i + 1) := by
  cases hX : T[i + 1]? with
  | some X =>
    refine takeW_at h1 hX ?_
    rw [he] at hb
    have hT := (List.pairwise_append.1 hb).2.1
    obtain ⟨p1, p2⟩ := List.getElem?_eq_some_iff.1 hQ
    obtain ⟨p3, p4⟩ := List.getElem?_eq_some_iff.1 hX
    have := List.pairwise_iff_getElem.1 hT i (i + 1) p1 p3 (by omega)
    rw [p2, p4] at this
    unfold upTo
    rw [decide_eq_false hto, le_lt hkt (this.2 k hk)]; rfl
  | none =>
    have hl : T.length ≤ i + 1 := List.getElem?_eq_none_iff.1 hX
    rw [List.take_of_length_le hl]
    exact takeW_all (fun j Y hY => h1 j Y (by have := (List.getElem?_eq_some_iff.1 hY).1; omega) hY)
end Lf

set_option maxRecDepth 100000 in
set_option maxHeartbeats 2000000 in
theorem range_nil (a b : ByteArray) (w : World) : Calls Tryz.prog 62 #[.pointer none, .string a, .string b] w fun e w' => e = .returned (.tuple #[.slice none 0 0, .slice none 0 0]) ∧ Below w.heap.size w w' := by
  go_enter Tryz.func62, Tryz.ntmps62
  go_wp2_with fail
  go_step3
  go_wp2_with fail
  rw [Exit.noGoto_ret]
  go_ret2
  exact ⟨rfl, Below.refl _ _⟩

set_option maxRecDepth 100000 in
set_option maxHeartbeats 2000000 in
theorem range_none (p : Nat) (a b : ByteArray) (h1 : b ≠ ⟨#[]⟩) (h2 : Lf.lt a b = false) (w : World) : Calls Tryz.prog 62 #[.pointer (some ⟨p, 0, none⟩), .string a, .string b] w fun e w' => e = .returned (.tuple #[.slice none 0 0, .slice none 0 0]) ∧ Below w.heap.size w w' := by
  have e1 : b.toList.isEmpty = false := Lf.ne_emp h1
  have e2 : (Op.bytesLess b.toList a.toList || b.toList == a.toList) = true := by
    cases h : Op.bytesLess b.toList a.toList with
    | true => rfl
    | false => rw [Lf.lt_tri h h2]; simp
  go_enter Tryz.func62, Tryz.ntmps62
  go_wp2_with fail
  go_step3
  go_wp2_with fail
  rw [Exit.noGoto_ret]
  go_ret2
  exact ⟨rfl, Below.refl _ _⟩

set_option maxRecDepth 100000 in
set_option maxHeartbeats 4000000 in
theorem rangeE_any {h : Nat} {w : World} {tag : Nat → Option Lf.Tg} {p : Nat} {s : Lf.S} {bl : Nat → Nat} {kv : Nat → Value} {rv : Value} (H : Hid (Lf.Mem h w tag p s bl kv rv)) {frm : ByteArray} {L R : List Lf.Pg} {P : Lf.Pg} (hs : Hid (Lf.Spl s frm L P R)) (hz : Hid (Lf.Sm s)) :
    Calls Tryz.prog 62 #[.pointer (some ⟨p, 0, none⟩), .string frm, .string (⟨#[]⟩ : ByteArray)] w fun e w' => ∃ v1 v2, e = .returned (.tuple #[v1, v2]) ∧ Lf.Two w w' v1 v2 (Lf.rngK frm (⟨#[]⟩ : ByteArray) (P :: R)) (Lf.rngL (⟨#[]⟩ : ByteArray) (P :: R)) := by
  have HD := Mm.hid H.out.drew
  have HP := Mm.hid (place_any HD hs hz)
  obtain ⟨T, hT⟩ : ∃ T, T = P :: R := ⟨_, rfl⟩
  have HTS : Hid (s.pgs = L ++ T) := Mm.hid (by rw [hT]; exact hs.out.e)
  have hi : s.pgs[L.length]? = some P := by rw [hs.out.e]; simp
  obtain ⟨g, c, rfl, m1, m2, m3, m4, m5, m6⟩ := H.out.at hi
  have c1 := H.out.c1
  obtain ⟨l, hl⟩ : ∃ l, l = L.length := ⟨_, rfl⟩
  obtain ⟨n, hn⟩ : ∃ n, n = s.pgs.length := ⟨_, rfl⟩
  obtain ⟨t, ht⟩ : ∃ t, t = n - l := ⟨_, rfl⟩
  rw [← hn] at c1 m1 m2
  rw [← hl] at m2
  have HL := Mm.hid hl
  have HTL : Hid (T.length = t) := Mm.hid (by rw [ht, hn, hl, HTS.out]; simp)
  have HS0 : Hid (w.drew.cell? ⟨p, 1, none⟩ = some (.slice (some ⟨g, 0, none⟩) n c)) := Mm.hid c1
  have HSC : Hid (∀ w1, Below w.drew.heap.size w.drew w1 → w1.cell? ⟨p, 1, none⟩ = some (.slice (some ⟨g, 0, none⟩) n c)) := Mm.hid (fun w1 hb => (Mm.belAt hb _ (World.block_lt_of_cell? w _ c1)).trans c1)
  have hnb : n ≤ 10000 := by rw [hn]; exact hz.out.pl
  have htn : t ≤ 10000 := by omega
  have hlc : ¬ (c = l) := by omega
  have g1 : (0 : Int) ≤ (l : Int) := by omega
  have hln : l ≤ n := by omega
  have HAT : Hid (∀ (i : Nat) Q, T[i]? = some Q → s.pgs[l + i]? = some Q) := Mm.hid (fun i Q hQ => by rw [HTS.out, hl, List.getElem?_append_right (by omega), Nat.add_sub_cancel_left]; exact hQ)
  rw [← hT]
  have HNL : Hid (n - l = t) := Mm.hid ht.symm
  have HN := Mm.hid hn
  clear hi hl m3 m4 m5 m6 c1 hT hn m1 m2 ht
  go_enter Tryz.func62, Tryz.ntmps62
  go_wp2_with fail
  go_step3
  go_wp2_with fail
  go_step3
  go_wp2_with fail
  go_region_held3 (fun w' => w'.cell? ⟨p, 1, none⟩ = some (.slice (some ⟨g, 0, none⟩) n c)) (first | (with_reducible exact HS0.out) | (with_reducible exact HS1.out) | fail)
    ((go_at_call 71
      with_reducible refine HP.out.mono ?_
      rintro e w1 ⟨rfl, hb⟩
      rw [← HL.out]
      have HB := Mm.hid hb
      have HS1 := Mm.hid (HSC.out w1 hb)
      clear hb))
  all_goals
    rw [HNL.out]
    have HB0 : Hid (Below w.heap.size w w1) := Mm.hid ⟨HB.out.os, HB.out.tape, HB.out.output, HB.out.size, HB.out.block⟩
    have HNM : Hid (n - l = t) := HNL
    go_wp2_with fail
    go_loopw [6, 7, 32] (fun vk vl vi wr => ∃ i : Nat, i ≤ t ∧ vi = .int .i64 (i : Int) ∧ Hid (Lf.Two w wr vk vl (Lf.keysIn frm (⟨#[]⟩ : ByteArray) (T.take i)) (Lf.nums (T.take i)) ∧ ∀ (j : Nat) Q, j < i → T[j]? = some Q → Lf.upTo (⟨#[]⟩ : ByteArray) Q = true)) (fun _ _ vi _ => t - (RowKit.intOf vi).toNat)
    case atStart => exact ⟨0, Nat.zero_le _, rfl, Mm.hid ⟨⟨Mm.Own.nil _ _ _, Mm.Own.nil _ _ _, (fun _ e => nomatch e), HB0.out⟩, fun j Q hj _ => absurd hj (Nat.not_lt_zero j)⟩⟩
    case round =>
      clear HB0 HB HS1
      obtain ⟨i, hi1, rfl, HI⟩ := hrel
      rename World => wr
      by_cases hlt : i < t
      · obtain ⟨Q, hQ⟩ : ∃ Q, T[i]? = some Q := ⟨T[i]'(by rw [HTL.out]; exact hlt), List.getElem?_eq_getElem _⟩
        have HQ := Mm.hid hQ
        have HMr := Mm.hid (H.out.below HI.out.1.bel)
        obtain ⟨g', c', e1, _, m2, m3, m4, m5, m6⟩ := HMr.out.at (HAT.out i Q hQ)
        injection e1 with e1 _ e7
        injection e1 with e1
        injection e1 with e1
        subst e1
        subst e7
        have hQm : Q ∈ s.pgs := List.mem_of_getElem? (HAT.out i Q hQ)
        have HQM := Mm.hid hQm
        have g2 : (0 : Int) ≤ (i : Int) := by omega
        have g3 : (i : Int) < (t : Int) := by omega
        clear hQ hQm m2
        have HUP : Hid (∀ (j : Nat) X, j < i + 1 → T[j]? = some X → Lf.upTo (⟨#[]⟩ : ByteArray) X = true) := Mm.hid (fun j X hj hX => by
          rcases Nat.lt_or_ge j i with h1 | h1
          · exact HI.out.2 j X h1 hX
          · have h2 : j = i := by omega
            rw [h2, HQ.out] at hX
            cases hX; unfold Lf.upTo; simp)
        have HLN : Hid ((Mm.nts (Lf.nums (T.take i))).length < 1000000) := Mm.hid (by simp [Lf.nums]; omega)
        have HHB : Hid (w.heap.size ≤ wr.heap.size) := Mm.hid HI.out.1.bel.size
        obtain ⟨q1, cq1, evk, _⟩ := HI.out.1.o1.shape
        obtain ⟨Lq1, hLq1⟩ : ∃ Lq, Lq = (Lf.strs (Lf.keysIn frm (⟨#[]⟩ : ByteArray) (T.take i))).length := ⟨_, rfl⟩
        rw [← hLq1] at evk
        subst evk
        clear hLq1
        obtain ⟨q2, cq2, evl, _⟩ := HI.out.1.o2.shape
        obtain ⟨Lq2, hLq2⟩ : ∃ Lq, Lq = (Mm.nts (Lf.nums (T.take i))).length := ⟨_, rfl⟩
        rw [← hLq2] at evl
        subst evl
        clear hLq2
        obtain ⟨q3, c3, ek, k1, k2, k3, k4, k5⟩ := HMr.out.ks HQM.out
        rw [ek] at m6
        obtain ⟨m, hm⟩ : ∃ m, m = Q.ks.length := ⟨_, rfl⟩
        rw [← hm] at m6
        have HMQ := Mm.hid hm
        have HKC := Mm.hid k5
        have hmb : m ≤ 10000 := by rw [hm]; exact hz.out.kl Q HQM.out
        have HWR : Hid (∀ w2, Below wr.heap.size wr w2 → w2.cell? ⟨bl Q.n, 2, none⟩ = some (.slice q3 m c3)) := Mm.hid (fun w2 hb => (Mm.belAt hb _ (World.block_lt_of_cell? wr _ m6)).trans m6)
        have HGR : Hid (∀ w2, wr.grownBy w2 (Value.slice q2 Lq2 cq2).ownBlock → w2.cell? ⟨bl Q.n, 2, none⟩ = some (.slice q3 m c3) ∧ Lf.Mem h w2 tag p s bl kv (.slice (some ⟨g, 0, none⟩) s.pgs.length c)) := Mm.hid (fun w2 hg => by
          have hb : Below w.heap.size wr w2 := (Below.refl _ _).grown hg HHB.out (fun g e => (HI.out.1.o2.lt e).2)
          have hM2 := H.out.below (HI.out.1.bel.trans hb)
          exact ⟨by rw [Mm.cellOf (hM2.pg Q HQM.out).cell rfl, ek, ← HMQ.out]; rfl, hM2⟩)
        clear hm k1 k2 k3 k4 k5
        go_wp2_with (at_builtin; refine Mm.appI wr rfl _ _ rfl w.heap.size (.slice q2 Lq2 cq2) (Q.n : Int) _ rfl HI.out.1.o2 _ rfl (by simp) HLN.out HHB.out ?_; intro v1 w1 h1 h2 h3; have HA := Mm.hid (HI.out.1.add2 h1 h2 h3); have HM1 := Mm.hid (HGR.out w1 h2).2; have m7 := (HGR.out w1 h2).1)
        clear h1 h2 h3 m3 m4 m5 m6 m7
        have HA2 : Hid (Lf.Two w w1 (.slice q1 Lq1 cq1) v1 (Lf.keysIn frm (⟨#[]⟩ : ByteArray) (T.take i)) (Lf.nums (T.take (i + 1)))) := Mm.hid (by
          have e : Lf.nums (T.take (i + 1)) = Lf.nums (T.take i) ++ [Q.n] := by rw [List.take_add_one, HQ.out]; simp [Lf.nums]
          rw [e]; exact HA.out)
        clear HA
        go_loopw [6, 58] (fun vk vj w2 => ∃ j : Nat, j ≤ m ∧ vj = .int .i64 (j : Int) ∧ Hid (Lf.Two w w2 vk v1 (Lf.keysIn frm (⟨#[]⟩ : ByteArray) (T.take i) ++ (Q.ks.take j).filter (Lf.inR frm (⟨#[]⟩ : ByteArray))) (Lf.nums (T.take (i + 1))))) (fun _ vj _ => m - (RowKit.intOf vj).toNat)
        case atStart => exact ⟨0, Nat.zero_le _, rfl, Mm.hid (by simpa using HA2.out)⟩
        case round =>
          clear HA2
          obtain ⟨j, hj1, rfl, HJ⟩ := hrel
          rename World => w2
          by_cases hjm : j < m
          · obtain ⟨k, hk⟩ : ∃ k, Q.ks[j]? = some k := ⟨Q.ks[j]'(by rw [← HMQ.out]; exact hjm), List.getElem?_eq_getElem _⟩
            have HK := Mm.hid hk
            have HM2 := Mm.hid (H.out.below HJ.out.bel)
            obtain ⟨q4, c4, ek4, _, _, _, _, k6⟩ := HM2.out.ks HQM.out
            rw [ek] at ek4
            injection ek4 with ek4 _ _
            obtain ⟨g4, ek5, hcell⟩ := k6 j k hk
            rw [← ek4] at ek5
            subst ek5
            have f1 : (0 : Int) ≤ (j : Int) := by omega
            have f2 : (j : Int) < (m : Int) := by omega
            have HTK : Hid (Q.ks.take (j + 1) = Q.ks.take j ++ [k]) := Mm.hid (by rw [List.take_add_one, hk]; rfl)
            clear hk k6 ek4
            obtain ⟨q5, cq5, ev5, _⟩ := HJ.out.o1.shape
            obtain ⟨Lq5, hLq5⟩ : ∃ Lq, Lq = (Lf.strs (Lf.keysIn frm (⟨#[]⟩ : ByteArray) (T.take i) ++ (Q.ks.take j).filter (Lf.inR frm (⟨#[]⟩ : ByteArray)))).length := ⟨_, rfl⟩
            rw [← hLq5] at ev5
            subst ev5
            have HL5 : Hid (Lq5 = (Lf.strs (Lf.keysIn frm (⟨#[]⟩ : ByteArray) (T.take i) ++ (Q.ks.take j).filter (Lf.inR frm (⟨#[]⟩ : ByteArray)))).length) := Mm.hid hLq5
            clear hLq5
            have HHB2 : Hid (w.heap.size ≤ w2.heap.size) := Mm.hid HJ.out.bel.size
            have HCNT : Hid ((Lf.strs (Lf.keysIn frm (⟨#[]⟩ : ByteArray) (T.take i) ++ (Q.ks.take j).filter (Lf.inR frm (⟨#[]⟩ : ByteArray)))).length ≤ 900000) := Mm.hid (Lf.cnt_le hz.out.su HTS.out HQ.out)
            cases hkf : Op.bytesLess k.toList frm.toList
            · go_wp2_with (at_builtin; refine Lf.appT w2 rfl _ _ rfl w.heap.size (.slice q5 Lq5 cq5) k _ rfl HJ.out.o1 _ rfl (by simp) (by have := HL5.out; have := HCNT.out; omega) HHB2.out ?_; intro v5 w5 h1 h2 h3; have HA5 := Mm.hid (HJ.out.add1 h1 h2 h3))
              have HN2 : Hid (Lf.Two w w5 v5 v1 (Lf.keysIn frm (⟨#[]⟩ : ByteArray) (T.take i) ++ (Q.ks.take (j + 1)).filter (Lf.inR frm (⟨#[]⟩ : ByteArray))) (Lf.nums (T.take (i + 1)))) := Mm.hid (by
                have e : [k].filter (Lf.inR frm (⟨#[]⟩ : ByteArray)) = [k] := by
                  have : Lf.inR frm (⟨#[]⟩ : ByteArray) k = true := by unfold Lf.inR; rw [show Lf.lt k frm = false from hkf]; simp
                  simp [this]
                rw [HTK.out, List.filter_append, e, ← List.append_assoc]; exact HA5.out)
              exact ⟨⟨v5, .string k, .int .i64 ((j : Int) + 1), ⟨j + 1, by omega, by go_num, HN2⟩, rfl, rfl, rfl⟩, by simp [RowKit.intOf]; omega⟩
            · have HN2 : Hid (Lf.Two w w2 (.slice q5 Lq5 cq5) v1 (Lf.keysIn frm (⟨#[]⟩ : ByteArray) (T.take i) ++ (Q.ks.take (j + 1)).filter (Lf.inR frm (⟨#[]⟩ : ByteArray))) (Lf.nums (T.take (i + 1)))) := Mm.hid (by
                have e : [k].filter (Lf.inR frm (⟨#[]⟩ : ByteArray)) = [] := by
                  have : Lf.inR frm (⟨#[]⟩ : ByteArray) k = false := by unfold Lf.inR; rw [show Lf.lt k frm = true from hkf]; rfl
                  simp [this]
                rw [HTK.out, List.filter_append, e, List.append_nil]; exact HJ.out)
              go_wp2_with fail
              exact ⟨⟨j + 1, by omega, by go_num, HN2⟩, by simp [RowKit.intOf]; omega⟩
          · have he : j = m := by omega
            subst he
            have HN2 : Hid (∀ vk, Lf.Two w w2 vk v1 (Lf.keysIn frm (⟨#[]⟩ : ByteArray) (T.take i) ++ (Q.ks.take j).filter (Lf.inR frm (⟨#[]⟩ : ByteArray))) (Lf.nums (T.take (i + 1))) → Lf.Two w w2 vk v1 (Lf.keysIn frm (⟨#[]⟩ : ByteArray) (T.take (i + 1))) (Lf.nums (T.take (i + 1)))) := Mm.hid (fun vk hh => by
              have e : Lf.keysIn frm (⟨#[]⟩ : ByteArray) (T.take (i + 1)) = Lf.keysIn frm (⟨#[]⟩ : ByteArray) (T.take i) ++ Q.ks.filter (Lf.inR frm (⟨#[]⟩ : ByteArray)) := by
                rw [List.take_add_one, HQ.out]
                show Lf.keysIn frm (⟨#[]⟩ : ByteArray) (T.take i ++ [Q]) = _
                rw [Lf.keysIn_app, Lf.keysIn_one]
              rw [e]
              have e2 : Q.ks.take j = Q.ks := List.take_of_length_le (by rw [HMQ.out]; exact Nat.le_refl _)
              rw [e2] at hh
              exact hh)
            have HN3 := Mm.hid (And.intro (HN2.out _ HJ.out) HUP.out)
            go_wp2_with fail
            exact ⟨⟨i + 1, by omega, by go_num, HN3⟩, by simp [RowKit.intOf]; omega⟩
      · have he : i = t := by omega
        subst he
        have HFI : Hid (∀ vk vl, Lf.Two w wr vk vl (Lf.keysIn frm (⟨#[]⟩ : ByteArray) (T.take i)) (Lf.nums (T.take i)) → Lf.Two w wr vk vl (Lf.rngK frm (⟨#[]⟩ : ByteArray) T) (Lf.rngL (⟨#[]⟩ : ByteArray) T)) := Mm.hid (fun vk vl hh => by
          have e : T.takeWhile (Lf.upTo (⟨#[]⟩ : ByteArray)) = T := Lf.takeW_all (fun j X hX => HI.out.2 j X (by rw [← HTL.out]; exact (List.getElem?_eq_some_iff.1 hX).1) hX)
          unfold Lf.rngK Lf.rngL
          rw [e]
          rw [List.take_of_length_le (by rw [HTL.out]; exact Nat.le_refl _)] at hh
          exact hh)
        go_wp2_with fail
        try rw [Exit.noGoto_ret]
        go_ret2
        exact ⟨_, _, rfl, HFI.out _ _ HI.out.1⟩

set_option maxRecDepth 100000 in
set_option maxHeartbeats 4000000 in
theorem rangeT_any {h : Nat} {w : World} {tag : Nat → Option Lf.Tg} {p : Nat} {s : Lf.S} {bl : Nat → Nat} {kv : Nat → Value} {rv : Value} (H : Hid (Lf.Mem h w tag p s bl kv rv)) {frm to : ByteArray} {L R : List Lf.Pg} {P : Lf.Pg} (hs : Hid (Lf.Spl s frm L P R)) (hz : Hid (Lf.Sm s)) (hI : Hid (Lf.Inv s)) (hto : to ≠ ⟨#[]⟩) (hft : Hid (Lf.lt frm to = true)) :
    Calls Tryz.prog 62 #[.pointer (some ⟨p, 0, none⟩), .string frm, .string to] w fun e w' => ∃ v1 v2, e = .returned (.tuple #[v1, v2]) ∧ Lf.Two w w' v1 v2 (Lf.rngK frm to (P :: R)) (Lf.rngL to (P :: R)) := by
  have HD := Mm.hid H.out.drew
  have HP := Mm.hid (place_any HD hs hz)
  obtain ⟨T, hT⟩ : ∃ T, T = P :: R := ⟨_, rfl⟩
  have HTS : Hid (s.pgs = L ++ T) := Mm.hid (by rw [hT]; exact hs.out.e)
  have hi : s.pgs[L.length]? = some P := by rw [hs.out.e]; simp
  obtain ⟨g, c, rfl, m1, m2, m3, m4, m5, m6⟩ := H.out.at hi
  have c1 := H.out.c1
  obtain ⟨l, hl⟩ : ∃ l, l = L.length := ⟨_, rfl⟩
  obtain ⟨n, hn⟩ : ∃ n, n = s.pgs.length := ⟨_, rfl⟩
  obtain ⟨t, ht⟩ : ∃ t, t = n - l := ⟨_, rfl⟩
  rw [← hn] at c1 m1 m2
  rw [← hl] at m2
  have HL := Mm.hid hl
  have HTL : Hid (T.length = t) := Mm.hid (by rw [ht, hn, hl, HTS.out]; simp)
  have HS0 : Hid (w.drew.cell? ⟨p, 1, none⟩ = some (.slice (some ⟨g, 0, none⟩) n c)) := Mm.hid c1
  have HSC : Hid (∀ w1, Below w.drew.heap.size w.drew w1 → w1.cell? ⟨p, 1, none⟩ = some (.slice (some ⟨g, 0, none⟩) n c)) := Mm.hid (fun w1 hb => (Mm.belAt hb _ (World.block_lt_of_cell? w _ c1)).trans c1)
  have hnb : n ≤ 10000 := by rw [hn]; exact hz.out.pl
  have htn : t ≤ 10000 := by omega
  have hlc : ¬ (c = l) := by omega
  have g1 : (0 : Int) ≤ (l : Int) := by omega
  have hln : l ≤ n := by omega
  have HAT : Hid (∀ (i : Nat) Q, T[i]? = some Q → s.pgs[l + i]? = some Q) := Mm.hid (fun i Q hQ => by rw [HTS.out, hl, List.getElem?_append_right (by omega), Nat.add_sub_cancel_left]; exact hQ)
  rw [← hT]
  have HNL : Hid (n - l = t) := Mm.hid ht.symm
  have HN := Mm.hid hn
  clear hi hl m3 m4 m5 m6 c1 hT hn m1 m2 ht
  have e0 : to.toList.isEmpty = false := Lf.ne_emp hto
  have HTO := Mm.hid hto
  have e2 : (Op.bytesLess to.toList frm.toList || to.toList == frm.toList) = false := by
    rw [show Op.bytesLess to.toList frm.toList = false from Lf.lt_as hft.out, Lf.eqB, decide_eq_false (fun e => Lf.lt_ne hft.out e.symm)]; rfl
  clear hto
  go_enter Tryz.func62, Tryz.ntmps62
  go_wp2_with fail
  go_step3
  go_wp2_with fail
  go_step3
  go_wp2_with fail
  go_region_held3 (fun w' => w'.cell? ⟨p, 1, none⟩ = some (.slice (some ⟨g, 0, none⟩) n c)) (first | (with_reducible exact HS0.out) | (with_reducible exact HS1.out) | fail)
    ((go_at_call 71
      with_reducible refine HP.out.mono ?_
      rintro e w1 ⟨rfl, hb⟩
      rw [← HL.out]
      have HB := Mm.hid hb
      have HS1 := Mm.hid (HSC.out w1 hb)
      clear hb))
  all_goals
    rw [HNL.out]
    have HB0 : Hid (Below w.heap.size w w1) := Mm.hid ⟨HB.out.os, HB.out.tape, HB.out.output, HB.out.size, HB.out.block⟩
    have HNM : Hid (n - l = t) := HNL
    go_wp2_with fail
    go_loopw [6, 7, 32] (fun vk vl vi wr => ∃ i : Nat, i ≤ t ∧ vi = .int .i64 (i : Int) ∧ Hid (Lf.Two w wr vk vl (Lf.keysIn frm to (T.take i)) (Lf.nums (T.take i)) ∧ ∀ (j : Nat) Q, j < i → T[j]? = some Q → Lf.upTo to Q = true)) (fun _ _ vi _ => t - (RowKit.intOf vi).toNat)
    case atStart => exact ⟨0, Nat.zero_le _, rfl, Mm.hid ⟨⟨Mm.Own.nil _ _ _, Mm.Own.nil _ _ _, (fun _ e => nomatch e), HB0.out⟩, fun j Q hj _ => absurd hj (Nat.not_lt_zero j)⟩⟩
    case round =>
      clear HB0 HB HS1
      obtain ⟨i, hi1, rfl, HI⟩ := hrel
      rename World => wr
      by_cases hlt : i < t
      · obtain ⟨Q, hQ⟩ : ∃ Q, T[i]? = some Q := ⟨T[i]'(by rw [HTL.out]; exact hlt), List.getElem?_eq_getElem _⟩
        have HQ := Mm.hid hQ
        have HMr := Mm.hid (H.out.below HI.out.1.bel)
        obtain ⟨g', c', e1, _, m2, m3, m4, m5, m6⟩ := HMr.out.at (HAT.out i Q hQ)
        injection e1 with e1 _ e7
        injection e1 with e1
        injection e1 with e1
        subst e1
        subst e7
        have hQm : Q ∈ s.pgs := List.mem_of_getElem? (HAT.out i Q hQ)
        have HQM := Mm.hid hQm
        have g2 : (0 : Int) ≤ (i : Int) := by omega
        have g3 : (i : Int) < (t : Int) := by omega
        clear hQ hQm m2
        cases htb : Op.bytesLess to.toList Q.b.toList
        rotate_left
        · have HFI : Hid (∀ vk vl, Lf.Two w wr vk vl (Lf.keysIn frm to (T.take i)) (Lf.nums (T.take i)) → Lf.Two w wr vk vl (Lf.rngK frm to T) (Lf.rngL to T)) := Mm.hid (fun vk vl hh => by
            have e : T.takeWhile (Lf.upTo to) = T.take i := Lf.takeW_at HI.out.2 HQ.out (by unfold Lf.upTo; rw [show Lf.lt to Q.b = true from htb, decide_eq_false HTO.out]; rfl)
            unfold Lf.rngK Lf.rngL
            rw [e]; exact hh)
          go_wp2_with fail
          try rw [Exit.noGoto_ret]
          go_ret2
          exact ⟨_, _, rfl, HFI.out _ _ HI.out.1⟩
        · have HTB : Hid (Lf.lt to Q.b = false) := Mm.hid htb
          have HUP : Hid (∀ (j : Nat) X, j < i + 1 → T[j]? = some X → Lf.upTo to X = true) := Mm.hid (fun j X hj hX => by
            rcases Nat.lt_or_ge j i with h1 | h1
            · exact HI.out.2 j X h1 hX
            · have h2 : j = i := by omega
              rw [h2, HQ.out] at hX
              cases hX; unfold Lf.upTo; rw [HTB.out]; simp)
          have HLN : Hid ((Mm.nts (Lf.nums (T.take i))).length < 1000000) := Mm.hid (by simp [Lf.nums]; omega)
          have HHB : Hid (w.heap.size ≤ wr.heap.size) := Mm.hid HI.out.1.bel.size
          obtain ⟨q1, cq1, evk, _⟩ := HI.out.1.o1.shape
          obtain ⟨Lq1, hLq1⟩ : ∃ Lq, Lq = (Lf.strs (Lf.keysIn frm to (T.take i))).length := ⟨_, rfl⟩
          rw [← hLq1] at evk
          subst evk
          clear hLq1
          obtain ⟨q2, cq2, evl, _⟩ := HI.out.1.o2.shape
          obtain ⟨Lq2, hLq2⟩ : ∃ Lq, Lq = (Mm.nts (Lf.nums (T.take i))).length := ⟨_, rfl⟩
          rw [← hLq2] at evl
          subst evl
          clear hLq2
          obtain ⟨q3, c3, ek, k1, k2, k3, k4, k5⟩ := HMr.out.ks HQM.out
          rw [ek] at m6
          obtain ⟨m, hm⟩ : ∃ m, m = Q.ks.length := ⟨_, rfl⟩
          rw [← hm] at m6
          have HMQ := Mm.hid hm
          have HKC := Mm.hid k5
          have hmb : m ≤ 10000 := by rw [hm]; exact hz.out.kl Q HQM.out
          have HWR : Hid (∀ w2, Below wr.heap.size wr w2 → w2.cell? ⟨bl Q.n, 2, none⟩ = some (.slice q3 m c3)) := Mm.hid (fun w2 hb => (Mm.belAt hb _ (World.block_lt_of_cell? wr _ m6)).trans m6)
          have HGR : Hid (∀ w2, wr.grownBy w2 (Value.slice q2 Lq2 cq2).ownBlock → w2.cell? ⟨bl Q.n, 2, none⟩ = some (.slice q3 m c3) ∧ Lf.Mem h w2 tag p s bl kv (.slice (some ⟨g, 0, none⟩) s.pgs.length c)) := Mm.hid (fun w2 hg => by
            have hb : Below w.heap.size wr w2 := (Below.refl _ _).grown hg HHB.out (fun g e => (HI.out.1.o2.lt e).2)
            have hM2 := H.out.below (HI.out.1.bel.trans hb)
            exact ⟨by rw [Mm.cellOf (hM2.pg Q HQM.out).cell rfl, ek, ← HMQ.out]; rfl, hM2⟩)
          clear hm k1 k2 k3 k4 k5
          go_wp2_with (at_builtin; refine Mm.appI wr rfl _ _ rfl w.heap.size (.slice q2 Lq2 cq2) (Q.n : Int) _ rfl HI.out.1.o2 _ rfl (by simp) HLN.out HHB.out ?_; intro v1 w1 h1 h2 h3; have HA := Mm.hid (HI.out.1.add2 h1 h2 h3); have HM1 := Mm.hid (HGR.out w1 h2).2; have m7 := (HGR.out w1 h2).1)
          clear h1 h2 h3 m3 m4 m5 m6 m7
          have HA2 : Hid (Lf.Two w w1 (.slice q1 Lq1 cq1) v1 (Lf.keysIn frm to (T.take i)) (Lf.nums (T.take (i + 1)))) := Mm.hid (by
            have e : Lf.nums (T.take (i + 1)) = Lf.nums (T.take i) ++ [Q.n] := by rw [List.take_add_one, HQ.out]; simp [Lf.nums]
            rw [e]; exact HA.out)
          clear HA
          go_loopw [6, 58] (fun vk vj w2 => ∃ j : Nat, j ≤ m ∧ vj = .int .i64 (j : Int) ∧ Hid (Lf.Two w w2 vk v1 (Lf.keysIn frm to (T.take i) ++ (Q.ks.take j).filter (Lf.inR frm to)) (Lf.nums (T.take (i + 1))))) (fun _ vj _ => m - (RowKit.intOf vj).toNat)
          case atStart => exact ⟨0, Nat.zero_le _, rfl, Mm.hid (by simpa using HA2.out)⟩
          case round =>
            clear HA2
            obtain ⟨j, hj1, rfl, HJ⟩ := hrel
            rename World => w2
            by_cases hjm : j < m
            · obtain ⟨k, hk⟩ : ∃ k, Q.ks[j]? = some k := ⟨Q.ks[j]'(by rw [← HMQ.out]; exact hjm), List.getElem?_eq_getElem _⟩
              have HK := Mm.hid hk
              have HM2 := Mm.hid (H.out.below HJ.out.bel)
              obtain ⟨q4, c4, ek4, _, _, _, _, k6⟩ := HM2.out.ks HQM.out
              rw [ek] at ek4
              injection ek4 with ek4 _ _
              obtain ⟨g4, ek5, hcell⟩ := k6 j k hk
              rw [← ek4] at ek5
              subst ek5
              have f1 : (0 : Int) ≤ (j : Int) := by omega
              have f2 : (j : Int) < (m : Int) := by omega
              have HTK : Hid (Q.ks.take (j + 1) = Q.ks.take j ++ [k]) := Mm.hid (by rw [List.take_add_one, hk]; rfl)
              clear hk k6 ek4
              obtain ⟨q5, cq5, ev5, _⟩ := HJ.out.o1.shape
              obtain ⟨Lq5, hLq5⟩ : ∃ Lq, Lq = (Lf.strs (Lf.keysIn frm to (T.take i) ++ (Q.ks.take j).filter (Lf.inR frm to))).length := ⟨_, rfl⟩
              rw [← hLq5] at ev5
              subst ev5
              have HL5 : Hid (Lq5 = (Lf.strs (Lf.keysIn frm to (T.take i) ++ (Q.ks.take j).filter (Lf.inR frm to))).length) := Mm.hid hLq5
              clear hLq5
              have HHB2 : Hid (w.heap.size ≤ w2.heap.size) := Mm.hid HJ.out.bel.size
              have HCNT : Hid ((Lf.strs (Lf.keysIn frm to (T.take i) ++ (Q.ks.take j).filter (Lf.inR frm to))).length ≤ 900000) := Mm.hid (Lf.cnt_le hz.out.su HTS.out HQ.out)
              cases hkf : Op.bytesLess k.toList frm.toList
              · cases hkt : Op.bytesLess k.toList to.toList
                · have HFI : Hid (∀ vk, Lf.Two w w2 vk v1 (Lf.keysIn frm to (T.take i) ++ (Q.ks.take j).filter (Lf.inR frm to)) (Lf.nums (T.take (i + 1))) → Lf.Two w w2 vk v1 (Lf.rngK frm to T) (Lf.rngL to T)) := Mm.hid (fun vk hh => by
                    have e : T.takeWhile (Lf.upTo to) = T.take (i + 1) := Lf.takeW_stop HUP.out (hI.out.bd) HTS.out HQ.out (List.mem_of_getElem? HK.out) HTO.out hkt
                    unfold Lf.rngK Lf.rngL
                    rw [e]
                    have e3 : Lf.keysIn frm to (T.take (i + 1)) = Lf.keysIn frm to (T.take i) ++ Q.ks.filter (Lf.inR frm to) := by
                      rw [List.take_add_one, HQ.out]
                      show Lf.keysIn frm to (T.take i ++ [Q]) = _
                      rw [Lf.keysIn_app, Lf.keysIn_one]
                    rw [e3, Lf.stop_keys (hI.out.ks Q HQM.out).1 HK.out HTO.out hkt]
                    exact hh)
                  go_wp2_with fail
                  try rw [Exit.noGoto_ret]
                  go_ret2
                  exact ⟨_, _, rfl, HFI.out _ HJ.out⟩
                · go_wp2_with (at_builtin; refine Lf.appT w2 rfl _ _ rfl w.heap.size (.slice q5 Lq5 cq5) k _ rfl HJ.out.o1 _ rfl (by simp) (by have := HL5.out; have := HCNT.out; omega) HHB2.out ?_; intro v5 w5 h1 h2 h3; have HA5 := Mm.hid (HJ.out.add1 h1 h2 h3))
                  have HN2 : Hid (Lf.Two w w5 v5 v1 (Lf.keysIn frm to (T.take i) ++ (Q.ks.take (j + 1)).filter (Lf.inR frm to)) (Lf.nums (T.take (i + 1)))) := Mm.hid (by
                    have e : [k].filter (Lf.inR frm to) = [k] := by
                      have : Lf.inR frm to k = true := by unfold Lf.inR; rw [show Lf.lt k frm = false from hkf]; rw [show Lf.lt k to = true from hkt]; simp
                      simp [this]
                    rw [HTK.out, List.filter_append, e, ← List.append_assoc]; exact HA5.out)
                  exact ⟨⟨v5, .string k, .int .i64 ((j : Int) + 1), ⟨j + 1, by omega, by go_num, HN2⟩, rfl, rfl, rfl⟩, by simp [RowKit.intOf]; omega⟩
              · have HN2 : Hid (Lf.Two w w2 (.slice q5 Lq5 cq5) v1 (Lf.keysIn frm to (T.take i) ++ (Q.ks.take (j + 1)).filter (Lf.inR frm to)) (Lf.nums (T.take (i + 1)))) := Mm.hid (by
                  have e : [k].filter (Lf.inR frm to) = [] := by
                    have : Lf.inR frm to k = false := by unfold Lf.inR; rw [show Lf.lt k frm = true from hkf]; rfl
                    simp [this]
                  rw [HTK.out, List.filter_append, e, List.append_nil]; exact HJ.out)
                go_wp2_with fail
                exact ⟨⟨j + 1, by omega, by go_num, HN2⟩, by simp [RowKit.intOf]; omega⟩
            · have he : j = m := by omega
              subst he
              have HN2 : Hid (∀ vk, Lf.Two w w2 vk v1 (Lf.keysIn frm to (T.take i) ++ (Q.ks.take j).filter (Lf.inR frm to)) (Lf.nums (T.take (i + 1))) → Lf.Two w w2 vk v1 (Lf.keysIn frm to (T.take (i + 1))) (Lf.nums (T.take (i + 1)))) := Mm.hid (fun vk hh => by
                have e : Lf.keysIn frm to (T.take (i + 1)) = Lf.keysIn frm to (T.take i) ++ Q.ks.filter (Lf.inR frm to) := by
                  rw [List.take_add_one, HQ.out]
                  show Lf.keysIn frm to (T.take i ++ [Q]) = _
                  rw [Lf.keysIn_app, Lf.keysIn_one]
                rw [e]
                have e2 : Q.ks.take j = Q.ks := List.take_of_length_le (by rw [HMQ.out]; exact Nat.le_refl _)
                rw [e2] at hh
                exact hh)
              have HN3 := Mm.hid (And.intro (HN2.out _ HJ.out) HUP.out)
              go_wp2_with fail
              exact ⟨⟨i + 1, by omega, by go_num, HN3⟩, by simp [RowKit.intOf]; omega⟩
      · have he : i = t := by omega
        subst he
        have HFI : Hid (∀ vk vl, Lf.Two w wr vk vl (Lf.keysIn frm to (T.take i)) (Lf.nums (T.take i)) → Lf.Two w wr vk vl (Lf.rngK frm to T) (Lf.rngL to T)) := Mm.hid (fun vk vl hh => by
          have e : T.takeWhile (Lf.upTo to) = T := Lf.takeW_all (fun j X hX => HI.out.2 j X (by rw [← HTL.out]; exact (List.getElem?_eq_some_iff.1 hX).1) hX)
          unfold Lf.rngK Lf.rngL
          rw [e]
          rw [List.take_of_length_le (by rw [HTL.out]; exact Nat.le_refl _)] at hh
          exact hh)
        go_wp2_with fail
        try rw [Exit.noGoto_ret]
        go_ret2
        exact ⟨_, _, rfl, HFI.out _ _ HI.out.1⟩

end Go.Proofs.YtjnaafgiokdcbaaGreatDoor

/- New. -/
namespace Go.Proofs.YtjnaafgiokdcbaaGreatDoor
open Go.RowKit

namespace Lf
def S0 (fan : Nat) : S := ⟨fan, 1, [⟨1, ⟨#[]⟩, []⟩], 0⟩
theorem inv0 {fan : Nat} (h1 : 2 ≤ fan) (h2 : fan ≤ 64) : Inv (S0 fan) :=
  ⟨h1, h2, List.pairwise_singleton _ _, (by intro P hP; rw [List.mem_singleton.1 hP]; exact ⟨Nat.le_refl _, Nat.le_refl _⟩), ⟨_, _, rfl, rfl⟩, List.pairwise_singleton _ _, (by intro P hP; rw [List.mem_singleton.1 hP]; exact ⟨List.Pairwise.nil, (fun k hk => nomatch hk), Nat.zero_le _⟩), fun _ _ _ => rfl, rfl, Nat.le_refl _⟩
def tag0 (n : Nat) : Nat → Option Tg := fun b => if b = n then some (.pg 1) else if b = n + 1 then some .row else if b = n + 2 then some .hd else none
def W0 (w : World) (fan : Nat) : World := ((w.alloc (.cells #[.int .i64 1, .string ⟨#[]⟩, .slice none 0 0] 96)).alloc (.cells #[.pointer (some ⟨w.heap.size, 0, none⟩)] 94)).alloc (.cells #[.int .i64 (fan : Int), .slice (some ⟨w.heap.size + 1, 0, none⟩) 1 1, .int .i64 1, .int .i64 0] 99)
theorem mem0 (w : World) (fan : Nat) : Mem w.heap.size (W0 w fan) (tag0 w.heap.size) (w.heap.size + 2) (S0 fan) (fun _ => w.heap.size) (fun _ => .slice none 0 0) (.slice (some ⟨w.heap.size + 1, 0, none⟩) 1 1) := by
  have hb0 : (W0 w fan).heap[w.heap.size]? = some (.cells #[.int .i64 1, .string ⟨#[]⟩, .slice none 0 0] 96 (0, 0)) := by
    unfold W0
    rw [Mm.oldAt _ _ (by simp; omega), Mm.oldAt _ _ (by simp), Mm.newAt w _ rfl]
  have hb1 : (W0 w fan).heap[w.heap.size + 1]? = some (.cells #[.pointer (some ⟨w.heap.size, 0, none⟩)] 94 (0, 0)) := by
    unfold W0
    rw [Mm.oldAt _ _ (by simp), Mm.newAt _ _ (by simp)]
  have hb2 : (W0 w fan).heap[w.heap.size + 2]? = some (.cells #[.int .i64 (fan : Int), .slice (some ⟨w.heap.size + 1, 0, none⟩) 1 1, .int .i64 1, .int .i64 0] 99 (0, 0)) := by
    unfold W0
    rw [Mm.newAt _ _ (by simp)]
  refine ⟨hb2, ?_, fun b hb => ?_, fun b hb => ?_, ?_, fun g hg => ?_, fun P hP => ?_⟩
  · unfold tag0; rw [if_neg (by omega), if_neg (by omega), if_pos rfl]
  · have hb' : w.heap.size + 3 ≤ b := by simpa [W0] using hb
    unfold tag0; rw [if_neg (by omega), if_neg (by omega), if_neg (by omega)]
  · unfold tag0; rw [if_neg (by omega), if_neg (by omega), if_neg (by omega)]
  · exact Mm.Own.mk hb1 (Nat.le_succ _) rfl (by unfold maxLen; omega) rfl (Nat.le_refl _) rfl
  · have hg' : some (w.heap.size + 1) = some g := hg
    rw [← Option.some.inj hg']
    unfold tag0; rw [if_neg (by omega), if_pos rfl]
  · have e : P = ⟨1, ⟨#[]⟩, []⟩ := List.mem_singleton.1 hP
    rw [e]
    exact ⟨hb0, by unfold tag0; rw [if_pos rfl], Mm.Own.nil _ _ _, (fun g hg => nomatch hg)⟩
theorem bel0 (w : World) (fan : Nat) : Below w.heap.size w (W0 w fan) := ((((Below.refl _ w).alloc (Nat.le_refl _) _).alloc (by simp) _).alloc (by simp; omega) _)
end Lf

set_option maxRecDepth 100000 in
set_option maxHeartbeats 2000000 in
theorem new_any (fan : Nat) (h1 : 2 ≤ fan) (h2 : fan ≤ 64) (w : World) : Calls Tryz.prog 30 #[.int .i64 (fan : Int)] w fun e w' => e = .returned (.tuple #[.pointer (some ⟨w.heap.size + 2, 0, none⟩), .int .i64 0]) ∧ w' = Lf.W0 w fan := by
  have g1 : ¬ ((fan : Int) < 2) := by omega
  have g2 : ¬ ((64 : Int) < (fan : Int)) := by omega
  go_enter Tryz.func30, Tryz.ntmps30
  go_wp2_with fail
  go_ret2
  exact ⟨rfl, rfl⟩

set_option maxRecDepth 100000 in
set_option maxHeartbeats 2000000 in
theorem new_err (fan : Int) (h : fan < 2 ∨ 64 < fan) (w : World) : Calls Tryz.prog 30 #[.int .i64 fan] w fun e w' => e = .returned (.tuple #[.pointer none, .int .i64 1]) ∧ w' = w := by
  by_cases g1 : fan < 2
  · clear h
    go_enter Tryz.func30, Tryz.ntmps30
    go_wp2_with fail
    go_ret2
    exact ⟨rfl, rfl⟩
  · have g2 : 64 < fan := by omega
    clear h
    go_enter Tryz.func30, Tryz.ntmps30
    go_wp2_with fail
    go_ret2
    exact ⟨rfl, rfl⟩

end Go.Proofs.YtjnaafgiokdcbaaGreatDoor

/- A leaf more in the row; a leaf fewer. -/
namespace Go.Proofs.YtjnaafgiokdcbaaGreatDoor
open Go.RowKit

namespace Lf
theorem mergeH {G T : Prop} (m : G → T) (p : G) : T := m p
theorem Ev.set {t t' : Nat → Option Tg} {a b : World} (h : Ev t t' a b) {B : Nat} (hB : a.heap.size ≤ B) (i : Nat) (v : Value) : Ev t t' a (b.setCell ⟨B, i, none⟩ v) :=
  ⟨h.os, h.tape, h.output, by simpa using h.size, fun k hk ht => (heap_setCell_other b _ k _ (fun e => by have e' : k = B := e; omega)).trans (h.block k hk ht), h.tags⟩
theorem Ev.drew {t t' : Nat → Option Tg} {a b : World} (h : Ev t t' a b) : Ev t t' a b.drew := ⟨h.os, h.tape, h.output, h.size, h.block, h.tags⟩
theorem Mem.set {h : Nat} {w : World} {tag : Nat → Option Tg} {p : Nat} {s : S} {bl : Nat → Nat} {kv : Nat → Value} {rv : Value} (H : Mem h w tag p s bl kv rv) {B : Nat} (hb : tag B = none) (i : Nat) (v : Value) : Mem h (w.setCell ⟨B, i, none⟩ v) tag p s bl kv rv :=
  H.keep (by simp) (fun k l hk => heap_setCell_other w _ k _ (fun e => by have e' : k = B := e; rw [e', hb] at hk; cases hk))
theorem box2 {w : World} {B : Nat} {x y x' y' : Value} {t : TypeId} (h : w.heap[B]? = some (.cells #[x, y] t (0, 0))) : (((w.setCell ⟨B, 0, none⟩ x').setCell ⟨B, 1, none⟩ y').drew).heap[B]? = some (.cells #[x', y'] t (0, 0)) := by
  have h1 := heap_setCell_same w B 0 _ t x' h
  exact heap_setCell_same _ B 1 _ t y' h1
theorem ptrs_upd {bl : Nat → Nat} {l : List Pg} {n b : Nat} (h : ∀ Q ∈ l, Q.n ≠ n) : ptrs (upd bl n b) l = ptrs bl l := by
  unfold ptrs
  refine List.map_congr_left (fun Q hQ => ?_)
  rw [upd_other _ _ (h Q hQ)]
def pageObj (P : Pg) (v : Value) : Obj := .cells #[.int .i64 (P.n : Int), .string P.b, v] 96
def ptrObj (b : Nat) : Obj := .cells #[.pointer (some ⟨b, 0, none⟩)] 94
/-- A new leaf, behind another one. -/
theorem Mem.insPage {h : Nat} {w : World} {tag : Nat → Option Tg} {p : Nat} {s : S} {bl : Nat → Nat} {kv : Nat → Value} {rv : Value} (H : Mem h w tag p s bl kv rv) {L R : List Pg} {P P2 : Pg} (he : s.pgs = L ++ P :: R) (hn : ∀ Q ∈ s.pgs, Q.n ≠ P2.n) (hh : h ≤ w.heap.size) {w3 w6 : World} {v2 v' : Value} (hb : Below w.heap.size w w3) (ho2 : Mm.Own w3 w.heap.size 9 v2 (strs P2.ks))
    (hg : ((w3.alloc (pageObj P2 v2)).alloc (ptrObj w3.heap.size)).grownBy w6 rv.ownBlock) (ho : Mm.Own w6 h 94 v' ((ptrs bl s.pgs).take (L.length + 1) ++ .pointer (some ⟨w3.heap.size, 0, none⟩) :: (ptrs bl s.pgs).drop (L.length + 1))) (hl : v'.ownBlock = rv.ownBlock ∨ ∀ g, v'.ownBlock = some g → w3.heap.size + 2 ≤ g) :
    ∃ tag' bl' kv', Mem h (w6.setCell ⟨p, 1, none⟩ v') tag' p { s with pgs := L ++ P :: P2 :: R } bl' kv' v' ∧ Ev tag tag' w (w6.setCell ⟨p, 1, none⟩ v') ∧ bl' P.n = bl P.n ∧ kv' P.n = kv P.n := by
  have hPm : P ∈ s.pgs := by rw [he]; simp
  have hs3 := hb.size
  have hg0 : w.grownBy w6 rv.ownBlock := ⟨hg.os.trans hb.os, hg.tape.trans hb.tape, hg.output.trans hb.output, Nat.le_trans hs3 (Nat.le_trans (by simp; omega) hg.size), fun b hbl hne => by
    have h1 := hg.block b (by simp; omega) hne
    rw [Mm.oldAt _ _ (by simp; omega), Mm.oldAt _ _ (by omega)] at h1
    exact h1.trans (hb.block b hbl)⟩
  have rvl : ∀ g, rv.ownBlock = some g → g < w.heap.size := fun g hgv => (H.row.lt hgv).1
  have hp2 : w6.heap[w3.heap.size]? = some (.cells #[.int .i64 (P2.n : Int), .string P2.b, v2] 96 (0, 0)) := by
    rw [hg.block w3.heap.size (by simp; omega) (fun e => by have := rvl _ e.symm; omega), Mm.oldAt _ _ (by simp), Mm.newAt w3 _ rfl]; rfl
  have hv2 : ∀ g, v2.ownBlock = some g → w.heap.size ≤ g ∧ g < w3.heap.size := fun g hgv => ⟨(ho2.lt hgv).2, (ho2.lt hgv).1⟩
  obtain ⟨tag1, ht1⟩ : ∃ t : Nat → Option Tg, t = fun b => if b = w3.heap.size then some (.pg P2.n) else if v2.ownBlock = some b then some (.ks P2.n) else tag b := ⟨_, rfl⟩
  have told : ∀ b, b < w.heap.size → tag1 b = tag b := fun b hbl => by
    rw [ht1]
    show (if b = w3.heap.size then _ else _) = _
    rw [if_neg (by omega), if_neg (fun e => by have := hv2 b e; omega)]
  have tnew : tag1 w3.heap.size = some (.pg P2.n) := by rw [ht1]; exact if_pos rfl
  have tks : ∀ g, v2.ownBlock = some g → tag1 g = some (.ks P2.n) := fun g hgv => by
    rw [ht1]
    show (if g = w3.heap.size then _ else _) = _
    rw [if_neg (by have := hv2 g hgv; omega), if_pos hgv]
  have ttop : ∀ b, w3.heap.size < b → tag1 b = none := fun b hbl => by
    rw [ht1]
    show (if b = w3.heap.size then _ else _) = _
    rw [if_neg (by omega), if_neg (fun e => by have := hv2 b e; omega)]
    exact H.top b (by omega)
  have hmem := H.putRow (w1 := w6) (v := v') (pgs := L ++ P :: P2 :: R) (tag1 := tag1) (bl1 := upd bl P2.n w3.heap.size) (kv1 := upd kv P2.n v2) hg0
    (by
      have e : ptrs (upd bl P2.n w3.heap.size) (L ++ P :: P2 :: R) = (ptrs bl s.pgs).take (L.length + 1) ++ .pointer (some ⟨w3.heap.size, 0, none⟩) :: (ptrs bl s.pgs).drop (L.length + 1) := by
        have h1 : ptrs bl s.pgs = ptrs bl (L ++ [P]) ++ ptrs bl R := by rw [he]; simp [ptrs]
        have h2 : (ptrs bl (L ++ [P])).length = L.length + 1 := by simp
        rw [h1, List.take_left' h2, List.drop_left' h2]
        have h3 : ptrs (upd bl P2.n w3.heap.size) (L ++ P :: P2 :: R) = ptrs (upd bl P2.n w3.heap.size) (L ++ [P]) ++ (.pointer (some ⟨upd bl P2.n w3.heap.size P2.n, 0, none⟩) :: ptrs (upd bl P2.n w3.heap.size) R) := by simp [ptrs]
        rw [h3, upd_same, ptrs_upd (fun Q hQ => hn Q (by rw [he]; rcases List.mem_append.1 hQ with h | h; exact List.mem_append.2 (Or.inl h); rw [List.mem_singleton.1 h]; simp)), ptrs_upd (fun Q hQ => hn Q (by rw [he]; simp [hQ]))]
      rw [e]; exact ho)
    (by
      rcases hl with e | e
      · exact Or.inl e
      · exact Or.inr (fun g hgv => ⟨by have := e g hgv; omega, ttop g (by have := e g hgv; omega)⟩))
    (fun b l hbl => (told b (H.lts hbl)).trans hbl)
    (fun b hbl => ttop b (by have := hg.size; simp at this; omega))
    (fun b hbl ht => (told b hbl).trans ht)
    (fun b hbl => (told b (by omega)).trans (H.bot b hbl))
    (fun Q hQ => by
      have old : ∀ Q ∈ s.pgs, PgIn h w6 tag1 (upd bl P2.n w3.heap.size Q.n) (upd kv P2.n v2 Q.n) Q := fun Q hQ => by
        rw [upd_other _ _ (hn Q hQ), upd_other _ _ (hn Q hQ)]
        have q := H.pg Q hQ
        have hne : ∀ b l, tag b = some l → l ≠ .row → w6.heap[b]? = w.heap[b]? := fun b l e hl => hg0.block b (H.lts e) (fun e2 => hl (by have := H.tr b e2.symm; rw [this] at e; injection e.symm))
        exact q.keep (hne _ _ q.tb (by simp)) (fun g hgv => hne g _ (q.tk g hgv) (by simp)) ((told _ (H.lts q.tb)).trans q.tb) (fun g hgv => (told _ (H.lts (q.tk g hgv))).trans (q.tk g hgv))
      rcases List.mem_append.1 hQ with h1 | h1
      · exact old Q (by rw [he]; simp [h1])
      · rcases List.mem_cons.1 h1 with h1 | h1
        · rw [h1]; exact old P hPm
        · rcases List.mem_cons.1 h1 with h1 | h1
          · rw [h1, upd_same, upd_same]
            refine ⟨hp2, tnew, (ho2.base hh).keep (fun g hgv => ?_), tks⟩
            have := hv2 g hgv
            rw [hg.block g (by simp; omega) (fun e => by have := rvl _ e.symm; omega), Mm.oldAt _ _ (by simp; omega), Mm.oldAt _ _ (by omega)]
          · exact old Q (by rw [he]; simp [h1]))
  exact ⟨_, _, _, hmem.1, hmem.2, upd_other _ _ (hn P hPm), upd_other _ _ (hn P hPm)⟩
/-- A leaf fewer. -/
theorem Mem.delPage {h : Nat} {w : World} {tag : Nat → Option Tg} {p : Nat} {s : S} {bl : Nat → Nat} {kv : Nat → Value} {rv : Value} (H : Mem h w tag p s bl kv rv) {L R : List Pg} {P : Pg} (he : s.pgs = L ++ P :: R) {w6 : World} {v' : Value} (hg : w.grownBy w6 rv.ownBlock) (ho : Mm.Own w6 h 94 v' (ptrs bl (L ++ R))) (hl : v'.ownBlock = rv.ownBlock) :
    ∃ tag', Mem h (w6.setCell ⟨p, 1, none⟩ v') tag' p { s with pgs := L ++ R } bl kv v' ∧ Ev tag tag' w (w6.setCell ⟨p, 1, none⟩ v') := by
  have hmem := H.putRow (w1 := w6) (v := v') (pgs := L ++ R) (tag1 := tag) (bl1 := bl) (kv1 := kv) hg ho (Or.inl hl) (fun _ _ h => h) (fun b hb => H.top b (Nat.le_trans hg.size hb)) (fun _ _ h => h) H.bot (fun Q hQ => by
    have hQ' : Q ∈ s.pgs := by
      rw [he]
      rcases List.mem_append.1 hQ with h1 | h1
      · simp [h1]
      · simp [h1]
    have q := H.pg Q hQ'
    have hne : ∀ b l, tag b = some l → l ≠ .row → w6.heap[b]? = w.heap[b]? := fun b l e hl => hg.block b (H.lts e) (fun e2 => hl (by have := H.tr b e2.symm; rw [this] at e; injection e.symm))
    exact q.keep (hne _ _ q.tb (by simp)) (fun g hgv => hne g _ (q.tk g hgv) (by simp)) q.tb q.tk)
  exact ⟨_, hmem.1, hmem.2⟩
end Lf

end Go.Proofs.YtjnaafgiokdcbaaGreatDoor
