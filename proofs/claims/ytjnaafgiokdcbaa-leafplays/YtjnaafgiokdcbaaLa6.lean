/- strings.Clone; the leaf of a key. -/
import Derived.Test.YtjnaafgiokdcbaaLa5
import Derived.Lib.BufferWrite
import Derived.Lib.UnsafeStr
namespace Go.Proofs.Ytjnaafgiokdcbaa
open Go.RowKit

theorem Lf.row_of {w' : World} {base g m : Nat} {e : TypeId} {l : List Value} (h : w'.ownsRow base e 1 (.slice (some ⟨g, 0, none⟩) m m) m l) :
    ∃ cur : Array Value, w'.heap[g]? = some (.cells cur e (0, 0)) ∧ cur.size = m := by
  obtain ⟨_, ⟨h0, _⟩ | ⟨g', cap, cur, h0, hg, hh, h1, h2, h3, h4⟩⟩ := h
  · cases h0
  · cases h0
    exact ⟨cur, hh, by omega⟩
theorem Lf.setRow_at {w : World} {g : Nat} {cur cs : Array Value} {t : TypeId} (h : w.heap[g]? = some (.cells cur t (0, 0))) : (w.setRow g cs).heap[g]? = some (.cells cs t (0, 0)) := by
  simp only [World.setRow, Array.getElem?_modify, h]; rfl
theorem Lf.below_setRow {B : Nat} {a w : World} (h : Below B a w) {g : Nat} (hg : B ≤ g) (cs : Array Value) : Below B a (w.setRow g cs) :=
  h.trans ⟨rfl, rfl, rfl, by simp [World.setRow], fun k hk => by
    simp only [World.setRow, Array.getElem?_modify]
    rw [if_neg (by omega)]⟩

set_option maxRecDepth 100000 in
set_option maxHeartbeats 1000000 in
theorem clone_in (s : ByteArray) (w : World) (hs : s.size ≤ 100000) :
    Calls Try.prog 37 #[.string s] w fun e w' => e = .returned (.string s) ∧ Below w.heap.size w w' := by
  by_cases h0 : s.size = 0
  · have hb : ((s.size : Int) == 0) = true := by simp [h0]
    have he : s = ⟨#[]⟩ := by cases s; rename_i d; congr; simpa [ByteArray.size] using h0
    have HE := Mm.hid he
    clear he h0
    go_enter Try.func37, Try.ntmps37
    go_wp2
    go_ret
    exact ⟨by rw [HE.out]; rfl, Below.refl _ _⟩
  · have hb : ((s.size : Int) == 0) = false := beq_eq_false_iff_ne.2 (by omega)
    have hsi : (s.size : Int) ≤ 100000 := by omega
    obtain ⟨i5, hi, hz0, hz1, hz2⟩ : ∃ i, Try.prog.info? 5 = some i ∧ i.zero = some (.int .u8 0) ∧ i.size = 1 ∧ i.bytes = 1 := ⟨_, Try.type5, rfl, rfl, rfl⟩
    go_enter Try.func37, Try.ntmps37
    go_wp2_with (first | (at_make; refine wpList_make_full _ rfl _ _ 83 rfl w.heap.size 5 i5 (.int .u8 0) 1 Try.underlying83 hi hz0 hz1 .i64 .i64 (s.size : Int) (s.size : Int) s.size rfl rfl rfl rfl (by rw [hz2]; omega) (by unfold maxLen; omega) (Nat.le_refl _) ?_; intro W1 hown hgrow))
    obtain ⟨cur, hg, hcs⟩ : ∃ cur : Array Value, W1.heap[w.heap.size]? = some (.cells cur 5 (0, 0)) ∧ cur.size = s.size := Lf.row_of hown
    have HB : Hid (Below w.heap.size w W1) := (Below.refl _ _).grown hgrow (Nat.le_refl _) (fun k h => by cases h)
    have hcp := Lib.run_copy_row_string (P := Try.prog) W1 83 9 3 5 w.heap.size 0 s.size s.size s cur 5 Try.underlying83 (by rw [hi]; simp [hz1]) hg (Nat.le_refl _) (by omega)
    rw [hcp]
    simp only [Result.andThen]
    rw [Oper.upon_value]
    have hrow : (cur.toList.take 0 ++ Lib.byteCells s.data.toList ++ cur.toList.drop (0 + s.size)).toArray = (Lib.byteCells s.data.toList).toArray := by
      rw [List.drop_of_length_le (by simp; omega)]; simp
    rw [hrow]
    have hW2 : (W1.setRow w.heap.size (Lib.byteCells s.data.toList).toArray).heap[w.heap.size]? = some (.cells (Lib.byteCells s.data.toList).toArray 5 (0, 0)) := Lf.setRow_at hg
    have HB2 : Hid (Below w.heap.size w (W1.setRow w.heap.size (Lib.byteCells s.data.toList).toArray)) := Lf.below_setRow HB.out (Nat.le_refl _) _
    generalize W1.setRow w.heap.size (Lib.byteCells s.data.toList).toArray = W2 at hW2 HB2
    have hus := Lib.run_unsafeString_row (P := Try.prog) W2 84 3 9 5 Try.underlying84 (by kernel_rfl) w.heap.size (Lib.byteCells s.data.toList).length (by simp [World.shape?, hW2]) s.data.toList (by intro e; apply h0; show s.data.size = 0; simpa using congrArg List.length e) (by rw [Lib.byteCells_length]; exact Nat.le_refl _) (by rw [(by simp : s.data.toList.length = s.size)]; omega)
      (fun j x hx => by rw [Mm.addPlain]; simp [World.cell?, hW2, Lib.byteCells, hx])
    have hsl : (s.data.toList.length : Int) = (s.size : Int) := by simp
    rw [hsl] at hus
    have HB3 : Hid (Below w.heap.size w (W2.freeze ⟨w.heap.size, 0, none⟩ s.data.toList.length)) := Lib.below_freeze HB2.out (Nat.le_refl _) _
    clear hcp hrow hown hgrow hg hW2 hi hz0 hz1 hz2
    go_wp2
    go_ret
    exact ⟨rfl, HB3.out⟩

set_option maxHeartbeats 1000000 in
theorem clone_any (s : ByteArray) (w : World) (hs : s.size ≤ 100000) :
    Calls Try.prog 27 #[.string s] w fun e w' => e = .returned (.string s) ∧ Below w.heap.size w w' := by
  go_enter Try.func27, Try.ntmps27
  go_wp2_with (go_at_call 37; refine (clone_in _ _ hs).mono ?_; rintro e w1 ⟨rfl, hb⟩)
  go_ret
  exact ⟨rfl, hb⟩


namespace Lf
/-- Numbers that any machine bears. -/
structure Sm (s : S) : Prop where
  pl : s.pgs.length ≤ 10000
  kl : ∀ P ∈ s.pgs, P.ks.length ≤ 10000
  la : s.last ≤ 10000
  cn : s.count ≤ 10000
  fa : s.fan ≤ 10000
  nn : ∀ P ∈ s.pgs, P.n ≤ 10000
  su : (s.pgs.map (fun P => P.ks.length)).sum ≤ 10000
theorem gtr_eq (a b : ByteArray) : (!Op.bytesLess a.toList b.toList && !a.toList == b.toList) = lt b a := by
  cases h : lt b a with
  | true =>
    have h1 : Op.bytesLess a.toList b.toList = false := lt_as h
    have h2 : (a.toList == b.toList) = false := by rw [eqB]; exact decide_eq_false (fun e => lt_ne h e.symm)
    rw [h1, h2]; rfl
  | false =>
    cases h2 : lt a b with
    | true => rw [show Op.bytesLess a.toList b.toList = true from h2]; rfl
    | false => rw [lt_tri h2 h]; simp
end Lf

set_option maxRecDepth 100000 in
set_option maxHeartbeats 2000000 in
theorem placeLit_any {h : Nat} {w : World} {tag : Nat → Option Lf.Tg} {p : Nat} {s : Lf.S} {bl : Nat → Nat} {kv : Nat → Value} {rv : Value} (H : Hid (Lf.Mem h w tag p s bl kv rv)) (i : Nat) (P : Lf.Pg) (hP : Hid (s.pgs[i]? = some P)) (k : ByteArray) (b1 b2 : Nat) (h1 : w.cell? ⟨b1, 0, none⟩ = some (.pointer (some ⟨p, 0, none⟩))) (h2 : w.cell? ⟨b2, 0, none⟩ = some (.string k)) :
    Calls Try.prog 41 #[.int .i64 (i : Int), .pointer (some ⟨b1, 0, none⟩), .pointer (some ⟨b2, 0, none⟩)] w fun e w' => e = .returned (.bool (Lf.lt k P.b)) ∧ Below w.heap.size w w' := by
  obtain ⟨g, c, rfl, m1, m2, m3, m4, m5, m6⟩ := H.out.at hP.out
  have c1 := H.out.c1
  have g1 : (0 : Int) ≤ (i : Int) := by omega
  have g2 : (i : Int) < (s.pgs.length : Int) := by omega
  go_enter Try.func41, Try.ntmps41
  go_wp2_with fail
  go_region
  go_wp2
  go_ret
  exact ⟨by rw [← Lf.gtr_eq]; rfl, rfl, rfl, rfl, Nat.le_refl _, fun _ _ => rfl⟩

set_option maxRecDepth 100000 in
set_option maxHeartbeats 2000000 in
theorem searchP_any {h : Nat} {w : World} {tag : Nat → Option Lf.Tg} {p : Nat} {s : Lf.S} {bl : Nat → Nat} {kv : Nat → Value} {rv : Value} (H : Hid (Lf.Mem h w tag p s bl kv rv)) {k : ByteArray} {L R : List Lf.Pg} {P : Lf.Pg} (hs : Hid (Lf.Spl s k L P R)) (n m : Nat) (hn : Hid (s.pgs.length = n)) (hm : Hid (L.length + 1 = m)) (hn2 : n ≤ 10000) (hmn : m ≤ n) (b1 b2 : Nat) (h1 : Hid (w.cell? ⟨b1, 0, none⟩ = some (.pointer (some ⟨p, 0, none⟩)) ∧ b1 < w.heap.size)) (h2 : Hid (w.cell? ⟨b2, 0, none⟩ = some (.string k) ∧ b2 < w.heap.size)) :
    Calls Try.prog 40 #[.int .i64 (n : Int), .func (.func 41) #[] #[.pointer (some ⟨b1, 0, none⟩), .pointer (some ⟨b2, 0, none⟩)]] w fun e w' => e = .returned (.int .i64 (m : Int)) ∧ Below w.heap.size w w' := by
  have HM := Mm.hid hmn
  clear hmn
  go_enter Try.func40, Try.ntmps40
  go_wp2_with fail
  go_loopw [5, 6, 7] (fun v5 v6 _ wr => ∃ lo hi : Nat, v5 = .int .i64 (lo : Int) ∧ v6 = .int .i64 (hi : Int) ∧ lo ≤ hi ∧ hi ≤ n ∧ Hid (lo ≤ m ∧ m ≤ hi) ∧ Hid (Below w.heap.size w wr)) (fun v5 v6 _ _ => (RowKit.intOf v6).toNat - (RowKit.intOf v5).toNat)
  case atStart => exact ⟨0, n, rfl, rfl, Nat.zero_le _, Nat.le_refl _, Mm.hid ⟨Nat.zero_le _, HM.out⟩, Mm.hid (Below.refl _ _)⟩
  case round =>
    obtain ⟨lo, hi, rfl, rfl, hlh, hin, HI, HB⟩ := hrel
    rename World => wr
    by_cases hlt : lo < hi
    · obtain ⟨Q, hQ⟩ : ∃ Q, s.pgs[(lo + hi) / 2]? = some Q := ⟨s.pgs[(lo + hi) / 2]'(by rw [hn.out]; omega), List.getElem?_eq_getElem _⟩
      have HQ := Mm.hid hQ
      have HMr := Mm.hid (H.out.below HB.out)
      have c1 : wr.cell? ⟨b1, 0, none⟩ = some (.pointer (some ⟨p, 0, none⟩)) := (Mm.belAt HB.out 0 h1.out.2).trans h1.out.1
      have c2 : wr.cell? ⟨b2, 0, none⟩ = some (.string k) := (Mm.belAt HB.out 0 h2.out.2).trans h2.out.1
      have hcall := placeLit_any HMr ((lo + hi) / 2) Q HQ k b1 b2 c1 c2
      have HE : (((lo + hi) / 2 : Nat) : Int) = ((lo : Int) + (hi : Int)) / 2 := by omega
      rw [HE] at hcall
      have HC := Mm.hid hcall
      clear hcall hQ c1 c2 HE
      by_cases hx : (lo + hi) / 2 < m
      · have HL : Hid (Lf.lt k Q.b = false) := Mm.hid (by
          have e := HQ.out
          rw [hs.out.e] at e
          rcases Nat.lt_or_ge ((lo + hi) / 2) L.length with h3 | h3
          · rw [List.getElem?_append_left h3] at e
            exact hs.out.lo Q (List.mem_of_getElem? e)
          · have h4 : (lo + hi) / 2 = L.length := by have := hm.out; omega
            rw [h4, List.getElem?_append_right (Nat.le_refl _)] at e
            simp at e
            rw [← e]; exact hs.out.at_)
        have HI2 := Mm.hid hx
        clear hx
        go_wp2_with fail
        refine HC.out.mono ?_
        rintro e w2 ⟨rfl, hb2⟩
        have HB2 := Mm.hid (HB.out.trans (hb2.mono HB.out.size))
        clear hb2
        rw [HL.out]
        go_wp2_with fail
        exact ⟨⟨(lo + hi) / 2 + 1, hi, by go_num, rfl, by omega, hin, Mm.hid ⟨HI2.out, HI.out.2⟩, HB2⟩, by simp [RowKit.intOf]; omega⟩
      · have HL : Hid (Lf.lt k Q.b = true) := Mm.hid (by
          have e := HQ.out
          rw [hs.out.e, List.getElem?_append_right (by have := hm.out; omega)] at e
          obtain ⟨t, ht⟩ : ∃ t, (lo + hi) / 2 - L.length = t + 1 := ⟨(lo + hi) / 2 - L.length - 1, by have := hm.out; omega⟩
          rw [ht, List.getElem?_cons_succ] at e
          exact hs.out.hi Q (List.mem_of_getElem? e))
        have HI2 : Hid (m ≤ (lo + hi) / 2) := Mm.hid (by omega)
        clear hx
        go_wp2_with fail
        refine HC.out.mono ?_
        rintro e w2 ⟨rfl, hb2⟩
        have HB2 := Mm.hid (HB.out.trans (hb2.mono HB.out.size))
        clear hb2
        rw [HL.out]
        go_wp2_with fail
        exact ⟨⟨lo, (lo + hi) / 2, rfl, by go_num, by omega, by omega, Mm.hid ⟨HI.out.1, HI2.out⟩, HB2⟩, by simp [RowKit.intOf]; omega⟩
    · have he : lo = hi := by omega
      subst he
      have HE : Hid (m = lo) := Mm.hid (by have := HI.out; omega)
      go_wp2_with fail
      go_ret
      exact ⟨by rw [HE.out]; rfl, HB.out⟩

set_option maxRecDepth 100000 in
set_option maxHeartbeats 2000000 in
theorem place_any {h : Nat} {w : World} {tag : Nat → Option Lf.Tg} {p : Nat} {s : Lf.S} {bl : Nat → Nat} {kv : Nat → Value} {rv : Value} (H : Hid (Lf.Mem h w tag p s bl kv rv)) {k : ByteArray} {L R : List Lf.Pg} {P : Lf.Pg} (hs : Hid (Lf.Spl s k L P R)) (hz : Hid (Lf.Sm s)) :
    Calls Try.prog 32 #[.pointer (some ⟨p, 0, none⟩), .string k] w fun e w' => e = .returned (.int .i64 (L.length : Int)) ∧ Below w.heap.size w w' := by
  obtain ⟨n, hn⟩ : ∃ n, n = s.pgs.length := ⟨_, rfl⟩
  have HL : Hid (L.length + 1 ≤ n) := Mm.hid (by rw [hn, hs.out.e]; simp)
  have hnb : n ≤ 10000 := by rw [hn]; exact hz.out.pl
  have hi : s.pgs[L.length]? = some P := by rw [hs.out.e]; simp
  obtain ⟨g, c, rfl, m1, m2, m3, m4, m5, m6⟩ := H.out.at hi
  rw [← hn] at m1
  have HN := Mm.hid hn.symm
  have HW2 : Hid (Below w.heap.size w ((w.alloc (.cells #[.pointer (some ⟨p, 0, none⟩)] 23)).alloc (.cells #[.string k] 9))) := Mm.hid (((Below.refl _ w).alloc (Nat.le_refl _) _).alloc (by simp) _)
  have HM2 := Mm.hid (H.out.below HW2.out)
  have c1 := HM2.out.c1
  rw [← hn] at c1
  have hL1 : L.length ≤ 10000 := by have := HL.out; omega
  clear m1 m2 m3 m4 m5 m6 hi hn
  go_enter Try.func32, Try.ntmps32
  go_wp2_with fail
  refine (searchP_any HM2 hs n (L.length + 1) HN (Mm.hid rfl) hnb HL.out w.heap.size (w.heap.size + 1) (Mm.hid ⟨?_, by simp; omega⟩) (Mm.hid ⟨?_, by simp⟩)).mono ?_
  · exact Mm.cellOf ((Mm.oldAt _ _ (by simp)).trans (Mm.newAt w _ rfl)) rfl
  · exact Mm.cellOf (Mm.newAt _ _ (by simp)) rfl
  rintro e w3 ⟨rfl, hb⟩
  have HB := Mm.hid (HW2.out.trans (hb.mono HW2.out.size))
  clear hb c1
  go_wp2_with fail
  go_ret
  exact ⟨by go_num, HB.out⟩
end Go.Proofs.Ytjnaafgiokdcbaa
