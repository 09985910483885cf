/- Range. -/
import Derived.Test.YtjnaafgiokdcbaaLa9
namespace Go.Proofs.Ytjnaafgiokdcbaa
open Go.RowKit

namespace Lf
theorem ne_emp {b : ByteArray} (h : b ≠ ⟨#[]⟩) : b.toList.isEmpty = false := by
  cases e : b.toList with
  | nil => exact absurd (toList_inj (by rw [e, ByteArray.toList_eq])) h
  | cons a r => rfl
def inR (frm to k : ByteArray) : Bool := !lt k frm && (decide (to = ⟨#[]⟩) || lt k to)
def upTo (to : ByteArray) (P : Pg) : Bool := decide (to = ⟨#[]⟩) || !lt to P.b
def keysIn (frm to : ByteArray) (l : List Pg) : List ByteArray := (l.flatMap (fun P => P.ks)).filter (inR frm to)
/-- What Range tells, from the leaf of its beginning on. -/
def rngK (frm to : ByteArray) (T : List Pg) : List ByteArray := keysIn frm to (T.takeWhile (upTo to))
def rngL (to : ByteArray) (T : List Pg) : List Nat := nums (T.takeWhile (upTo to))
theorem takeW_at {to : ByteArray} : ∀ {T : List Pg} {i : Nat} {P : Pg}, (∀ (j : Nat) Q, j < i → T[j]? = some Q → upTo to Q = true) → T[i]? = some P → upTo to P = false → T.takeWhile (upTo to) = T.take i
  | [], _, _, _, h, _ => by simp at h
  | Q :: r, 0, P, _, h, e => by simp at h; subst h; simp [e]
  | Q :: r, i + 1, P, h1, h, e => by
    have hq := h1 0 Q (by omega) rfl
    have ih := takeW_at (T := r) (i := i) (P := P) (fun j X hj hX => h1 (j + 1) X (by omega) (by simpa using hX)) (by simpa using h) e
    rw [List.takeWhile_cons_of_pos hq, ih]; rfl
theorem takeW_all {to : ByteArray} : ∀ {T : List Pg}, (∀ (j : Nat) Q, T[j]? = some Q → upTo to Q = true) → T.takeWhile (upTo to) = T
  | [], _ => rfl
  | Q :: r, h => by rw [List.takeWhile_cons_of_pos (h 0 Q rfl), takeW_all (fun j X hX => h (j + 1) X (by simpa using hX))]
theorem keysIn_app (frm to : ByteArray) (a b : List Pg) : keysIn frm to (a ++ b) = keysIn frm to a ++ keysIn frm to b := by simp [keysIn]
theorem keysIn_one (frm to : ByteArray) (P : Pg) : keysIn frm to [P] = P.ks.filter (inR frm to) := by simp [keysIn]
/-- Behind a key that is not below the end nothing is in the range, and no leaf's bound is not above it. -/
theorem stop_keys {frm to k : ByteArray} {ks : List ByteArray} {j : Nat} (hu : Up ks) (hk : ks[j]? = some k) (hto : to ≠ ⟨#[]⟩) (hkt : lt k to = false) : ks.filter (inR frm to) = (ks.take j).filter (inR frm to) := by
  have e : ks = ks.take j ++ ks.drop j := (List.take_append_drop j ks).symm
  have h2 : (ks.drop j).filter (inR frm to) = [] := by
    rw [List.filter_eq_nil_iff]
    intro x hx
    obtain ⟨t, ht⟩ := List.getElem?_of_mem hx
    rw [List.getElem?_drop] at ht
    have hxt : lt x to = false := by
      rcases Nat.eq_zero_or_pos t with h0 | h0
      · subst h0; rw [Nat.add_zero, hk] at ht; cases ht; exact hkt
      · obtain ⟨p1, p2⟩ := List.getElem?_eq_some_iff.1 hk
        obtain ⟨p3, p4⟩ := List.getElem?_eq_some_iff.1 ht
        have := List.pairwise_iff_getElem.1 hu j (j + t) p1 p3 (by omega)
        rw [p2, p4] at this
        exact le_tr hkt (lt_as this)
    unfold inR
    rw [hxt, decide_eq_false hto]
    simp
  have e3 : ks.filter (inR frm to) = (ks.take j ++ ks.drop j).filter (inR frm to) := by rw [← e]
  rw [e3, List.filter_append, h2, List.append_nil]
/-- Two rows of one's own: texts and numbers. -/
structure Two (w wr : World) (v1 v2 : Value) (a : List ByteArray) (b : List Nat) : Prop where
  o1 : Mm.Own wr w.heap.size 9 v1 (strs a)
  o2 : Mm.Own wr w.heap.size 3 v2 (Mm.nts b)
  ne : ∀ g, v1.ownBlock = some g → v2.ownBlock ≠ some g
  bel : Below w.heap.size w wr
theorem Two.below {w wr w2 : World} {v1 v2 : Value} {a : List ByteArray} {b : List Nat} (h : Two w wr v1 v2 a b) (hb : Below wr.heap.size wr w2) : Two w w2 v1 v2 a b := ⟨h.o1.below hb, h.o2.below hb, h.ne, h.bel.trans (hb.mono h.bel.size)⟩
theorem Two.add1 {w wr w1 : World} {v1 v2 v : Value} {a : List ByteArray} {b : List Nat} {k : ByteArray} (h : Two w wr v1 v2 a b) (ho : Mm.Own w1 w.heap.size 9 v (strs a ++ [.string k])) (hg : wr.grownBy w1 v1.ownBlock) (hl : v.ownBlock = v1.ownBlock ∨ ∀ g, v.ownBlock = some g → wr.heap.size ≤ g) : Two w w1 v v2 (a ++ [k]) b := by
  refine ⟨by simpa [strs] using ho, h.o2.keep (fun g hg2 => hg.block g (h.o2.lt hg2).1 (fun e => h.ne g e.symm hg2)), fun g hv hg2 => ?_, h.bel.grown hg h.bel.size (fun g e => (h.o1.lt e).2)⟩
  rcases hl with e | e
  · exact h.ne g (by rw [← e]; exact hv) hg2
  · have := e g hv; have := (h.o2.lt hg2).1; omega
theorem Two.add2 {w wr w1 : World} {v1 v2 v : Value} {a : List ByteArray} {b : List Nat} {n : Nat} (h : Two w wr v1 v2 a b) (ho : Mm.Own w1 w.heap.size 3 v (Mm.nts b ++ [.int .i64 (n : Int)])) (hg : wr.grownBy w1 v2.ownBlock) (hl : v.ownBlock = v2.ownBlock ∨ ∀ g, v.ownBlock = some g → wr.heap.size ≤ g) : Two w w1 v1 v a (b ++ [n]) := by
  refine ⟨h.o1.keep (fun g hg1 => hg.block g (h.o1.lt hg1).1 (fun e => h.ne g hg1 e.symm)), by rw [Mm.nts_app]; exact ho, fun g h1 hv => ?_, h.bel.grown hg h.bel.size (fun g e => (h.o2.lt e).2)⟩
  rcases hl with e | e
  · exact h.ne g h1 (by rw [← e]; exact hv)
  · have := e g hv; have := (h.o1.lt h1).1; omega
/-- append of a text. -/
theorem appT {ops : Array Oper} {rest : List Oper} {o : Oper} {a : Act} {Q : Exit → Act → World → Prop} (w0 : World) (hgd : o.guard = none) (s x : Operand)
    (ho : o.op = .call { callee := .builtin .append, args := #[s, x], argTypes := #[41, 41] }) (base : Nat) (v : Value) (y : ByteArray) (xs : List Value) (hs : a.eval s = v) (hown : Mm.Own w0 base 9 v xs) (B : Nat) (hx : a.eval x = .slice (some ⟨B, 0, none⟩) 1 1) (hB : B = w0.heap.size) (hlen : xs.length < 1000000) (hbase : base ≤ w0.heap.size)
    (h : ∀ v' w', Mm.Own w' base 9 v' (xs ++ [.string y]) → w0.grownBy w' v.ownBlock → (v'.ownBlock = v.ownBlock ∨ ∀ g, v'.ownBlock = some g → w0.heap.size ≤ g) → wpList Try.prog ops Q rest (a.put o.dst v') w') : wpList Try.prog ops Q (o :: rest) a (w0.alloc (.cells #[.string y] 9)) := by
  obtain ⟨i, h1, h2, h3, h4⟩ := infoS
  exact Mm.app1 w0 hgd s x 41 9 i _ 16 Try.underlying41 h1 h2 h3 h4 rfl (by decide) ho base v _ xs hs hown rfl B hx hB hlen hbase h
theorem strs_le_flat (f : ByteArray → Bool) (l : List Pg) : (strs ((l.flatMap (fun P => P.ks)).filter f)).length ≤ (l.map (fun P => P.ks.length)).sum := by
  rw [strs_len]
  refine Nat.le_trans (List.length_filter_le _ _) ?_
  rw [List.length_flatMap]
  exact Nat.le_refl _
theorem sum_sub {l : List Pg} (i : Nat) : ((l.take i).map (fun P => P.ks.length)).sum ≤ (l.map (fun P => P.ks.length)).sum := by
  have e : l.map (fun P => P.ks.length) = (l.take i).map (fun P => P.ks.length) ++ (l.drop i).map (fun P => P.ks.length) := by rw [← List.map_append, List.take_append_drop]
  rw [e, List.sum_append]
  exact Nat.le_add_right _ _
/-- How many keys there may be. -/
theorem cnt_le {frm to : ByteArray} {L T : List Pg} {s : S} (hc : (s.pgs.map (fun P => P.ks.length)).sum ≤ 10000) (he : s.pgs = L ++ T) {i j : Nat} {Q : Pg} (hQ : T[i]? = some Q) : (strs (keysIn frm to (T.take i) ++ (Q.ks.take j).filter (inR frm to))).length ≤ 900000 := by
  have h1 : (strs (keysIn frm to (T.take i))).length ≤ (T.map (fun P => P.ks.length)).sum := Nat.le_trans (strs_le_flat _ _) (sum_sub i)
  have h2 : (T.map (fun P => P.ks.length)).sum ≤ 10000 := by
    rw [he, List.map_append, List.sum_append] at hc
    omega
  have h3 : ((Q.ks.take j).filter (inR frm to)).length ≤ Q.ks.length := Nat.le_trans (List.length_filter_le _ _) (by rw [List.length_take]; omega)
  have h4 : Q.ks.length ≤ (T.map (fun P => P.ks.length)).sum := by
    have := sum_sub (l := T) (i + 1)
    rw [List.take_add_one, hQ] at this
    simp at this
    simp; omega
  rw [strs_len] at h1
  rw [strs_len, List.length_append]
  omega
/-- Where a key is not below the end, the leaves behind its own are above the end. -/
theorem takeW_stop {to k : ByteArray} {L T : List Pg} {s : S} {i : Nat} {Q : Pg} (h1 : ∀ (j : Nat) X, j < i + 1 → T[j]? = some X → upTo to X = true) (hb : s.pgs.Pairwise (fun P Q => lt P.b Q.b = true ∧ ∀ k ∈ P.ks, lt k Q.b = true)) (he : s.pgs = L ++ T) (hQ : T[i]? = some Q) (hk : k ∈ Q.ks) (hto : to ≠ ⟨#[]⟩) (hkt : lt k to = false) : T.takeWhile (upTo to) = T.take (i + 1) := by
  cases hX : T[i + 1]? with
  | some X =>
    refine takeW_at h1 hX ?_
    rw [he] at hb
    have hT := (List.pairwise_append.1 hb).2.1
    obtain ⟨p1, p2⟩ := List.getElem?_eq_some_iff.1 hQ
    obtain ⟨p3, p4⟩ := List.getElem?_eq_some_iff.1 hX
    have := List.pairwise_iff_getElem.1 hT i (i + 1) p1 p3 (by omega)
    rw [p2, p4] at this
    unfold upTo
    rw [decide_eq_false hto, le_lt hkt (this.2 k hk)]; rfl
  | none =>
    have hl : T.length ≤ i + 1 := List.getElem?_eq_none_iff.1 hX
    rw [List.take_of_length_le hl]
    exact takeW_all (fun j Y hY => h1 j Y (by have := (List.getElem?_eq_some_iff.1 hY).1; omega) hY)
end Lf

set_option maxRecDepth 100000 in
set_option maxHeartbeats 2000000 in
theorem range_nil (a b : ByteArray) (w : World) : Calls Try.prog 12 #[.pointer none, .string a, .string b] w fun e w' => e = .returned (.tuple #[.slice none 0 0, .slice none 0 0]) ∧ Below w.heap.size w w' := by
  go_enter Try.func12, Try.ntmps12
  go_wp2_with fail
  go_step3
  go_wp2_with fail
  rw [Exit.noGoto_ret]
  go_ret2
  exact ⟨rfl, Below.refl _ _⟩

set_option maxRecDepth 100000 in
set_option maxHeartbeats 2000000 in
theorem range_none (p : Nat) (a b : ByteArray) (h1 : b ≠ ⟨#[]⟩) (h2 : Lf.lt a b = false) (w : World) : Calls Try.prog 12 #[.pointer (some ⟨p, 0, none⟩), .string a, .string b] w fun e w' => e = .returned (.tuple #[.slice none 0 0, .slice none 0 0]) ∧ Below w.heap.size w w' := by
  have e1 : b.toList.isEmpty = false := Lf.ne_emp h1
  have e2 : (Op.bytesLess b.toList a.toList || b.toList == a.toList) = true := by
    cases h : Op.bytesLess b.toList a.toList with
    | true => rfl
    | false => rw [Lf.lt_tri h h2]; simp
  go_enter Try.func12, Try.ntmps12
  go_wp2_with fail
  go_step3
  go_wp2_with fail
  rw [Exit.noGoto_ret]
  go_ret2
  exact ⟨rfl, Below.refl _ _⟩

set_option maxRecDepth 100000 in
set_option maxHeartbeats 4000000 in
theorem rangeE_any {h : Nat} {w : World} {tag : Nat → Option Lf.Tg} {p : Nat} {s : Lf.S} {bl : Nat → Nat} {kv : Nat → Value} {rv : Value} (H : Hid (Lf.Mem h w tag p s bl kv rv)) {frm : ByteArray} {L R : List Lf.Pg} {P : Lf.Pg} (hs : Hid (Lf.Spl s frm L P R)) (hz : Hid (Lf.Sm s)) :
    Calls Try.prog 12 #[.pointer (some ⟨p, 0, none⟩), .string frm, .string (⟨#[]⟩ : ByteArray)] w fun e w' => ∃ v1 v2, e = .returned (.tuple #[v1, v2]) ∧ Lf.Two w w' v1 v2 (Lf.rngK frm (⟨#[]⟩ : ByteArray) (P :: R)) (Lf.rngL (⟨#[]⟩ : ByteArray) (P :: R)) := by
  have HD := Mm.hid H.out.drew
  have HP := Mm.hid (place_any HD hs hz)
  obtain ⟨T, hT⟩ : ∃ T, T = P :: R := ⟨_, rfl⟩
  have HTS : Hid (s.pgs = L ++ T) := Mm.hid (by rw [hT]; exact hs.out.e)
  have hi : s.pgs[L.length]? = some P := by rw [hs.out.e]; simp
  obtain ⟨g, c, rfl, m1, m2, m3, m4, m5, m6⟩ := H.out.at hi
  have c1 := H.out.c1
  obtain ⟨l, hl⟩ : ∃ l, l = L.length := ⟨_, rfl⟩
  obtain ⟨n, hn⟩ : ∃ n, n = s.pgs.length := ⟨_, rfl⟩
  obtain ⟨t, ht⟩ : ∃ t, t = n - l := ⟨_, rfl⟩
  rw [← hn] at c1 m1 m2
  rw [← hl] at m2
  have HL := Mm.hid hl
  have HTL : Hid (T.length = t) := Mm.hid (by rw [ht, hn, hl, HTS.out]; simp)
  have HS0 : Hid (w.drew.cell? ⟨p, 1, none⟩ = some (.slice (some ⟨g, 0, none⟩) n c)) := Mm.hid c1
  have HSC : Hid (∀ w1, Below w.drew.heap.size w.drew w1 → w1.cell? ⟨p, 1, none⟩ = some (.slice (some ⟨g, 0, none⟩) n c)) := Mm.hid (fun w1 hb => (Mm.belAt hb _ (World.block_lt_of_cell? w _ c1)).trans c1)
  have hnb : n ≤ 10000 := by rw [hn]; exact hz.out.pl
  have htn : t ≤ 10000 := by omega
  have hlc : ¬ (c = l) := by omega
  have g1 : (0 : Int) ≤ (l : Int) := by omega
  have hln : l ≤ n := by omega
  have HAT : Hid (∀ (i : Nat) Q, T[i]? = some Q → s.pgs[l + i]? = some Q) := Mm.hid (fun i Q hQ => by rw [HTS.out, hl, List.getElem?_append_right (by omega), Nat.add_sub_cancel_left]; exact hQ)
  rw [← hT]
  have HNL : Hid (n - l = t) := Mm.hid ht.symm
  have HN := Mm.hid hn
  clear hi hl m3 m4 m5 m6 c1 hT hn m1 m2 ht
  go_enter Try.func12, Try.ntmps12
  go_wp2_with fail
  go_step3
  go_wp2_with fail
  go_step3
  go_wp2_with fail
  go_region_held3 (fun w' => w'.cell? ⟨p, 1, none⟩ = some (.slice (some ⟨g, 0, none⟩) n c)) (first | (with_reducible exact HS0.out) | (with_reducible exact HS1.out) | fail)
    ((go_at_call 32
      with_reducible refine HP.out.mono ?_
      rintro e w1 ⟨rfl, hb⟩
      rw [← HL.out]
      have HB := Mm.hid hb
      have HS1 := Mm.hid (HSC.out w1 hb)
      clear hb))
  all_goals
    rw [HNL.out]
    have HB0 : Hid (Below w.heap.size w w1) := Mm.hid ⟨HB.out.os, HB.out.tape, HB.out.output, HB.out.size, HB.out.block⟩
    have HNM : Hid (n - l = t) := HNL
    go_wp2_with fail
    go_loopw [6, 7, 32] (fun vk vl vi wr => ∃ i : Nat, i ≤ t ∧ vi = .int .i64 (i : Int) ∧ Hid (Lf.Two w wr vk vl (Lf.keysIn frm (⟨#[]⟩ : ByteArray) (T.take i)) (Lf.nums (T.take i)) ∧ ∀ (j : Nat) Q, j < i → T[j]? = some Q → Lf.upTo (⟨#[]⟩ : ByteArray) Q = true)) (fun _ _ vi _ => t - (RowKit.intOf vi).toNat)
    case atStart => exact ⟨0, Nat.zero_le _, rfl, Mm.hid ⟨⟨Mm.Own.nil _ _ _, Mm.Own.nil _ _ _, (fun _ e => nomatch e), HB0.out⟩, fun j Q hj _ => absurd hj (Nat.not_lt_zero j)⟩⟩
    case round =>
      clear HB0 HB HS1
      obtain ⟨i, hi1, rfl, HI⟩ := hrel
      rename World => wr
      by_cases hlt : i < t
      · obtain ⟨Q, hQ⟩ : ∃ Q, T[i]? = some Q := ⟨T[i]'(by rw [HTL.out]; exact hlt), List.getElem?_eq_getElem _⟩
        have HQ := Mm.hid hQ
        have HMr := Mm.hid (H.out.below HI.out.1.bel)
        obtain ⟨g', c', e1, _, m2, m3, m4, m5, m6⟩ := HMr.out.at (HAT.out i Q hQ)
        injection e1 with e1 _ e7
        injection e1 with e1
        injection e1 with e1
        subst e1
        subst e7
        have hQm : Q ∈ s.pgs := List.mem_of_getElem? (HAT.out i Q hQ)
        have HQM := Mm.hid hQm
        have g2 : (0 : Int) ≤ (i : Int) := by omega
        have g3 : (i : Int) < (t : Int) := by omega
        clear hQ hQm m2
        have HUP : Hid (∀ (j : Nat) X, j < i + 1 → T[j]? = some X → Lf.upTo (⟨#[]⟩ : ByteArray) X = true) := Mm.hid (fun j X hj hX => by
          rcases Nat.lt_or_ge j i with h1 | h1
          · exact HI.out.2 j X h1 hX
          · have h2 : j = i := by omega
            rw [h2, HQ.out] at hX
            cases hX; unfold Lf.upTo; simp)
        have HLN : Hid ((Mm.nts (Lf.nums (T.take i))).length < 1000000) := Mm.hid (by simp [Lf.nums]; omega)
        have HHB : Hid (w.heap.size ≤ wr.heap.size) := Mm.hid HI.out.1.bel.size
        obtain ⟨q1, cq1, evk, _⟩ := HI.out.1.o1.shape
        obtain ⟨Lq1, hLq1⟩ : ∃ Lq, Lq = (Lf.strs (Lf.keysIn frm (⟨#[]⟩ : ByteArray) (T.take i))).length := ⟨_, rfl⟩
        rw [← hLq1] at evk
        subst evk
        clear hLq1
        obtain ⟨q2, cq2, evl, _⟩ := HI.out.1.o2.shape
        obtain ⟨Lq2, hLq2⟩ : ∃ Lq, Lq = (Mm.nts (Lf.nums (T.take i))).length := ⟨_, rfl⟩
        rw [← hLq2] at evl
        subst evl
        clear hLq2
        obtain ⟨q3, c3, ek, k1, k2, k3, k4, k5⟩ := HMr.out.ks HQM.out
        rw [ek] at m6
        obtain ⟨m, hm⟩ : ∃ m, m = Q.ks.length := ⟨_, rfl⟩
        rw [← hm] at m6
        have HMQ := Mm.hid hm
        have HKC := Mm.hid k5
        have hmb : m ≤ 10000 := by rw [hm]; exact hz.out.kl Q HQM.out
        have HWR : Hid (∀ w2, Below wr.heap.size wr w2 → w2.cell? ⟨bl Q.n, 2, none⟩ = some (.slice q3 m c3)) := Mm.hid (fun w2 hb => (Mm.belAt hb _ (World.block_lt_of_cell? wr _ m6)).trans m6)
        have HGR : Hid (∀ w2, wr.grownBy w2 (Value.slice q2 Lq2 cq2).ownBlock → w2.cell? ⟨bl Q.n, 2, none⟩ = some (.slice q3 m c3) ∧ Lf.Mem h w2 tag p s bl kv (.slice (some ⟨g, 0, none⟩) s.pgs.length c)) := Mm.hid (fun w2 hg => by
          have hb : Below w.heap.size wr w2 := (Below.refl _ _).grown hg HHB.out (fun g e => (HI.out.1.o2.lt e).2)
          have hM2 := H.out.below (HI.out.1.bel.trans hb)
          exact ⟨by rw [Mm.cellOf (hM2.pg Q HQM.out).cell rfl, ek, ← HMQ.out]; rfl, hM2⟩)
        clear hm k1 k2 k3 k4 k5
        go_wp2_with (at_builtin; refine Mm.appI wr rfl _ _ rfl w.heap.size (.slice q2 Lq2 cq2) (Q.n : Int) _ rfl HI.out.1.o2 _ rfl (by simp) HLN.out HHB.out ?_; intro v1 w1 h1 h2 h3; have HA := Mm.hid (HI.out.1.add2 h1 h2 h3); have HM1 := Mm.hid (HGR.out w1 h2).2; have m7 := (HGR.out w1 h2).1)
        clear h1 h2 h3 m3 m4 m5 m6 m7
        have HA2 : Hid (Lf.Two w w1 (.slice q1 Lq1 cq1) v1 (Lf.keysIn frm (⟨#[]⟩ : ByteArray) (T.take i)) (Lf.nums (T.take (i + 1)))) := Mm.hid (by
          have e : Lf.nums (T.take (i + 1)) = Lf.nums (T.take i) ++ [Q.n] := by rw [List.take_add_one, HQ.out]; simp [Lf.nums]
          rw [e]; exact HA.out)
        clear HA
        go_loopw [6, 58] (fun vk vj w2 => ∃ j : Nat, j ≤ m ∧ vj = .int .i64 (j : Int) ∧ Hid (Lf.Two w w2 vk v1 (Lf.keysIn frm (⟨#[]⟩ : ByteArray) (T.take i) ++ (Q.ks.take j).filter (Lf.inR frm (⟨#[]⟩ : ByteArray))) (Lf.nums (T.take (i + 1))))) (fun _ vj _ => m - (RowKit.intOf vj).toNat)
        case atStart => exact ⟨0, Nat.zero_le _, rfl, Mm.hid (by simpa using HA2.out)⟩
        case round =>
          clear HA2
          obtain ⟨j, hj1, rfl, HJ⟩ := hrel
          rename World => w2
          by_cases hjm : j < m
          · obtain ⟨k, hk⟩ : ∃ k, Q.ks[j]? = some k := ⟨Q.ks[j]'(by rw [← HMQ.out]; exact hjm), List.getElem?_eq_getElem _⟩
            have HK := Mm.hid hk
            have HM2 := Mm.hid (H.out.below HJ.out.bel)
            obtain ⟨q4, c4, ek4, _, _, _, _, k6⟩ := HM2.out.ks HQM.out
            rw [ek] at ek4
            injection ek4 with ek4 _ _
            obtain ⟨g4, ek5, hcell⟩ := k6 j k hk
            rw [← ek4] at ek5
            subst ek5
            have f1 : (0 : Int) ≤ (j : Int) := by omega
            have f2 : (j : Int) < (m : Int) := by omega
            have HTK : Hid (Q.ks.take (j + 1) = Q.ks.take j ++ [k]) := Mm.hid (by rw [List.take_add_one, hk]; rfl)
            clear hk k6 ek4
            obtain ⟨q5, cq5, ev5, _⟩ := HJ.out.o1.shape
            obtain ⟨Lq5, hLq5⟩ : ∃ Lq, Lq = (Lf.strs (Lf.keysIn frm (⟨#[]⟩ : ByteArray) (T.take i) ++ (Q.ks.take j).filter (Lf.inR frm (⟨#[]⟩ : ByteArray)))).length := ⟨_, rfl⟩
            rw [← hLq5] at ev5
            subst ev5
            have HL5 : Hid (Lq5 = (Lf.strs (Lf.keysIn frm (⟨#[]⟩ : ByteArray) (T.take i) ++ (Q.ks.take j).filter (Lf.inR frm (⟨#[]⟩ : ByteArray)))).length) := Mm.hid hLq5
            clear hLq5
            have HHB2 : Hid (w.heap.size ≤ w2.heap.size) := Mm.hid HJ.out.bel.size
            have HCNT : Hid ((Lf.strs (Lf.keysIn frm (⟨#[]⟩ : ByteArray) (T.take i) ++ (Q.ks.take j).filter (Lf.inR frm (⟨#[]⟩ : ByteArray)))).length ≤ 900000) := Mm.hid (Lf.cnt_le hz.out.su HTS.out HQ.out)
            cases hkf : Op.bytesLess k.toList frm.toList
            · go_wp2_with (at_builtin; refine Lf.appT w2 rfl _ _ rfl w.heap.size (.slice q5 Lq5 cq5) k _ rfl HJ.out.o1 _ rfl (by simp) (by have := HL5.out; have := HCNT.out; omega) HHB2.out ?_; intro v5 w5 h1 h2 h3; have HA5 := Mm.hid (HJ.out.add1 h1 h2 h3))
              have HN2 : Hid (Lf.Two w w5 v5 v1 (Lf.keysIn frm (⟨#[]⟩ : ByteArray) (T.take i) ++ (Q.ks.take (j + 1)).filter (Lf.inR frm (⟨#[]⟩ : ByteArray))) (Lf.nums (T.take (i + 1)))) := Mm.hid (by
                have e : [k].filter (Lf.inR frm (⟨#[]⟩ : ByteArray)) = [k] := by
                  have : Lf.inR frm (⟨#[]⟩ : ByteArray) k = true := by unfold Lf.inR; rw [show Lf.lt k frm = false from hkf]; simp
                  simp [this]
                rw [HTK.out, List.filter_append, e, ← List.append_assoc]; exact HA5.out)
              exact ⟨⟨v5, .string k, .int .i64 ((j : Int) + 1), ⟨j + 1, by omega, by go_num, HN2⟩, rfl, rfl, rfl⟩, by simp [RowKit.intOf]; omega⟩
            · have HN2 : Hid (Lf.Two w w2 (.slice q5 Lq5 cq5) v1 (Lf.keysIn frm (⟨#[]⟩ : ByteArray) (T.take i) ++ (Q.ks.take (j + 1)).filter (Lf.inR frm (⟨#[]⟩ : ByteArray))) (Lf.nums (T.take (i + 1)))) := Mm.hid (by
                have e : [k].filter (Lf.inR frm (⟨#[]⟩ : ByteArray)) = [] := by
                  have : Lf.inR frm (⟨#[]⟩ : ByteArray) k = false := by unfold Lf.inR; rw [show Lf.lt k frm = true from hkf]; rfl
                  simp [this]
                rw [HTK.out, List.filter_append, e, List.append_nil]; exact HJ.out)
              go_wp2_with fail
              exact ⟨⟨j + 1, by omega, by go_num, HN2⟩, by simp [RowKit.intOf]; omega⟩
          · have he : j = m := by omega
            subst he
            have HN2 : Hid (∀ vk, Lf.Two w w2 vk v1 (Lf.keysIn frm (⟨#[]⟩ : ByteArray) (T.take i) ++ (Q.ks.take j).filter (Lf.inR frm (⟨#[]⟩ : ByteArray))) (Lf.nums (T.take (i + 1))) → Lf.Two w w2 vk v1 (Lf.keysIn frm (⟨#[]⟩ : ByteArray) (T.take (i + 1))) (Lf.nums (T.take (i + 1)))) := Mm.hid (fun vk hh => by
              have e : Lf.keysIn frm (⟨#[]⟩ : ByteArray) (T.take (i + 1)) = Lf.keysIn frm (⟨#[]⟩ : ByteArray) (T.take i) ++ Q.ks.filter (Lf.inR frm (⟨#[]⟩ : ByteArray)) := by
                rw [List.take_add_one, HQ.out]
                show Lf.keysIn frm (⟨#[]⟩ : ByteArray) (T.take i ++ [Q]) = _
                rw [Lf.keysIn_app, Lf.keysIn_one]
              rw [e]
              have e2 : Q.ks.take j = Q.ks := List.take_of_length_le (by rw [HMQ.out]; exact Nat.le_refl _)
              rw [e2] at hh
              exact hh)
            have HN3 := Mm.hid (And.intro (HN2.out _ HJ.out) HUP.out)
            go_wp2_with fail
            exact ⟨⟨i + 1, by omega, by go_num, HN3⟩, by simp [RowKit.intOf]; omega⟩
      · have he : i = t := by omega
        subst he
        have HFI : Hid (∀ vk vl, Lf.Two w wr vk vl (Lf.keysIn frm (⟨#[]⟩ : ByteArray) (T.take i)) (Lf.nums (T.take i)) → Lf.Two w wr vk vl (Lf.rngK frm (⟨#[]⟩ : ByteArray) T) (Lf.rngL (⟨#[]⟩ : ByteArray) T)) := Mm.hid (fun vk vl hh => by
          have e : T.takeWhile (Lf.upTo (⟨#[]⟩ : ByteArray)) = T := Lf.takeW_all (fun j X hX => HI.out.2 j X (by rw [← HTL.out]; exact (List.getElem?_eq_some_iff.1 hX).1) hX)
          unfold Lf.rngK Lf.rngL
          rw [e]
          rw [List.take_of_length_le (by rw [HTL.out]; exact Nat.le_refl _)] at hh
          exact hh)
        go_wp2_with fail
        try rw [Exit.noGoto_ret]
        go_ret2
        exact ⟨_, _, rfl, HFI.out _ _ HI.out.1⟩

set_option maxRecDepth 100000 in
set_option maxHeartbeats 4000000 in
theorem rangeT_any {h : Nat} {w : World} {tag : Nat → Option Lf.Tg} {p : Nat} {s : Lf.S} {bl : Nat → Nat} {kv : Nat → Value} {rv : Value} (H : Hid (Lf.Mem h w tag p s bl kv rv)) {frm to : ByteArray} {L R : List Lf.Pg} {P : Lf.Pg} (hs : Hid (Lf.Spl s frm L P R)) (hz : Hid (Lf.Sm s)) (hI : Hid (Lf.Inv s)) (hto : to ≠ ⟨#[]⟩) (hft : Hid (Lf.lt frm to = true)) :
    Calls Try.prog 12 #[.pointer (some ⟨p, 0, none⟩), .string frm, .string to] w fun e w' => ∃ v1 v2, e = .returned (.tuple #[v1, v2]) ∧ Lf.Two w w' v1 v2 (Lf.rngK frm to (P :: R)) (Lf.rngL to (P :: R)) := by
  have HD := Mm.hid H.out.drew
  have HP := Mm.hid (place_any HD hs hz)
  obtain ⟨T, hT⟩ : ∃ T, T = P :: R := ⟨_, rfl⟩
  have HTS : Hid (s.pgs = L ++ T) := Mm.hid (by rw [hT]; exact hs.out.e)
  have hi : s.pgs[L.length]? = some P := by rw [hs.out.e]; simp
  obtain ⟨g, c, rfl, m1, m2, m3, m4, m5, m6⟩ := H.out.at hi
  have c1 := H.out.c1
  obtain ⟨l, hl⟩ : ∃ l, l = L.length := ⟨_, rfl⟩
  obtain ⟨n, hn⟩ : ∃ n, n = s.pgs.length := ⟨_, rfl⟩
  obtain ⟨t, ht⟩ : ∃ t, t = n - l := ⟨_, rfl⟩
  rw [← hn] at c1 m1 m2
  rw [← hl] at m2
  have HL := Mm.hid hl
  have HTL : Hid (T.length = t) := Mm.hid (by rw [ht, hn, hl, HTS.out]; simp)
  have HS0 : Hid (w.drew.cell? ⟨p, 1, none⟩ = some (.slice (some ⟨g, 0, none⟩) n c)) := Mm.hid c1
  have HSC : Hid (∀ w1, Below w.drew.heap.size w.drew w1 → w1.cell? ⟨p, 1, none⟩ = some (.slice (some ⟨g, 0, none⟩) n c)) := Mm.hid (fun w1 hb => (Mm.belAt hb _ (World.block_lt_of_cell? w _ c1)).trans c1)
  have hnb : n ≤ 10000 := by rw [hn]; exact hz.out.pl
  have htn : t ≤ 10000 := by omega
  have hlc : ¬ (c = l) := by omega
  have g1 : (0 : Int) ≤ (l : Int) := by omega
  have hln : l ≤ n := by omega
  have HAT : Hid (∀ (i : Nat) Q, T[i]? = some Q → s.pgs[l + i]? = some Q) := Mm.hid (fun i Q hQ => by rw [HTS.out, hl, List.getElem?_append_right (by omega), Nat.add_sub_cancel_left]; exact hQ)
  rw [← hT]
  have HNL : Hid (n - l = t) := Mm.hid ht.symm
  have HN := Mm.hid hn
  clear hi hl m3 m4 m5 m6 c1 hT hn m1 m2 ht
  have e0 : to.toList.isEmpty = false := Lf.ne_emp hto
  have HTO := Mm.hid hto
  have e2 : (Op.bytesLess to.toList frm.toList || to.toList == frm.toList) = false := by
    rw [show Op.bytesLess to.toList frm.toList = false from Lf.lt_as hft.out, Lf.eqB, decide_eq_false (fun e => Lf.lt_ne hft.out e.symm)]; rfl
  clear hto
  go_enter Try.func12, Try.ntmps12
  go_wp2_with fail
  go_step3
  go_wp2_with fail
  go_step3
  go_wp2_with fail
  go_region_held3 (fun w' => w'.cell? ⟨p, 1, none⟩ = some (.slice (some ⟨g, 0, none⟩) n c)) (first | (with_reducible exact HS0.out) | (with_reducible exact HS1.out) | fail)
    ((go_at_call 32
      with_reducible refine HP.out.mono ?_
      rintro e w1 ⟨rfl, hb⟩
      rw [← HL.out]
      have HB := Mm.hid hb
      have HS1 := Mm.hid (HSC.out w1 hb)
      clear hb))
  all_goals
    rw [HNL.out]
    have HB0 : Hid (Below w.heap.size w w1) := Mm.hid ⟨HB.out.os, HB.out.tape, HB.out.output, HB.out.size, HB.out.block⟩
    have HNM : Hid (n - l = t) := HNL
    go_wp2_with fail
    go_loopw [6, 7, 32] (fun vk vl vi wr => ∃ i : Nat, i ≤ t ∧ vi = .int .i64 (i : Int) ∧ Hid (Lf.Two w wr vk vl (Lf.keysIn frm to (T.take i)) (Lf.nums (T.take i)) ∧ ∀ (j : Nat) Q, j < i → T[j]? = some Q → Lf.upTo to Q = true)) (fun _ _ vi _ => t - (RowKit.intOf vi).toNat)
    case atStart => exact ⟨0, Nat.zero_le _, rfl, Mm.hid ⟨⟨Mm.Own.nil _ _ _, Mm.Own.nil _ _ _, (fun _ e => nomatch e), HB0.out⟩, fun j Q hj _ => absurd hj (Nat.not_lt_zero j)⟩⟩
    case round =>
      clear HB0 HB HS1
      obtain ⟨i, hi1, rfl, HI⟩ := hrel
      rename World => wr
      by_cases hlt : i < t
      · obtain ⟨Q, hQ⟩ : ∃ Q, T[i]? = some Q := ⟨T[i]'(by rw [HTL.out]; exact hlt), List.getElem?_eq_getElem _⟩
        have HQ := Mm.hid hQ
        have HMr := Mm.hid (H.out.below HI.out.1.bel)
        obtain ⟨g', c', e1, _, m2, m3, m4, m5, m6⟩ := HMr.out.at (HAT.out i Q hQ)
        injection e1 with e1 _ e7
        injection e1 with e1
        injection e1 with e1
        subst e1
        subst e7
        have hQm : Q ∈ s.pgs := List.mem_of_getElem? (HAT.out i Q hQ)
        have HQM := Mm.hid hQm
        have g2 : (0 : Int) ≤ (i : Int) := by omega
        have g3 : (i : Int) < (t : Int) := by omega
        clear hQ hQm m2
        cases htb : Op.bytesLess to.toList Q.b.toList
        rotate_left
        · have HFI : Hid (∀ vk vl, Lf.Two w wr vk vl (Lf.keysIn frm to (T.take i)) (Lf.nums (T.take i)) → Lf.Two w wr vk vl (Lf.rngK frm to T) (Lf.rngL to T)) := Mm.hid (fun vk vl hh => by
            have e : T.takeWhile (Lf.upTo to) = T.take i := Lf.takeW_at HI.out.2 HQ.out (by unfold Lf.upTo; rw [show Lf.lt to Q.b = true from htb, decide_eq_false HTO.out]; rfl)
            unfold Lf.rngK Lf.rngL
            rw [e]; exact hh)
          go_wp2_with fail
          try rw [Exit.noGoto_ret]
          go_ret2
          exact ⟨_, _, rfl, HFI.out _ _ HI.out.1⟩
        · have HTB : Hid (Lf.lt to Q.b = false) := Mm.hid htb
          have HUP : Hid (∀ (j : Nat) X, j < i + 1 → T[j]? = some X → Lf.upTo to X = true) := Mm.hid (fun j X hj hX => by
            rcases Nat.lt_or_ge j i with h1 | h1
            · exact HI.out.2 j X h1 hX
            · have h2 : j = i := by omega
              rw [h2, HQ.out] at hX
              cases hX; unfold Lf.upTo; rw [HTB.out]; simp)
          have HLN : Hid ((Mm.nts (Lf.nums (T.take i))).length < 1000000) := Mm.hid (by simp [Lf.nums]; omega)
          have HHB : Hid (w.heap.size ≤ wr.heap.size) := Mm.hid HI.out.1.bel.size
          obtain ⟨q1, cq1, evk, _⟩ := HI.out.1.o1.shape
          obtain ⟨Lq1, hLq1⟩ : ∃ Lq, Lq = (Lf.strs (Lf.keysIn frm to (T.take i))).length := ⟨_, rfl⟩
          rw [← hLq1] at evk
          subst evk
          clear hLq1
          obtain ⟨q2, cq2, evl, _⟩ := HI.out.1.o2.shape
          obtain ⟨Lq2, hLq2⟩ : ∃ Lq, Lq = (Mm.nts (Lf.nums (T.take i))).length := ⟨_, rfl⟩
          rw [← hLq2] at evl
          subst evl
          clear hLq2
          obtain ⟨q3, c3, ek, k1, k2, k3, k4, k5⟩ := HMr.out.ks HQM.out
          rw [ek] at m6
          obtain ⟨m, hm⟩ : ∃ m, m = Q.ks.length := ⟨_, rfl⟩
          rw [← hm] at m6
          have HMQ := Mm.hid hm
          have HKC := Mm.hid k5
          have hmb : m ≤ 10000 := by rw [hm]; exact hz.out.kl Q HQM.out
          have HWR : Hid (∀ w2, Below wr.heap.size wr w2 → w2.cell? ⟨bl Q.n, 2, none⟩ = some (.slice q3 m c3)) := Mm.hid (fun w2 hb => (Mm.belAt hb _ (World.block_lt_of_cell? wr _ m6)).trans m6)
          have HGR : Hid (∀ w2, wr.grownBy w2 (Value.slice q2 Lq2 cq2).ownBlock → w2.cell? ⟨bl Q.n, 2, none⟩ = some (.slice q3 m c3) ∧ Lf.Mem h w2 tag p s bl kv (.slice (some ⟨g, 0, none⟩) s.pgs.length c)) := Mm.hid (fun w2 hg => by
            have hb : Below w.heap.size wr w2 := (Below.refl _ _).grown hg HHB.out (fun g e => (HI.out.1.o2.lt e).2)
            have hM2 := H.out.below (HI.out.1.bel.trans hb)
            exact ⟨by rw [Mm.cellOf (hM2.pg Q HQM.out).cell rfl, ek, ← HMQ.out]; rfl, hM2⟩)
          clear hm k1 k2 k3 k4 k5
          go_wp2_with (at_builtin; refine Mm.appI wr rfl _ _ rfl w.heap.size (.slice q2 Lq2 cq2) (Q.n : Int) _ rfl HI.out.1.o2 _ rfl (by simp) HLN.out HHB.out ?_; intro v1 w1 h1 h2 h3; have HA := Mm.hid (HI.out.1.add2 h1 h2 h3); have HM1 := Mm.hid (HGR.out w1 h2).2; have m7 := (HGR.out w1 h2).1)
          clear h1 h2 h3 m3 m4 m5 m6 m7
          have HA2 : Hid (Lf.Two w w1 (.slice q1 Lq1 cq1) v1 (Lf.keysIn frm to (T.take i)) (Lf.nums (T.take (i + 1)))) := Mm.hid (by
            have e : Lf.nums (T.take (i + 1)) = Lf.nums (T.take i) ++ [Q.n] := by rw [List.take_add_one, HQ.out]; simp [Lf.nums]
            rw [e]; exact HA.out)
          clear HA
          go_loopw [6, 58] (fun vk vj w2 => ∃ j : Nat, j ≤ m ∧ vj = .int .i64 (j : Int) ∧ Hid (Lf.Two w w2 vk v1 (Lf.keysIn frm to (T.take i) ++ (Q.ks.take j).filter (Lf.inR frm to)) (Lf.nums (T.take (i + 1))))) (fun _ vj _ => m - (RowKit.intOf vj).toNat)
          case atStart => exact ⟨0, Nat.zero_le _, rfl, Mm.hid (by simpa using HA2.out)⟩
          case round =>
            clear HA2
            obtain ⟨j, hj1, rfl, HJ⟩ := hrel
            rename World => w2
            by_cases hjm : j < m
            · obtain ⟨k, hk⟩ : ∃ k, Q.ks[j]? = some k := ⟨Q.ks[j]'(by rw [← HMQ.out]; exact hjm), List.getElem?_eq_getElem _⟩
              have HK := Mm.hid hk
              have HM2 := Mm.hid (H.out.below HJ.out.bel)
              obtain ⟨q4, c4, ek4, _, _, _, _, k6⟩ := HM2.out.ks HQM.out
              rw [ek] at ek4
              injection ek4 with ek4 _ _
              obtain ⟨g4, ek5, hcell⟩ := k6 j k hk
              rw [← ek4] at ek5
              subst ek5
              have f1 : (0 : Int) ≤ (j : Int) := by omega
              have f2 : (j : Int) < (m : Int) := by omega
              have HTK : Hid (Q.ks.take (j + 1) = Q.ks.take j ++ [k]) := Mm.hid (by rw [List.take_add_one, hk]; rfl)
              clear hk k6 ek4
              obtain ⟨q5, cq5, ev5, _⟩ := HJ.out.o1.shape
              obtain ⟨Lq5, hLq5⟩ : ∃ Lq, Lq = (Lf.strs (Lf.keysIn frm to (T.take i) ++ (Q.ks.take j).filter (Lf.inR frm to))).length := ⟨_, rfl⟩
              rw [← hLq5] at ev5
              subst ev5
              have HL5 : Hid (Lq5 = (Lf.strs (Lf.keysIn frm to (T.take i) ++ (Q.ks.take j).filter (Lf.inR frm to))).length) := Mm.hid hLq5
              clear hLq5
              have HHB2 : Hid (w.heap.size ≤ w2.heap.size) := Mm.hid HJ.out.bel.size
              have HCNT : Hid ((Lf.strs (Lf.keysIn frm to (T.take i) ++ (Q.ks.take j).filter (Lf.inR frm to))).length ≤ 900000) := Mm.hid (Lf.cnt_le hz.out.su HTS.out HQ.out)
              cases hkf : Op.bytesLess k.toList frm.toList
              · cases hkt : Op.bytesLess k.toList to.toList
                · have HFI : Hid (∀ vk, Lf.Two w w2 vk v1 (Lf.keysIn frm to (T.take i) ++ (Q.ks.take j).filter (Lf.inR frm to)) (Lf.nums (T.take (i + 1))) → Lf.Two w w2 vk v1 (Lf.rngK frm to T) (Lf.rngL to T)) := Mm.hid (fun vk hh => by
                    have e : T.takeWhile (Lf.upTo to) = T.take (i + 1) := Lf.takeW_stop HUP.out (hI.out.bd) HTS.out HQ.out (List.mem_of_getElem? HK.out) HTO.out hkt
                    unfold Lf.rngK Lf.rngL
                    rw [e]
                    have e3 : Lf.keysIn frm to (T.take (i + 1)) = Lf.keysIn frm to (T.take i) ++ Q.ks.filter (Lf.inR frm to) := by
                      rw [List.take_add_one, HQ.out]
                      show Lf.keysIn frm to (T.take i ++ [Q]) = _
                      rw [Lf.keysIn_app, Lf.keysIn_one]
                    rw [e3, Lf.stop_keys (hI.out.ks Q HQM.out).1 HK.out HTO.out hkt]
                    exact hh)
                  go_wp2_with fail
                  try rw [Exit.noGoto_ret]
                  go_ret2
                  exact ⟨_, _, rfl, HFI.out _ HJ.out⟩
                · go_wp2_with (at_builtin; refine Lf.appT w2 rfl _ _ rfl w.heap.size (.slice q5 Lq5 cq5) k _ rfl HJ.out.o1 _ rfl (by simp) (by have := HL5.out; have := HCNT.out; omega) HHB2.out ?_; intro v5 w5 h1 h2 h3; have HA5 := Mm.hid (HJ.out.add1 h1 h2 h3))
                  have HN2 : Hid (Lf.Two w w5 v5 v1 (Lf.keysIn frm to (T.take i) ++ (Q.ks.take (j + 1)).filter (Lf.inR frm to)) (Lf.nums (T.take (i + 1)))) := Mm.hid (by
                    have e : [k].filter (Lf.inR frm to) = [k] := by
                      have : Lf.inR frm to k = true := by unfold Lf.inR; rw [show Lf.lt k frm = false from hkf]; rw [show Lf.lt k to = true from hkt]; simp
                      simp [this]
                    rw [HTK.out, List.filter_append, e, ← List.append_assoc]; exact HA5.out)
                  exact ⟨⟨v5, .string k, .int .i64 ((j : Int) + 1), ⟨j + 1, by omega, by go_num, HN2⟩, rfl, rfl, rfl⟩, by simp [RowKit.intOf]; omega⟩
              · have HN2 : Hid (Lf.Two w w2 (.slice q5 Lq5 cq5) v1 (Lf.keysIn frm to (T.take i) ++ (Q.ks.take (j + 1)).filter (Lf.inR frm to)) (Lf.nums (T.take (i + 1)))) := Mm.hid (by
                  have e : [k].filter (Lf.inR frm to) = [] := by
                    have : Lf.inR frm to k = false := by unfold Lf.inR; rw [show Lf.lt k frm = true from hkf]; rfl
                    simp [this]
                  rw [HTK.out, List.filter_append, e, List.append_nil]; exact HJ.out)
                go_wp2_with fail
                exact ⟨⟨j + 1, by omega, by go_num, HN2⟩, by simp [RowKit.intOf]; omega⟩
            · have he : j = m := by omega
              subst he
              have HN2 : Hid (∀ vk, Lf.Two w w2 vk v1 (Lf.keysIn frm to (T.take i) ++ (Q.ks.take j).filter (Lf.inR frm to)) (Lf.nums (T.take (i + 1))) → Lf.Two w w2 vk v1 (Lf.keysIn frm to (T.take (i + 1))) (Lf.nums (T.take (i + 1)))) := Mm.hid (fun vk hh => by
                have e : Lf.keysIn frm to (T.take (i + 1)) = Lf.keysIn frm to (T.take i) ++ Q.ks.filter (Lf.inR frm to) := by
                  rw [List.take_add_one, HQ.out]
                  show Lf.keysIn frm to (T.take i ++ [Q]) = _
                  rw [Lf.keysIn_app, Lf.keysIn_one]
                rw [e]
                have e2 : Q.ks.take j = Q.ks := List.take_of_length_le (by rw [HMQ.out]; exact Nat.le_refl _)
                rw [e2] at hh
                exact hh)
              have HN3 := Mm.hid (And.intro (HN2.out _ HJ.out) HUP.out)
              go_wp2_with fail
              exact ⟨⟨i + 1, by omega, by go_num, HN3⟩, by simp [RowKit.intOf]; omega⟩
      · have he : i = t := by omega
        subst he
        have HFI : Hid (∀ vk vl, Lf.Two w wr vk vl (Lf.keysIn frm to (T.take i)) (Lf.nums (T.take i)) → Lf.Two w wr vk vl (Lf.rngK frm to T) (Lf.rngL to T)) := Mm.hid (fun vk vl hh => by
          have e : T.takeWhile (Lf.upTo to) = T := Lf.takeW_all (fun j X hX => HI.out.2 j X (by rw [← HTL.out]; exact (List.getElem?_eq_some_iff.1 hX).1) hX)
          unfold Lf.rngK Lf.rngL
          rw [e]
          rw [List.take_of_length_le (by rw [HTL.out]; exact Nat.le_refl _)] at hh
          exact hh)
        go_wp2_with fail
        try rw [Exit.noGoto_ret]
        go_ret2
        exact ⟨_, _, rfl, HFI.out _ _ HI.out.1⟩
end Go.Proofs.Ytjnaafgiokdcbaa
