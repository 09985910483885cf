/- The laws' helpers walked: Ints, Mod, few, wakes. -/
import Derived.Test.YthikdfcndppoaaaWa13
namespace Go.Proofs.Ythikdfcndppoaaa
open Go.RowKit

set_option maxRecDepth 100000 in
set_option maxHeartbeats 2000000 in
theorem ints_any (la lb : List Int) (pa pb : Option Addr) (ca cb : Nat) (w : World) (ha : Hid (Mm.IIn w pa la)) (hb : Hid (Mm.IIn w pb lb)) (hn : la.length ≤ 1000000) :
    Calls Try.prog 10 #[.slice pa la.length ca, .slice pb lb.length cb] w fun e w' => e = .returned (.bool (decide (la = lb))) ∧ Below w.heap.size w w' := by
  by_cases hl : la.length = lb.length
  · obtain ⟨n, hnn⟩ : ∃ n, n = la.length := ⟨_, rfl⟩
    rw [← hl, ← hnn]
    rw [← hnn] at hn
    have HN := Mm.hid hnn
    have HL := Mm.hid hl
    clear hl hnn
    go_enter Try.func10, Try.ntmps10
    go_wp2_with fail
    go_loopw [5] (fun vi wr => ∃ k : Nat, k ≤ n ∧ vi = .int .i64 (k : Int) ∧ Hid (∀ j : Nat, j < k → la[j]? = lb[j]?) ∧ Hid (Below w.heap.size w wr)) (fun vi _ => n - (RowKit.intOf vi).toNat)
    case atStart => exact ⟨0, by omega, rfl, fun j h => absurd h (Nat.not_lt_zero j), Below.refl _ _⟩
    case round =>
      obtain ⟨k, hk, rfl, HI, HB⟩ := hrel
      by_cases hlt : k < n
      · obtain ⟨a, ha1⟩ : ∃ a, la[k]? = some a := ⟨_, List.getElem?_eq_getElem (by rw [← HN.out]; exact hlt)⟩
        obtain ⟨b, hb1⟩ : ∃ b, lb[k]? = some b := ⟨_, List.getElem?_eq_getElem (by rw [← HL.out, ← HN.out]; exact hlt)⟩
        obtain ⟨g1, o1, rfl, _, hc1⟩ := (ha.out.below HB.out) k a ha1
        obtain ⟨g2, o2, rfl, _, hc2⟩ := (hb.out.below HB.out) k b hb1
        have HA := Mm.hid (And.intro ha1 hb1)
        have g01 : (0 : Int) ≤ (k : Int) := by omega
        have g02 : (k : Int) < (n : Int) := by omega
        have HCC : Hid (wr.drew.cell? ⟨g1, o1 + k, none⟩ = some (.int .i64 a) ∧ wr.drew.cell? ⟨g2, o2 + k, none⟩ = some (.int .i64 b)) := Mm.hid ⟨hc1, hc2⟩
        clear ha1 hb1 hc1 hc2
        by_cases e : a = b
        · have he : (a == b) = true := by simpa using e
          have HE := Mm.hid e
          clear e
          go_wp2_with fail
          go_region_held3 (fun w' => w'.cell? ⟨g1, o1 + k, none⟩ = some (.int .i64 a) ∧ w'.cell? ⟨g2, o2 + k, none⟩ = some (.int .i64 b)) (with_reducible exact HCC.out) (fail)
          go_wp2_with fail
          refine ⟨⟨k + 1, by omega, by go_num, fun j hj => ?_, HB.out.drew⟩, by simp [RowKit.intOf]; omega⟩
          by_cases ej : j = k
          · subst ej; rw [HA.out.1, HA.out.2, HE.out]
          · exact HI.out j (by omega)
        · have he : (a == b) = false := by simpa using e
          have HE : Hid (la ≠ lb) := Mm.hid (fun h => e (by have h1 := HA.out.1; rw [h, HA.out.2] at h1; injection h1 with h1; exact h1.symm))
          clear e
          go_wp2_with fail
          go_region_held3 (fun w' => w'.cell? ⟨g1, o1 + k, none⟩ = some (.int .i64 a) ∧ w'.cell? ⟨g2, o2 + k, none⟩ = some (.int .i64 b)) (with_reducible exact HCC.out) (fail)
          go_wp2_with fail
          go_ret
          exact ⟨by rw [decide_eq_false HE.out]; rfl, HB.out.drew⟩
      · have HE : Hid (la = lb) := Mm.hid (List.ext_getElem? (fun j => by
          by_cases hj : j < k
          · exact HI.out j hj
          · rw [List.getElem?_eq_none (by have := HN.out; omega), List.getElem?_eq_none (by have := HN.out; have := HL.out; omega)]))
        go_wp2_with fail
        go_ret
        exact ⟨by rw [decide_eq_true HE.out]; rfl, HB.out⟩
  · have hne : ((la.length : Int) == (lb.length : Int)) = false := by simp; omega
    have HE : Hid (la ≠ lb) := Mm.hid (fun h => hl (by rw [h]))
    clear hl
    go_enter Try.func10, Try.ntmps10
    go_wp2_with fail
    go_ret
    exact ⟨by rw [decide_eq_false HE.out]; rfl, Below.refl _ _⟩

set_option maxHeartbeats 1000000 in
theorem mod_any (a : Int) (m : Nat) (w : World) (h1 : 1 ≤ m) (h2 : m ≤ 1000) :
    Calls Try.prog 15 #[.int .i64 a, .int .i64 (m : Int)] w fun e w' => ∃ r : Nat, r < m ∧ e = .returned (.int .i64 (r : Int)) ∧ w' = w := by
  have hd : decide ((m : Int) < 1) = false := decide_eq_false (by omega)
  have hz : ((m : Int) == 0) = false := beq_eq_false_iff_ne.2 (by omega)
  have hz' : ¬ (m : Int) = 0 := by omega
  go_enter Try.func15, Try.ntmps15
  go_wp2_with fail
  go_ret
  have b1 : a.tmod (m : Int) < (m : Int) := Int.tmod_lt_of_pos a (by omega)
  have b2 : -(m : Int) < a.tmod (m : Int) := Int.lt_tmod_of_pos a (by omega)
  have e1 : wrap64 (a.tmod (m : Int) + (m : Int)) = a.tmod (m : Int) + (m : Int) := by
    generalize a.tmod (m : Int) = t at *
    unfold wrap64
    omega
  have e2 : (a.tmod (m : Int) + (m : Int)).tmod (m : Int) = (a.tmod (m : Int) + (m : Int)) % (m : Int) := Int.tmod_eq_emod_of_nonneg (by omega)
  have b3 : 0 ≤ (a.tmod (m : Int) + (m : Int)) % (m : Int) := Int.emod_nonneg _ (by omega)
  have b4 : (a.tmod (m : Int) + (m : Int)) % (m : Int) < (m : Int) := Int.emod_lt_of_pos _ (by omega)
  refine ⟨((a.tmod (m : Int) + (m : Int)) % (m : Int)).toNat, by omega, ?_, rfl⟩
  show Ending.returned (Value.int .i64 ((wrap64 (a.tmod (m : Int) + (m : Int))).tmod (m : Int))) = _
  rw [e1, e2, Int.toNat_of_nonneg b3]

namespace Mm
/-- The cells of edges. -/
def cellsE (l : Kn.El) : List Value := its (flat l)
theorem cellsE_len (l : Kn.El) : (cellsE l).length = l.length * 2 := by unfold cellsE; rw [its_len, flat_len]; omega
theorem cellsE_snoc (l : Kn.El) (x y : Int) : cellsE (l ++ [(x, y)]) = cellsE l ++ [.int .i64 x, .int .i64 y] := by unfold cellsE; rw [flat_snoc, its_app]; rfl
theorem cellsE_at : ∀ (l : Kn.El) (j : Nat) (e : Int × Int), l[j]? = some e → (cellsE l)[j * 2]? = some (.int .i64 e.1) ∧ (cellsE l)[j * 2 + 1]? = some (.int .i64 e.2)
  | [], j, e, h => by simp at h
  | x :: l, 0, e, h => by simp at h; subst h; simp [cellsE, flat, its]
  | x :: l, j + 1, e, h => by
    have ih := cellsE_at l j e (by simpa using h)
    rw [show (j + 1) * 2 = j * 2 + 2 from by omega, show j * 2 + 2 + 1 = (j * 2 + 1) + 2 from by omega]
    simpa [cellsE, flat, its] using ih
theorem cellsE_from : ∀ (l : Kn.El) (j : Nat) (c : Value), (cellsE l)[j]? = some c → ∃ i e, l[i]? = some e ∧ ((j = i * 2 ∧ c = .int .i64 e.1) ∨ (j = i * 2 + 1 ∧ c = .int .i64 e.2))
  | [], j, c, h => by simp [cellsE, flat, its] at h
  | x :: l, 0, c, h => ⟨0, x, rfl, by simp [cellsE, flat, its] at h; simp [h]⟩
  | x :: l, 1, c, h => ⟨0, x, rfl, by simp [cellsE, flat, its] at h; simp [h]⟩
  | x :: l, j + 2, c, h => by
    obtain ⟨i, e, h1, h2⟩ := cellsE_from l j c (by simpa [cellsE, flat, its] using h)
    refine ⟨i + 1, e, by simpa using h1, ?_⟩
    rcases h2 with h2 | h2
    · exact Or.inl ⟨by omega, h2.2⟩
    · exact Or.inr ⟨by omega, h2.2⟩
/-- Edges in a row of one's own. -/
def EOwn (w : World) (base : Nat) (v : Value) (l : Kn.El) : Prop := w.ownsRow base 31 2 v l.length (cellsE l)
theorem EOwn.ein {w : World} {base : Nat} {v : Value} {l : Kn.El} (h : EOwn w base v l) : ∃ q c, v = .slice q l.length c ∧ l.length ≤ c ∧ EIn w q l ∧ (q = none → l = [] ∧ c = 0) ∧ (∀ a, q = some a → ∃ g, a = ⟨g, 0, none⟩ ∧ base ≤ g) := by
  obtain ⟨h0, ⟨h1, h2⟩ | ⟨g, cap, cur, h1, h2, h3, h4, h5, h6, h7⟩⟩ := h
  · have hl : l = [] := List.length_eq_zero_iff.1 h2
    subst hl
    exact ⟨none, 0, h1, Nat.le_refl _, fun j e he => by simp at he, fun _ => ⟨rfl, rfl⟩, fun a e => nomatch e⟩
  · refine ⟨_, cap, h1, h4, fun j e he => ?_, (fun e => nomatch e), fun a e => ⟨g, by cases e; rfl, h2⟩⟩
    obtain ⟨c1, c2⟩ := cellsE_at l j e he
    have hj : j < l.length := (List.getElem?_eq_some_iff.1 he).1
    have hc : ∀ (i : Nat) (u : Value), (cellsE l)[i]? = some u → w.cell? ⟨g, i, none⟩ = some u := fun i u hu => by
      have hi : i < l.length * 2 := by rw [← cellsE_len]; exact (List.getElem?_eq_some_iff.1 hu).1
      refine cellOf h3 ?_
      rw [← h7, List.getElem?_take_of_lt hi] at hu
      simpa using hu
    exact ⟨g, 0, rfl, heapLt h3, by rw [Nat.zero_add]; exact hc _ _ c1, by rw [Nat.zero_add]; exact hc _ _ c2⟩
theorem EOwn.keep {w w' : World} {base : Nat} {v : Value} {l : Kn.El} (h : EOwn w base v l) (hb : Below w.heap.size w w') : EOwn w' base v l := by
  obtain ⟨h0, h1 | ⟨g, cap, cur, e1, e2, e3, e4⟩⟩ := h
  · exact ⟨h0, Or.inl h1⟩
  · exact ⟨h0, Or.inr ⟨g, cap, cur, e1, e2, by rw [hb.block g (heapLt e3)]; exact e3, e4⟩⟩
theorem EOwn.nil (w : World) (base : Nat) : EOwn w base (.slice none 0 0) [] := ⟨rfl, Or.inl ⟨rfl, rfl⟩⟩
theorem pair1 : ∃ i, Try.prog.info? 31 = some i ∧ i.zero = some (.agg #[.int .i64 0, .int .i64 0]) ∧ i.size = 2 ∧ i.bytes = 16 := ⟨_, Try.type31, rfl, rfl, rfl⟩
/-- append of edges that lie somewhere. -/
theorem appE {ops : Array Oper} {rest : List Oper} {o : Oper} {a : Act} {Q : Exit → Act → World → Prop} (w0 : World) (hgd : o.guard = none) (s x : Operand)
    (ho : o.op = .call { callee := .builtin .append, args := #[s, x], argTypes := #[22, 22] }) (base : Nat) (v : Value) (l m : Kn.El) (hs : a.eval s = v) (hown : EOwn w0 base v l) (q : Option Addr) (c : Nat) (hx : a.eval x = .slice q m.length c) (hm : EIn w0 q m) (hq : q = none → m = [] ∧ c = 0) (hlen : l.length + m.length < 100000) (hbase : base ≤ w0.heap.size)
    (h : ∀ v' w', EOwn w' base v' (l ++ m) → w0.grownBy w' v.ownBlock → wpList Try.prog ops Q rest (a.put o.dst v') w') : wpList Try.prog ops Q (o :: rest) a w0 := by
  obtain ⟨i, h1, h2, h3, h4⟩ := pair1
  cases q with
  | none =>
    obtain ⟨rfl, rfl⟩ := hq rfl
    exact wpList_append_own_none hgd s x 22 ho base 31 i 2 Try.underlying22 h1 v l.length (cellsE l) hs hown hx (h v w0 (by rw [List.append_nil]; exact hown) ⟨rfl, rfl, rfl, Nat.le_refl _, fun _ _ _ => rfl⟩)
  | some ad =>
    refine wpList_append_own_at _ hgd s x 22 ho base 31 i _ 2 16 Try.underlying22 h1 h2 h3 h4 rfl (by decide) v l.length (cellsE l) hs hown ad m.length c (cellsE m) hx (cellsE_len m) (fun j u hu => ?_) (fun u hu => by
      unfold cellsE at hu; exact its_one _ u hu) (by unfold maxLen; omega) (by omega) hbase (fun v' w' g1 g2 _ _ => h v' w' ?_ g2)
    · obtain ⟨i', e, he, hc⟩ := cellsE_from m j u hu
      obtain ⟨b, o', e1, _, c1, c2⟩ := hm i' e he
      cases e1
      rw [addPlain]
      rcases hc with ⟨rfl, rfl⟩ | ⟨rfl, rfl⟩
      · exact c1
      · rw [← Nat.add_assoc]; exact c2
    · unfold EOwn
      have e : cellsE (l ++ m) = cellsE l ++ cellsE m := by unfold cellsE flat; rw [List.flatMap_append, its_app]
      rw [e, List.length_append]
      exact g1
end Mm

set_option maxRecDepth 100000 in
set_option maxHeartbeats 1000000 in
theorem few_any (w : World) (q : Option Addr) (c n : Nat) (l : Kn.El) (hl : Hid (Mm.EIn w q l)) (hn : Hid (n = l.length)) (hn1 : n < 10000) (hq : Hid (q = none → c = 0)) :
    Calls Try.prog 7 #[.slice q n c] w fun e w' => ∃ v, e = .returned v ∧ Mm.EOwn w' w.heap.size v l ∧ Below w.heap.size w w' := by
  have HQ : Hid (q = none → l = [] ∧ c = 0) := Mm.hid (fun e => by
    refine ⟨?_, hq.out e⟩
    cases l with
    | nil => rfl
    | cons x t =>
      obtain ⟨b, o, e1, _⟩ := hl.out 0 x rfl
      rw [e] at e1
      cases e1)
  have hno := hn.out
  subst hno
  go_enter Try.func7, Try.ntmps7
  go_wp2_with (at_builtin; refine Mm.appE (w.alloc (.cells #[] 31)) rfl _ _ rfl w.heap.size (.slice (some ⟨w.heap.size, 0, none⟩) 0 0) [] l rfl ⟨rfl, Or.inr ⟨w.heap.size, 0, #[], rfl, Nat.le_refl _, Mm.newAt w _ rfl, Nat.le_refl _, Nat.zero_le _, rfl, rfl⟩⟩ q c rfl (hl.out.below ((Below.refl _ _).alloc (Nat.le_refl _) _)) HQ.out (by simp; omega) (by simp) ?_; intro v3 w3 hown3 hg3; have HX := Mm.hid (And.intro hown3 hg3); clear hown3 hg3)
  go_ret
  refine ⟨v3, rfl, HX.out.1, ((Below.refl _ _).alloc (Nat.le_refl _) _).grown HX.out.2 (by simp) (fun k e => by injection e with e; rw [← e]; exact Nat.le_refl _)⟩

namespace Mm
theorem einNew (w : World) (l : Kn.El) : EIn (w.alloc (.cells (cellsE l).toArray 31)) (some ⟨w.heap.size, 0, none⟩) l := fun j e he => by
  obtain ⟨c1, c2⟩ := cellsE_at l j e he
  refine ⟨w.heap.size, 0, rfl, by simp, ?_, ?_⟩
  · rw [Nat.zero_add]; exact cellOf (newAt w _ rfl) (by simpa using c1)
  · rw [Nat.zero_add]; exact cellOf (newAt w _ rfl) (by simpa using c2)
theorem iinNew (w : World) (l : List Int) : IIn (w.alloc (.cells (its l).toArray 3)) (some ⟨w.heap.size, 0, none⟩) l := fun j x hx => by
  refine ⟨w.heap.size, 0, rfl, by simp, ?_⟩
  rw [Nat.zero_add]
  exact cellOf (newAt w _ rfl) (by simpa using its_at hx)
/-- The example's edges. -/
def l3 : Kn.El := [(1, 2), (2, 1), (3, 2)]
theorem r3 {a b : Int} : Kn.R l3 a b ↔ (a = 1 ∧ b = 2) ∨ (a = 2 ∧ b = 1) ∨ (a = 3 ∧ b = 2) := by
  unfold Kn.R l3
  simp [Prod.ext_iff]
theorem rch3 {a b : Int} (h : Rch (Kn.R l3) a b) : (b = 1 ∨ b = 2) := by
  induction h with
  | one e => rcases r3.1 e with h | h | h <;> omega
  | step _ _ ih => exact ih
theorem k3 : Kn.Knots l3 [[1, 2]] := by
  have e12 : Kn.R l3 1 2 := r3.2 (by omega)
  have e21 : Kn.R l3 2 1 := r3.2 (by omega)
  have r12 : Rch (Kn.R l3) 1 2 := .one e12
  have r21 : Rch (Kn.R l3) 2 1 := .one e21
  have r11 := r12.trans r21
  have r22 := r21.trans r12
  refine ⟨fun k hk => ?_, fun k hk => ?_, fun k hk x hx y => ?_, fun x hx => ?_, by simp⟩
  · rw [List.mem_singleton.1 hk]; simp
  · rw [List.mem_singleton.1 hk]; unfold Kn.Rising; simp
  · rw [List.mem_singleton.1 hk] at hx ⊢
    simp only [List.mem_cons, List.not_mem_nil, or_false] at hx ⊢
    constructor
    · intro hy
      rcases hx with rfl | rfl <;> rcases hy with rfl | rfl
      · exact ⟨r11, r11⟩
      · exact ⟨r12, r21⟩
      · exact ⟨r21, r12⟩
      · exact ⟨r22, r22⟩
    · rintro ⟨h1, _⟩; exact rch3 h1
  · refine ⟨[1, 2], by simp, ?_⟩
    rcases rch3 hx with rfl | rfl <;> simp
theorem v3 {v : Int} {ok : Bool} {K : List (List Int)} (h : Kn.Knots l3 K) (hv : Kn.IsVictim K v ok) : v = 2 ∧ ok = true := by
  obtain rfl := h.one k3 (fun _ _ => Iff.rfl)
  exact hv.one (by unfold Kn.IsVictim; rw [if_neg (by simp)]; exact ⟨rfl, ⟨[1, 2], by simp, by simp⟩, fun k hk x hx => by rw [List.mem_singleton.1 hk] at hx; simp at hx; omega⟩)
theorem f3 {f : List Int} (h : Kn.IsFree l3 f) : f = [] := by
  refine h.one ⟨List.Pairwise.nil, fun x => ?_⟩
  constructor
  · intro h; cases h
  · rintro ⟨⟨e, he, h1⟩, h2⟩
    exfalso
    have a1 := h2 (1, 2) (by simp [l3])
    have a2 := h2 (2, 1) (by simp [l3])
    have a3 := h2 (3, 2) (by simp [l3])
    simp only at a1 a2 a3
    unfold l3 at he
    simp only [List.mem_cons, List.not_mem_nil, or_false] at he
    rcases he with rfl | rfl | rfl <;> simp only at h1 <;> omega
theorem f1 {f : List Int} (h : Kn.IsFree [(1, 2)] f) : f = [2] := by
  refine h.one ⟨by unfold Kn.Rising; simp, fun x => ?_⟩
  constructor
  · intro h
    rw [List.mem_singleton.1 h]
    exact ⟨⟨(1, 2), by simp, .inr rfl⟩, fun e he => by rw [List.mem_singleton.1 he]; decide⟩
  · rintro ⟨⟨e, he, h1⟩, h2⟩
    rw [List.mem_singleton.1 he] at h1
    have := h2 (1, 2) (by simp)
    simp only at this h1
    rw [List.mem_singleton]; omega
end Mm

set_option maxRecDepth 100000 in
set_option maxHeartbeats 4000000 in
theorem wakes_any (w : World) : Calls Try.prog 6 #[] w fun e w' => e = .returned (.bool true) ∧ Below w.heap.size w w' := by
  obtain ⟨w1, hw1⟩ : ∃ w1, w.alloc (.cells #[.int .i64 1, .int .i64 2, .int .i64 2, .int .i64 1, .int .i64 3, .int .i64 2] 31) = w1 := ⟨_, rfl⟩
  have hE1 : Mm.EIn w1 (some ⟨w.heap.size, 0, none⟩) Mm.l3 := by rw [← hw1]; exact Mm.einNew w Mm.l3
  have hB1 : Below w.heap.size w w1 := by rw [← hw1]; exact (Below.refl _ _).alloc (Nat.le_refl _) _
  have HE1 := Mm.hid hE1
  have HB1 := Mm.hid hB1
  clear hE1 hB1
  go_enter Try.func6, Try.ntmps6
  go_wp2_with fail
  refine (circles_any w1 (some ⟨w.heap.size, 0, none⟩) 3 Mm.l3 3 HE1 (Mm.hid rfl) (by omega)).mono ?_
  rintro e w2 ⟨q, c, K, rfl, hK, _, hkn, hb⟩
  obtain rfl := hkn.one Mm.k3 (fun _ _ => Iff.rfl)
  have HK := Mm.hid hK
  have HB2 := Mm.hid (Mm.belTr HB1.out (Nat.le_refl _) hb)
  have HE2 := Mm.hid (HE1.out.below hb)
  clear hK hb hkn hw1 HE1 HB1
  go_wp2_with fail
  refine (victim_any w2 (some ⟨w.heap.size, 0, none⟩) 3 Mm.l3 3 HE2 (Mm.hid rfl) (by omega)).mono ?_
  rintro e w3 ⟨v, ok, K2, rfl, hkn, hv, hb⟩
  obtain ⟨rfl, rfl⟩ := Mm.v3 hkn hv
  have HK3 := Mm.hid (HK.out.below hb)
  have HB3 := Mm.hid (Mm.belTr HB2.out (Nat.le_refl _) hb)
  have HE3 := Mm.hid (HE2.out.below hb)
  clear hkn hv hb HK HB2 HE2
  obtain ⟨b, o, g, cc, rfl, hc0, hl0, hr0⟩ := HK3.out.at (i := 0) (k := [1, 2]) rfl
  have hgl : g < w3.heap.size := by
    obtain ⟨_, _, g', _, e1, _, e3, _, e5, _⟩ := HK3.out 0 [1, 2] rfl
    cases e1
    rw [hc0] at e3
    cases e3
    exact e5
  have HI3 : Hid (Mm.IIn w3 (some ⟨g, 0, none⟩) [1, 2]) := Mm.hid (fun j x hx => ⟨g, 0, rfl, hgl, by rw [Nat.zero_add]; exact hr0 j x hx⟩)
  rw [Nat.add_zero] at hc0
  have hc0' : w3.cell? ⟨b, o, none⟩ = some (.slice (some ⟨g, 0, none⟩) 2 cc) := hc0
  clear hr0 hc0 hgl HK3
  go_wp2_with fail
  have hA4 : Below w3.heap.size w3 (w3.alloc (.cells #[.int .i64 1, .int .i64 2] 3)) := (Below.refl _ _).alloc (Nat.le_refl _) _
  refine (ints_any [1, 2] [1, 2] (some ⟨g, 0, none⟩) (some ⟨w3.heap.size, 0, none⟩) cc 2 _ (Mm.hid (HI3.out.below hA4)) (Mm.hid (Mm.iinNew w3 [1, 2])) (by decide)).mono ?_
  rintro e w4 ⟨rfl, hb⟩
  have HB4 := Mm.hid (Mm.belTr (Mm.belTr HB3.out (Nat.le_refl _) hA4) (Nat.le_refl _) hb)
  have HE4 := Mm.hid ((HE3.out.below hA4).below hb)
  clear hA4 hb
  go_wp2_with fail
  refine (free_any w4 (some ⟨w.heap.size, 0, none⟩) 3 Mm.l3 3 HE4 (Mm.hid rfl) (by omega)).mono ?_
  rintro e w5 ⟨q5, c5, f5, rfl, _, _, hf, hb⟩
  obtain rfl := Mm.f3 hf
  have HB5 := Mm.hid (Mm.belTr HB4.out (Nat.le_refl _) hb)
  clear hf hb
  go_wp2_with fail
  have hA6 : Below w5.heap.size w5 (w5.alloc (.cells #[.int .i64 1, .int .i64 2] 31)) := (Below.refl _ _).alloc (Nat.le_refl _) _
  refine (free_any (w5.alloc (.cells #[.int .i64 1, .int .i64 2] 31)) (some ⟨w5.heap.size, 0, none⟩) 1 [(1, 2)] 1 (Mm.hid (Mm.einNew w5 [(1, 2)])) (Mm.hid rfl) (by omega)).mono ?_
  rintro e w6 ⟨q6, c6, f6, rfl, hi6, _, hf, hb⟩
  obtain rfl := Mm.f1 hf
  have HB6 := Mm.hid (Mm.belTr (Mm.belTr HB5.out (Nat.le_refl _) hA6) (Nat.le_refl _) hb)
  have HI6 := Mm.hid hi6
  clear hA6 hf hb hi6
  go_wp2_with fail
  have hA7 : Below w6.heap.size w6 (w6.alloc (.cells #[.int .i64 2] 3)) := (Below.refl _ _).alloc (Nat.le_refl _) _
  refine (ints_any [2] [2] q6 (some ⟨w6.heap.size, 0, none⟩) c6 1 _ (Mm.hid (HI6.out.below hA7)) (Mm.hid (Mm.iinNew w6 [2])) (by decide)).mono ?_
  rintro e w7 ⟨rfl, hb⟩
  have HB7 := Mm.hid (Mm.belTr (Mm.belTr HB6.out (Nat.le_refl _) hA7) (Nat.le_refl _) hb)
  clear hA7 hb
  go_wp2_with fail
  go_ret
  exact ⟨rfl, HB7.out⟩
end Go.Proofs.Ythikdfcndppoaaa
