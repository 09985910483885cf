/- Laws over an index: what they share. -/
import Derived.Test.YtjnaafgiokdcbaaGreatDoorI7
namespace Go.Proofs.YtjnaafgiokdcbaaGreatDoor
open Go.RowKit

namespace Ix
open Vl Ky
theorem fil_split : ∀ {F : List ByteArray} (_ : Lf.Up F) {a b c : ByteArray} (_ : Lf.lt b a = false) (_ : Lf.lt c b = false), F.filter (fun k => !Lf.lt k a && Lf.lt k c) = F.filter (fun k => !Lf.lt k a && Lf.lt k b) ++ F.filter (fun k => !Lf.lt k b && Lf.lt k c)
  | [], _, _, _, _, _, _ => rfl
  | k :: r, hF, a, b, c, hab, hbc => by
    have hr := (List.pairwise_cons.1 hF).2
    have ih := fil_split (F := r) hr hab hbc
    cases ha : Lf.lt k a with
    | true =>
      have hb : Lf.lt k b = true := Lf.lt_le ha hab
      rw [List.filter_cons_of_neg (by rw [ha]; simp), List.filter_cons_of_neg (by rw [ha]; simp), List.filter_cons_of_neg (by rw [hb]; simp)]
      exact ih
    | false =>
      cases hb : Lf.lt k b with
      | true =>
        have hc : Lf.lt k c = true := Lf.lt_le hb hbc
        rw [List.filter_cons_of_pos (by rw [ha, hc]; rfl), List.filter_cons_of_pos (by rw [ha, hb]; rfl), List.filter_cons_of_neg (by rw [hb]; simp), ih]
        rfl
      | false =>
        have h0 : r.filter (fun k => !Lf.lt k a && Lf.lt k b) = [] := List.filter_eq_nil_iff.2 (fun x hx hin => by
          rw [Bool.and_eq_true] at hin
          have h1 := (List.pairwise_cons.1 hF).1 x hx
          rw [Lf.lt_tr h1 hin.2] at hb; cases hb)
        rw [h0, List.nil_append] at ih
        rw [List.filter_cons_of_neg (p := fun k => !Lf.lt k a && Lf.lt k b) (by rw [hb]; simp), h0, List.nil_append]
        cases hc : Lf.lt k c with
        | true => rw [List.filter_cons_of_pos (by rw [ha, hc]; rfl), List.filter_cons_of_pos (by rw [hb, hc]; rfl), ih]
        | false => rw [List.filter_cons_of_neg (by rw [hc]; simp), List.filter_cons_of_neg (by rw [hc]; simp), ih]
/-- A whole number as a value. -/
def vI (n : Int) : V := ⟨2, n, 0, ⟨#[]⟩⟩
theorem gI {n : Int} (h1 : -9223372036854775808 ≤ n) (h2 : n ≤ 9223372036854775807) : GoodV (vI n) := Ky.good_2 h1 h2
theorem cmpI (a b : Int) : cmpV (vI a) (vI b) = cmpZ a b := cmpV_n rfl rfl rfl
theorem e0 {v : V} (hv : GoodV v) : entE v 0 = 0 := entE_good (n := 0) hv (by omega)
theorem b0 {v : V} (hv : GoodV v) : entB v 0 = ent (v, 0) := entB_good (n := 0) hv (by omega)
theorem parts_range {s : Lf.S} (hI : Lf.Inv s) {a b c : Int} (ha : GoodV (vI a)) (hb : GoodV (vI b)) (hc : GoodV (vI c)) (h1 : a ≤ b) (h2 : b ≤ c) : rangeT s (vI a) (vI c) = rangeT s (vI a) (vI b) ++ rangeT s (vI b) (vI c) := by
  have le : ∀ {x y : Int} (hx : GoodV (vI x)) (hy : GoodV (vI y)), x ≤ y → Lf.lt (ent (vI y, 0)) (ent (vI x, 0)) = false := fun {x y} hx hy h => by
    rw [lt_least ⟨hy, Nat.zero_lt_succ _⟩ hx]
    refine decide_eq_false ?_
    show ¬ cmpV (vI y) (vI x) < 0
    rw [cmpI]
    unfold cmpZ
    rw [if_neg (by omega)]
    split <;> omega
  unfold rangeT
  rw [if_pos ⟨e0 ha, e0 hc⟩, if_pos ⟨e0 ha, e0 hb⟩, if_pos ⟨e0 hb, e0 hc⟩, b0 ha, b0 hb, b0 hc, span_fil hI (ent_ne _), span_fil hI (ent_ne _), span_fil hI (ent_ne _), ← List.map_append]
  congr 1
  exact fil_split (Lf.flat_up hI) (le ha hb h1) (le hb hc h2)
theorem good_k2 {p : V} (hp : GoodV p) {n : Int} : cmpV p (vI n) = if p.k < 2 then -1 else if 2 < p.k then 1 else cmpZ p.n n := by
  rcases hp.cases with ⟨k1, k2, k3, k4⟩ | ⟨k1, k2, k3, k4⟩ | ⟨k1, k3, k4⟩ | ⟨k1, k2, k3, k4⟩ | ⟨k1, k2, k3, k4⟩
  · rw [if_pos (by omega)]; exact cmpV_k1 (show p.k < 2 by omega)
  · rw [if_pos (by omega)]; exact cmpV_k1 (show p.k < 2 by omega)
  · rw [if_neg (by omega), if_neg (by omega)]
    exact cmpV_n (by rw [k1]; rfl) (by rw [k3]; rfl) (by rw [k4]; rfl)
  · rw [if_neg (by omega), if_pos (by omega)]; exact cmpV_k2 (show 2 < p.k by omega)
  · rw [if_neg (by omega), if_pos (by omega)]; exact cmpV_k2 (show 2 < p.k by omega)
theorem parts_find {s : Lf.S} {E : List (V × Nat)} (hE : Et s E) (hI : Lf.Inv s) {a : Int} (ha : GoodV (vI a)) (hb : GoodV (vI (a + 1))) : findT s (vI a) = rangeT s (vI a) (vI (a + 1)) := by
  unfold findT rangeT
  rw [if_pos (e0 ha), if_pos ⟨e0 ha, e0 hb⟩, find_tids hE hI ha, range_tids hE hI ha hb]
  congr 1
  refine List.filter_congr (fun p hp => ?_)
  unfold sameF betwF
  rw [good_k2 (hE.g p hp).g, good_k2 (hE.g p hp).g, Bool.eq_iff_iff]
  simp only [Bool.and_eq_true, Bool.not_eq_true', decide_eq_true_eq, decide_eq_false_iff_not]
  unfold cmpZ
  repeat' split
  all_goals omega
theorem add_et {s s' : Lf.S} {E : List (V × Nat)} {v : V} {n : Int} {l f t er : Nat} (hE : Et s E) (hv : In v) (h : AddR s v n s' l f t er) : ∃ E', Et s' E' := by
  rcases h with ⟨_, rfl, _⟩ | ⟨h0, h⟩
  · exact ⟨E, hE⟩
  · obtain ⟨m, _, hg, e⟩ := entB_ok hv h0
    rw [e] at h
    rcases et_ins hE hg h with ⟨_, A, B, _, h⟩ | ⟨_, rfl, _⟩
    · exact ⟨_, h⟩
    · exact ⟨E, hE⟩
theorem drop_et {s s' : Lf.S} {E : List (V × Nat)} {v : V} {n : Int} {l f t er : Nat} (hI : Lf.Inv s) (hE : Et s E) (hv : In v) (h : DropR s v n s' l f t er) : ∃ E', Et s' E' := by
  rcases h with ⟨_, rfl, _⟩ | ⟨h0, h⟩
  · exact ⟨E, hE⟩
  · obtain ⟨m, _, hg, e⟩ := entB_ok hv h0
    rw [e] at h
    rcases et_rem hI hE hg h with ⟨_, A, B, _, h⟩ | ⟨_, rfl, _⟩
    · exact ⟨_, h⟩
    · exact ⟨E, hE⟩
theorem fitIn {v : V} (h : v.Fit) : In v := ⟨h.n1, h.n2, h.f⟩
end Ix

namespace Ix
theorem mid_ok {n0 n1 n2 mn sm mx md : Int} (hn : (-128 ≤ n0 ∧ n0 ≤ 127) ∧ (-128 ≤ n1 ∧ n1 ≤ 127) ∧ (-128 ≤ n2 ∧ n2 ≤ 127)) (h1 : wrap64 (if n2 < if n1 < n0 then n1 else n0 then n2 else if n1 < n0 then n1 else n0) = mn) (h2 : wrap64 (wrap64 (wrap64 n0 + wrap64 n1) + wrap64 n2) = sm)
    (h3 : wrap64 (if (if n0 < n1 then n1 else n0) < n2 then n2 else if n0 < n1 then n1 else n0) = mx) (h4 : wrap64 (wrap64 (sm - mn) - mx) = md) : mn ≤ md ∧ md ≤ mx ∧ -128 ≤ mn ∧ mx ≤ 127 := by
  subst h1 h2 h3 h4
  unfold wrap64
  repeat' split
  all_goals omega
theorem wrap_of {n : Int} (h : -9223372036854775808 ≤ n ∧ n ≤ 9223372036854775807) : wrap64 n = n := by unfold wrap64; omega
theorem Iq.same {h : Nat} {w w' : World} {tag : Nat → Option Lf.Tg} {b p : Nat} {s : Lf.S} {N : Nat} (H : Iq h w tag b p s N) (he : w'.heap = w.heap) : Iq h w' tag b p s N :=
  ⟨H.q.keep (by rw [he]; exact Nat.le_refl _) (fun g _ _ => by rw [he]), by rw [he]; exact H.bx, H.t⟩
theorem own_empty {w : World} {g : Nat} (h : w.heap[g]? = some (.cells #[] 3 (0, 0))) : Mm.Own w g 3 (.slice (some ⟨g, 0, none⟩) 0 0) (Mm.nts []) :=
  ⟨rfl, Or.inr ⟨g, 0, #[], rfl, Nat.le_refl _, h, Nat.le_refl _, Nat.zero_le _, rfl, rfl⟩⟩
/-- append(s, x...) of numbers. -/
theorem appRow {ops : Array Oper} {rest : List Oper} {o : Oper} {a : Act} {w : World} {Q : Exit → Act → World → Prop} (hgd : o.guard = none) (s x : Operand)
    (ho : o.op = .call { callee := .builtin .append, args := #[s, x], argTypes := #[44, 44] }) (base b2 : Nat) (v vx : Value) (xs ys : List Nat) (hs : a.eval s = v) (hown : Mm.Own w base 3 v (Mm.nts xs)) (hx : a.eval x = vx) (hox : Mm.Own w b2 3 vx (Mm.nts ys)) (hlen : xs.length + ys.length < 1000000) (hbase : base ≤ w.heap.size)
    (h : ∀ v' w', Mm.Own w' base 3 v' (Mm.nts (xs ++ ys)) → w.grownBy w' v.ownBlock → wpList Tryz.prog ops Q rest (a.put o.dst v') w') : wpList Tryz.prog ops Q (o :: rest) a w := by
  obtain ⟨i, h1, h2, h3, h4⟩ := Mm.int1
  rcases hox.2 with ⟨e1, e2⟩ | ⟨g, cap, cur, e1, e2, e3, e4⟩
  · have e0 : ys = [] := by rw [Mm.nts_len] at e2; exact List.length_eq_zero_iff.1 e2
    subst e0
    refine wpList_append_own_none hgd s x 44 ho base 3 i 1 Tryz.underlying44 h1 v _ _ hs hown (hx.trans e1) ?_
    refine h v w (by rw [List.append_nil]; exact hown) ⟨rfl, rfl, rfl, Nat.le_refl _, fun _ _ _ => rfl⟩
  · have hox' := hox
    rw [e1] at hox'
    refine wpList_append_own_at w hgd s x 44 ho base 3 i (.int .i64 0) 1 8 Tryz.underlying44 h1 h2 h3 h4 rfl (by decide) v _ _ hs hown ⟨g, 0, none⟩ (Mm.nts ys).length cap (Mm.nts ys) (hx.trans e1) (by rw [Nat.mul_one]) (fun j u hu => by rw [Mm.addPlain, Nat.zero_add]; exact (hox'.cell hu).1) (Mm.nts_one ys) (by rw [Mm.nts_len, Mm.nts_len]; unfold maxLen; omega) (by rw [Mm.nts_len, Mm.nts_len]; omega) hbase (fun v' w' h5 h6 _ _ => h v' w' ?_ h6)
    unfold Mm.Own
    rw [Mm.nts_app, List.length_append]
    exact h5
end Ix

theorem newI_q (fan : Nat) (h1 : 2 ≤ fan) (h2 : fan ≤ 64) (w : World) : Calls Tryz.prog 7 #[.int .i64 (fan : Int)] w fun e w' => ∃ pb pl tg, e = .returned (.tuple #[.pointer (some ⟨pb, 0, none⟩), .int .i64 0]) ∧ Ix.Iq w.heap.size w' tg pb pl (Lf.S0 fan) 0 ∧ Below w.heap.size w w' :=
  (newI_any fan h1 h2 w).mono fun e w' ⟨h3, h4⟩ => by
    subst h4
    exact ⟨_, _, _, h3, Ix.iq0 w fan h1 h2, Ix.bel1 w fan⟩
end Go.Proofs.YtjnaafgiokdcbaaGreatDoor
