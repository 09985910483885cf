/- The reference's Add. -/
import Derived.Test.YtaclkmhgbmencaaG6
import Derived.Test.YtaclkmhgbmencaaG9
import Derived.Test.YtaclkmhgbmencaaH4
import Derived.Deep.RegionHeld3
namespace Go.Proofs.Ytaclkmhgbmencaa
open Go.RowKit
attribute [local go_sem] Fl.run_store_float

namespace Vl
theorem new_at2 {w : World} (x : Obj) {n : Nat} (h : n = w.heap.size) : (w.alloc x).heap[n]? = some x := by subst h; exact new_at w x
theorem own_at {w : World} {base g size : Nat} {t : TypeId} (h : w.heap[g]? = some (.cells #[] t)) (hb : base ≤ g) : w.ownsRow base t size (.slice (some ⟨g, 0, none⟩) 0 0) 0 [] :=
  ⟨by simp, Or.inr ⟨g, 0, #[], rfl, hb, h, Nat.le_refl _, Nat.zero_le _, by simp, by simp⟩⟩
theorem own_drew {w : World} {base size n : Nat} {e : TypeId} {v : Value} {xs : List Value} (h : w.ownsRow base e size v n xs) : w.drew.ownsRow base e size v n xs := h
theorem blk_lt {B g n c : Nat} (h : B < g) : ∀ k, (Value.slice (some ⟨g, 0, none⟩) n c).ownBlock = some k → B < k := fun k hk => by cases hk; exact h
theorem C7.grown {w w1 : World} {b o : Nat} {c : Col} {row : Option Nat} (h : C7 w b o c) (hg : w.grownBy w1 row) (hne : some b ≠ row) : C7 w1 b o c := by
  have e : ∀ j, w1.cell? ⟨b, j, none⟩ = w.cell? ⟨b, j, none⟩ := fun j => World.cell?_of_block (hg.block b h.lt hne)
  exact ⟨Nat.lt_of_lt_of_le h.lt hg.size, (e _).trans h.c0, (e _).trans h.c1, (e _).trans h.c2, (e _).trans h.c3, (e _).trans h.c4, (e _).trans h.c5, (e _).trans h.c6⟩
theorem CB.al {w0 w : World} {c : Col} (h : CB w0 c w) (x : Obj) : CB w0 c (w.alloc x) := ⟨h.c.al x, bal h.b x⟩
theorem CB.grown {w0 w w1 : World} {c : Col} {row : Option Nat} (h : CB w0 c w) (hg : w.grownBy w1 row) (hr : ∀ k, row = some k → w0.heap.size < k) : CB w0 c w1 :=
  ⟨h.c.grown hg (fun e => Nat.lt_irrefl _ (hr _ e.symm)), h.b.grown hg h.b.size (fun k hk => Nat.le_of_lt (hr k hk))⟩
theorem CB.gbel {w0 w w1 : World} {c : Col} {row : Option Nat} (h : CB w0 c w) (hg : w.grownBy w1 row) (hr : ∀ k, row = some k → w0.heap.size ≤ k) : Below w0.heap.size w0 w1 := h.b.grown hg h.b.size hr
/-- append, as one step of a region that draws. -/
theorem step_append {P : Program} {ops : Array Oper} {o : Oper} {a : Act} {w : World} {K : Act → World → Prop} {Q : Exit → Act → World → Prop} {E : Prop}
    (hgd : o.guard = none) (s x : Operand) (t : TypeId) (hop : o.op = Op.call { callee := Callee.builtin Builtin.append, args := #[s, x], argTypes := #[t, t] })
    (base : Nat) (e : TypeId) (i : TypeInfo) (z : Value) (size bytes : Nat) (ht : P.underlying t = some (.slice e)) (hi : P.info? e = some i) (hz : i.zero = some z)
    (hsize : i.size = size) (hby : i.bytes = bytes) (hzs : z.cells.size = size) (hsz : 0 < size)
    (v : Value) (n : Nat) (xs : List Value) (hs : a.eval s = v) (hown : w.ownsRow base e size v n xs)
    (p : Option Addr) (m c : Nat) (news : List Value) (hx : a.eval x = .slice p m c) (hnil : p = none → m = 0 ∧ c = 0) (hl : news.length = m * size) (hnews : Lies w p news) (h1 : ∀ u ∈ news, u.oneCell' = true)
    (h63 : n + m ≤ maxLen) (hbytes : (n + m) * bytes ≤ 140737488355328) (hbase : base ≤ w.heap.size)
    (hK : ∀ v' w', w'.ownsRow base e size v' (n + m) (xs ++ news) → w.grownBy w' v.ownBlock → K (a.put o.dst v') w') :
    if Region.wanted o (yielded ops a.tmps) = true then Oper.wp P o a w K Q else E := by
  have hw : Region.wanted o (yielded ops a.tmps) = true := by simp [Region.wanted, hgd]
  rw [if_pos hw]
  obtain ⟨v', w', hrun, r1, r2⟩ : ∃ v' w', (Builtin.append_ #[t, t] o.type #[v, .slice p m c]).run P w = .ok v' w' ∧ w'.ownsRow base e size v' (n + m) (xs ++ news) ∧ w.grownBy w' v.ownBlock := by
    cases p with
    | none =>
      obtain ⟨rfl, rfl⟩ := hnil rfl
      obtain rfl : news = [] := List.length_eq_zero_iff.1 (by omega)
      exact ⟨v, w, run_append_owned_none w base t o.type e i size ht hi v n xs hown, by simpa using hown, ⟨rfl, rfl, rfl, Nat.le_refl _, fun _ _ _ => rfl⟩⟩
    | some ad =>
      obtain ⟨v', w', r0, r1, r2, _⟩ := run_append_own w base t o.type e i z size bytes ht hi hz hsize hby hzs hsz v n xs hown ad m c news hl (fun j u hu => by
        rcases hnews with h0 | ⟨b, o', e1, _, e3⟩
        · rw [List.length_eq_zero_iff.1 h0] at hu; simp at hu
        · cases e1
          rw [add_plain]
          exact e3 j u hu) h1 h63 hbytes hbase
      exact ⟨v', w', r0, r1, r2⟩
  unfold Oper.wp
  simp [execOp, hop, resolve, invoke, builtin, hs, hx, hrun, Result.andThen]
  exact hK v' w' r1 r2
end Vl

set_option maxRecDepth 100000 in
set_option maxHeartbeats 4000000 in
theorem refAdd_any (p : Option Addr) (n c : Nat) (cs : List Vl.Col) (x : Vl.Col) (w : World) (hx : cs.length = n) (hn : n ≤ c) (hn1 : n ≤ 100000) (H : Hid (Vl.ColIn w p cs)) :
    Calls Try.prog 11 #[.slice p n c, .agg #[.string x.nm, .int .i64 x.k, .bool x.nn, .int .i64 x.d.k, .int .i64 x.d.n, .float .f64 x.d.f, .string x.d.s]] w fun e w' => ∃ p' c', e = .returned (.tuple #[.slice p' (Vl.addL cs x).length c', .int .i64 (Vl.addE cs x)]) ∧ (Vl.addL cs x).length ≤ c' ∧ Vl.ColIn w' p' (Vl.addL cs x) ∧ Below w.heap.size w w' := by
  have HX := Vl.hid hx
  have HN := Vl.hid (And.intro hn hn1)
  clear hx
  have HS0 := Vl.hid (Vl.CB.start w x 27)
  go_enter Try.func11, Try.ntmps11
  go_wp2_with fail
  refine (refGoodC_any p n c cs _ HX.out HN.out.1 (Vl.hid (H.out.al _))).mono ?_
  rintro e w1 ⟨rfl, hb⟩
  have HS1 := Vl.hid (HS0.out.step hb)
  clear hb HS0
  cases hg : Vl.colsB cs
  · have HE := Vl.hid (Vl.add_11 (cs := cs) (c := x) (by rw [hg]; rfl))
    go_wp2_with fail
    go_ret2
    rw [HE.out.1, HE.out.2]
    exact ⟨none, 0, rfl, Nat.le_refl _, Vl.ColIn.none _ _, HS1.out.b⟩
  · have HG := Vl.hid hg
    obtain ⟨p0, p1, p2, p3, p4, p5, p6⟩ := HS1.out.c.box
    go_wp2_with fail
    refine (refGoodC_any (some ⟨w1.heap.size, 0, none⟩) 1 1 [x] _ rfl (Nat.le_refl _) (Vl.hid (Vl.C7.made x _ rfl).lies)).mono ?_
    rintro e w2 ⟨rfl, hb⟩
    rw [Vl.colsB_one]
    have HS2 := Vl.hid (HS1.out.step (Vl.btr (Vl.bal (Below.refl _ _) _) hb))
    clear hb HS1 p0 p1 p2 p3 p4 p5 p6
    cases hc : Vl.colB x
    · have HE := Vl.hid (Vl.add_11 (cs := cs) (c := x) (by rw [hc, Bool.and_false]))
      clear hg
      go_wp2_with fail
      go_ret2
      rw [HE.out.1, HE.out.2]
      exact ⟨none, 0, rfl, Nat.le_refl _, Vl.ColIn.none _ _, HS2.out.b⟩
    · have HC := Vl.hid hc
      obtain ⟨p0, p1, p2, p3, p4, p5, p6⟩ := HS2.out.c.box
      clear hg hc
      go_wp2_with fail
      refine (refFind_any p n c cs x.nm _ HX.out HN.out.1 HN.out.2 (Vl.hid (H.out.below HS2.out.b))).mono ?_
      rintro e w3 ⟨rfl, hb⟩
      have HS3 := Vl.hid (HS2.out.step hb)
      clear hb HS2 p0 p1 p2 p3 p4 p5 p6
      obtain ⟨p0, p1, p2, p3, p4, p5, p6⟩ := HS3.out.c.box
      obtain ⟨f, HF⟩ : ∃ f, Hid (Vl.findN cs x.nm = f) := ⟨_, Vl.hid rfl⟩
      rw [HF.out]
      cases hf : decide (0 ≤ f)
      · have HF2 : Hid (¬ 0 ≤ Vl.findN cs x.nm) := Vl.hid (by rw [HF.out]; simpa using hf)
        cases h6 : decide ((6 : Int) ≤ (n : Int))
        · have HL : Hid (¬ 6 ≤ cs.length) := Vl.hid (by rw [HX.out]; simp at h6; omega)
          cases hnn : (x.nn && x.d.k == 0)
          · have HE := Vl.hid (Vl.add_0 HG.out HC.out HF2.out HL.out hnn)
            obtain ⟨i24, hi, hz0, hz1, hz2⟩ : ∃ i, Try.prog.info? 27 = some i ∧ i.zero = some (.agg #[.string ⟨#[]⟩, .int .i64 0, .bool false, .int .i64 0, .int .i64 0, .float .f64 0, .string ⟨#[]⟩]) ∧ i.size = 7 ∧ i.bytes = 72 := ⟨_, Try.type27, rfl, rfl, rfl⟩
            have HI24 := Vl.hid (And.intro hi (And.intro hz0 (And.intro hz1 hz2)))
            have HNIL : Hid (p = none → n = 0 ∧ c = 0) := Vl.hid (by
              obtain ⟨a1, _, _⟩ := Vl.colsB_up HG.out
              obtain ⟨b, o, hp, _⟩ := H.out.at (List.getElem?_eq_getElem (show 0 < cs.length by omega))
              intro h; rw [h] at hp; cases hp)
            clear hi hz0 hz1 hz2
            have hnd : x.nn = false ∨ (x.nn = true ∧ (x.d.k == 0) = false) := by revert hnn; cases x.nn <;> simp
            clear hnn
            rcases hnd with hnb | ⟨hnb, hk0⟩
            · rw [hnb] at p2
              go_wp2_with fail
              have hb3 := HS3.out.b.size
              have hlt3 := HS3.out.c.lt
              have HXE : Hid (Vl.cellsC [x] = Vl.cellsC [⟨x.nm, x.k, false, x.d⟩]) := Vl.hid (by simp only [Vl.cellsC, hnb])
              go_region_held3 (fun w' => w'.cell? ⟨w.heap.size, 0, none⟩ = some (.string x.nm) ∧ w'.cell? ⟨w.heap.size, 1, none⟩ = some (.int .i64 x.k) ∧ w'.cell? ⟨w.heap.size, 2, none⟩ = some (.bool false) ∧ w'.cell? ⟨w.heap.size, 3, none⟩ = some (.int .i64 x.d.k) ∧ w'.cell? ⟨w.heap.size, 4, none⟩ = some (.int .i64 x.d.n) ∧ w'.cell? ⟨w.heap.size, 5, none⟩ = some (.float .f64 x.d.f) ∧ w'.cell? ⟨w.heap.size, 6, none⟩ = some (.string x.d.s))
                (first | (rw [← hnb]; with_reducible exact (HS3.out).drew.c.box) | (rw [← hnb]; with_reducible exact ((HS3.out).al _).drew.c.box) | (rw [← hnb]; with_reducible exact (((HS3.out).al _).al _).drew.c.box) | (rw [← hnb]; with_reducible exact HCB.out.c.box) | (rw [← hnb]; with_reducible exact (HCB.out.al _).c.box) | (rw [← hnb]; with_reducible exact HCB2.out.c.box) | fail)
                (first | (refine Vl.step_append rfl _ _ 22 rfl (w.heap.size + 1) 27 i24 (.agg #[.string ⟨#[]⟩, .int .i64 0, .bool false, .int .i64 0, .int .i64 0, .float .f64 0, .string ⟨#[]⟩]) 7 72 Try.underlying22 HI24.out.1 HI24.out.2.1 HI24.out.2.2.1 HI24.out.2.2.2 rfl (by decide) (.slice (some ⟨w3.heap.size, 0, none⟩) 0 0) 0 [] rfl (Vl.own_drew (Vl.own_at (Vl.new_at2 _ rfl) hlt3)) p n c (Vl.cellsC cs) rfl HNIL.out (by rw [Vl.cellsC_length, HX.out]) (H.out.below (((HS3.out).al _).drew).b) (Vl.cellsC_one _) (by unfold maxLen; omega) (by omega) ((((HS3.out).al _).drew).c.lt) ?_; intro v1 W1 hown1 hgrow1; rw [List.nil_append, Nat.zero_add] at hown1; obtain ⟨p1, c1, rfl, _, _⟩ := Vl.lies_own hown1; have HOWN := Vl.hid hown1; have HCB := Vl.hid (Vl.CB.grown (((HS3.out).al _).drew) hgrow1 (Vl.blk_lt (by omega))); clear hown1 hgrow1) | (refine Vl.step_append rfl _ _ 22 rfl (w.heap.size + 1) 27 i24 (.agg #[.string ⟨#[]⟩, .int .i64 0, .bool false, .int .i64 0, .int .i64 0, .float .f64 0, .string ⟨#[]⟩]) 7 72 Try.underlying22 HI24.out.1 HI24.out.2.1 HI24.out.2.2.1 HI24.out.2.2.2 rfl (by decide) (.slice (some ⟨w3.heap.size, 0, none⟩) 0 0) 0 [] rfl (Vl.own_drew ((Vl.own_at (Vl.new_at2 _ rfl) hlt3).alloc _)) p n c (Vl.cellsC cs) rfl HNIL.out (by rw [Vl.cellsC_length, HX.out]) (H.out.below ((((HS3.out).al _).al _).drew).b) (Vl.cellsC_one _) (by unfold maxLen; omega) (by omega) (((((HS3.out).al _).al _).drew).c.lt) ?_; intro v1 W1 hown1 hgrow1; rw [List.nil_append, Nat.zero_add] at hown1; obtain ⟨p1, c1, rfl, _, _⟩ := Vl.lies_own hown1; have HOWN := Vl.hid hown1; have HCB := Vl.hid (Vl.CB.grown ((((HS3.out).al _).al _).drew) hgrow1 (Vl.blk_lt (by omega))); have HBX := Vl.hid (Vl.C7.grown (Vl.C7.made ⟨x.nm, x.k, false, x.d⟩ 27 (n := w3.heap.size + 1) (by simp)).drew hgrow1 (by simp [Value.ownBlock])); clear hown1 hgrow1) | (refine Vl.step_append rfl _ _ 22 rfl (w.heap.size + 1) 27 i24 (.agg #[.string ⟨#[]⟩, .int .i64 0, .bool false, .int .i64 0, .int .i64 0, .float .f64 0, .string ⟨#[]⟩]) 7 72 Try.underlying22 HI24.out.1 HI24.out.2.1 HI24.out.2.2.1 HI24.out.2.2.2 rfl (by decide) (.slice (some ⟨w3.heap.size + 1, 0, none⟩) 0 0) 0 [] rfl (Vl.own_drew (Vl.own_at (Vl.new_at2 _ (by simp)) (by omega))) p n c (Vl.cellsC cs) rfl HNIL.out (by rw [Vl.cellsC_length, HX.out]) (H.out.below ((((HS3.out).al _).al _).drew).b) (Vl.cellsC_one _) (by unfold maxLen; omega) (by omega) (((((HS3.out).al _).al _).drew).c.lt) ?_; intro v1 W1 hown1 hgrow1; rw [List.nil_append, Nat.zero_add] at hown1; obtain ⟨p1, c1, rfl, _, _⟩ := Vl.lies_own hown1; have HOWN := Vl.hid hown1; have HCB := Vl.hid (Vl.CB.grown ((((HS3.out).al _).al _).drew) hgrow1 (Vl.blk_lt (by omega))); have HBX := Vl.hid (Vl.C7.grown ((Vl.C7.made ⟨x.nm, x.k, false, x.d⟩ 27 (n := w3.heap.size) rfl).al _).drew hgrow1 (by simp [Value.ownBlock])); clear hown1 hgrow1) | (refine Vl.step_append rfl _ _ 22 rfl (w.heap.size + 1) 27 i24 (.agg #[.string ⟨#[]⟩, .int .i64 0, .bool false, .int .i64 0, .int .i64 0, .float .f64 0, .string ⟨#[]⟩]) 7 72 Try.underlying22 HI24.out.1 HI24.out.2.1 HI24.out.2.2.1 HI24.out.2.2.2 rfl (by decide) (.slice p1 n c1) n (Vl.cellsC cs) rfl (HOWN.out.alloc _) (some ⟨W1.heap.size, 0, none⟩) 1 1 (Vl.cellsC [x]) rfl (fun h => nomatch h) rfl (by rw [HXE.out]; exact (Vl.C7.made ⟨x.nm, x.k, false, x.d⟩ _ rfl).lies) (Vl.cellsC_one _) (by unfold maxLen; omega) (by omega) ((HCB.out.al _).c.lt) ?_; intro v2 W2 hown2 hgrow2; obtain ⟨p2, c2, rfl, hc2, hl2⟩ := Vl.lies_own hown2; rw [← Vl.cellsC_app] at hl2; have HCB2 := Vl.hid (Vl.CB.grown (HCB.out.al _) hgrow2 (fun k hk => (HOWN.out.lt k hk).1)); have HFIN := Vl.hid (And.intro hc2 (And.intro hl2 HCB2.out.b)); clear hown2 hgrow2 hc2 hl2) | (refine Vl.step_append rfl _ _ 22 rfl (w.heap.size + 1) 27 i24 (.agg #[.string ⟨#[]⟩, .int .i64 0, .bool false, .int .i64 0, .int .i64 0, .float .f64 0, .string ⟨#[]⟩]) 7 72 Try.underlying22 HI24.out.1 HI24.out.2.1 HI24.out.2.2.1 HI24.out.2.2.2 rfl (by decide) (.slice p1 n c1) n (Vl.cellsC cs) rfl (HOWN.out) (some ⟨w3.heap.size + 1, 0, none⟩) 1 1 (Vl.cellsC [x]) rfl (fun h => nomatch h) rfl (by rw [HXE.out]; exact HBX.out.lies) (Vl.cellsC_one _) (by unfold maxLen; omega) (by omega) ((HCB.out).c.lt) ?_; intro v2 W2 hown2 hgrow2; obtain ⟨p2, c2, rfl, hc2, hl2⟩ := Vl.lies_own hown2; rw [← Vl.cellsC_app] at hl2; have HCB2 := Vl.hid (Vl.CB.grown (HCB.out) hgrow2 (fun k hk => (HOWN.out.lt k hk).1)); have HFIN := Vl.hid (And.intro hc2 (And.intro hl2 HCB2.out.b)); clear hown2 hgrow2 hc2 hl2) | (refine Vl.step_append rfl _ _ 22 rfl (w.heap.size + 1) 27 i24 (.agg #[.string ⟨#[]⟩, .int .i64 0, .bool false, .int .i64 0, .int .i64 0, .float .f64 0, .string ⟨#[]⟩]) 7 72 Try.underlying22 HI24.out.1 HI24.out.2.1 HI24.out.2.2.1 HI24.out.2.2.2 rfl (by decide) (.slice p1 n c1) n (Vl.cellsC cs) rfl (HOWN.out) (some ⟨w3.heap.size, 0, none⟩) 1 1 (Vl.cellsC [x]) rfl (fun h => nomatch h) rfl (by rw [HXE.out]; exact HBX.out.lies) (Vl.cellsC_one _) (by unfold maxLen; omega) (by omega) ((HCB.out).c.lt) ?_; intro v2 W2 hown2 hgrow2; obtain ⟨p2, c2, rfl, hc2, hl2⟩ := Vl.lies_own hown2; rw [← Vl.cellsC_app] at hl2; have HCB2 := Vl.hid (Vl.CB.grown (HCB.out) hgrow2 (fun k hk => (HOWN.out.lt k hk).1)); have HFIN := Vl.hid (And.intro hc2 (And.intro hl2 HCB2.out.b)); clear hown2 hgrow2 hc2 hl2))
              all_goals
                go_wp2_with fail
                go_ret2
                rw [HE.out.1, HE.out.2, List.length_append, HX.out]
                exact ⟨p2, c2, rfl, HFIN.out.1, HFIN.out.2.1, HFIN.out.2.2⟩
            · rw [hnb] at p2
              go_wp2_with fail
              have hb3 := HS3.out.b.size
              have hlt3 := HS3.out.c.lt
              have HXE : Hid (Vl.cellsC [x] = Vl.cellsC [⟨x.nm, x.k, true, x.d⟩]) := Vl.hid (by simp only [Vl.cellsC, hnb])
              go_region_held3 (fun w' => w'.cell? ⟨w.heap.size, 0, none⟩ = some (.string x.nm) ∧ w'.cell? ⟨w.heap.size, 1, none⟩ = some (.int .i64 x.k) ∧ w'.cell? ⟨w.heap.size, 2, none⟩ = some (.bool true) ∧ w'.cell? ⟨w.heap.size, 3, none⟩ = some (.int .i64 x.d.k) ∧ w'.cell? ⟨w.heap.size, 4, none⟩ = some (.int .i64 x.d.n) ∧ w'.cell? ⟨w.heap.size, 5, none⟩ = some (.float .f64 x.d.f) ∧ w'.cell? ⟨w.heap.size, 6, none⟩ = some (.string x.d.s))
                (first | (rw [← hnb]; with_reducible exact (HS3.out).drew.c.box) | (rw [← hnb]; with_reducible exact ((HS3.out).al _).drew.c.box) | (rw [← hnb]; with_reducible exact (((HS3.out).al _).al _).drew.c.box) | (rw [← hnb]; with_reducible exact HCB.out.c.box) | (rw [← hnb]; with_reducible exact (HCB.out.al _).c.box) | (rw [← hnb]; with_reducible exact HCB2.out.c.box) | fail)
                (first | (refine Vl.step_append rfl _ _ 22 rfl (w.heap.size + 1) 27 i24 (.agg #[.string ⟨#[]⟩, .int .i64 0, .bool false, .int .i64 0, .int .i64 0, .float .f64 0, .string ⟨#[]⟩]) 7 72 Try.underlying22 HI24.out.1 HI24.out.2.1 HI24.out.2.2.1 HI24.out.2.2.2 rfl (by decide) (.slice (some ⟨w3.heap.size, 0, none⟩) 0 0) 0 [] rfl (Vl.own_drew (Vl.own_at (Vl.new_at2 _ rfl) hlt3)) p n c (Vl.cellsC cs) rfl HNIL.out (by rw [Vl.cellsC_length, HX.out]) (H.out.below (((HS3.out).al _).drew).b) (Vl.cellsC_one _) (by unfold maxLen; omega) (by omega) ((((HS3.out).al _).drew).c.lt) ?_; intro v1 W1 hown1 hgrow1; rw [List.nil_append, Nat.zero_add] at hown1; obtain ⟨p1, c1, rfl, _, _⟩ := Vl.lies_own hown1; have HOWN := Vl.hid hown1; have HCB := Vl.hid (Vl.CB.grown (((HS3.out).al _).drew) hgrow1 (Vl.blk_lt (by omega))); clear hown1 hgrow1) | (refine Vl.step_append rfl _ _ 22 rfl (w.heap.size + 1) 27 i24 (.agg #[.string ⟨#[]⟩, .int .i64 0, .bool false, .int .i64 0, .int .i64 0, .float .f64 0, .string ⟨#[]⟩]) 7 72 Try.underlying22 HI24.out.1 HI24.out.2.1 HI24.out.2.2.1 HI24.out.2.2.2 rfl (by decide) (.slice (some ⟨w3.heap.size, 0, none⟩) 0 0) 0 [] rfl (Vl.own_drew ((Vl.own_at (Vl.new_at2 _ rfl) hlt3).alloc _)) p n c (Vl.cellsC cs) rfl HNIL.out (by rw [Vl.cellsC_length, HX.out]) (H.out.below ((((HS3.out).al _).al _).drew).b) (Vl.cellsC_one _) (by unfold maxLen; omega) (by omega) (((((HS3.out).al _).al _).drew).c.lt) ?_; intro v1 W1 hown1 hgrow1; rw [List.nil_append, Nat.zero_add] at hown1; obtain ⟨p1, c1, rfl, _, _⟩ := Vl.lies_own hown1; have HOWN := Vl.hid hown1; have HCB := Vl.hid (Vl.CB.grown ((((HS3.out).al _).al _).drew) hgrow1 (Vl.blk_lt (by omega))); have HBX := Vl.hid (Vl.C7.grown (Vl.C7.made ⟨x.nm, x.k, true, x.d⟩ 27 (n := w3.heap.size + 1) (by simp)).drew hgrow1 (by simp [Value.ownBlock])); clear hown1 hgrow1) | (refine Vl.step_append rfl _ _ 22 rfl (w.heap.size + 1) 27 i24 (.agg #[.string ⟨#[]⟩, .int .i64 0, .bool false, .int .i64 0, .int .i64 0, .float .f64 0, .string ⟨#[]⟩]) 7 72 Try.underlying22 HI24.out.1 HI24.out.2.1 HI24.out.2.2.1 HI24.out.2.2.2 rfl (by decide) (.slice (some ⟨w3.heap.size + 1, 0, none⟩) 0 0) 0 [] rfl (Vl.own_drew (Vl.own_at (Vl.new_at2 _ (by simp)) (by omega))) p n c (Vl.cellsC cs) rfl HNIL.out (by rw [Vl.cellsC_length, HX.out]) (H.out.below ((((HS3.out).al _).al _).drew).b) (Vl.cellsC_one _) (by unfold maxLen; omega) (by omega) (((((HS3.out).al _).al _).drew).c.lt) ?_; intro v1 W1 hown1 hgrow1; rw [List.nil_append, Nat.zero_add] at hown1; obtain ⟨p1, c1, rfl, _, _⟩ := Vl.lies_own hown1; have HOWN := Vl.hid hown1; have HCB := Vl.hid (Vl.CB.grown ((((HS3.out).al _).al _).drew) hgrow1 (Vl.blk_lt (by omega))); have HBX := Vl.hid (Vl.C7.grown ((Vl.C7.made ⟨x.nm, x.k, true, x.d⟩ 27 (n := w3.heap.size) rfl).al _).drew hgrow1 (by simp [Value.ownBlock])); clear hown1 hgrow1) | (refine Vl.step_append rfl _ _ 22 rfl (w.heap.size + 1) 27 i24 (.agg #[.string ⟨#[]⟩, .int .i64 0, .bool false, .int .i64 0, .int .i64 0, .float .f64 0, .string ⟨#[]⟩]) 7 72 Try.underlying22 HI24.out.1 HI24.out.2.1 HI24.out.2.2.1 HI24.out.2.2.2 rfl (by decide) (.slice p1 n c1) n (Vl.cellsC cs) rfl (HOWN.out.alloc _) (some ⟨W1.heap.size, 0, none⟩) 1 1 (Vl.cellsC [x]) rfl (fun h => nomatch h) rfl (by rw [HXE.out]; exact (Vl.C7.made ⟨x.nm, x.k, true, x.d⟩ _ rfl).lies) (Vl.cellsC_one _) (by unfold maxLen; omega) (by omega) ((HCB.out.al _).c.lt) ?_; intro v2 W2 hown2 hgrow2; obtain ⟨p2, c2, rfl, hc2, hl2⟩ := Vl.lies_own hown2; rw [← Vl.cellsC_app] at hl2; have HCB2 := Vl.hid (Vl.CB.grown (HCB.out.al _) hgrow2 (fun k hk => (HOWN.out.lt k hk).1)); have HFIN := Vl.hid (And.intro hc2 (And.intro hl2 HCB2.out.b)); clear hown2 hgrow2 hc2 hl2) | (refine Vl.step_append rfl _ _ 22 rfl (w.heap.size + 1) 27 i24 (.agg #[.string ⟨#[]⟩, .int .i64 0, .bool false, .int .i64 0, .int .i64 0, .float .f64 0, .string ⟨#[]⟩]) 7 72 Try.underlying22 HI24.out.1 HI24.out.2.1 HI24.out.2.2.1 HI24.out.2.2.2 rfl (by decide) (.slice p1 n c1) n (Vl.cellsC cs) rfl (HOWN.out) (some ⟨w3.heap.size + 1, 0, none⟩) 1 1 (Vl.cellsC [x]) rfl (fun h => nomatch h) rfl (by rw [HXE.out]; exact HBX.out.lies) (Vl.cellsC_one _) (by unfold maxLen; omega) (by omega) ((HCB.out).c.lt) ?_; intro v2 W2 hown2 hgrow2; obtain ⟨p2, c2, rfl, hc2, hl2⟩ := Vl.lies_own hown2; rw [← Vl.cellsC_app] at hl2; have HCB2 := Vl.hid (Vl.CB.grown (HCB.out) hgrow2 (fun k hk => (HOWN.out.lt k hk).1)); have HFIN := Vl.hid (And.intro hc2 (And.intro hl2 HCB2.out.b)); clear hown2 hgrow2 hc2 hl2) | (refine Vl.step_append rfl _ _ 22 rfl (w.heap.size + 1) 27 i24 (.agg #[.string ⟨#[]⟩, .int .i64 0, .bool false, .int .i64 0, .int .i64 0, .float .f64 0, .string ⟨#[]⟩]) 7 72 Try.underlying22 HI24.out.1 HI24.out.2.1 HI24.out.2.2.1 HI24.out.2.2.2 rfl (by decide) (.slice p1 n c1) n (Vl.cellsC cs) rfl (HOWN.out) (some ⟨w3.heap.size, 0, none⟩) 1 1 (Vl.cellsC [x]) rfl (fun h => nomatch h) rfl (by rw [HXE.out]; exact HBX.out.lies) (Vl.cellsC_one _) (by unfold maxLen; omega) (by omega) ((HCB.out).c.lt) ?_; intro v2 W2 hown2 hgrow2; obtain ⟨p2, c2, rfl, hc2, hl2⟩ := Vl.lies_own hown2; rw [← Vl.cellsC_app] at hl2; have HCB2 := Vl.hid (Vl.CB.grown (HCB.out) hgrow2 (fun k hk => (HOWN.out.lt k hk).1)); have HFIN := Vl.hid (And.intro hc2 (And.intro hl2 HCB2.out.b)); clear hown2 hgrow2 hc2 hl2))
              all_goals
                go_wp2_with fail
                go_ret2
                rw [HE.out.1, HE.out.2, List.length_append, HX.out]
                exact ⟨p2, c2, rfl, HFIN.out.1, HFIN.out.2.1, HFIN.out.2.2⟩
          · have HE := Vl.hid (Vl.add_21 HG.out HC.out HF2.out HL.out hnn)
            have hnb : x.nn = true := by revert hnn; cases x.nn <;> simp
            have hk0 : (x.d.k == 0) = true := by revert hnn; cases x.nn <;> simp
            rw [hnb] at p2
            clear hnn hnb
            go_wp2_with fail
            go_ret2
            rw [HE.out.1, HE.out.2]
            exact ⟨none, 0, rfl, Nat.le_refl _, Vl.ColIn.none _ _, HS3.out.b⟩
        · have HE := Vl.hid (Vl.add_3 HG.out HC.out HF2.out (by rw [HX.out]; simp at h6; omega))
          go_wp2_with fail
          go_ret2
          rw [HE.out.1, HE.out.2]
          exact ⟨none, 0, rfl, Nat.le_refl _, Vl.ColIn.none _ _, HS3.out.b⟩
      · have HE := Vl.hid (Vl.add_62 HG.out HC.out (by rw [HF.out]; simpa using hf))
        go_wp2_with fail
        go_ret2
        rw [HE.out.1, HE.out.2]
        exact ⟨none, 0, rfl, Nat.le_refl _, Vl.ColIn.none _ _, HS3.out.b⟩

end Go.Proofs.Ytaclkmhgbmencaa
