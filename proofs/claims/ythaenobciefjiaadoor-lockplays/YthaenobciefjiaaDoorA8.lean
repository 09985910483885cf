/- barring walked. -/
import Derived.Test.YthaenobciefjiaaDoorA7
import Derived.WalkMore
namespace Go.Proofs.YthaenobciefjiaaDoor
open Go.RowKit Go.Maps Go.ChangeMaps Go.MapKept

theorem Md.Tab.drew {w : World} (h : Md.Tab w) : Md.Tab w.drew := ⟨h.c1, h.c2, h.c3, h.c4, h.c5, h.c6, h.c7, h.c8⟩
namespace Lk
theorem fld1 (a : ByteArray) (b : Int) (w : World) : (Instr.field 64 (.agg #[.string a, .int .i64 b]) 1).run Tryd.prog w = .ok (.int .i64 b) w := by kernel_rfl
def ahead (s : St) (x : Int) (nm : Bytes) : List Int := (s.q nm).takeWhile (fun o => o != x)
/-- Does o bar x's request? -/
def barB (s : St) (x : Int) (nm : Bytes) (m : Int) (o : Int) : Bool := barH s x nm m o || (decide (s.set x nm = 0) && ((ahead s x nm).contains o && Md.barsB (wm s o) m))
/-- Under way through the sets. -/
structure B1 (w W : World) (N bs : Nat) (s : St) (D : DataW Value) (x : Int) (nm : Bytes) (m : Int) (left : Lit → Bool) (cnt : Nat) (v : Value) (l : List Int) : Prop where
  bx : Bx w W nm m
  rg : W.ranges Tryd.prog 3 Mp.Rv bs (w.heap.size + 1) N D left cnt
  row : W.ownsRow (w.heap.size + 2) 3 1 v l.length (l.map (Value.int .i64))
  mem : ∀ o, o ∈ l ↔ (left (iK o) = false ∧ barH s x nm m o = true)
  len : l.length + cnt ≤ N
  sz : w.heap.size + 2 ≤ W.heap.size
theorem row_off {W : World} {n k : Nat} {e : TypeId} {v : Value} {xs : List Value} (h : W.ownsRow (k + 2) e 1 v n xs) : v.ownBlock = none ∨ v.ownBlock ≠ some (k + 1) := by
  rcases h.2 with ⟨e1, _⟩ | ⟨g, cap, cur, e1, hb', _⟩
  · rw [e1]; exact Or.inl rfl
  · rw [e1]; exact Or.inr (fun e => by injection e with e; simp at e; omega)
theorem alloc_then {a b : World} {o : Obj} {r : Option Nat} (h : (a.alloc o).grownBy b r) : a.grownBy b r := Rs.grown_trans (World.grownBy_alloc a o r) h
theorem row_base {W : World} {n k j : Nat} {e : TypeId} {v : Value} {xs : List Value} (h : W.ownsRow k e 1 v n xs) (hj : j ≤ k) : W.ownsRow j e 1 v n xs := by
  refine ⟨h.1, ?_⟩
  rcases h.2 with h2 | ⟨g, cap, cur, e1, hb', r⟩
  · exact Or.inl h2
  · exact Or.inr ⟨g, cap, cur, e1, Nat.le_trans hj hb', r⟩
theorem ahead_of {s : St} {x : Int} {nm : Bytes} {k : Nat} (h1 : ∀ o ∈ (s.q nm).take k, o ≠ x) (h2 : (s.q nm).length ≤ k ∨ (s.q nm)[k]? = some x) : ahead s x nm = (s.q nm).take k := by
  unfold ahead
  generalize s.q nm = l at h1 h2
  induction l generalizing k with
  | nil => simp
  | cons a l ih =>
    cases k with
    | zero =>
      rcases h2 with h2 | h2
      · simp at h2
      · simp at h2; simp [h2]
    | succ k =>
      have ha : a ≠ x := h1 a (by simp)
      rw [List.takeWhile_cons_of_pos (by simpa using ha), List.take_succ_cons, ih (fun o ho => h1 o (by rw [List.take_succ_cons]; exact List.mem_cons_of_mem _ ho)) (by simpa using h2)]
/-- Under way through the queue. -/
structure B2 (w W : World) (N : Nat) (s : St) (x : Int) (nm : Bytes) (m : Int) (k : Nat) (v : Value) (l : List Int) : Prop where
  bx : Bx w W nm m
  row : W.ownsRow (w.heap.size + 2) 3 1 v l.length (l.map (Value.int .i64))
  mem : ∀ o, o ∈ l ↔ (barH s x nm m o = true ∨ (o ∈ (s.q nm).take k ∧ Md.barsB (wm s o) m = true))
  pre : ∀ o ∈ (s.q nm).take k, o ≠ x
  len : l.length ≤ N + k
  sz : w.heap.size + 2 ≤ W.heap.size
theorem B2.drew {w W : World} {N : Nat} {s : St} {x : Int} {nm : Bytes} {m : Int} {k : Nat} {v : Value} {l : List Int} (h : B2 w W N s x nm m k v l) : B2 w W.drew N s x nm m k v l := ⟨h.bx.drew, h.row, h.mem, h.pre, h.len, h.sz⟩
theorem B2.skip {w W : World} {N : Nat} {s : St} {x : Int} {nm : Bytes} {m : Int} {k : Nat} {v : Value} {l : List Int} (h : B2 w W N s x nm m k v l) {o : Int} (ho : (s.q nm)[k]? = some o) (hx : o ≠ x) (hb : Md.barsB (wm s o) m = false) : B2 w W N s x nm m (k + 1) v l := by
  have e : (s.q nm).take (k + 1) = (s.q nm).take k ++ [o] := by rw [List.take_add_one, ho]; rfl
  refine ⟨h.bx, h.row, fun y => (h.mem y).trans ?_, fun y hy => ?_, by have := h.len; omega, h.sz⟩
  · rw [e, List.mem_append, List.mem_singleton]
    by_cases ey : y = o
    · subst ey; simp [hb]
    · simp [ey]
  · rw [e, List.mem_append, List.mem_singleton] at hy
    rcases hy with hy | rfl
    · exact h.pre y hy
    · exact hx
theorem B2.add {w W W2 : World} {N : Nat} {s : St} {x : Int} {nm : Bytes} {m : Int} {k : Nat} {v v' : Value} {l : List Int} (h : B2 w W N s x nm m k v l) {o : Int} (ho : (s.q nm)[k]? = some o) (hx : o ≠ x) (hb : Md.barsB (wm s o) m = true)
    (hrow : W2.ownsRow (w.heap.size + 2) 3 1 v' (l.length + 1) (l.map (Value.int .i64) ++ [.int .i64 o])) (hgr : W.grownBy W2 v.ownBlock) : B2 w W2 N s x nm m (k + 1) v' (l ++ [o]) := by
  have e : (s.q nm).take (k + 1) = (s.q nm).take k ++ [o] := by rw [List.take_add_one, ho]; rfl
  have hv : ∀ k, v.ownBlock = some k → w.heap.size + 2 ≤ k := fun k e => by
    rcases h.row.2 with ⟨e1, _⟩ | ⟨g, cap, cur, e1, hb', _⟩
    · rw [e1] at e; cases e
    · rw [e1] at e; injection e with e; simp at e; omega
  refine ⟨h.bx.grown hgr (fun k e => by have := hv k e; omega), by simpa using hrow, fun y => ?_, fun y hy => ?_, by have := h.len; simp; omega, Nat.le_trans h.sz hgr.size⟩
  · rw [List.mem_append, h.mem y, List.mem_singleton, e, List.mem_append, List.mem_singleton]
    by_cases ey : y = o
    · subst ey; simp [hb]
    · simp [ey]
  · rw [e, List.mem_append, List.mem_singleton] at hy
    rcases hy with hy | rfl
    · exact h.pre y hy
    · exact hx
theorem B2.fin {w W : World} {N : Nat} {s : St} {x : Int} {nm : Bytes} {m : Int} {k : Nat} {v : Value} {l : List Int} (h : B2 w W N s x nm m k v l) (hz : s.set x nm = 0) (hq : (s.q nm).length ≤ k ∨ (s.q nm)[k]? = some x) : ∀ o, o ∈ l ↔ barB s x nm m o = true := fun o => by
  rw [h.mem o]
  unfold barB
  rw [ahead_of h.pre hq]
  simp [hz]
/-- A step that adds nobody. -/
theorem B1.skip {w W W' : World} {N bs : Nat} {s : St} {D : DataW Value} {x : Int} {nm : Bytes} {m : Int} {left : Lit → Bool} {cnt cnt' : Nat} {v : Value} {l : List Int} (h : B1 w W N bs s D x nm m left cnt v l) {o : Int} (hg : W.grownBy W' (some (w.heap.size + 1)))
    (hr : W'.ranges Tryd.prog 3 Mp.Rv bs (w.heap.size + 1) N D (fun z => left z && !z.sameKey (iK o)) cnt') (hlt : cnt' < cnt) (hb : barH s x nm m o = false) : B1 w W' N bs s D x nm m (fun z => left z && !z.sameKey (iK o)) cnt' v l := by
  refine ⟨h.bx.grown hg (fun k e => by injection e with e; omega), hr, h.row.kept hg ?_, fun y => (h.mem y).trans ?_, by have := h.len; omega, Nat.le_trans h.sz hg.size⟩
  · refine Or.inr (fun e => ?_)
    rcases h.row.2 with ⟨e1, _⟩ | ⟨g, cap, cur, e1, hb', _⟩
    · rw [e1] at e; cases e
    · rw [e1] at e; injection e with e; simp at e; omega
  · by_cases e : y = o
    · subst e; rw [hb]; simp
    · have : (iK y).sameKey (iK o) = false := by simp [iK, Lit.sameKey, e]
      simp [this]
/-- .. that adds o. -/
theorem B1.add {w W W' W2 : World} {N bs : Nat} {s : St} {D : DataW Value} {x : Int} {nm : Bytes} {m : Int} {left : Lit → Bool} {cnt cnt' : Nat} {v v' : Value} {l : List Int} (h : B1 w W N bs s D x nm m left cnt v l) {o : Int} (hg : W.grownBy W' (some (w.heap.size + 1)))
    (hr : W'.ranges Tryd.prog 3 Mp.Rv bs (w.heap.size + 1) N D (fun z => left z && !z.sameKey (iK o)) cnt') (hlt : cnt' < cnt) (hb : barH s x nm m o = true)
    (hrow : W2.ownsRow (w.heap.size + 2) 3 1 v' (l.length + 1) (l.map (Value.int .i64) ++ [.int .i64 o])) (hgr : W'.grownBy W2 v.ownBlock) : B1 w W2 N bs s D x nm m (fun z => left z && !z.sameKey (iK o)) cnt' v' (l ++ [o]) := by
  have hv : ∀ k, v.ownBlock = some k → w.heap.size + 2 ≤ k := fun k e => by
    rcases h.row.2 with ⟨e1, _⟩ | ⟨g, cap, cur, e1, hb', _⟩
    · rw [e1] at e; cases e
    · rw [e1] at e; injection e with e; simp at e; omega
  refine ⟨(h.bx.grown hg (fun k e => by injection e with e; omega)).grown hgr (fun k e => by have := hv k e; omega), hr.kept hgr (fun e => ?_) (fun e => by have := hv _ e.symm; omega), by simpa using hrow, fun y => ?_, by have := h.len; simp; omega, Nat.le_trans h.sz (Nat.le_trans hg.size hgr.size)⟩
  · have h1 := hv _ e.symm
    have h2 := hr.owns
    rcases h.row.2 with ⟨e1, _⟩ | ⟨g, cap, cur, e1, _, hb', _⟩
    · rw [e1] at e; cases e
    · rw [e1] at e
      injection e with e
      simp at e
      subst e
      have h3 := h.rg.owns
      obtain ⟨es, c, h3, _⟩ := h3
      rw [hb'] at h3
      cases h3
  · rw [List.mem_append, h.mem y, List.mem_singleton]
    by_cases e : y = o
    · subst e; simp [hb, iK, Lit.sameKey]
    · have : (iK y).sameKey (iK o) = false := by simp [iK, Lit.sameKey, e]
      simp [this, e]
end Lk

set_option maxRecDepth 100000 in
set_option maxHeartbeats 4000000 in
theorem barring_any (w : World) (tag : Nat → Option Lk.Lb) (p N : Nat) (s : Lk.St) (bs bw bq : Nat) (bi : Int → Nat) (sl : Lk.Bytes → Value) (x : Int) (nm : Lk.Bytes) (m : Int) (hT : Hid (Lk.Tb w tag p N s bs bw bq bi sl)) (hM : Hid (Md.Tab w)) (hx : Lk.wfI x) (hl : nm.length ≤ maxLen) (hN : Hid (N < 100000)) :
    Calls Tryd.prog 39 #[.pointer (some ⟨p, 0, none⟩), .int .i64 x, .agg #[Lk.str nm, .int .i64 m]] w fun e w' => ∃ (v : Value) (l : List Int), e = .returned v ∧ w'.ownsRow w.heap.size 3 1 v l.length (l.map (Value.int .i64)) ∧ (∀ o, o ∈ l ↔ Lk.barB s x nm m o = true) ∧ l.length ≤ 2 * N ∧ Below w.heap.size w w' := by
  have HT1 := Mp.hid (hT.out.alloc (.cells #[Lk.str nm, .int .i64 m] 64))
  have c0 := HT1.out.c0
  obtain ⟨D, hD, hDf⟩ := HT1.out.sets
  have HDF := Mp.hid hDf
  have HX0 := Mp.hid (Lk.Bx.start w nm m)
  clear hDf
  obtain ⟨i0, hi, hz0, hz1, hz2⟩ : ∃ i, Tryd.prog.info? 3 = some i ∧ i.zero = some (.int .i64 0) ∧ i.size = 1 ∧ i.bytes = 8 := ⟨_, Tryd.type3, rfl, rfl, rfl⟩
  go_enter Tryd.func39, Tryd.ntmps39
  go_wp2_with fail
  go_step3
  go_wp2_with (first | (at_range; refine wpList_range_own _ rfl _ 57 rfl 3 75 Lk.keyI Tryd.underlying57 _ bs N _ rfl hD ?_; intro w0 hrg0 hg0 hs0) | go_in)
  try go_frame
  have e1 : (w.alloc (.cells #[Lk.str nm, .int .i64 m] 64)).heap.size = w.heap.size + 1 := by simp
  rw [e1] at hrg0 hs0 ⊢
  have HB0 : Hid (Lk.B1 w w0 N bs s D x nm m (Maps.has D) (Maps.size D) (.slice none 0 0) []) := Mp.hid ⟨HX0.out.grown hg0 (fun _ e => nomatch e), hrg0, ⟨rfl, Or.inl ⟨rfl, rfl⟩⟩, (fun o => by
      simp only [List.not_mem_nil, false_iff, not_and]
      intro hf hb
      have hw := HT1.out.hw o (by revert hb; unfold Lk.barH; cases s.hol o <;> simp)
      have hk := Mp.Fn.has hD Lk.keyI HDF.out (a := o) ⟨_, Lk.key_i hw⟩
      rw [hf] at hk
      have hh : s.hol o = false := by
        revert hk; cases s.hol o <;> simp
      simp [Lk.barH, hh] at hb), by have := hD.size_le; simpa using this, by omega⟩
  clear hrg0 hg0 hs0 c0 e1 hD HX0
  go_loopw [7] (fun v wr => ∃ (l : List Int) (left : Lit → Bool) (cnt : Nat), Hid (Lk.B1 w wr N bs s D x nm m left cnt v l)) (fun _ wr => wr.rangeLeft bs (w.heap.size + 1))
  case atStart => exact ⟨[], _, _, HB0⟩
  case round =>
    obtain ⟨l, left, cnt, HB⟩ := hrel
    have hrg := HB.out.rg
    go_wp2_with (first | (at_next; refine Mp.wpList_next (mk := Lk.iK) _ rfl _ rfl 3 Lk.keyI (fun h => if s.hol h then some (.map (some (bi h))) else none) (fun h => .map (some (bi h))) (Value.int .i64) Lk.invI (fun y v e => by revert e; cases s.hol y <;> simp [eq_comm]) bs (w.heap.size + 1) N D left cnt HDF.out rfl hrg ?_ ?_) | go_in)
    · intro hc0 hl0
      have HTW := Mp.hid (hT.out.below HB.out.bx.bel)
      have HMW : Hid (Md.Tab wr) := Mp.hid (hM.out.below HB.out.bx.bel)
      have b0 := HB.out.bx.b0
      have HL0 := Mp.hid hl0
      have HLN : Hid (l.length ≤ N) := Mp.hid (by have := HB.out.len; omega)
      by_cases hz : s.set x nm = 0
      · have hzz : ((s.set x nm : Int) == 0) = true := by rw [hz]; rfl
        have HZ := Mp.hid hz
        clear hz hc0 hl0 hrg
        go_wp2_with (first | (go_at_call 19; refine (modes_any _ tag p N s bs bw bq bi sl x nm HTW hx hl).mono ?_; rintro e w' ⟨rfl, hw'⟩; obtain rfl := hw'.symm) | go_in)
        go_step3
        go_wp2_with fail
        have c2 : wr.drew.cell? ⟨p, 2, none⟩ = some (.map (some bq)) := HTW.out.c2
        have hQ := HTW.out.drew.lookQ hl
        have HB2 : Hid (Lk.B2 w wr.drew N s x nm m 0 u7 l) := Mp.hid ⟨HB.out.bx.drew, HB.out.row, (fun o => by rw [HB.out.mem o, HL0.out]; simp), (fun o ho => by simp at ho), HLN.out, HB.out.sz⟩
        by_cases hq : s.q nm = []
        · rw [if_pos hq] at hQ
          have HQ := Mp.hid hQ
          have HQE := Mp.hid hq
          clear hq hQ
          go_region_held3 (fun w' => w'.cell? ⟨p, 2, none⟩ = some (.map (some bq)) ∧ w'.cell? ⟨w.heap.size, 0, none⟩ = some (Lk.str nm) ∧ (Instr.lookup 59 (.map (some bq)) (Lk.str nm) false).run Tryd.prog w' = .ok (.slice none 0 0) w')
            (exact ⟨c2, b0, HQ.out⟩) (fail)
          go_wp2
          go_loopw [7, 53] (fun vo vi W => vi = .int .i64 0 ∧ vo = u7 ∧ Hid (W = wr.drew)) (fun _ _ _ => 0)
          case atStart => exact ⟨rfl, rfl, Mp.hid rfl⟩
          case round =>
            obtain ⟨rfl, rfl, HW⟩ := hrel
            go_wp2
            try rw [Exit.noGoto_ret]
            go_ret
            rw [HW.out]
            exact ⟨_, l, rfl, Lk.row_base HB2.out.row (by omega), HB2.out.fin HZ.out (Or.inl (by rw [HQE.out]; exact Nat.le_refl _)), by have := HLN.out; omega, HB2.out.bx.bel⟩
        · rw [if_neg hq] at hQ
          obtain ⟨hrow, -⟩ := hT.out.rows nm hq
          have hn1 : 1 ≤ (s.q nm).length := by
            rcases hqq : s.q nm with _ | ⟨a, r⟩
            · exact absurd hqq hq
            · simp
          rcases hrow.2 with ⟨_, h0⟩ | ⟨g, cap, cur, esl, _, hg, q1, q2, q3, q4⟩
          · omega
          have HC : Hid (g < w.heap.size ∧ ∀ k o, (s.q nm)[k]? = some o → w.cell? ⟨g, k, none⟩ = some (.int .i64 o)) := Mp.hid ⟨(Array.getElem?_eq_some_iff.1 hg).1, fun k o hk => by
            have hk1 : k < (s.q nm).length := (List.getElem?_eq_some_iff.1 hk).1
            simp only [Nat.mul_one] at q3 q4
            have e : cur.toList[k]? = some (.int .i64 o) := by
              have := congrArg (fun l => l[k]?) q4
              simp only [List.getElem?_take, if_pos hk1, List.getElem?_map, hk] at this
              exact this
            unfold World.cell?
            simp only [hg]
            rw [← Array.getElem?_toList]; exact e⟩
          have HQL : Hid ((s.q nm).length ≤ N) := Mp.hid (hT.out.qn nm)
          have hql := HQL.out
          have hNN := hN.out
          rw [esl] at hQ
          have HQ := Mp.hid hQ
          obtain ⟨n, hn⟩ : ∃ n, n = (s.q nm).length := ⟨_, rfl⟩
          rw [← hn] at HQ hql hn1
          have HNQ := Mp.hid hn
          clear hrow q1 q2 q3 q4 hg hQ esl hq hn cur
          have hn2 : (n : Int) ≤ 100000 := by omega
          clear hql hNN hn1
          go_region_held3 (fun w' => w'.cell? ⟨p, 2, none⟩ = some (.map (some bq)) ∧ w'.cell? ⟨w.heap.size, 0, none⟩ = some (Lk.str nm) ∧ (Instr.lookup 59 (.map (some bq)) (Lk.str nm) false).run Tryd.prog w' = .ok (.slice (some ⟨g, 0, none⟩) n cap) w')
            (exact ⟨c2, b0, HQ.out⟩) (fail)
          clear c2 b0
          go_wp2
          go_loopw [7, 53] (fun vo vi W => ∃ (k : Nat) (l2 : List Int), k ≤ n ∧ vi = .int .i64 (k : Int) ∧ Hid (Lk.B2 w W N s x nm m k vo l2)) (fun _ vi _ => n - (RowKit.intOf vi).toNat)
          case atStart => exact ⟨0, l, Nat.zero_le _, rfl, HB2⟩
          case round =>
            obtain ⟨k, l2, hk, rfl, HK⟩ := hrel
            have HKN := Mp.hid hk
            by_cases hlt : k < n
            · obtain ⟨o, ho⟩ : ∃ o, (s.q nm)[k]? = some o := ⟨_, List.getElem?_eq_getElem (by rw [← HNQ.out]; exact hlt)⟩
              have HO := Mp.hid ho
              have hce : wr.cell? ⟨g, k, none⟩ = some (.int .i64 o) := (HK.out.bx.bel.cell (p := ⟨g, k, none⟩) HC.out.1).trans (HC.out.2 k o ho)
              have hwo : Lk.wfI o := hT.out.qw nm o (List.mem_of_getElem? ho)
              clear ho
              have g1 : (0 : Int) ≤ (k : Int) := by omega
              have g2 : (k : Int) < (n : Int) := by omega
              by_cases hox : o = x
              · have hoe : (o == x) = true := by simpa using hox
                have HOX := Mp.hid hox
                clear hox
                go_wp2
                try rw [Exit.noGoto_ret]
                go_ret
                exact ⟨_, l2, rfl, Lk.row_base HK.out.row (by omega), HK.out.fin HZ.out (Or.inr (by rw [HO.out, HOX.out])), by have := HK.out.len; have := HQL.out; have := HNQ.out; omega, HK.out.bx.bel⟩
              · have hoe : (o == x) = false := by simpa using hox
                have HTR := Mp.hid (hT.out.below HK.out.bx.bel)
                have HMR : Hid (Md.Tab wr) := Mp.hid (hM.out.below HK.out.bx.bel)
                have HSS : Hid (wr.drew.cell? ⟨p, 1, none⟩ = some (.map (some bw)) ∧ wr.drew.cell? ⟨w.heap.size, 1, none⟩ = some (.int .i64 m) ∧ (Instr.lookup 58 (.map (some bw)) (.int .i64 o) false).run Tryd.prog wr.drew = .ok (.agg #[.string ⟨(Lk.wn s o).toArray⟩, .int .i64 (Lk.wm s o)]) wr.drew) := Mp.hid ⟨HTR.out.c1, HK.out.bx.b1, HTR.out.drew.lookR hwo⟩
                have hfl := Lk.fld1
                cases hb : Md.barsB (Lk.wm s o) m
                · go_wp2
                  go_region_held3 (fun w' => w'.cell? ⟨p, 1, none⟩ = some (.map (some bw)) ∧ w'.cell? ⟨w.heap.size, 1, none⟩ = some (.int .i64 m) ∧ (Instr.lookup 58 (.map (some bw)) (.int .i64 o) false).run Tryd.prog w' = .ok (.agg #[.string ⟨(Lk.wn s o).toArray⟩, .int .i64 (Lk.wm s o)]) w')
                    (with_reducible exact HSS.out) ((go_at_call 53; refine (bars_any _ _ _ HMR.out.drew).mono ?_; rw [hb]; rintro e w' ⟨rfl, hw'⟩; obtain rfl := hw'.symm))
                  go_wp2
                  go_roundw
                  case rel => exact ⟨k + 1, l2, by omega, by go_num, Mp.hid (HK.out.drew.skip HO.out hox hb)⟩
                  case measure => simp [RowKit.intOf]; omega
                · have HLN2 : Hid (l2.length ≤ 2 * N ∧ N < 100000 ∧ w.heap.size + 2 ≤ wr.heap.size) := Mp.hid ⟨by have := HK.out.len; have := HQL.out; have := HNQ.out; omega, hN.out, HK.out.sz⟩
                  go_wp2
                  go_region_held3 (fun w' => w'.cell? ⟨p, 1, none⟩ = some (.map (some bw)) ∧ w'.cell? ⟨w.heap.size, 1, none⟩ = some (.int .i64 m) ∧ (Instr.lookup 58 (.map (some bw)) (.int .i64 o) false).run Tryd.prog w' = .ok (.agg #[.string ⟨(Lk.wn s o).toArray⟩, .int .i64 (Lk.wm s o)]) w')
                    (with_reducible exact HSS.out) ((go_at_call 53; refine (bars_any _ _ _ HMR.out.drew).mono ?_; rw [hb]; rintro e w' ⟨rfl, hw'⟩; obtain rfl := hw'.symm))
                  have HKd := Mp.hid HK.out.drew
                  have HLN3 : Hid (w.heap.size + 2 ≤ wr.drew.heap.size) := Mp.hid HK.out.sz
                  clear HSS HTR HMR hce
                  obtain ⟨wd, hwd⟩ : ∃ wd, wd = wr.drew := ⟨_, rfl⟩
                  rw [← hwd] at HKd HLN3 ⊢
                  clear hwd
                  go_wp2_with (first | (at_builtin; refine wpList_append_own_at _ rfl _ _ 37 rfl (w.heap.size + 2) 3 i0 (.int .i64 0) 1 8 Tryd.underlying37 hi hz0 hz1 hz2 rfl (by decide) _ _ _ rfl (HKd.out.row.alloc _) ⟨wd.heap.size, 0, none⟩ 1 1 [.int .i64 o] rfl rfl (cell_one_new _ _ _) (ints_oneCell .i64 [o]) (by have := HLN2.out; unfold maxLen; omega) (by have := HLN2.out; omega) (by have := HLN3.out; simp; omega) ?_; intro v' w2 hown' hgrow hnil hloc) | go_in)
                  go_roundw
                  case rel => exact ⟨k + 1, l2 ++ [o], by omega, by go_num, Mp.hid (HKd.out.add HO.out hox hb hown' (Lk.alloc_then hgrow))⟩
                  case measure => simp [RowKit.intOf]; omega
            · go_wp2
              try rw [Exit.noGoto_ret]
              go_ret
              exact ⟨_, l2, rfl, Lk.row_base HK.out.row (by omega), HK.out.fin HZ.out (Or.inl (by rw [← HNQ.out]; omega)), by have := HK.out.len; have := HQL.out; have := HNQ.out; omega, HK.out.bx.bel⟩
      · have hzz : ((s.set x nm : Int) == 0) = false := by simpa using hz
        have HZ := Mp.hid hz
        clear hz hc0 hl0 hrg
        go_wp2_with (first | (go_at_call 19; refine (modes_any _ tag p N s bs bw bq bi sl x nm HTW hx hl).mono ?_; rintro e w' ⟨rfl, hw'⟩; obtain rfl := hw'.symm) | go_in)
        try rw [Exit.noGoto_ret]
        go_ret
        refine ⟨_, l, rfl, Lk.row_base HB.out.row (by omega), fun o => ?_, by have := HLN.out; omega, HB.out.bx.bel⟩
        rw [HB.out.mem o, HL0.out]
        simp [Lk.barB, HZ.out]
    · intro o w1 cnt1 hkey hlo hfo hrg1 hlt hg1 hs1 hen
      have hho : s.hol o = true := by revert hfo; cases s.hol o <;> simp
      have HK := Mp.hid (And.intro hkey (And.intro hlo (And.intro hfo (And.intro hlt hs1))))
      have HG1 := Mp.hid hg1
      have HRG := Mp.hid hrg
      have HRG1 := Mp.hid hrg1
      have HX1 := Mp.hid (HB.out.bx.grown hg1 (fun k e => by injection e with e; omega))
      have HTW := Mp.hid (hT.out.below HX1.out.bel)
      have b0 := HX1.out.b0
      have b1 := HX1.out.b1
      have hI := HTW.out.lookI hho hl
      have HMW : Hid (Md.Tab w1) := Mp.hid (hM.out.below HX1.out.bel)
      clear hkey hlo hfo hlt hs1 hg1 hrg1 hrg
      by_cases hox : o = x
      · have hne : (o == x) = true := by simpa using hox
        have HBF : Hid (Lk.barH s x nm m o = false) := Mp.hid (by simp [Lk.barH, hox])
        clear hho hI
        go_wp2
        go_roundw
        case rel => exact ⟨l, _, cnt1, Mp.hid (HB.out.skip HG1.out HRG1.out HK.out.2.2.2.1 HBF.out)⟩
        case measure => rw [HRG1.out.left_eq, HRG.out.left_eq]; exact HK.out.2.2.2.1
      · have hne : (o == x) = false := by simpa using hox
        cases hany : Md.anyB (s.set o nm) m
        · have HBF : Hid (Lk.barH s x nm m o = false) := Mp.hid (by simp [Lk.barH, hany])
          clear hho
          go_wp2_with (first | (go_at_call 52; refine (any_any _ _ _ HMW.out).mono ?_; rw [hany]; rintro e w' ⟨rfl, rfl⟩) | go_in)
          go_roundw
          case rel => exact ⟨l, _, cnt1, Mp.hid (HB.out.skip HG1.out HRG1.out HK.out.2.2.2.1 HBF.out)⟩
          case measure => rw [HRG1.out.left_eq, HRG.out.left_eq]; exact HK.out.2.2.2.1
        · have HBT : Hid (Lk.barH s x nm m o = true) := Mp.hid (by simp [Lk.barH, hany, hox, hho])
          clear hho
          have hrow := HB.out.row.kept HG1.out (Lk.row_off HB.out.row)
          have hlen := HB.out.len
          have hNN := hN.out
          have hsz1 : w.heap.size + 2 ≤ w1.heap.size := Nat.le_trans HB.out.sz HG1.out.size
          have HLN := Mp.hid (And.intro hlen (And.intro hNN hsz1))
          have HROW := Mp.hid hrow
          clear hlen hNN hsz1 hrow
          go_wp2_with (first | (go_at_call 52; refine (any_any _ _ _ HMW.out).mono ?_; rw [hany]; rintro e w' ⟨rfl, hw'⟩; obtain rfl := hw'.symm) | (at_builtin; refine wpList_append_own_at _ rfl _ _ 37 rfl (w.heap.size + 2) 3 i0 (.int .i64 0) 1 8 Tryd.underlying37 hi hz0 hz1 hz2 rfl (by decide) _ _ _ rfl (HROW.out.alloc _) ⟨w1.heap.size, 0, none⟩ 1 1 [.int .i64 o] rfl rfl (cell_one_new _ _ _) (ints_oneCell .i64 [o]) (by have := HLN.out; unfold maxLen; omega) (by have := HLN.out; omega) (by have := HLN.out; simp; omega) ?_; intro v' w2 hown' hgrow hnil hloc) | go_in)
          go_roundw
          case rel => exact ⟨l ++ [o], _, cnt1, Mp.hid (HB.out.add HG1.out HRG1.out HK.out.2.2.2.1 HBT.out hown' (Lk.alloc_then hgrow))⟩
          case measure => rw [(HB.out.add HG1.out HRG1.out HK.out.2.2.2.1 HBT.out hown' (Lk.alloc_then hgrow)).rg.left_eq, HRG.out.left_eq]; exact HK.out.2.2.2.1

end Go.Proofs.YthaenobciefjiaaDoor
