/- RowErrors: the walk. -/
import Derived.Test.YtaclkmhgbmencaaL0
namespace Go.Proofs.Ytaclkmhgbmencaa
open Go.RowKit
attribute [local go_sem] Fl.run_store_float

namespace Vl
/-- The least value of a kind. -/
def kz (k : Int) : V := ⟨k, 0, 0, ⟨#[]⟩⟩
/-- A row of least values, but v at place k. -/
def rowE (cs : List Col) (k : Nat) (v : V) : List V := cs.mapIdx fun j c => if j = k then v else kz c.k
theorem rowE_length (cs : List Col) (k : Nat) (v : V) : (rowE cs k v).length = cs.length := by unfold rowE; simp
theorem rowE_at {cs : List Col} {k j : Nat} {v : V} {c : Col} (h : cs[j]? = some c) : (rowE cs k v)[j]? = some (if j = k then v else kz c.k) := by unfold rowE; simp [h]
theorem rowE_step {cs : List Col} {k j : Nat} {v : V} {c : Col} (h : cs[j]? = some c) : (rowE cs k v).take (j + 1) = (rowE cs k v).take j ++ [if j = k then v else kz c.k] := by
  obtain ⟨hl, he⟩ := List.getElem?_eq_some_iff.1 (rowE_at (k := k) (v := v) h)
  rw [List.take_succ_eq_append_getElem hl, he]
theorem good_kz {k : Int} (h1 : 1 ≤ k) (h4 : k ≤ 4) : goodB k 0 0 ⟨#[]⟩ = true := by
  rcases (by omega : k = 1 ∨ k = 2 ∨ k = 3 ∨ k = 4) with rfl | rfl | rfl | rfl
  · exact gz1
  · exact gz2 0
  · rw [goodB_3]; unfold good3; rw [ByteArray.toList_eq]; decide +kernel
  · rw [goodB_4]; rfl
theorem takes_kz {c : Col} (h : colB c = true) : takesE c (kz c.k) = 0 := by
  unfold colB at h
  simp only [Bool.and_eq_true, decide_eq_true_eq] at h
  obtain ⟨⟨⟨⟨_, h1⟩, h4⟩, _⟩, _⟩ := h
  exact takes_01 (v := kz c.k) (good_kz h1 h4) (beq_eq_false_iff_ne.2 (by show c.k ≠ 0; omega)) (by show (c.k == c.k) = true; simp)
theorem fill_rowE {cs : List Col} {k : Nat} {v : V} {c : Col} (hg : colsB cs = true) (hc : cs[k]? = some c) : fillE cs (rowE cs k v) = takesE c v ∧ (takesE c v = 0 → fillL cs (rowE cs k v) = rowE cs k v) := by
  have hp : padL cs (rowE cs k v) = rowE cs k v := padL_whole cs _ (rowE_length cs k v)
  have hz : ∀ (j : Nat) (d : Col) (z : V), j ≠ k → cs[j]? = some d → (rowE cs k v)[j]? = some z → takesE d z = 0 := fun j d z hj hd hz => by
    rw [rowE_at hd, if_neg hj] at hz
    cases hz
    exact takes_kz ((colsB_up hg).2.2 j d (List.getElem?_eq_some_iff.1 hd).1 hd).1
  have hk : (rowE cs k v)[k]? = some v := by rw [rowE_at hc, if_pos rfl]
  have he : errL cs (padL cs (rowE cs k v)) = takesE c v := by
    rw [hp]
    by_cases h0 : takesE c v = 0
    · rw [h0]
      refine errL_none cs _ fun j d z hd hz' => ?_
      by_cases e : j = k
      · subst e
        rw [hc] at hd
        rw [hk] at hz'
        cases hd
        cases hz'
        exact h0
      · exact hz j d z e hd hz'
    · exact errL_stop cs _ k c v hc hk h0 fun j d z hj hd hz' => hz j d z (by omega) hd hz'
  have hl : ¬ cs.length < (rowE cs k v).length := by rw [rowE_length]; omega
  by_cases h0 : takesE c v = 0
  · have := fill_ok hl (by rw [he]; exact h0)
    rw [hp] at this
    exact ⟨by rw [this.2, h0], fun _ => this.1⟩
  · exact ⟨(fill_err hl he h0).2, fun h => absurd h h0⟩
theorem blk_le {B g n c : Nat} (h : B ≤ g) : ∀ k, (Value.slice (some ⟨g, 0, none⟩) n c).ownBlock = some k → B ≤ k := fun k hk => by cases hk; exact h
structure VB (w0 : World) (v : V) (w : World) : Prop where
  v : V4 w w0.heap.size 0 v
  b : Below w0.heap.size w0 w
theorem VB.start (w0 : World) (v : V) (t : TypeId) : VB w0 v (w0.alloc (.cells #[.int .i64 v.k, .int .i64 v.n, .float .f64 v.f, .string v.s] t)) := ⟨V4.made v t rfl, bal (Below.refl _ _) _⟩
theorem VB.step {w0 w w1 : World} {v : V} (h : VB w0 v w) (hb : Below w.heap.size w w1) : VB w0 v w1 := ⟨h.v.below hb, btr h.b hb⟩
theorem VB.al {w0 w : World} {v : V} (h : VB w0 v w) (x : Obj) : VB w0 v (w.alloc x) := h.step (bal (Below.refl _ _) x)
theorem VB.drew {w0 w : World} {v : V} (h : VB w0 v w) : VB w0 v w.drew := ⟨h.v.drew, bdrewN h.b 1⟩
theorem V4.grown {w w1 : World} {b o : Nat} {c : V} {row : Option Nat} (h : V4 w b o c) (hg : w.grownBy w1 row) (hne : some b ≠ row) : V4 w1 b o c := by
  have e : ∀ j, w1.cell? ⟨b, j, none⟩ = w.cell? ⟨b, j, none⟩ := fun j => World.cell?_of_block (hg.block b h.lt hne)
  exact ⟨Nat.lt_of_lt_of_le h.lt hg.size, (e _).trans h.c0, (e _).trans h.c1, (e _).trans h.c2, (e _).trans h.c3⟩
theorem VB.grown {w0 w w1 : World} {v : V} {row : Option Nat} (h : VB w0 v w) (hg : w.grownBy w1 row) (hr : ∀ k, row = some k → w0.heap.size < k) : VB w0 v w1 :=
  ⟨h.v.grown hg (fun e => Nat.lt_irrefl _ (hr _ e.symm)), h.b.grown hg h.b.size (fun k hk => Nat.le_of_lt (hr k hk))⟩
end Vl

set_option maxRecDepth 100000 in
set_option maxHeartbeats 8000000 in
theorem rowErrors_law (p : Option Addr) (n c : Nat) (cs : List Vl.Col) (at_ : Int) (v : Vl.V) (w : World) (hC : Vl.Col1 w p n c cs) (_ : True) (_ : v.Fit) :
    Calls Try.prog 6 #[.slice p n c, .int .i64 at_, .agg #[.int .i64 v.k, .int .i64 v.n, .float .f64 v.f, .string v.s]] w fun e w' => e = .returned (.bool true) ∧ Below w.heap.size w w' := by
  have HC := Vl.hid hC
  have hn := hC.le
  have HS0 := Vl.hid (Vl.VB.start w v 25)
  clear hC
  go_enter Try.func6, Try.ntmps6
  go_wp2_with fail
  refine (refGoodC_any p n c cs _ HC.out.len HC.out.le (Vl.hid (HC.out.row.below HS0.out.b))).mono ?_
  rintro e w1 ⟨rfl, hB⟩
  have HS1 := Vl.hid (HS0.out.step hB)
  have HB1 := Vl.hid HS1.out.b
  clear hB HS0
  cases hg : Vl.colsB cs
  · clear HS1
    go_wp2_with fail
    refine (wakes_any _).mono ?_
    rintro e wk ⟨rfl, hb⟩
    have HBK := Vl.hid (Vl.btr HB1.out hb)
    clear hb
    go_wp2_with fail
    go_ret
    exact ⟨rfl, HBK.out⟩
  · have HG := Vl.hid hg
    have hn6 : n ≤ 6 := by rw [← HC.out.len]; exact (Vl.colsB_up hg).2.1
    have hn1 : 1 ≤ n := by rw [← HC.out.len]; exact (Vl.colsB_up hg).1
    clear HB1
    obtain ⟨p0, p1, p2, p3⟩ := HS1.out.v.box
    go_wp2_with fail
    refine (refGood_any v.k v.n v.f v.s _).mono ?_
    rintro e w2 ⟨rfl, hB⟩
    have HS2 := Vl.hid (HS1.out.step hB)
    have HB2 := Vl.hid HS2.out.b
    clear hB HS1 p0 p1 p2 p3
    cases hgv : Vl.goodB v.k v.n v.f v.s
    · clear HS2 hg
      go_wp2_with fail
      refine (wakes_any _).mono ?_
      rintro e wk ⟨rfl, hb⟩
      have HBK := Vl.hid (Vl.btr HB2.out hb)
      clear hb
      go_wp2_with fail
      go_ret
      exact ⟨rfl, HBK.out⟩
    · have HGV := Vl.hid hgv
      clear HB2 hg hgv
      go_wp2_with fail
      refine (mod_any at_ n _ hn1 (by omega)).mono ?_
      rintro e w3 ⟨kk, hkk, rfl, hq⟩
      obtain rfl := hq.symm
      obtain ⟨ck, hck⟩ : ∃ ck, cs[kk]? = some ck := ⟨cs[kk]'(by rw [HC.out.len]; exact hkk), List.getElem?_eq_getElem _⟩
      have HCK := Vl.hid hck
      have HFR := Vl.hid (Vl.fill_rowE (v := v) HG.out hck)
      have HRL : Hid ((Vl.rowE cs kk v).length = n) := Vl.hid (by rw [Vl.rowE_length, HC.out.len])
      obtain ⟨rs, HRS⟩ : ∃ rs, Hid (Vl.rowE cs kk v = rs) := ⟨_, Vl.hid rfl⟩
      rw [HRS.out] at HFR HRL
      clear hck
      obtain ⟨iV, HIV⟩ : ∃ i, Hid (Try.prog.info? 25 = some i ∧ i.zero = some (.agg #[.int .i64 0, .int .i64 0, .float .f64 0, .string ⟨#[]⟩]) ∧ i.size = 4 ∧ i.bytes = 40) := ⟨_, Try.type25, rfl, rfl, rfl⟩
      go_wp2_with fail
      go_loopw [7, 9] (fun vo vi wr => ∃ (k : Nat) (pv : Option Addr) (cv : Nat), k ≤ n ∧ vi = .int .i64 (k : Int) ∧ vo = .slice pv k cv ∧ Hid (wr.ownsRow (w.heap.size + 1) 25 4 (.slice pv k cv) k (Vl.cellsV (rs.take k))) ∧ Hid (Vl.VB w v wr)) (fun _ vi _ => n - (RowKit.intOf vi).toNat)
      case atStart => exact ⟨0, none, 0, by omega, rfl, rfl, World.ownsRow_nil _ _ _ _, HS2⟩
      case round =>
        obtain ⟨k, pv, cv, hk, rfl, rfl, HO, HS⟩ := hrel
        rename World => wr
        clear HS2
        by_cases hlt : k < n
        · obtain ⟨x, hx⟩ : ∃ x, cs[k]? = some x := ⟨cs[k]'(by rw [HC.out.len]; exact hlt), List.getElem?_eq_getElem _⟩
          have hst := Vl.rowE_step (k := kk) (v := v) hx
          rw [HRS.out] at hst
          obtain ⟨b, o, hp, hr⟩ := (HC.out.row.below HS.out.b).at hx
          obtain ⟨_, q0, q1, q2, q3, q4, q5, q6⟩ := hr
          obtain ⟨p0, p1, p2, p3⟩ := HS.out.v.box
          have hbs := HS.out.b.size
          have hvl := HS.out.v.lt
          have hne : wr.heap.size ≠ w.heap.size := by omega
          have hne2 : w.heap.size ≠ wr.heap.size := by omega
          subst hp
          cases hkk2 : ((k : Int) == (kk : Int))
          · have hst2 : rs.take (k + 1) = rs.take k ++ [Vl.kz x.k] := by rw [hst, if_neg (by have h9 := hkk2; simp at h9; omega)]
            have HST := Vl.hid hst2
            clear hst hst2 hx
            go_wp2_with (at_builtin; refine Vl.append_any rfl _ _ 38 rfl (w.heap.size + 1) 25 iV (.agg #[.int .i64 0, .int .i64 0, .float .f64 0, .string ⟨#[]⟩]) 4 40 Try.underlying38 HIV.out.1 HIV.out.2.1 HIV.out.2.2.1 HIV.out.2.2.2 rfl (by decide) (.slice pv k cv) k (Vl.cellsV (rs.take k)) rfl ((HO.out.alloc _).alloc _) (some ⟨wr.heap.size + 1, 0, none⟩) 1 1 (Vl.cellsV [(Vl.kz x.k)]) rfl (fun h => nomatch h) (rfl) ((Vl.V4.made (Vl.kz x.k) _ (by simp)).lies) (Vl.cellsV_one _) (by unfold maxLen; omega) (by omega) (by simp; omega) ?_)
            intro v' wn hown hgrow
            obtain ⟨pn, cn, rfl, _, _⟩ := Vl.lies_own hown
            rw [← Vl.cellsV_app, ← HST.out] at hown
            have HON := Vl.hid hown
            have HSN := Vl.hid (((HS.out.al _).al _).grown hgrow (fun j hj => (HO.out.lt j hj).1))
            clear hown hgrow
            go_wp2_with fail
            exact ⟨⟨k + 1, pn, cn, by omega, by go_num, rfl, HON.out, HSN.out⟩, by simp [RowKit.intOf]; omega⟩
          · have hst2 : rs.take (k + 1) = rs.take k ++ [v] := by rw [hst, if_pos (by have h9 := hkk2; simp at h9; omega)]
            have HST := Vl.hid hst2
            clear hst hst2 hx
            go_wp2_with (at_builtin; refine Vl.append_any rfl _ _ 38 rfl (w.heap.size + 1) 25 iV (.agg #[.int .i64 0, .int .i64 0, .float .f64 0, .string ⟨#[]⟩]) 4 40 Try.underlying38 HIV.out.1 HIV.out.2.1 HIV.out.2.2.1 HIV.out.2.2.2 rfl (by decide) (.slice pv k cv) k (Vl.cellsV (rs.take k)) rfl ((HO.out.alloc _).alloc _) (some ⟨wr.heap.size + 1, 0, none⟩) 1 1 (Vl.cellsV [v]) rfl (fun h => nomatch h) (rfl) ((Vl.V4.made v _ (by simp)).lies) (Vl.cellsV_one _) (by unfold maxLen; omega) (by omega) (by simp; omega) ?_)
            intro v' wn hown hgrow
            obtain ⟨pn, cn, rfl, _, _⟩ := Vl.lies_own hown
            rw [← Vl.cellsV_app, ← HST.out] at hown
            have HON := Vl.hid hown
            have HSN := Vl.hid (((HS.out.al _).al _).grown hgrow (fun j hj => (HO.out.lt j hj).1))
            clear hown hgrow
            go_wp2_with fail
            exact ⟨⟨k + 1, pn, cn, by omega, by go_num, rfl, HON.out, HSN.out⟩, by simp [RowKit.intOf]; omega⟩
        · obtain rfl : k = n := by omega
          obtain ⟨pv2, cv2, e2, hcv, hrl⟩ := Vl.lies_own HO.out
          cases e2
          rw [List.take_of_length_le (by rw [HRL.out]; exact Nat.le_refl _)] at hrl
          have HRI : Hid (Vl.RowIn wr pv rs) := Vl.hid hrl
          have HNR : Hid (pv = none → k = 0 ∧ cv = 0) := Vl.hid (by
            rcases HO.out.2 with ⟨e1, e2⟩ | ⟨g, cap, cur, e1, _⟩
            · cases e1; exact fun _ => ⟨rfl, rfl⟩
            · cases e1; exact fun h => nomatch h)
          clear hrl HO
          go_wp2_with (at_builtin; refine Vl.append_any rfl _ _ 38 rfl wr.heap.size 25 iV (.agg #[.int .i64 0, .int .i64 0, .float .f64 0, .string ⟨#[]⟩]) 4 40 Try.underlying38 HIV.out.1 HIV.out.2.1 HIV.out.2.2.1 HIV.out.2.2.2 rfl (by decide) (.slice (some ⟨wr.heap.size, 0, none⟩) 0 0) 0 [] rfl (Vl.own_at (Vl.new_at2 _ rfl) (Nat.le_refl _)) pv k cv (Vl.cellsV rs) rfl (HNR.out) (by rw [Vl.cellsV_length, HRL.out]) (HRI.out.al _) (Vl.cellsV_one _) (by unfold maxLen; omega) (by omega) (by simp) ?_)
          intro v' w4 hown hgrow
          obtain ⟨pin, cin, rfl, hcin, hnin, hin, hb⟩ := Vl.copied hown hgrow
          clear hown hgrow
          have HIN := Vl.hid hin
          have HS4 := Vl.hid (HS.out.step hb)
          have HR4 := Vl.hid (HRI.out.below hb)
          clear hin hb hnin HS HRI
          go_wp2_with fail
          refine (fill_any p k c cs pin k cin rs _ HC.out.len HC.out.le (by omega) (Vl.hid (HC.out.row.below HS4.out.b)) HRL.out HIN).mono ?_
          rintro e w5 ⟨pf, cf, rfl, hcf, _, hrf, hb⟩
          obtain ⟨E, HE⟩ : ∃ E, Hid (Vl.takesE ck v = E) := ⟨_, Vl.hid rfl⟩
          obtain ⟨L, HLL⟩ : ∃ L, Hid ((Vl.fillL cs rs).length = L) := ⟨_, Vl.hid rfl⟩
          rw [HFR.out.1, HE.out, HLL.out]
          rw [HLL.out] at hcf
          have HS5 := Vl.hid (HS4.out.step hb)
          have HR5 := Vl.hid (HR4.out.below hb)
          have HF5 := Vl.hid hrf
          clear hrf hb HS4 HR4 HIN
          have hlt5 := HS5.out.v.lt
          have HFM := Vl.hid (Vl.fill_many (cs := cs) (xs := rs ++ [v]) (by rw [List.length_append, HRL.out, HC.out.len]; simp))
          have HXL : Hid ((rs ++ [v]).length = k + 1) := Vl.hid (by rw [List.length_append, HRL.out]; rfl)
          go_wp2_with fail
          go_region_held3 (fun w' => w'.cell? ⟨w.heap.size, 0, none⟩ = some (.int .i64 v.k) ∧ w'.cell? ⟨w.heap.size, 1, none⟩ = some (.int .i64 v.n) ∧ w'.cell? ⟨w.heap.size, 2, none⟩ = some (.float .f64 v.f) ∧ w'.cell? ⟨w.heap.size, 3, none⟩ = some (.string v.s))
            (first | (with_reducible exact HS5.out.drew.v.box) | (with_reducible exact (HS5.out.al _).drew.v.box) | (with_reducible exact ((HS5.out.al _).al _).drew.v.box) | (with_reducible exact (HS5.out.step HB51.out).v.box) | (with_reducible exact ((HS5.out.step HB51.out).al _).v.box) | (with_reducible exact (HS5.out.step HB52.out).v.box) | (with_reducible exact (HS5.out.step HB53.out).v.box) | fail)
            (first | (refine Vl.step_append rfl _ _ 38 rfl w5.heap.size 25 iV (.agg #[.int .i64 0, .int .i64 0, .float .f64 0, .string ⟨#[]⟩]) 4 40 Try.underlying38 HIV.out.1 HIV.out.2.1 HIV.out.2.2.1 HIV.out.2.2.2 rfl (by decide) (.slice (some ⟨w5.heap.size, 0, none⟩) 0 0) 0 [] rfl (Vl.own_drew (Vl.own_at (Vl.new_at2 _ rfl) (Nat.le_refl _))) pv k cv (Vl.cellsV rs) rfl HNR.out (by rw [Vl.cellsV_length, HRL.out]) (HR5.out.below (Vl.bdrewN (Vl.bal (Below.refl _ _) _) 1)) (Vl.cellsV_one _) (by unfold maxLen; omega) (by omega) ((Vl.bdrewN (Vl.bal (Below.refl _ _) _) 1).size) ?_; intro v1 W1 hown1 hgrow1; rw [List.nil_append, Nat.zero_add] at hown1; obtain ⟨p1', c1', rfl, _, _⟩ := Vl.lies_own hown1; have HOWN := Vl.hid hown1; have HB51 := Vl.hid (Below.grown (Vl.bdrewN (Vl.bal (Below.refl _ _) _) 1) hgrow1 ((Vl.bdrewN (Vl.bal (Below.refl _ _) _) 1).size) (Vl.blk_le (by omega))); clear hown1 hgrow1) | (refine Vl.step_append rfl _ _ 38 rfl w5.heap.size 25 iV (.agg #[.int .i64 0, .int .i64 0, .float .f64 0, .string ⟨#[]⟩]) 4 40 Try.underlying38 HIV.out.1 HIV.out.2.1 HIV.out.2.2.1 HIV.out.2.2.2 rfl (by decide) (.slice (some ⟨w5.heap.size, 0, none⟩) 0 0) 0 [] rfl (Vl.own_drew ((Vl.own_at (Vl.new_at2 _ rfl) (Nat.le_refl _)).alloc _)) pv k cv (Vl.cellsV rs) rfl HNR.out (by rw [Vl.cellsV_length, HRL.out]) (HR5.out.below (Vl.bdrewN (Vl.bal (Vl.bal (Below.refl _ _) _) _) 1)) (Vl.cellsV_one _) (by unfold maxLen; omega) (by omega) ((Vl.bdrewN (Vl.bal (Vl.bal (Below.refl _ _) _) _) 1).size) ?_; intro v1 W1 hown1 hgrow1; rw [List.nil_append, Nat.zero_add] at hown1; obtain ⟨p1', c1', rfl, _, _⟩ := Vl.lies_own hown1; have HOWN := Vl.hid hown1; have HB51 := Vl.hid (Below.grown (Vl.bdrewN (Vl.bal (Vl.bal (Below.refl _ _) _) _) 1) hgrow1 ((Vl.bdrewN (Vl.bal (Vl.bal (Below.refl _ _) _) _) 1).size) (Vl.blk_le (by omega))); have HBX := Vl.hid (Vl.V4.grown (Vl.V4.made v 25 (n := w5.heap.size + 1) (by simp)).drew hgrow1 (by simp [Value.ownBlock])); clear hown1 hgrow1) | (refine Vl.step_append rfl _ _ 38 rfl w5.heap.size 25 iV (.agg #[.int .i64 0, .int .i64 0, .float .f64 0, .string ⟨#[]⟩]) 4 40 Try.underlying38 HIV.out.1 HIV.out.2.1 HIV.out.2.2.1 HIV.out.2.2.2 rfl (by decide) (.slice (some ⟨w5.heap.size + 1, 0, none⟩) 0 0) 0 [] rfl (Vl.own_drew (Vl.own_at (Vl.new_at2 _ (by simp)) (by omega))) pv k cv (Vl.cellsV rs) rfl HNR.out (by rw [Vl.cellsV_length, HRL.out]) (HR5.out.below (Vl.bdrewN (Vl.bal (Vl.bal (Below.refl _ _) _) _) 1)) (Vl.cellsV_one _) (by unfold maxLen; omega) (by omega) ((Vl.bdrewN (Vl.bal (Vl.bal (Below.refl _ _) _) _) 1).size) ?_; intro v1 W1 hown1 hgrow1; rw [List.nil_append, Nat.zero_add] at hown1; obtain ⟨p1', c1', rfl, _, _⟩ := Vl.lies_own hown1; have HOWN := Vl.hid hown1; have HB51 := Vl.hid (Below.grown (Vl.bdrewN (Vl.bal (Vl.bal (Below.refl _ _) _) _) 1) hgrow1 ((Vl.bdrewN (Vl.bal (Vl.bal (Below.refl _ _) _) _) 1).size) (Vl.blk_le (by omega))); have HBX := Vl.hid (Vl.V4.grown ((Vl.V4.made v 25 (n := w5.heap.size) rfl).al _).drew hgrow1 (by simp [Value.ownBlock])); clear hown1 hgrow1) | (refine Vl.step_append rfl _ _ 38 rfl w5.heap.size 25 iV (.agg #[.int .i64 0, .int .i64 0, .float .f64 0, .string ⟨#[]⟩]) 4 40 Try.underlying38 HIV.out.1 HIV.out.2.1 HIV.out.2.2.1 HIV.out.2.2.2 rfl (by decide) (.slice p1' k c1') k (Vl.cellsV rs) rfl (HOWN.out.alloc _) (some ⟨W1.heap.size, 0, none⟩) 1 1 (Vl.cellsV [v]) rfl (fun h => nomatch h) rfl ((Vl.V4.made v _ rfl).lies) (Vl.cellsV_one _) (by unfold maxLen; omega) (by omega) ((Vl.bal HB51.out _).size) ?_; intro v2 W2 hown2 hgrow2; obtain ⟨p2', c2', rfl, hc2, hl2⟩ := Vl.lies_own hown2; rw [← Vl.cellsV_app] at hl2; have HB52 := Vl.hid (Below.grown (Vl.bal HB51.out _) hgrow2 ((Vl.bal HB51.out _).size) (fun j hj => (HOWN.out.lt j hj).1)); have HFIN := Vl.hid (And.intro hc2 hl2); clear hown2 hgrow2 hc2 hl2) | (refine Vl.step_append rfl _ _ 38 rfl w5.heap.size 25 iV (.agg #[.int .i64 0, .int .i64 0, .float .f64 0, .string ⟨#[]⟩]) 4 40 Try.underlying38 HIV.out.1 HIV.out.2.1 HIV.out.2.2.1 HIV.out.2.2.2 rfl (by decide) (.slice p1' k c1') k (Vl.cellsV rs) rfl (HOWN.out) (some ⟨w5.heap.size + 1, 0, none⟩) 1 1 (Vl.cellsV [v]) rfl (fun h => nomatch h) rfl (HBX.out.lies) (Vl.cellsV_one _) (by unfold maxLen; omega) (by omega) ((HB51.out).size) ?_; intro v2 W2 hown2 hgrow2; obtain ⟨p2', c2', rfl, hc2, hl2⟩ := Vl.lies_own hown2; rw [← Vl.cellsV_app] at hl2; have HB52 := Vl.hid (Below.grown (HB51.out) hgrow2 ((HB51.out).size) (fun j hj => (HOWN.out.lt j hj).1)); have HFIN := Vl.hid (And.intro hc2 hl2); clear hown2 hgrow2 hc2 hl2) | (refine Vl.step_append rfl _ _ 38 rfl w5.heap.size 25 iV (.agg #[.int .i64 0, .int .i64 0, .float .f64 0, .string ⟨#[]⟩]) 4 40 Try.underlying38 HIV.out.1 HIV.out.2.1 HIV.out.2.2.1 HIV.out.2.2.2 rfl (by decide) (.slice p1' k c1') k (Vl.cellsV rs) rfl (HOWN.out) (some ⟨w5.heap.size, 0, none⟩) 1 1 (Vl.cellsV [v]) rfl (fun h => nomatch h) rfl (HBX.out.lies) (Vl.cellsV_one _) (by unfold maxLen; omega) (by omega) ((HB51.out).size) ?_; intro v2 W2 hown2 hgrow2; obtain ⟨p2', c2', rfl, hc2, hl2⟩ := Vl.lies_own hown2; rw [← Vl.cellsV_app] at hl2; have HB52 := Vl.hid (Below.grown (HB51.out) hgrow2 ((HB51.out).size) (fun j hj => (HOWN.out.lt j hj).1)); have HFIN := Vl.hid (And.intro hc2 hl2); clear hown2 hgrow2 hc2 hl2) | (go_at_call 18; refine (fill_any p k c cs p2' (k + 1) c2' (rs ++ [v]) _ HC.out.len HC.out.le (by omega) (Vl.hid (HC.out.row.below (Vl.btr HS5.out.b HB52.out))) HXL.out (Vl.hid HFIN.out.2)).mono ?_; rintro e w6 ⟨p6, c6, rfl, _, _, _, hb⟩; rw [HFM.out.1, HFM.out.2, List.length_nil]; have HB53 := Vl.hid (Vl.btr HB52.out hb); clear hb))
          · have HB6 := Vl.hid (Vl.btr HS5.out.b HB53.out)
            have HR6 := Vl.hid (HR5.out.below HB53.out)
            have HF6 := Vl.hid (HF5.out.below HB53.out)
            have hv6 := (HS5.out.step HB53.out).v
            obtain ⟨p0, p1, p2, p3⟩ := hv6.box
            obtain ⟨b1, o1, hp1, hr1⟩ := (HC.out.row.below HB6.out).at HCK.out
            have HSV := Vl.hid (Vl.CVS.of hr1 hv6 (Below.refl w6.heap.size w6))
            obtain ⟨_, q0, q1, q2, q3, q4, q5, q6⟩ := hr1
            subst hp1
            clear HB53 HS5 HR5 HF5 hv6
            cases hk0 : (v.k == 0)
            · have hk1 : (v.k != 0) = true := by simpa using hk0
              cases hkc : (v.k == ck.k)
              · have hkc1 : (v.k != ck.k) = true := by simpa using hkc
                obtain rfl : E = 20 := by rw [← HE.out]; exact Vl.takes_20 HGV.out hk0 hkc
                go_wp2_with fail
                refine wp_region_held_drew (S := (fun w' => w'.cell? ⟨b1, o1 + kk * 7, none⟩ = some (.string ck.nm) ∧ w'.cell? ⟨b1, o1 + kk * 7 + 1, none⟩ = some (.int .i64 ck.k) ∧ w'.cell? ⟨b1, o1 + kk * 7 + 2, none⟩ = some (.bool ck.nn) ∧ w'.cell? ⟨b1, o1 + kk * 7 + 3, none⟩ = some (.int .i64 ck.d.k) ∧ w'.cell? ⟨b1, o1 + kk * 7 + 4, none⟩ = some (.int .i64 ck.d.n) ∧ w'.cell? ⟨b1, o1 + kk * 7 + 5, none⟩ = some (.float .f64 ck.d.f) ∧ w'.cell? ⟨b1, o1 + kk * 7 + 6, none⟩ = some (.string ck.d.s) ∧ w'.cell? ⟨w.heap.size, 0, none⟩ = some (.int .i64 v.k) ∧ w'.cell? ⟨w.heap.size, 1, none⟩ = some (.int .i64 v.n) ∧ w'.cell? ⟨w.heap.size, 2, none⟩ = some (.float .f64 v.f) ∧ w'.cell? ⟨w.heap.size, 3, none⟩ = some (.string v.s) ∧ b1 < w'.heap.size ∧ w.heap.size < w'.heap.size ∧ Below w6.heap.size w6 w')) (by kernel_rfl) (Vl.CVS.drew HSV.out) (fun hH => ?_)
                refine wpAnyH_take (i := 0) (oi := ?oax0) (v := ?vax0) ?hiax0 ?hsax0 ?hfax0 ?hrax0 ?hQax0 (Or.inl ⟨?hwax0, ?hyax0⟩) ?hSax0 ?restax0
                case hiax0 => (simp; rfl)
                case hsax0 => kernel_rfl
                case hfax0 => kernel_rfl
                case hrax0 => kernel_rfl
                case hQax0 => exact fun _ _ _ h => h
                case hwax0 => rfl
                case hyax0 => (intro wq hSq; (try dsimp only at hSq); go_simp; (try with_reducible rfl))
                case hSax0 => assumption
                simp only [Act.put, List.setIfInBounds_toArray, List.set_cons_zero, List.set_cons_succ]
                refine wpAnyH_take (i := 1) (oi := ?oax1) (v := ?vax1) ?hiax1 ?hsax1 ?hfax1 ?hrax1 ?hQax1 (Or.inl ⟨?hwax1, ?hyax1⟩) ?hSax1 ?restax1
                case hiax1 => (simp; rfl)
                case hsax1 => kernel_rfl
                case hfax1 => kernel_rfl
                case hrax1 => kernel_rfl
                case hQax1 => exact fun _ _ _ h => h
                case hwax1 => rfl
                case hyax1 => (intro wq hSq; (try dsimp only at hSq); go_simp; (try with_reducible rfl))
                case hSax1 => assumption
                simp only [Act.put, List.setIfInBounds_toArray, List.set_cons_zero, List.set_cons_succ]
                refine wpAnyH_take (i := 2) (oi := ?oax2) (v := ?vax2) ?hiax2 ?hsax2 ?hfax2 ?hrax2 ?hQax2 (Or.inl ⟨?hwax2, ?hyax2⟩) ?hSax2 ?restax2
                case hiax2 => (simp; rfl)
                case hsax2 => kernel_rfl
                case hfax2 => kernel_rfl
                case hrax2 => kernel_rfl
                case hQax2 => exact fun _ _ _ h => h
                case hwax2 => rfl
                case hyax2 => (intro wq hSq; (try dsimp only at hSq); go_simp; (try with_reducible rfl))
                case hSax2 => assumption
                simp only [Act.put, List.setIfInBounds_toArray, List.set_cons_zero, List.set_cons_succ]
                refine wpAnyH_take (i := 3) (oi := ?oax3) (v := ?vax3) ?hiax3 ?hsax3 ?hfax3 ?hrax3 ?hQax3 (Or.inl ⟨?hwax3, ?hyax3⟩) ?hSax3 ?restax3
                case hiax3 => (simp; rfl)
                case hsax3 => kernel_rfl
                case hfax3 => kernel_rfl
                case hrax3 => kernel_rfl
                case hQax3 => exact fun _ _ _ h => h
                case hwax3 => rfl
                case hyax3 => (intro wq hSq; (try dsimp only at hSq); go_simp; (try with_reducible rfl))
                case hSax3 => assumption
                simp only [Act.put, List.setIfInBounds_toArray, List.set_cons_zero, List.set_cons_succ]
                refine wpAnyH_take (i := 4) (oi := ?oax4) (v := ?vax4) ?hiax4 ?hsax4 ?hfax4 ?hrax4 ?hQax4 (Or.inl ⟨?hwax4, ?hyax4⟩) ?hSax4 ?restax4
                case hiax4 => (simp; rfl)
                case hsax4 => kernel_rfl
                case hfax4 => kernel_rfl
                case hrax4 => kernel_rfl
                case hQax4 => exact fun _ _ _ h => h
                case hwax4 => rfl
                case hyax4 => (intro wq hSq; (try dsimp only at hSq); go_simp; (try with_reducible rfl))
                case hSax4 => assumption
                simp only [Act.put, List.setIfInBounds_toArray, List.set_cons_zero, List.set_cons_succ]
                refine wpAnyH_take (i := 5) (oi := ?oax5) (v := ?vax5) ?hiax5 ?hsax5 ?hfax5 ?hrax5 ?hQax5 (Or.inl ⟨?hwax5, ?hyax5⟩) ?hSax5 ?restax5
                case hiax5 => (simp; rfl)
                case hsax5 => kernel_rfl
                case hfax5 => kernel_rfl
                case hrax5 => kernel_rfl
                case hQax5 => exact fun _ _ _ h => h
                case hwax5 => rfl
                case hyax5 => (intro wq hSq; (try dsimp only at hSq); go_simp; (try with_reducible rfl))
                case hSax5 => assumption
                simp only [Act.put, List.setIfInBounds_toArray, List.set_cons_zero, List.set_cons_succ]
                refine wpAnyH_take (i := 6) (oi := ?oax6) (v := ?vax6) ?hiax6 ?hsax6 ?hfax6 ?hrax6 ?hQax6 (Or.inl ⟨?hwax6, ?hyax6⟩) ?hSax6 ?restax6
                case hiax6 => (simp; rfl)
                case hsax6 => kernel_rfl
                case hfax6 => kernel_rfl
                case hrax6 => kernel_rfl
                case hQax6 => exact fun _ _ _ h => h
                case hwax6 => rfl
                case hyax6 => (intro wq hSq; (try dsimp only at hSq); go_simp; (try with_reducible rfl))
                case hSax6 => assumption
                simp only [Act.put, List.setIfInBounds_toArray, List.set_cons_zero, List.set_cons_succ]
                refine wpAnyH_take (i := 7) (oi := ?oax7) (v := ?vax7) ?hiax7 ?hsax7 ?hfax7 ?hrax7 ?hQax7 (Or.inl ⟨?hwax7, ?hyax7⟩) ?hSax7 ?restax7
                case hiax7 => (simp; rfl)
                case hsax7 => kernel_rfl
                case hfax7 => kernel_rfl
                case hrax7 => kernel_rfl
                case hQax7 => exact fun _ _ _ h => h
                case hwax7 => rfl
                case hyax7 => (intro wq hSq; (try dsimp only at hSq); go_simp; (try with_reducible rfl))
                case hSax7 => assumption
                simp only [Act.put, List.setIfInBounds_toArray, List.set_cons_zero, List.set_cons_succ]
                refine wpAnyH_take (i := 8) (oi := ?oax8) (v := ?vax8) ?hiax8 ?hsax8 ?hfax8 ?hrax8 ?hQax8 (Or.inl ⟨?hwax8, ?hyax8⟩) ?hSax8 ?restax8
                case hiax8 => (simp; rfl)
                case hsax8 => kernel_rfl
                case hfax8 => kernel_rfl
                case hrax8 => kernel_rfl
                case hQax8 => exact fun _ _ _ h => h
                case hwax8 => rfl
                case hyax8 => (intro wq hSq; (try dsimp only at hSq); go_simp; (try with_reducible rfl))
                case hSax8 => assumption
                simp only [Act.put, List.setIfInBounds_toArray, List.set_cons_zero, List.set_cons_succ]
                refine wpAnyH_take (i := 9) (oi := ?oax9) (v := ?vax9) ?hiax9 ?hsax9 ?hfax9 ?hrax9 ?hQax9 (Or.inl ⟨?hwax9, ?hyax9⟩) ?hSax9 ?restax9
                case hiax9 => (simp; rfl)
                case hsax9 => kernel_rfl
                case hfax9 => kernel_rfl
                case hrax9 => kernel_rfl
                case hQax9 => exact fun _ _ _ h => h
                case hwax9 => rfl
                case hyax9 => (intro wq hSq; (try dsimp only at hSq); go_simp; (try with_reducible rfl))
                case hSax9 => assumption
                simp only [Act.put, List.setIfInBounds_toArray, List.set_cons_zero, List.set_cons_succ]
                refine wpAnyH_take (i := 10) (oi := ?oax10) (v := ?vax10) ?hiax10 ?hsax10 ?hfax10 ?hrax10 ?hQax10 (Or.inl ⟨?hwax10, ?hyax10⟩) ?hSax10 ?restax10
                case hiax10 => (simp; rfl)
                case hsax10 => kernel_rfl
                case hfax10 => kernel_rfl
                case hrax10 => kernel_rfl
                case hQax10 => exact fun _ _ _ h => h
                case hwax10 => rfl
                case hyax10 => (intro wq hSq; (try dsimp only at hSq); go_simp; (try with_reducible rfl))
                case hSax10 => assumption
                simp only [Act.put, List.setIfInBounds_toArray, List.set_cons_zero, List.set_cons_succ]
                refine wpAnyH_take (i := 11) (oi := ?oax11) (v := ?vax11) ?hiax11 ?hsax11 ?hfax11 ?hrax11 ?hQax11 (Or.inl ⟨?hwax11, ?hyax11⟩) ?hSax11 ?restax11
                case hiax11 => (simp; rfl)
                case hsax11 => kernel_rfl
                case hfax11 => kernel_rfl
                case hrax11 => kernel_rfl
                case hQax11 => exact fun _ _ _ h => h
                case hwax11 => rfl
                case hyax11 => (intro wq hSq; (try dsimp only at hSq); go_simp; (try with_reducible rfl))
                case hSax11 => assumption
                simp only [Act.put, List.setIfInBounds_toArray, List.set_cons_zero, List.set_cons_succ]
                refine wpAnyH_take (i := 12) (oi := ?oax12) (v := ?vax12) ?hiax12 ?hsax12 ?hfax12 ?hrax12 ?hQax12 (Or.inl ⟨?hwax12, ?hyax12⟩) ?hSax12 ?restax12
                case hiax12 => (simp; rfl)
                case hsax12 => kernel_rfl
                case hfax12 => kernel_rfl
                case hrax12 => kernel_rfl
                case hQax12 => exact fun _ _ _ h => h
                case hwax12 => rfl
                case hyax12 => (intro wq hSq; (try dsimp only at hSq); go_simp; (try with_reducible rfl))
                case hSax12 => assumption
                simp only [Act.put, List.setIfInBounds_toArray, List.set_cons_zero, List.set_cons_succ]
                refine wpAnyH_done (by kernel_rfl) ?_ _
                clear hH
                have HB6d : Hid (Below w.heap.size w w6.drew) := Vl.hid (Vl.bdrewN HB6.out 1)
                have HR6d : Hid (Vl.RowIn w6.drew pv rs) := Vl.hid HR6.out
                have HF6d : Hid (Vl.RowIn w6.drew pf (Vl.fillL cs rs)) := Vl.hid HF6.out
                go_wp2_with fail
                refine (wakes_any _).mono ?_
                rintro e wk ⟨rfl, hb⟩
                have HBK := Vl.hid (Vl.btr HB6d.out hb)
                clear hb
                go_wp2_with fail
                go_ret
                exact ⟨rfl, HBK.out⟩
              · have hkc1 : (v.k != ck.k) = false := by simpa using hkc
                obtain rfl : E = 0 := by rw [← HE.out]; exact Vl.takes_01 HGV.out hk0 hkc
                have HFL := Vl.hid (HFR.out.2 HE.out)
                obtain rfl : k = L := by rw [← HLL.out, HFL.out, HRL.out]
                go_wp2_with fail
                refine wp_region_held_drew (S := (fun w' => w'.cell? ⟨b1, o1 + kk * 7, none⟩ = some (.string ck.nm) ∧ w'.cell? ⟨b1, o1 + kk * 7 + 1, none⟩ = some (.int .i64 ck.k) ∧ w'.cell? ⟨b1, o1 + kk * 7 + 2, none⟩ = some (.bool ck.nn) ∧ w'.cell? ⟨b1, o1 + kk * 7 + 3, none⟩ = some (.int .i64 ck.d.k) ∧ w'.cell? ⟨b1, o1 + kk * 7 + 4, none⟩ = some (.int .i64 ck.d.n) ∧ w'.cell? ⟨b1, o1 + kk * 7 + 5, none⟩ = some (.float .f64 ck.d.f) ∧ w'.cell? ⟨b1, o1 + kk * 7 + 6, none⟩ = some (.string ck.d.s) ∧ w'.cell? ⟨w.heap.size, 0, none⟩ = some (.int .i64 v.k) ∧ w'.cell? ⟨w.heap.size, 1, none⟩ = some (.int .i64 v.n) ∧ w'.cell? ⟨w.heap.size, 2, none⟩ = some (.float .f64 v.f) ∧ w'.cell? ⟨w.heap.size, 3, none⟩ = some (.string v.s) ∧ b1 < w'.heap.size ∧ w.heap.size < w'.heap.size ∧ Below w6.heap.size w6 w')) (by kernel_rfl) (Vl.CVS.drew HSV.out) (fun hH => ?_)
                refine wpAnyH_take (i := 0) (oi := ?obx0) (v := ?vbx0) ?hibx0 ?hsbx0 ?hfbx0 ?hrbx0 ?hQbx0 (Or.inl ⟨?hwbx0, ?hybx0⟩) ?hSbx0 ?restbx0
                case hibx0 => (simp; rfl)
                case hsbx0 => kernel_rfl
                case hfbx0 => kernel_rfl
                case hrbx0 => kernel_rfl
                case hQbx0 => exact fun _ _ _ h => h
                case hwbx0 => rfl
                case hybx0 => (intro wq hSq; (try dsimp only at hSq); go_simp; (try with_reducible rfl))
                case hSbx0 => assumption
                simp only [Act.put, List.setIfInBounds_toArray, List.set_cons_zero, List.set_cons_succ]
                refine wpAnyH_take (i := 1) (oi := ?obx1) (v := ?vbx1) ?hibx1 ?hsbx1 ?hfbx1 ?hrbx1 ?hQbx1 (Or.inl ⟨?hwbx1, ?hybx1⟩) ?hSbx1 ?restbx1
                case hibx1 => (simp; rfl)
                case hsbx1 => kernel_rfl
                case hfbx1 => kernel_rfl
                case hrbx1 => kernel_rfl
                case hQbx1 => exact fun _ _ _ h => h
                case hwbx1 => rfl
                case hybx1 => (intro wq hSq; (try dsimp only at hSq); go_simp; (try with_reducible rfl))
                case hSbx1 => assumption
                simp only [Act.put, List.setIfInBounds_toArray, List.set_cons_zero, List.set_cons_succ]
                refine wpAnyH_take (i := 2) (oi := ?obx2) (v := ?vbx2) ?hibx2 ?hsbx2 ?hfbx2 ?hrbx2 ?hQbx2 (Or.inl ⟨?hwbx2, ?hybx2⟩) ?hSbx2 ?restbx2
                case hibx2 => (simp; rfl)
                case hsbx2 => kernel_rfl
                case hfbx2 => kernel_rfl
                case hrbx2 => kernel_rfl
                case hQbx2 => exact fun _ _ _ h => h
                case hwbx2 => rfl
                case hybx2 => (intro wq hSq; (try dsimp only at hSq); go_simp; (try with_reducible rfl))
                case hSbx2 => assumption
                simp only [Act.put, List.setIfInBounds_toArray, List.set_cons_zero, List.set_cons_succ]
                refine wpAnyH_take (i := 3) (oi := ?obx3) (v := ?vbx3) ?hibx3 ?hsbx3 ?hfbx3 ?hrbx3 ?hQbx3 (Or.inl ⟨?hwbx3, ?hybx3⟩) ?hSbx3 ?restbx3
                case hibx3 => (simp; rfl)
                case hsbx3 => kernel_rfl
                case hfbx3 => kernel_rfl
                case hrbx3 => kernel_rfl
                case hQbx3 => exact fun _ _ _ h => h
                case hwbx3 => rfl
                case hybx3 => (intro wq hSq; (try dsimp only at hSq); go_simp; (try with_reducible rfl))
                case hSbx3 => assumption
                simp only [Act.put, List.setIfInBounds_toArray, List.set_cons_zero, List.set_cons_succ]
                refine wpAnyH_take (i := 4) (oi := ?obx4) (v := ?vbx4) ?hibx4 ?hsbx4 ?hfbx4 ?hrbx4 ?hQbx4 (Or.inl ⟨?hwbx4, ?hybx4⟩) ?hSbx4 ?restbx4
                case hibx4 => (simp; rfl)
                case hsbx4 => kernel_rfl
                case hfbx4 => kernel_rfl
                case hrbx4 => kernel_rfl
                case hQbx4 => exact fun _ _ _ h => h
                case hwbx4 => rfl
                case hybx4 => (intro wq hSq; (try dsimp only at hSq); go_simp; (try with_reducible rfl))
                case hSbx4 => assumption
                simp only [Act.put, List.setIfInBounds_toArray, List.set_cons_zero, List.set_cons_succ]
                refine wpAnyH_take (i := 5) (oi := ?obx5) (v := ?vbx5) ?hibx5 ?hsbx5 ?hfbx5 ?hrbx5 ?hQbx5 (Or.inl ⟨?hwbx5, ?hybx5⟩) ?hSbx5 ?restbx5
                case hibx5 => (simp; rfl)
                case hsbx5 => kernel_rfl
                case hfbx5 => kernel_rfl
                case hrbx5 => kernel_rfl
                case hQbx5 => exact fun _ _ _ h => h
                case hwbx5 => rfl
                case hybx5 => (intro wq hSq; (try dsimp only at hSq); go_simp; (try with_reducible rfl))
                case hSbx5 => assumption
                simp only [Act.put, List.setIfInBounds_toArray, List.set_cons_zero, List.set_cons_succ]
                refine wpAnyH_take (i := 6) (oi := ?obx6) (v := ?vbx6) ?hibx6 ?hsbx6 ?hfbx6 ?hrbx6 ?hQbx6 (Or.inl ⟨?hwbx6, ?hybx6⟩) ?hSbx6 ?restbx6
                case hibx6 => (simp; rfl)
                case hsbx6 => kernel_rfl
                case hfbx6 => kernel_rfl
                case hrbx6 => kernel_rfl
                case hQbx6 => exact fun _ _ _ h => h
                case hwbx6 => rfl
                case hybx6 => (intro wq hSq; (try dsimp only at hSq); go_simp; (try with_reducible rfl))
                case hSbx6 => assumption
                simp only [Act.put, List.setIfInBounds_toArray, List.set_cons_zero, List.set_cons_succ]
                refine wpAnyH_take (i := 7) (oi := ?obx7) (v := ?vbx7) ?hibx7 ?hsbx7 ?hfbx7 ?hrbx7 ?hQbx7 (Or.inl ⟨?hwbx7, ?hybx7⟩) ?hSbx7 ?restbx7
                case hibx7 => (simp; rfl)
                case hsbx7 => kernel_rfl
                case hfbx7 => kernel_rfl
                case hrbx7 => kernel_rfl
                case hQbx7 => exact fun _ _ _ h => h
                case hwbx7 => rfl
                case hybx7 => (intro wq hSq; (try dsimp only at hSq); go_simp; (try with_reducible rfl))
                case hSbx7 => assumption
                simp only [Act.put, List.setIfInBounds_toArray, List.set_cons_zero, List.set_cons_succ]
                refine wpAnyH_take (i := 8) (oi := ?obx8) (v := ?vbx8) ?hibx8 ?hsbx8 ?hfbx8 ?hrbx8 ?hQbx8 (Or.inl ⟨?hwbx8, ?hybx8⟩) ?hSbx8 ?restbx8
                case hibx8 => (simp; rfl)
                case hsbx8 => kernel_rfl
                case hfbx8 => kernel_rfl
                case hrbx8 => kernel_rfl
                case hQbx8 => exact fun _ _ _ h => h
                case hwbx8 => rfl
                case hybx8 => (intro wq hSq; (try dsimp only at hSq); go_simp; (try with_reducible rfl))
                case hSbx8 => assumption
                simp only [Act.put, List.setIfInBounds_toArray, List.set_cons_zero, List.set_cons_succ]
                refine wpAnyH_take (i := 9) (oi := ?obx9) (v := ?vbx9) ?hibx9 ?hsbx9 ?hfbx9 ?hrbx9 ?hQbx9 (Or.inl ⟨?hwbx9, ?hybx9⟩) ?hSbx9 ?restbx9
                case hibx9 => (simp; rfl)
                case hsbx9 => kernel_rfl
                case hfbx9 => kernel_rfl
                case hrbx9 => kernel_rfl
                case hQbx9 => exact fun _ _ _ h => h
                case hwbx9 => rfl
                case hybx9 => (intro wq hSq; (try dsimp only at hSq); go_simp; (try with_reducible rfl))
                case hSbx9 => assumption
                simp only [Act.put, List.setIfInBounds_toArray, List.set_cons_zero, List.set_cons_succ]
                refine wpAnyH_take (i := 10) (oi := ?obx10) (v := ?vbx10) ?hibx10 ?hsbx10 ?hfbx10 ?hrbx10 ?hQbx10 (Or.inl ⟨?hwbx10, ?hybx10⟩) ?hSbx10 ?restbx10
                case hibx10 => (simp; rfl)
                case hsbx10 => kernel_rfl
                case hfbx10 => kernel_rfl
                case hrbx10 => kernel_rfl
                case hQbx10 => exact fun _ _ _ h => h
                case hwbx10 => rfl
                case hybx10 => (intro wq hSq; (try dsimp only at hSq); go_simp; (try with_reducible rfl))
                case hSbx10 => assumption
                simp only [Act.put, List.setIfInBounds_toArray, List.set_cons_zero, List.set_cons_succ]
                refine wpAnyH_take (i := 11) (oi := ?obx11) (v := ?vbx11) ?hibx11 ?hsbx11 ?hfbx11 ?hrbx11 ?hQbx11 (Or.inl ⟨?hwbx11, ?hybx11⟩) ?hSbx11 ?restbx11
                case hibx11 => (simp; rfl)
                case hsbx11 => kernel_rfl
                case hfbx11 => kernel_rfl
                case hrbx11 => kernel_rfl
                case hQbx11 => exact fun _ _ _ h => h
                case hwbx11 => rfl
                case hybx11 => (intro wq hSq; (try dsimp only at hSq); go_simp; (try with_reducible rfl))
                case hSbx11 => assumption
                simp only [Act.put, List.setIfInBounds_toArray, List.set_cons_zero, List.set_cons_succ]
                refine wpAnyH_take (i := 12) (oi := ?obx12) (v := ?vbx12) ?hibx12 ?hsbx12 ?hfbx12 ?hrbx12 ?hQbx12 (Or.inl ⟨?hwbx12, ?hybx12⟩) ?hSbx12 ?restbx12
                case hibx12 => (simp; rfl)
                case hsbx12 => kernel_rfl
                case hfbx12 => kernel_rfl
                case hrbx12 => kernel_rfl
                case hQbx12 => exact fun _ _ _ h => h
                case hwbx12 => rfl
                case hybx12 => (intro wq hSq; (try dsimp only at hSq); go_simp; (try with_reducible rfl))
                case hSbx12 => assumption
                simp only [Act.put, List.setIfInBounds_toArray, List.set_cons_zero, List.set_cons_succ]
                refine wpAnyH_done (by kernel_rfl) ?_ _
                clear hH
                have HB6d : Hid (Below w.heap.size w w6.drew) := Vl.hid (Vl.bdrewN HB6.out 1)
                have HR6d : Hid (Vl.RowIn w6.drew pv rs) := Vl.hid HR6.out
                have HF6d : Hid (Vl.RowIn w6.drew pf (Vl.fillL cs rs)) := Vl.hid HF6.out
                rw [HFL.out] at HF6d
                go_wp2_with fail
                refine (keepValues_same pf pv k cf cv rs _ HRL.out (by omega) hcf hcv HF6d HR6d).mono ?_
                rintro e w7 ⟨rfl, hb⟩
                have HB7 := Vl.hid (Vl.btr HB6d.out hb)
                clear hb
                go_wp2_with fail
                refine (wakes_any _).mono ?_
                rintro e wk ⟨rfl, hb⟩
                have HBK := Vl.hid (Vl.btr HB7.out hb)
                clear hb
                go_wp2_with fail
                go_ret
                exact ⟨rfl, HBK.out⟩
            · have hk1 : (v.k != 0) = false := by simpa using hk0
              cases hnn : ck.nn
              · rw [hnn] at q2
                obtain rfl : E = 0 := by rw [← HE.out]; exact Vl.takes_00 HGV.out hk0 hnn
                have HFL := Vl.hid (HFR.out.2 HE.out)
                obtain rfl : k = L := by rw [← HLL.out, HFL.out, HRL.out]
                go_wp2_with fail
                refine wp_region_held_drew (S := (fun w' => w'.cell? ⟨b1, o1 + kk * 7, none⟩ = some (.string ck.nm) ∧ w'.cell? ⟨b1, o1 + kk * 7 + 1, none⟩ = some (.int .i64 ck.k) ∧ w'.cell? ⟨b1, o1 + kk * 7 + 2, none⟩ = some (.bool ck.nn) ∧ w'.cell? ⟨b1, o1 + kk * 7 + 3, none⟩ = some (.int .i64 ck.d.k) ∧ w'.cell? ⟨b1, o1 + kk * 7 + 4, none⟩ = some (.int .i64 ck.d.n) ∧ w'.cell? ⟨b1, o1 + kk * 7 + 5, none⟩ = some (.float .f64 ck.d.f) ∧ w'.cell? ⟨b1, o1 + kk * 7 + 6, none⟩ = some (.string ck.d.s) ∧ w'.cell? ⟨w.heap.size, 0, none⟩ = some (.int .i64 v.k) ∧ w'.cell? ⟨w.heap.size, 1, none⟩ = some (.int .i64 v.n) ∧ w'.cell? ⟨w.heap.size, 2, none⟩ = some (.float .f64 v.f) ∧ w'.cell? ⟨w.heap.size, 3, none⟩ = some (.string v.s) ∧ b1 < w'.heap.size ∧ w.heap.size < w'.heap.size ∧ Below w6.heap.size w6 w')) (by kernel_rfl) (Vl.CVS.drew HSV.out) (fun hH => ?_)
                refine wpAnyH_take (i := 0) (oi := ?ocx0) (v := ?vcx0) ?hicx0 ?hscx0 ?hfcx0 ?hrcx0 ?hQcx0 (Or.inl ⟨?hwcx0, ?hycx0⟩) ?hScx0 ?restcx0
                case hicx0 => (simp; rfl)
                case hscx0 => kernel_rfl
                case hfcx0 => kernel_rfl
                case hrcx0 => kernel_rfl
                case hQcx0 => exact fun _ _ _ h => h
                case hwcx0 => rfl
                case hycx0 => (intro wq hSq; (try dsimp only at hSq); go_simp; (try with_reducible rfl))
                case hScx0 => assumption
                simp only [Act.put, List.setIfInBounds_toArray, List.set_cons_zero, List.set_cons_succ]
                refine wpAnyH_take (i := 1) (oi := ?ocx1) (v := ?vcx1) ?hicx1 ?hscx1 ?hfcx1 ?hrcx1 ?hQcx1 (Or.inl ⟨?hwcx1, ?hycx1⟩) ?hScx1 ?restcx1
                case hicx1 => (simp; rfl)
                case hscx1 => kernel_rfl
                case hfcx1 => kernel_rfl
                case hrcx1 => kernel_rfl
                case hQcx1 => exact fun _ _ _ h => h
                case hwcx1 => rfl
                case hycx1 => (intro wq hSq; (try dsimp only at hSq); go_simp; (try with_reducible rfl))
                case hScx1 => assumption
                simp only [Act.put, List.setIfInBounds_toArray, List.set_cons_zero, List.set_cons_succ]
                refine wpAnyH_take (i := 2) (oi := ?ocx2) (v := ?vcx2) ?hicx2 ?hscx2 ?hfcx2 ?hrcx2 ?hQcx2 (Or.inl ⟨?hwcx2, ?hycx2⟩) ?hScx2 ?restcx2
                case hicx2 => (simp; rfl)
                case hscx2 => kernel_rfl
                case hfcx2 => kernel_rfl
                case hrcx2 => kernel_rfl
                case hQcx2 => exact fun _ _ _ h => h
                case hwcx2 => rfl
                case hycx2 => (intro wq hSq; (try dsimp only at hSq); go_simp; (try with_reducible rfl))
                case hScx2 => assumption
                simp only [Act.put, List.setIfInBounds_toArray, List.set_cons_zero, List.set_cons_succ]
                refine wpAnyH_take (i := 3) (oi := ?ocx3) (v := ?vcx3) ?hicx3 ?hscx3 ?hfcx3 ?hrcx3 ?hQcx3 (Or.inl ⟨?hwcx3, ?hycx3⟩) ?hScx3 ?restcx3
                case hicx3 => (simp; rfl)
                case hscx3 => kernel_rfl
                case hfcx3 => kernel_rfl
                case hrcx3 => kernel_rfl
                case hQcx3 => exact fun _ _ _ h => h
                case hwcx3 => rfl
                case hycx3 => (intro wq hSq; (try dsimp only at hSq); go_simp; (try with_reducible rfl))
                case hScx3 => assumption
                simp only [Act.put, List.setIfInBounds_toArray, List.set_cons_zero, List.set_cons_succ]
                refine wpAnyH_take (i := 4) (oi := ?ocx4) (v := undef) ?hicx4 ?hscx4 ?hfcx4 ?hrcx4 ?hQcx4 (Or.inr ⟨?hwcx4, rfl⟩) ?hScx4 ?restcx4
                case hicx4 => (simp; rfl)
                case hscx4 => kernel_rfl
                case hfcx4 => kernel_rfl
                case hrcx4 => kernel_rfl
                case hQcx4 => exact fun _ _ _ h => h
                case hwcx4 => rfl
                case hScx4 => assumption
                simp only [Act.put, List.setIfInBounds_toArray, List.set_cons_zero, List.set_cons_succ]
                refine wpAnyH_take (i := 5) (oi := ?ocx5) (v := undef) ?hicx5 ?hscx5 ?hfcx5 ?hrcx5 ?hQcx5 (Or.inr ⟨?hwcx5, rfl⟩) ?hScx5 ?restcx5
                case hicx5 => (simp; rfl)
                case hscx5 => kernel_rfl
                case hfcx5 => kernel_rfl
                case hrcx5 => kernel_rfl
                case hQcx5 => exact fun _ _ _ h => h
                case hwcx5 => rfl
                case hScx5 => assumption
                simp only [Act.put, List.setIfInBounds_toArray, List.set_cons_zero, List.set_cons_succ]
                refine wpAnyH_take (i := 6) (oi := ?ocx6) (v := undef) ?hicx6 ?hscx6 ?hfcx6 ?hrcx6 ?hQcx6 (Or.inr ⟨?hwcx6, rfl⟩) ?hScx6 ?restcx6
                case hicx6 => (simp; rfl)
                case hscx6 => kernel_rfl
                case hfcx6 => kernel_rfl
                case hrcx6 => kernel_rfl
                case hQcx6 => exact fun _ _ _ h => h
                case hwcx6 => rfl
                case hScx6 => assumption
                simp only [Act.put, List.setIfInBounds_toArray, List.set_cons_zero, List.set_cons_succ]
                refine wpAnyH_take (i := 7) (oi := ?ocx7) (v := undef) ?hicx7 ?hscx7 ?hfcx7 ?hrcx7 ?hQcx7 (Or.inr ⟨?hwcx7, rfl⟩) ?hScx7 ?restcx7
                case hicx7 => (simp; rfl)
                case hscx7 => kernel_rfl
                case hfcx7 => kernel_rfl
                case hrcx7 => kernel_rfl
                case hQcx7 => exact fun _ _ _ h => h
                case hwcx7 => rfl
                case hScx7 => assumption
                simp only [Act.put, List.setIfInBounds_toArray, List.set_cons_zero, List.set_cons_succ]
                refine wpAnyH_take (i := 8) (oi := ?ocx8) (v := undef) ?hicx8 ?hscx8 ?hfcx8 ?hrcx8 ?hQcx8 (Or.inr ⟨?hwcx8, rfl⟩) ?hScx8 ?restcx8
                case hicx8 => (simp; rfl)
                case hscx8 => kernel_rfl
                case hfcx8 => kernel_rfl
                case hrcx8 => kernel_rfl
                case hQcx8 => exact fun _ _ _ h => h
                case hwcx8 => rfl
                case hScx8 => assumption
                simp only [Act.put, List.setIfInBounds_toArray, List.set_cons_zero, List.set_cons_succ]
                refine wpAnyH_take (i := 9) (oi := ?ocx9) (v := undef) ?hicx9 ?hscx9 ?hfcx9 ?hrcx9 ?hQcx9 (Or.inr ⟨?hwcx9, rfl⟩) ?hScx9 ?restcx9
                case hicx9 => (simp; rfl)
                case hscx9 => kernel_rfl
                case hfcx9 => kernel_rfl
                case hrcx9 => kernel_rfl
                case hQcx9 => exact fun _ _ _ h => h
                case hwcx9 => rfl
                case hScx9 => assumption
                simp only [Act.put, List.setIfInBounds_toArray, List.set_cons_zero, List.set_cons_succ]
                refine wpAnyH_take (i := 10) (oi := ?ocx10) (v := undef) ?hicx10 ?hscx10 ?hfcx10 ?hrcx10 ?hQcx10 (Or.inr ⟨?hwcx10, rfl⟩) ?hScx10 ?restcx10
                case hicx10 => (simp; rfl)
                case hscx10 => kernel_rfl
                case hfcx10 => kernel_rfl
                case hrcx10 => kernel_rfl
                case hQcx10 => exact fun _ _ _ h => h
                case hwcx10 => rfl
                case hScx10 => assumption
                simp only [Act.put, List.setIfInBounds_toArray, List.set_cons_zero, List.set_cons_succ]
                refine wpAnyH_take (i := 11) (oi := ?ocx11) (v := undef) ?hicx11 ?hscx11 ?hfcx11 ?hrcx11 ?hQcx11 (Or.inr ⟨?hwcx11, rfl⟩) ?hScx11 ?restcx11
                case hicx11 => (simp; rfl)
                case hscx11 => kernel_rfl
                case hfcx11 => kernel_rfl
                case hrcx11 => kernel_rfl
                case hQcx11 => exact fun _ _ _ h => h
                case hwcx11 => rfl
                case hScx11 => assumption
                simp only [Act.put, List.setIfInBounds_toArray, List.set_cons_zero, List.set_cons_succ]
                refine wpAnyH_take (i := 12) (oi := ?ocx12) (v := ?vcx12) ?hicx12 ?hscx12 ?hfcx12 ?hrcx12 ?hQcx12 (Or.inl ⟨?hwcx12, ?hycx12⟩) ?hScx12 ?restcx12
                case hicx12 => (simp; rfl)
                case hscx12 => kernel_rfl
                case hfcx12 => kernel_rfl
                case hrcx12 => kernel_rfl
                case hQcx12 => exact fun _ _ _ h => h
                case hwcx12 => rfl
                case hycx12 => (intro wq hSq; (try dsimp only at hSq); go_simp; (try with_reducible rfl))
                case hScx12 => assumption
                simp only [Act.put, List.setIfInBounds_toArray, List.set_cons_zero, List.set_cons_succ]
                refine wpAnyH_done (by kernel_rfl) ?_ _
                clear hH
                have HB6d : Hid (Below w.heap.size w w6.drew) := Vl.hid (Vl.bdrewN HB6.out 1)
                have HR6d : Hid (Vl.RowIn w6.drew pv rs) := Vl.hid HR6.out
                have HF6d : Hid (Vl.RowIn w6.drew pf (Vl.fillL cs rs)) := Vl.hid HF6.out
                rw [HFL.out] at HF6d
                go_wp2_with fail
                refine (keepValues_same pf pv k cf cv rs _ HRL.out (by omega) hcf hcv HF6d HR6d).mono ?_
                rintro e w7 ⟨rfl, hb⟩
                have HB7 := Vl.hid (Vl.btr HB6d.out hb)
                clear hb
                go_wp2_with fail
                refine (wakes_any _).mono ?_
                rintro e wk ⟨rfl, hb⟩
                have HBK := Vl.hid (Vl.btr HB7.out hb)
                clear hb
                go_wp2_with fail
                go_ret
                exact ⟨rfl, HBK.out⟩
              · rw [hnn] at q2
                obtain rfl : E = 21 := by rw [← HE.out]; exact Vl.takes_21 HGV.out hk0 hnn
                go_wp2_with fail
                refine (wakes_any _).mono ?_
                rintro e wk ⟨rfl, hb⟩
                have HBK := Vl.hid (Vl.btr HB6.out hb)
                clear hb
                go_wp2_with fail
                go_ret
                exact ⟨rfl, HBK.out⟩
          · have HB6 := Vl.hid (Vl.btr HS5.out.b HB53.out)
            have HR6 := Vl.hid (HR5.out.below HB53.out)
            have HF6 := Vl.hid (HF5.out.below HB53.out)
            have hv6 := (HS5.out.step HB53.out).v
            obtain ⟨p0, p1, p2, p3⟩ := hv6.box
            obtain ⟨b1, o1, hp1, hr1⟩ := (HC.out.row.below HB6.out).at HCK.out
            have HSV := Vl.hid (Vl.CVS.of hr1 hv6 (Below.refl w6.heap.size w6))
            obtain ⟨_, q0, q1, q2, q3, q4, q5, q6⟩ := hr1
            subst hp1
            clear HB53 HS5 HR5 HF5 hv6
            cases hk0 : (v.k == 0)
            · have hk1 : (v.k != 0) = true := by simpa using hk0
              cases hkc : (v.k == ck.k)
              · have hkc1 : (v.k != ck.k) = true := by simpa using hkc
                obtain rfl : E = 20 := by rw [← HE.out]; exact Vl.takes_20 HGV.out hk0 hkc
                go_wp2_with fail
                refine wp_region_held_drew (S := (fun w' => w'.cell? ⟨b1, o1 + kk * 7, none⟩ = some (.string ck.nm) ∧ w'.cell? ⟨b1, o1 + kk * 7 + 1, none⟩ = some (.int .i64 ck.k) ∧ w'.cell? ⟨b1, o1 + kk * 7 + 2, none⟩ = some (.bool ck.nn) ∧ w'.cell? ⟨b1, o1 + kk * 7 + 3, none⟩ = some (.int .i64 ck.d.k) ∧ w'.cell? ⟨b1, o1 + kk * 7 + 4, none⟩ = some (.int .i64 ck.d.n) ∧ w'.cell? ⟨b1, o1 + kk * 7 + 5, none⟩ = some (.float .f64 ck.d.f) ∧ w'.cell? ⟨b1, o1 + kk * 7 + 6, none⟩ = some (.string ck.d.s) ∧ w'.cell? ⟨w.heap.size, 0, none⟩ = some (.int .i64 v.k) ∧ w'.cell? ⟨w.heap.size, 1, none⟩ = some (.int .i64 v.n) ∧ w'.cell? ⟨w.heap.size, 2, none⟩ = some (.float .f64 v.f) ∧ w'.cell? ⟨w.heap.size, 3, none⟩ = some (.string v.s) ∧ b1 < w'.heap.size ∧ w.heap.size < w'.heap.size ∧ Below w6.heap.size w6 w')) (by kernel_rfl) (Vl.CVS.drew HSV.out) (fun hH => ?_)
                refine wpAnyH_take (i := 0) (oi := ?oay0) (v := ?vay0) ?hiay0 ?hsay0 ?hfay0 ?hray0 ?hQay0 (Or.inl ⟨?hway0, ?hyay0⟩) ?hSay0 ?restay0
                case hiay0 => (simp; rfl)
                case hsay0 => kernel_rfl
                case hfay0 => kernel_rfl
                case hray0 => kernel_rfl
                case hQay0 => exact fun _ _ _ h => h
                case hway0 => rfl
                case hyay0 => (intro wq hSq; (try dsimp only at hSq); go_simp; (try with_reducible rfl))
                case hSay0 => assumption
                simp only [Act.put, List.setIfInBounds_toArray, List.set_cons_zero, List.set_cons_succ]
                refine wpAnyH_take (i := 1) (oi := ?oay1) (v := ?vay1) ?hiay1 ?hsay1 ?hfay1 ?hray1 ?hQay1 (Or.inl ⟨?hway1, ?hyay1⟩) ?hSay1 ?restay1
                case hiay1 => (simp; rfl)
                case hsay1 => kernel_rfl
                case hfay1 => kernel_rfl
                case hray1 => kernel_rfl
                case hQay1 => exact fun _ _ _ h => h
                case hway1 => rfl
                case hyay1 => (intro wq hSq; (try dsimp only at hSq); go_simp; (try with_reducible rfl))
                case hSay1 => assumption
                simp only [Act.put, List.setIfInBounds_toArray, List.set_cons_zero, List.set_cons_succ]
                refine wpAnyH_take (i := 2) (oi := ?oay2) (v := ?vay2) ?hiay2 ?hsay2 ?hfay2 ?hray2 ?hQay2 (Or.inl ⟨?hway2, ?hyay2⟩) ?hSay2 ?restay2
                case hiay2 => (simp; rfl)
                case hsay2 => kernel_rfl
                case hfay2 => kernel_rfl
                case hray2 => kernel_rfl
                case hQay2 => exact fun _ _ _ h => h
                case hway2 => rfl
                case hyay2 => (intro wq hSq; (try dsimp only at hSq); go_simp; (try with_reducible rfl))
                case hSay2 => assumption
                simp only [Act.put, List.setIfInBounds_toArray, List.set_cons_zero, List.set_cons_succ]
                refine wpAnyH_take (i := 3) (oi := ?oay3) (v := ?vay3) ?hiay3 ?hsay3 ?hfay3 ?hray3 ?hQay3 (Or.inl ⟨?hway3, ?hyay3⟩) ?hSay3 ?restay3
                case hiay3 => (simp; rfl)
                case hsay3 => kernel_rfl
                case hfay3 => kernel_rfl
                case hray3 => kernel_rfl
                case hQay3 => exact fun _ _ _ h => h
                case hway3 => rfl
                case hyay3 => (intro wq hSq; (try dsimp only at hSq); go_simp; (try with_reducible rfl))
                case hSay3 => assumption
                simp only [Act.put, List.setIfInBounds_toArray, List.set_cons_zero, List.set_cons_succ]
                refine wpAnyH_take (i := 4) (oi := ?oay4) (v := ?vay4) ?hiay4 ?hsay4 ?hfay4 ?hray4 ?hQay4 (Or.inl ⟨?hway4, ?hyay4⟩) ?hSay4 ?restay4
                case hiay4 => (simp; rfl)
                case hsay4 => kernel_rfl
                case hfay4 => kernel_rfl
                case hray4 => kernel_rfl
                case hQay4 => exact fun _ _ _ h => h
                case hway4 => rfl
                case hyay4 => (intro wq hSq; (try dsimp only at hSq); go_simp; (try with_reducible rfl))
                case hSay4 => assumption
                simp only [Act.put, List.setIfInBounds_toArray, List.set_cons_zero, List.set_cons_succ]
                refine wpAnyH_take (i := 5) (oi := ?oay5) (v := ?vay5) ?hiay5 ?hsay5 ?hfay5 ?hray5 ?hQay5 (Or.inl ⟨?hway5, ?hyay5⟩) ?hSay5 ?restay5
                case hiay5 => (simp; rfl)
                case hsay5 => kernel_rfl
                case hfay5 => kernel_rfl
                case hray5 => kernel_rfl
                case hQay5 => exact fun _ _ _ h => h
                case hway5 => rfl
                case hyay5 => (intro wq hSq; (try dsimp only at hSq); go_simp; (try with_reducible rfl))
                case hSay5 => assumption
                simp only [Act.put, List.setIfInBounds_toArray, List.set_cons_zero, List.set_cons_succ]
                refine wpAnyH_take (i := 6) (oi := ?oay6) (v := ?vay6) ?hiay6 ?hsay6 ?hfay6 ?hray6 ?hQay6 (Or.inl ⟨?hway6, ?hyay6⟩) ?hSay6 ?restay6
                case hiay6 => (simp; rfl)
                case hsay6 => kernel_rfl
                case hfay6 => kernel_rfl
                case hray6 => kernel_rfl
                case hQay6 => exact fun _ _ _ h => h
                case hway6 => rfl
                case hyay6 => (intro wq hSq; (try dsimp only at hSq); go_simp; (try with_reducible rfl))
                case hSay6 => assumption
                simp only [Act.put, List.setIfInBounds_toArray, List.set_cons_zero, List.set_cons_succ]
                refine wpAnyH_take (i := 7) (oi := ?oay7) (v := ?vay7) ?hiay7 ?hsay7 ?hfay7 ?hray7 ?hQay7 (Or.inl ⟨?hway7, ?hyay7⟩) ?hSay7 ?restay7
                case hiay7 => (simp; rfl)
                case hsay7 => kernel_rfl
                case hfay7 => kernel_rfl
                case hray7 => kernel_rfl
                case hQay7 => exact fun _ _ _ h => h
                case hway7 => rfl
                case hyay7 => (intro wq hSq; (try dsimp only at hSq); go_simp; (try with_reducible rfl))
                case hSay7 => assumption
                simp only [Act.put, List.setIfInBounds_toArray, List.set_cons_zero, List.set_cons_succ]
                refine wpAnyH_take (i := 8) (oi := ?oay8) (v := ?vay8) ?hiay8 ?hsay8 ?hfay8 ?hray8 ?hQay8 (Or.inl ⟨?hway8, ?hyay8⟩) ?hSay8 ?restay8
                case hiay8 => (simp; rfl)
                case hsay8 => kernel_rfl
                case hfay8 => kernel_rfl
                case hray8 => kernel_rfl
                case hQay8 => exact fun _ _ _ h => h
                case hway8 => rfl
                case hyay8 => (intro wq hSq; (try dsimp only at hSq); go_simp; (try with_reducible rfl))
                case hSay8 => assumption
                simp only [Act.put, List.setIfInBounds_toArray, List.set_cons_zero, List.set_cons_succ]
                refine wpAnyH_take (i := 9) (oi := ?oay9) (v := ?vay9) ?hiay9 ?hsay9 ?hfay9 ?hray9 ?hQay9 (Or.inl ⟨?hway9, ?hyay9⟩) ?hSay9 ?restay9
                case hiay9 => (simp; rfl)
                case hsay9 => kernel_rfl
                case hfay9 => kernel_rfl
                case hray9 => kernel_rfl
                case hQay9 => exact fun _ _ _ h => h
                case hway9 => rfl
                case hyay9 => (intro wq hSq; (try dsimp only at hSq); go_simp; (try with_reducible rfl))
                case hSay9 => assumption
                simp only [Act.put, List.setIfInBounds_toArray, List.set_cons_zero, List.set_cons_succ]
                refine wpAnyH_take (i := 10) (oi := ?oay10) (v := ?vay10) ?hiay10 ?hsay10 ?hfay10 ?hray10 ?hQay10 (Or.inl ⟨?hway10, ?hyay10⟩) ?hSay10 ?restay10
                case hiay10 => (simp; rfl)
                case hsay10 => kernel_rfl
                case hfay10 => kernel_rfl
                case hray10 => kernel_rfl
                case hQay10 => exact fun _ _ _ h => h
                case hway10 => rfl
                case hyay10 => (intro wq hSq; (try dsimp only at hSq); go_simp; (try with_reducible rfl))
                case hSay10 => assumption
                simp only [Act.put, List.setIfInBounds_toArray, List.set_cons_zero, List.set_cons_succ]
                refine wpAnyH_take (i := 11) (oi := ?oay11) (v := ?vay11) ?hiay11 ?hsay11 ?hfay11 ?hray11 ?hQay11 (Or.inl ⟨?hway11, ?hyay11⟩) ?hSay11 ?restay11
                case hiay11 => (simp; rfl)
                case hsay11 => kernel_rfl
                case hfay11 => kernel_rfl
                case hray11 => kernel_rfl
                case hQay11 => exact fun _ _ _ h => h
                case hway11 => rfl
                case hyay11 => (intro wq hSq; (try dsimp only at hSq); go_simp; (try with_reducible rfl))
                case hSay11 => assumption
                simp only [Act.put, List.setIfInBounds_toArray, List.set_cons_zero, List.set_cons_succ]
                refine wpAnyH_take (i := 12) (oi := ?oay12) (v := ?vay12) ?hiay12 ?hsay12 ?hfay12 ?hray12 ?hQay12 (Or.inl ⟨?hway12, ?hyay12⟩) ?hSay12 ?restay12
                case hiay12 => (simp; rfl)
                case hsay12 => kernel_rfl
                case hfay12 => kernel_rfl
                case hray12 => kernel_rfl
                case hQay12 => exact fun _ _ _ h => h
                case hway12 => rfl
                case hyay12 => (intro wq hSq; (try dsimp only at hSq); go_simp; (try with_reducible rfl))
                case hSay12 => assumption
                simp only [Act.put, List.setIfInBounds_toArray, List.set_cons_zero, List.set_cons_succ]
                refine wpAnyH_done (by kernel_rfl) ?_ _
                clear hH
                have HB6d : Hid (Below w.heap.size w w6.drew) := Vl.hid (Vl.bdrewN HB6.out 1)
                have HR6d : Hid (Vl.RowIn w6.drew pv rs) := Vl.hid HR6.out
                have HF6d : Hid (Vl.RowIn w6.drew pf (Vl.fillL cs rs)) := Vl.hid HF6.out
                go_wp2_with fail
                refine (wakes_any _).mono ?_
                rintro e wk ⟨rfl, hb⟩
                have HBK := Vl.hid (Vl.btr HB6d.out hb)
                clear hb
                go_wp2_with fail
                go_ret
                exact ⟨rfl, HBK.out⟩
              · have hkc1 : (v.k != ck.k) = false := by simpa using hkc
                obtain rfl : E = 0 := by rw [← HE.out]; exact Vl.takes_01 HGV.out hk0 hkc
                have HFL := Vl.hid (HFR.out.2 HE.out)
                obtain rfl : k = L := by rw [← HLL.out, HFL.out, HRL.out]
                go_wp2_with fail
                refine wp_region_held_drew (S := (fun w' => w'.cell? ⟨b1, o1 + kk * 7, none⟩ = some (.string ck.nm) ∧ w'.cell? ⟨b1, o1 + kk * 7 + 1, none⟩ = some (.int .i64 ck.k) ∧ w'.cell? ⟨b1, o1 + kk * 7 + 2, none⟩ = some (.bool ck.nn) ∧ w'.cell? ⟨b1, o1 + kk * 7 + 3, none⟩ = some (.int .i64 ck.d.k) ∧ w'.cell? ⟨b1, o1 + kk * 7 + 4, none⟩ = some (.int .i64 ck.d.n) ∧ w'.cell? ⟨b1, o1 + kk * 7 + 5, none⟩ = some (.float .f64 ck.d.f) ∧ w'.cell? ⟨b1, o1 + kk * 7 + 6, none⟩ = some (.string ck.d.s) ∧ w'.cell? ⟨w.heap.size, 0, none⟩ = some (.int .i64 v.k) ∧ w'.cell? ⟨w.heap.size, 1, none⟩ = some (.int .i64 v.n) ∧ w'.cell? ⟨w.heap.size, 2, none⟩ = some (.float .f64 v.f) ∧ w'.cell? ⟨w.heap.size, 3, none⟩ = some (.string v.s) ∧ b1 < w'.heap.size ∧ w.heap.size < w'.heap.size ∧ Below w6.heap.size w6 w')) (by kernel_rfl) (Vl.CVS.drew HSV.out) (fun hH => ?_)
                refine wpAnyH_take (i := 0) (oi := ?oby0) (v := ?vby0) ?hiby0 ?hsby0 ?hfby0 ?hrby0 ?hQby0 (Or.inl ⟨?hwby0, ?hyby0⟩) ?hSby0 ?restby0
                case hiby0 => (simp; rfl)
                case hsby0 => kernel_rfl
                case hfby0 => kernel_rfl
                case hrby0 => kernel_rfl
                case hQby0 => exact fun _ _ _ h => h
                case hwby0 => rfl
                case hyby0 => (intro wq hSq; (try dsimp only at hSq); go_simp; (try with_reducible rfl))
                case hSby0 => assumption
                simp only [Act.put, List.setIfInBounds_toArray, List.set_cons_zero, List.set_cons_succ]
                refine wpAnyH_take (i := 1) (oi := ?oby1) (v := ?vby1) ?hiby1 ?hsby1 ?hfby1 ?hrby1 ?hQby1 (Or.inl ⟨?hwby1, ?hyby1⟩) ?hSby1 ?restby1
                case hiby1 => (simp; rfl)
                case hsby1 => kernel_rfl
                case hfby1 => kernel_rfl
                case hrby1 => kernel_rfl
                case hQby1 => exact fun _ _ _ h => h
                case hwby1 => rfl
                case hyby1 => (intro wq hSq; (try dsimp only at hSq); go_simp; (try with_reducible rfl))
                case hSby1 => assumption
                simp only [Act.put, List.setIfInBounds_toArray, List.set_cons_zero, List.set_cons_succ]
                refine wpAnyH_take (i := 2) (oi := ?oby2) (v := ?vby2) ?hiby2 ?hsby2 ?hfby2 ?hrby2 ?hQby2 (Or.inl ⟨?hwby2, ?hyby2⟩) ?hSby2 ?restby2
                case hiby2 => (simp; rfl)
                case hsby2 => kernel_rfl
                case hfby2 => kernel_rfl
                case hrby2 => kernel_rfl
                case hQby2 => exact fun _ _ _ h => h
                case hwby2 => rfl
                case hyby2 => (intro wq hSq; (try dsimp only at hSq); go_simp; (try with_reducible rfl))
                case hSby2 => assumption
                simp only [Act.put, List.setIfInBounds_toArray, List.set_cons_zero, List.set_cons_succ]
                refine wpAnyH_take (i := 3) (oi := ?oby3) (v := ?vby3) ?hiby3 ?hsby3 ?hfby3 ?hrby3 ?hQby3 (Or.inl ⟨?hwby3, ?hyby3⟩) ?hSby3 ?restby3
                case hiby3 => (simp; rfl)
                case hsby3 => kernel_rfl
                case hfby3 => kernel_rfl
                case hrby3 => kernel_rfl
                case hQby3 => exact fun _ _ _ h => h
                case hwby3 => rfl
                case hyby3 => (intro wq hSq; (try dsimp only at hSq); go_simp; (try with_reducible rfl))
                case hSby3 => assumption
                simp only [Act.put, List.setIfInBounds_toArray, List.set_cons_zero, List.set_cons_succ]
                refine wpAnyH_take (i := 4) (oi := ?oby4) (v := ?vby4) ?hiby4 ?hsby4 ?hfby4 ?hrby4 ?hQby4 (Or.inl ⟨?hwby4, ?hyby4⟩) ?hSby4 ?restby4
                case hiby4 => (simp; rfl)
                case hsby4 => kernel_rfl
                case hfby4 => kernel_rfl
                case hrby4 => kernel_rfl
                case hQby4 => exact fun _ _ _ h => h
                case hwby4 => rfl
                case hyby4 => (intro wq hSq; (try dsimp only at hSq); go_simp; (try with_reducible rfl))
                case hSby4 => assumption
                simp only [Act.put, List.setIfInBounds_toArray, List.set_cons_zero, List.set_cons_succ]
                refine wpAnyH_take (i := 5) (oi := ?oby5) (v := ?vby5) ?hiby5 ?hsby5 ?hfby5 ?hrby5 ?hQby5 (Or.inl ⟨?hwby5, ?hyby5⟩) ?hSby5 ?restby5
                case hiby5 => (simp; rfl)
                case hsby5 => kernel_rfl
                case hfby5 => kernel_rfl
                case hrby5 => kernel_rfl
                case hQby5 => exact fun _ _ _ h => h
                case hwby5 => rfl
                case hyby5 => (intro wq hSq; (try dsimp only at hSq); go_simp; (try with_reducible rfl))
                case hSby5 => assumption
                simp only [Act.put, List.setIfInBounds_toArray, List.set_cons_zero, List.set_cons_succ]
                refine wpAnyH_take (i := 6) (oi := ?oby6) (v := ?vby6) ?hiby6 ?hsby6 ?hfby6 ?hrby6 ?hQby6 (Or.inl ⟨?hwby6, ?hyby6⟩) ?hSby6 ?restby6
                case hiby6 => (simp; rfl)
                case hsby6 => kernel_rfl
                case hfby6 => kernel_rfl
                case hrby6 => kernel_rfl
                case hQby6 => exact fun _ _ _ h => h
                case hwby6 => rfl
                case hyby6 => (intro wq hSq; (try dsimp only at hSq); go_simp; (try with_reducible rfl))
                case hSby6 => assumption
                simp only [Act.put, List.setIfInBounds_toArray, List.set_cons_zero, List.set_cons_succ]
                refine wpAnyH_take (i := 7) (oi := ?oby7) (v := ?vby7) ?hiby7 ?hsby7 ?hfby7 ?hrby7 ?hQby7 (Or.inl ⟨?hwby7, ?hyby7⟩) ?hSby7 ?restby7
                case hiby7 => (simp; rfl)
                case hsby7 => kernel_rfl
                case hfby7 => kernel_rfl
                case hrby7 => kernel_rfl
                case hQby7 => exact fun _ _ _ h => h
                case hwby7 => rfl
                case hyby7 => (intro wq hSq; (try dsimp only at hSq); go_simp; (try with_reducible rfl))
                case hSby7 => assumption
                simp only [Act.put, List.setIfInBounds_toArray, List.set_cons_zero, List.set_cons_succ]
                refine wpAnyH_take (i := 8) (oi := ?oby8) (v := ?vby8) ?hiby8 ?hsby8 ?hfby8 ?hrby8 ?hQby8 (Or.inl ⟨?hwby8, ?hyby8⟩) ?hSby8 ?restby8
                case hiby8 => (simp; rfl)
                case hsby8 => kernel_rfl
                case hfby8 => kernel_rfl
                case hrby8 => kernel_rfl
                case hQby8 => exact fun _ _ _ h => h
                case hwby8 => rfl
                case hyby8 => (intro wq hSq; (try dsimp only at hSq); go_simp; (try with_reducible rfl))
                case hSby8 => assumption
                simp only [Act.put, List.setIfInBounds_toArray, List.set_cons_zero, List.set_cons_succ]
                refine wpAnyH_take (i := 9) (oi := ?oby9) (v := ?vby9) ?hiby9 ?hsby9 ?hfby9 ?hrby9 ?hQby9 (Or.inl ⟨?hwby9, ?hyby9⟩) ?hSby9 ?restby9
                case hiby9 => (simp; rfl)
                case hsby9 => kernel_rfl
                case hfby9 => kernel_rfl
                case hrby9 => kernel_rfl
                case hQby9 => exact fun _ _ _ h => h
                case hwby9 => rfl
                case hyby9 => (intro wq hSq; (try dsimp only at hSq); go_simp; (try with_reducible rfl))
                case hSby9 => assumption
                simp only [Act.put, List.setIfInBounds_toArray, List.set_cons_zero, List.set_cons_succ]
                refine wpAnyH_take (i := 10) (oi := ?oby10) (v := ?vby10) ?hiby10 ?hsby10 ?hfby10 ?hrby10 ?hQby10 (Or.inl ⟨?hwby10, ?hyby10⟩) ?hSby10 ?restby10
                case hiby10 => (simp; rfl)
                case hsby10 => kernel_rfl
                case hfby10 => kernel_rfl
                case hrby10 => kernel_rfl
                case hQby10 => exact fun _ _ _ h => h
                case hwby10 => rfl
                case hyby10 => (intro wq hSq; (try dsimp only at hSq); go_simp; (try with_reducible rfl))
                case hSby10 => assumption
                simp only [Act.put, List.setIfInBounds_toArray, List.set_cons_zero, List.set_cons_succ]
                refine wpAnyH_take (i := 11) (oi := ?oby11) (v := ?vby11) ?hiby11 ?hsby11 ?hfby11 ?hrby11 ?hQby11 (Or.inl ⟨?hwby11, ?hyby11⟩) ?hSby11 ?restby11
                case hiby11 => (simp; rfl)
                case hsby11 => kernel_rfl
                case hfby11 => kernel_rfl
                case hrby11 => kernel_rfl
                case hQby11 => exact fun _ _ _ h => h
                case hwby11 => rfl
                case hyby11 => (intro wq hSq; (try dsimp only at hSq); go_simp; (try with_reducible rfl))
                case hSby11 => assumption
                simp only [Act.put, List.setIfInBounds_toArray, List.set_cons_zero, List.set_cons_succ]
                refine wpAnyH_take (i := 12) (oi := ?oby12) (v := ?vby12) ?hiby12 ?hsby12 ?hfby12 ?hrby12 ?hQby12 (Or.inl ⟨?hwby12, ?hyby12⟩) ?hSby12 ?restby12
                case hiby12 => (simp; rfl)
                case hsby12 => kernel_rfl
                case hfby12 => kernel_rfl
                case hrby12 => kernel_rfl
                case hQby12 => exact fun _ _ _ h => h
                case hwby12 => rfl
                case hyby12 => (intro wq hSq; (try dsimp only at hSq); go_simp; (try with_reducible rfl))
                case hSby12 => assumption
                simp only [Act.put, List.setIfInBounds_toArray, List.set_cons_zero, List.set_cons_succ]
                refine wpAnyH_done (by kernel_rfl) ?_ _
                clear hH
                have HB6d : Hid (Below w.heap.size w w6.drew) := Vl.hid (Vl.bdrewN HB6.out 1)
                have HR6d : Hid (Vl.RowIn w6.drew pv rs) := Vl.hid HR6.out
                have HF6d : Hid (Vl.RowIn w6.drew pf (Vl.fillL cs rs)) := Vl.hid HF6.out
                rw [HFL.out] at HF6d
                go_wp2_with fail
                refine (keepValues_same pf pv k cf cv rs _ HRL.out (by omega) hcf hcv HF6d HR6d).mono ?_
                rintro e w7 ⟨rfl, hb⟩
                have HB7 := Vl.hid (Vl.btr HB6d.out hb)
                clear hb
                go_wp2_with fail
                refine (wakes_any _).mono ?_
                rintro e wk ⟨rfl, hb⟩
                have HBK := Vl.hid (Vl.btr HB7.out hb)
                clear hb
                go_wp2_with fail
                go_ret
                exact ⟨rfl, HBK.out⟩
            · have hk1 : (v.k != 0) = false := by simpa using hk0
              cases hnn : ck.nn
              · rw [hnn] at q2
                obtain rfl : E = 0 := by rw [← HE.out]; exact Vl.takes_00 HGV.out hk0 hnn
                have HFL := Vl.hid (HFR.out.2 HE.out)
                obtain rfl : k = L := by rw [← HLL.out, HFL.out, HRL.out]
                go_wp2_with fail
                refine wp_region_held_drew (S := (fun w' => w'.cell? ⟨b1, o1 + kk * 7, none⟩ = some (.string ck.nm) ∧ w'.cell? ⟨b1, o1 + kk * 7 + 1, none⟩ = some (.int .i64 ck.k) ∧ w'.cell? ⟨b1, o1 + kk * 7 + 2, none⟩ = some (.bool ck.nn) ∧ w'.cell? ⟨b1, o1 + kk * 7 + 3, none⟩ = some (.int .i64 ck.d.k) ∧ w'.cell? ⟨b1, o1 + kk * 7 + 4, none⟩ = some (.int .i64 ck.d.n) ∧ w'.cell? ⟨b1, o1 + kk * 7 + 5, none⟩ = some (.float .f64 ck.d.f) ∧ w'.cell? ⟨b1, o1 + kk * 7 + 6, none⟩ = some (.string ck.d.s) ∧ w'.cell? ⟨w.heap.size, 0, none⟩ = some (.int .i64 v.k) ∧ w'.cell? ⟨w.heap.size, 1, none⟩ = some (.int .i64 v.n) ∧ w'.cell? ⟨w.heap.size, 2, none⟩ = some (.float .f64 v.f) ∧ w'.cell? ⟨w.heap.size, 3, none⟩ = some (.string v.s) ∧ b1 < w'.heap.size ∧ w.heap.size < w'.heap.size ∧ Below w6.heap.size w6 w')) (by kernel_rfl) (Vl.CVS.drew HSV.out) (fun hH => ?_)
                refine wpAnyH_take (i := 0) (oi := ?ocy0) (v := ?vcy0) ?hicy0 ?hscy0 ?hfcy0 ?hrcy0 ?hQcy0 (Or.inl ⟨?hwcy0, ?hycy0⟩) ?hScy0 ?restcy0
                case hicy0 => (simp; rfl)
                case hscy0 => kernel_rfl
                case hfcy0 => kernel_rfl
                case hrcy0 => kernel_rfl
                case hQcy0 => exact fun _ _ _ h => h
                case hwcy0 => rfl
                case hycy0 => (intro wq hSq; (try dsimp only at hSq); go_simp; (try with_reducible rfl))
                case hScy0 => assumption
                simp only [Act.put, List.setIfInBounds_toArray, List.set_cons_zero, List.set_cons_succ]
                refine wpAnyH_take (i := 1) (oi := ?ocy1) (v := ?vcy1) ?hicy1 ?hscy1 ?hfcy1 ?hrcy1 ?hQcy1 (Or.inl ⟨?hwcy1, ?hycy1⟩) ?hScy1 ?restcy1
                case hicy1 => (simp; rfl)
                case hscy1 => kernel_rfl
                case hfcy1 => kernel_rfl
                case hrcy1 => kernel_rfl
                case hQcy1 => exact fun _ _ _ h => h
                case hwcy1 => rfl
                case hycy1 => (intro wq hSq; (try dsimp only at hSq); go_simp; (try with_reducible rfl))
                case hScy1 => assumption
                simp only [Act.put, List.setIfInBounds_toArray, List.set_cons_zero, List.set_cons_succ]
                refine wpAnyH_take (i := 2) (oi := ?ocy2) (v := ?vcy2) ?hicy2 ?hscy2 ?hfcy2 ?hrcy2 ?hQcy2 (Or.inl ⟨?hwcy2, ?hycy2⟩) ?hScy2 ?restcy2
                case hicy2 => (simp; rfl)
                case hscy2 => kernel_rfl
                case hfcy2 => kernel_rfl
                case hrcy2 => kernel_rfl
                case hQcy2 => exact fun _ _ _ h => h
                case hwcy2 => rfl
                case hycy2 => (intro wq hSq; (try dsimp only at hSq); go_simp; (try with_reducible rfl))
                case hScy2 => assumption
                simp only [Act.put, List.setIfInBounds_toArray, List.set_cons_zero, List.set_cons_succ]
                refine wpAnyH_take (i := 3) (oi := ?ocy3) (v := ?vcy3) ?hicy3 ?hscy3 ?hfcy3 ?hrcy3 ?hQcy3 (Or.inl ⟨?hwcy3, ?hycy3⟩) ?hScy3 ?restcy3
                case hicy3 => (simp; rfl)
                case hscy3 => kernel_rfl
                case hfcy3 => kernel_rfl
                case hrcy3 => kernel_rfl
                case hQcy3 => exact fun _ _ _ h => h
                case hwcy3 => rfl
                case hycy3 => (intro wq hSq; (try dsimp only at hSq); go_simp; (try with_reducible rfl))
                case hScy3 => assumption
                simp only [Act.put, List.setIfInBounds_toArray, List.set_cons_zero, List.set_cons_succ]
                refine wpAnyH_take (i := 4) (oi := ?ocy4) (v := undef) ?hicy4 ?hscy4 ?hfcy4 ?hrcy4 ?hQcy4 (Or.inr ⟨?hwcy4, rfl⟩) ?hScy4 ?restcy4
                case hicy4 => (simp; rfl)
                case hscy4 => kernel_rfl
                case hfcy4 => kernel_rfl
                case hrcy4 => kernel_rfl
                case hQcy4 => exact fun _ _ _ h => h
                case hwcy4 => rfl
                case hScy4 => assumption
                simp only [Act.put, List.setIfInBounds_toArray, List.set_cons_zero, List.set_cons_succ]
                refine wpAnyH_take (i := 5) (oi := ?ocy5) (v := undef) ?hicy5 ?hscy5 ?hfcy5 ?hrcy5 ?hQcy5 (Or.inr ⟨?hwcy5, rfl⟩) ?hScy5 ?restcy5
                case hicy5 => (simp; rfl)
                case hscy5 => kernel_rfl
                case hfcy5 => kernel_rfl
                case hrcy5 => kernel_rfl
                case hQcy5 => exact fun _ _ _ h => h
                case hwcy5 => rfl
                case hScy5 => assumption
                simp only [Act.put, List.setIfInBounds_toArray, List.set_cons_zero, List.set_cons_succ]
                refine wpAnyH_take (i := 6) (oi := ?ocy6) (v := undef) ?hicy6 ?hscy6 ?hfcy6 ?hrcy6 ?hQcy6 (Or.inr ⟨?hwcy6, rfl⟩) ?hScy6 ?restcy6
                case hicy6 => (simp; rfl)
                case hscy6 => kernel_rfl
                case hfcy6 => kernel_rfl
                case hrcy6 => kernel_rfl
                case hQcy6 => exact fun _ _ _ h => h
                case hwcy6 => rfl
                case hScy6 => assumption
                simp only [Act.put, List.setIfInBounds_toArray, List.set_cons_zero, List.set_cons_succ]
                refine wpAnyH_take (i := 7) (oi := ?ocy7) (v := undef) ?hicy7 ?hscy7 ?hfcy7 ?hrcy7 ?hQcy7 (Or.inr ⟨?hwcy7, rfl⟩) ?hScy7 ?restcy7
                case hicy7 => (simp; rfl)
                case hscy7 => kernel_rfl
                case hfcy7 => kernel_rfl
                case hrcy7 => kernel_rfl
                case hQcy7 => exact fun _ _ _ h => h
                case hwcy7 => rfl
                case hScy7 => assumption
                simp only [Act.put, List.setIfInBounds_toArray, List.set_cons_zero, List.set_cons_succ]
                refine wpAnyH_take (i := 8) (oi := ?ocy8) (v := undef) ?hicy8 ?hscy8 ?hfcy8 ?hrcy8 ?hQcy8 (Or.inr ⟨?hwcy8, rfl⟩) ?hScy8 ?restcy8
                case hicy8 => (simp; rfl)
                case hscy8 => kernel_rfl
                case hfcy8 => kernel_rfl
                case hrcy8 => kernel_rfl
                case hQcy8 => exact fun _ _ _ h => h
                case hwcy8 => rfl
                case hScy8 => assumption
                simp only [Act.put, List.setIfInBounds_toArray, List.set_cons_zero, List.set_cons_succ]
                refine wpAnyH_take (i := 9) (oi := ?ocy9) (v := undef) ?hicy9 ?hscy9 ?hfcy9 ?hrcy9 ?hQcy9 (Or.inr ⟨?hwcy9, rfl⟩) ?hScy9 ?restcy9
                case hicy9 => (simp; rfl)
                case hscy9 => kernel_rfl
                case hfcy9 => kernel_rfl
                case hrcy9 => kernel_rfl
                case hQcy9 => exact fun _ _ _ h => h
                case hwcy9 => rfl
                case hScy9 => assumption
                simp only [Act.put, List.setIfInBounds_toArray, List.set_cons_zero, List.set_cons_succ]
                refine wpAnyH_take (i := 10) (oi := ?ocy10) (v := undef) ?hicy10 ?hscy10 ?hfcy10 ?hrcy10 ?hQcy10 (Or.inr ⟨?hwcy10, rfl⟩) ?hScy10 ?restcy10
                case hicy10 => (simp; rfl)
                case hscy10 => kernel_rfl
                case hfcy10 => kernel_rfl
                case hrcy10 => kernel_rfl
                case hQcy10 => exact fun _ _ _ h => h
                case hwcy10 => rfl
                case hScy10 => assumption
                simp only [Act.put, List.setIfInBounds_toArray, List.set_cons_zero, List.set_cons_succ]
                refine wpAnyH_take (i := 11) (oi := ?ocy11) (v := undef) ?hicy11 ?hscy11 ?hfcy11 ?hrcy11 ?hQcy11 (Or.inr ⟨?hwcy11, rfl⟩) ?hScy11 ?restcy11
                case hicy11 => (simp; rfl)
                case hscy11 => kernel_rfl
                case hfcy11 => kernel_rfl
                case hrcy11 => kernel_rfl
                case hQcy11 => exact fun _ _ _ h => h
                case hwcy11 => rfl
                case hScy11 => assumption
                simp only [Act.put, List.setIfInBounds_toArray, List.set_cons_zero, List.set_cons_succ]
                refine wpAnyH_take (i := 12) (oi := ?ocy12) (v := ?vcy12) ?hicy12 ?hscy12 ?hfcy12 ?hrcy12 ?hQcy12 (Or.inl ⟨?hwcy12, ?hycy12⟩) ?hScy12 ?restcy12
                case hicy12 => (simp; rfl)
                case hscy12 => kernel_rfl
                case hfcy12 => kernel_rfl
                case hrcy12 => kernel_rfl
                case hQcy12 => exact fun _ _ _ h => h
                case hwcy12 => rfl
                case hycy12 => (intro wq hSq; (try dsimp only at hSq); go_simp; (try with_reducible rfl))
                case hScy12 => assumption
                simp only [Act.put, List.setIfInBounds_toArray, List.set_cons_zero, List.set_cons_succ]
                refine wpAnyH_done (by kernel_rfl) ?_ _
                clear hH
                have HB6d : Hid (Below w.heap.size w w6.drew) := Vl.hid (Vl.bdrewN HB6.out 1)
                have HR6d : Hid (Vl.RowIn w6.drew pv rs) := Vl.hid HR6.out
                have HF6d : Hid (Vl.RowIn w6.drew pf (Vl.fillL cs rs)) := Vl.hid HF6.out
                rw [HFL.out] at HF6d
                go_wp2_with fail
                refine (keepValues_same pf pv k cf cv rs _ HRL.out (by omega) hcf hcv HF6d HR6d).mono ?_
                rintro e w7 ⟨rfl, hb⟩
                have HB7 := Vl.hid (Vl.btr HB6d.out hb)
                clear hb
                go_wp2_with fail
                refine (wakes_any _).mono ?_
                rintro e wk ⟨rfl, hb⟩
                have HBK := Vl.hid (Vl.btr HB7.out hb)
                clear hb
                go_wp2_with fail
                go_ret
                exact ⟨rfl, HBK.out⟩
              · rw [hnn] at q2
                obtain rfl : E = 21 := by rw [← HE.out]; exact Vl.takes_21 HGV.out hk0 hnn
                go_wp2_with fail
                refine (wakes_any _).mono ?_
                rintro e wk ⟨rfl, hb⟩
                have HBK := Vl.hid (Vl.btr HB6.out hb)
                clear hb
                go_wp2_with fail
                go_ret
                exact ⟨rfl, HBK.out⟩
          · have HB6 := Vl.hid (Vl.btr HS5.out.b HB53.out)
            have HR6 := Vl.hid (HR5.out.below HB53.out)
            have HF6 := Vl.hid (HF5.out.below HB53.out)
            have hv6 := (HS5.out.step HB53.out).v
            obtain ⟨p0, p1, p2, p3⟩ := hv6.box
            obtain ⟨b1, o1, hp1, hr1⟩ := (HC.out.row.below HB6.out).at HCK.out
            have HSV := Vl.hid (Vl.CVS.of hr1 hv6 (Below.refl w6.heap.size w6))
            obtain ⟨_, q0, q1, q2, q3, q4, q5, q6⟩ := hr1
            subst hp1
            clear HB53 HS5 HR5 HF5 hv6
            cases hk0 : (v.k == 0)
            · have hk1 : (v.k != 0) = true := by simpa using hk0
              cases hkc : (v.k == ck.k)
              · have hkc1 : (v.k != ck.k) = true := by simpa using hkc
                obtain rfl : E = 20 := by rw [← HE.out]; exact Vl.takes_20 HGV.out hk0 hkc
                go_wp2_with fail
                refine wp_region_held_drew (S := (fun w' => w'.cell? ⟨b1, o1 + kk * 7, none⟩ = some (.string ck.nm) ∧ w'.cell? ⟨b1, o1 + kk * 7 + 1, none⟩ = some (.int .i64 ck.k) ∧ w'.cell? ⟨b1, o1 + kk * 7 + 2, none⟩ = some (.bool ck.nn) ∧ w'.cell? ⟨b1, o1 + kk * 7 + 3, none⟩ = some (.int .i64 ck.d.k) ∧ w'.cell? ⟨b1, o1 + kk * 7 + 4, none⟩ = some (.int .i64 ck.d.n) ∧ w'.cell? ⟨b1, o1 + kk * 7 + 5, none⟩ = some (.float .f64 ck.d.f) ∧ w'.cell? ⟨b1, o1 + kk * 7 + 6, none⟩ = some (.string ck.d.s) ∧ w'.cell? ⟨w.heap.size, 0, none⟩ = some (.int .i64 v.k) ∧ w'.cell? ⟨w.heap.size, 1, none⟩ = some (.int .i64 v.n) ∧ w'.cell? ⟨w.heap.size, 2, none⟩ = some (.float .f64 v.f) ∧ w'.cell? ⟨w.heap.size, 3, none⟩ = some (.string v.s) ∧ b1 < w'.heap.size ∧ w.heap.size < w'.heap.size ∧ Below w6.heap.size w6 w')) (by kernel_rfl) (Vl.CVS.drew HSV.out) (fun hH => ?_)
                refine wpAnyH_take (i := 0) (oi := ?oaz0) (v := ?vaz0) ?hiaz0 ?hsaz0 ?hfaz0 ?hraz0 ?hQaz0 (Or.inl ⟨?hwaz0, ?hyaz0⟩) ?hSaz0 ?restaz0
                case hiaz0 => (simp; rfl)
                case hsaz0 => kernel_rfl
                case hfaz0 => kernel_rfl
                case hraz0 => kernel_rfl
                case hQaz0 => exact fun _ _ _ h => h
                case hwaz0 => rfl
                case hyaz0 => (intro wq hSq; (try dsimp only at hSq); go_simp; (try with_reducible rfl))
                case hSaz0 => assumption
                simp only [Act.put, List.setIfInBounds_toArray, List.set_cons_zero, List.set_cons_succ]
                refine wpAnyH_take (i := 1) (oi := ?oaz1) (v := ?vaz1) ?hiaz1 ?hsaz1 ?hfaz1 ?hraz1 ?hQaz1 (Or.inl ⟨?hwaz1, ?hyaz1⟩) ?hSaz1 ?restaz1
                case hiaz1 => (simp; rfl)
                case hsaz1 => kernel_rfl
                case hfaz1 => kernel_rfl
                case hraz1 => kernel_rfl
                case hQaz1 => exact fun _ _ _ h => h
                case hwaz1 => rfl
                case hyaz1 => (intro wq hSq; (try dsimp only at hSq); go_simp; (try with_reducible rfl))
                case hSaz1 => assumption
                simp only [Act.put, List.setIfInBounds_toArray, List.set_cons_zero, List.set_cons_succ]
                refine wpAnyH_take (i := 2) (oi := ?oaz2) (v := ?vaz2) ?hiaz2 ?hsaz2 ?hfaz2 ?hraz2 ?hQaz2 (Or.inl ⟨?hwaz2, ?hyaz2⟩) ?hSaz2 ?restaz2
                case hiaz2 => (simp; rfl)
                case hsaz2 => kernel_rfl
                case hfaz2 => kernel_rfl
                case hraz2 => kernel_rfl
                case hQaz2 => exact fun _ _ _ h => h
                case hwaz2 => rfl
                case hyaz2 => (intro wq hSq; (try dsimp only at hSq); go_simp; (try with_reducible rfl))
                case hSaz2 => assumption
                simp only [Act.put, List.setIfInBounds_toArray, List.set_cons_zero, List.set_cons_succ]
                refine wpAnyH_take (i := 3) (oi := ?oaz3) (v := ?vaz3) ?hiaz3 ?hsaz3 ?hfaz3 ?hraz3 ?hQaz3 (Or.inl ⟨?hwaz3, ?hyaz3⟩) ?hSaz3 ?restaz3
                case hiaz3 => (simp; rfl)
                case hsaz3 => kernel_rfl
                case hfaz3 => kernel_rfl
                case hraz3 => kernel_rfl
                case hQaz3 => exact fun _ _ _ h => h
                case hwaz3 => rfl
                case hyaz3 => (intro wq hSq; (try dsimp only at hSq); go_simp; (try with_reducible rfl))
                case hSaz3 => assumption
                simp only [Act.put, List.setIfInBounds_toArray, List.set_cons_zero, List.set_cons_succ]
                refine wpAnyH_take (i := 4) (oi := ?oaz4) (v := ?vaz4) ?hiaz4 ?hsaz4 ?hfaz4 ?hraz4 ?hQaz4 (Or.inl ⟨?hwaz4, ?hyaz4⟩) ?hSaz4 ?restaz4
                case hiaz4 => (simp; rfl)
                case hsaz4 => kernel_rfl
                case hfaz4 => kernel_rfl
                case hraz4 => kernel_rfl
                case hQaz4 => exact fun _ _ _ h => h
                case hwaz4 => rfl
                case hyaz4 => (intro wq hSq; (try dsimp only at hSq); go_simp; (try with_reducible rfl))
                case hSaz4 => assumption
                simp only [Act.put, List.setIfInBounds_toArray, List.set_cons_zero, List.set_cons_succ]
                refine wpAnyH_take (i := 5) (oi := ?oaz5) (v := ?vaz5) ?hiaz5 ?hsaz5 ?hfaz5 ?hraz5 ?hQaz5 (Or.inl ⟨?hwaz5, ?hyaz5⟩) ?hSaz5 ?restaz5
                case hiaz5 => (simp; rfl)
                case hsaz5 => kernel_rfl
                case hfaz5 => kernel_rfl
                case hraz5 => kernel_rfl
                case hQaz5 => exact fun _ _ _ h => h
                case hwaz5 => rfl
                case hyaz5 => (intro wq hSq; (try dsimp only at hSq); go_simp; (try with_reducible rfl))
                case hSaz5 => assumption
                simp only [Act.put, List.setIfInBounds_toArray, List.set_cons_zero, List.set_cons_succ]
                refine wpAnyH_take (i := 6) (oi := ?oaz6) (v := ?vaz6) ?hiaz6 ?hsaz6 ?hfaz6 ?hraz6 ?hQaz6 (Or.inl ⟨?hwaz6, ?hyaz6⟩) ?hSaz6 ?restaz6
                case hiaz6 => (simp; rfl)
                case hsaz6 => kernel_rfl
                case hfaz6 => kernel_rfl
                case hraz6 => kernel_rfl
                case hQaz6 => exact fun _ _ _ h => h
                case hwaz6 => rfl
                case hyaz6 => (intro wq hSq; (try dsimp only at hSq); go_simp; (try with_reducible rfl))
                case hSaz6 => assumption
                simp only [Act.put, List.setIfInBounds_toArray, List.set_cons_zero, List.set_cons_succ]
                refine wpAnyH_take (i := 7) (oi := ?oaz7) (v := ?vaz7) ?hiaz7 ?hsaz7 ?hfaz7 ?hraz7 ?hQaz7 (Or.inl ⟨?hwaz7, ?hyaz7⟩) ?hSaz7 ?restaz7
                case hiaz7 => (simp; rfl)
                case hsaz7 => kernel_rfl
                case hfaz7 => kernel_rfl
                case hraz7 => kernel_rfl
                case hQaz7 => exact fun _ _ _ h => h
                case hwaz7 => rfl
                case hyaz7 => (intro wq hSq; (try dsimp only at hSq); go_simp; (try with_reducible rfl))
                case hSaz7 => assumption
                simp only [Act.put, List.setIfInBounds_toArray, List.set_cons_zero, List.set_cons_succ]
                refine wpAnyH_take (i := 8) (oi := ?oaz8) (v := ?vaz8) ?hiaz8 ?hsaz8 ?hfaz8 ?hraz8 ?hQaz8 (Or.inl ⟨?hwaz8, ?hyaz8⟩) ?hSaz8 ?restaz8
                case hiaz8 => (simp; rfl)
                case hsaz8 => kernel_rfl
                case hfaz8 => kernel_rfl
                case hraz8 => kernel_rfl
                case hQaz8 => exact fun _ _ _ h => h
                case hwaz8 => rfl
                case hyaz8 => (intro wq hSq; (try dsimp only at hSq); go_simp; (try with_reducible rfl))
                case hSaz8 => assumption
                simp only [Act.put, List.setIfInBounds_toArray, List.set_cons_zero, List.set_cons_succ]
                refine wpAnyH_take (i := 9) (oi := ?oaz9) (v := ?vaz9) ?hiaz9 ?hsaz9 ?hfaz9 ?hraz9 ?hQaz9 (Or.inl ⟨?hwaz9, ?hyaz9⟩) ?hSaz9 ?restaz9
                case hiaz9 => (simp; rfl)
                case hsaz9 => kernel_rfl
                case hfaz9 => kernel_rfl
                case hraz9 => kernel_rfl
                case hQaz9 => exact fun _ _ _ h => h
                case hwaz9 => rfl
                case hyaz9 => (intro wq hSq; (try dsimp only at hSq); go_simp; (try with_reducible rfl))
                case hSaz9 => assumption
                simp only [Act.put, List.setIfInBounds_toArray, List.set_cons_zero, List.set_cons_succ]
                refine wpAnyH_take (i := 10) (oi := ?oaz10) (v := ?vaz10) ?hiaz10 ?hsaz10 ?hfaz10 ?hraz10 ?hQaz10 (Or.inl ⟨?hwaz10, ?hyaz10⟩) ?hSaz10 ?restaz10
                case hiaz10 => (simp; rfl)
                case hsaz10 => kernel_rfl
                case hfaz10 => kernel_rfl
                case hraz10 => kernel_rfl
                case hQaz10 => exact fun _ _ _ h => h
                case hwaz10 => rfl
                case hyaz10 => (intro wq hSq; (try dsimp only at hSq); go_simp; (try with_reducible rfl))
                case hSaz10 => assumption
                simp only [Act.put, List.setIfInBounds_toArray, List.set_cons_zero, List.set_cons_succ]
                refine wpAnyH_take (i := 11) (oi := ?oaz11) (v := ?vaz11) ?hiaz11 ?hsaz11 ?hfaz11 ?hraz11 ?hQaz11 (Or.inl ⟨?hwaz11, ?hyaz11⟩) ?hSaz11 ?restaz11
                case hiaz11 => (simp; rfl)
                case hsaz11 => kernel_rfl
                case hfaz11 => kernel_rfl
                case hraz11 => kernel_rfl
                case hQaz11 => exact fun _ _ _ h => h
                case hwaz11 => rfl
                case hyaz11 => (intro wq hSq; (try dsimp only at hSq); go_simp; (try with_reducible rfl))
                case hSaz11 => assumption
                simp only [Act.put, List.setIfInBounds_toArray, List.set_cons_zero, List.set_cons_succ]
                refine wpAnyH_take (i := 12) (oi := ?oaz12) (v := ?vaz12) ?hiaz12 ?hsaz12 ?hfaz12 ?hraz12 ?hQaz12 (Or.inl ⟨?hwaz12, ?hyaz12⟩) ?hSaz12 ?restaz12
                case hiaz12 => (simp; rfl)
                case hsaz12 => kernel_rfl
                case hfaz12 => kernel_rfl
                case hraz12 => kernel_rfl
                case hQaz12 => exact fun _ _ _ h => h
                case hwaz12 => rfl
                case hyaz12 => (intro wq hSq; (try dsimp only at hSq); go_simp; (try with_reducible rfl))
                case hSaz12 => assumption
                simp only [Act.put, List.setIfInBounds_toArray, List.set_cons_zero, List.set_cons_succ]
                refine wpAnyH_done (by kernel_rfl) ?_ _
                clear hH
                have HB6d : Hid (Below w.heap.size w w6.drew) := Vl.hid (Vl.bdrewN HB6.out 1)
                have HR6d : Hid (Vl.RowIn w6.drew pv rs) := Vl.hid HR6.out
                have HF6d : Hid (Vl.RowIn w6.drew pf (Vl.fillL cs rs)) := Vl.hid HF6.out
                go_wp2_with fail
                refine (wakes_any _).mono ?_
                rintro e wk ⟨rfl, hb⟩
                have HBK := Vl.hid (Vl.btr HB6d.out hb)
                clear hb
                go_wp2_with fail
                go_ret
                exact ⟨rfl, HBK.out⟩
              · have hkc1 : (v.k != ck.k) = false := by simpa using hkc
                obtain rfl : E = 0 := by rw [← HE.out]; exact Vl.takes_01 HGV.out hk0 hkc
                have HFL := Vl.hid (HFR.out.2 HE.out)
                obtain rfl : k = L := by rw [← HLL.out, HFL.out, HRL.out]
                go_wp2_with fail
                refine wp_region_held_drew (S := (fun w' => w'.cell? ⟨b1, o1 + kk * 7, none⟩ = some (.string ck.nm) ∧ w'.cell? ⟨b1, o1 + kk * 7 + 1, none⟩ = some (.int .i64 ck.k) ∧ w'.cell? ⟨b1, o1 + kk * 7 + 2, none⟩ = some (.bool ck.nn) ∧ w'.cell? ⟨b1, o1 + kk * 7 + 3, none⟩ = some (.int .i64 ck.d.k) ∧ w'.cell? ⟨b1, o1 + kk * 7 + 4, none⟩ = some (.int .i64 ck.d.n) ∧ w'.cell? ⟨b1, o1 + kk * 7 + 5, none⟩ = some (.float .f64 ck.d.f) ∧ w'.cell? ⟨b1, o1 + kk * 7 + 6, none⟩ = some (.string ck.d.s) ∧ w'.cell? ⟨w.heap.size, 0, none⟩ = some (.int .i64 v.k) ∧ w'.cell? ⟨w.heap.size, 1, none⟩ = some (.int .i64 v.n) ∧ w'.cell? ⟨w.heap.size, 2, none⟩ = some (.float .f64 v.f) ∧ w'.cell? ⟨w.heap.size, 3, none⟩ = some (.string v.s) ∧ b1 < w'.heap.size ∧ w.heap.size < w'.heap.size ∧ Below w6.heap.size w6 w')) (by kernel_rfl) (Vl.CVS.drew HSV.out) (fun hH => ?_)
                refine wpAnyH_take (i := 0) (oi := ?obz0) (v := ?vbz0) ?hibz0 ?hsbz0 ?hfbz0 ?hrbz0 ?hQbz0 (Or.inl ⟨?hwbz0, ?hybz0⟩) ?hSbz0 ?restbz0
                case hibz0 => (simp; rfl)
                case hsbz0 => kernel_rfl
                case hfbz0 => kernel_rfl
                case hrbz0 => kernel_rfl
                case hQbz0 => exact fun _ _ _ h => h
                case hwbz0 => rfl
                case hybz0 => (intro wq hSq; (try dsimp only at hSq); go_simp; (try with_reducible rfl))
                case hSbz0 => assumption
                simp only [Act.put, List.setIfInBounds_toArray, List.set_cons_zero, List.set_cons_succ]
                refine wpAnyH_take (i := 1) (oi := ?obz1) (v := ?vbz1) ?hibz1 ?hsbz1 ?hfbz1 ?hrbz1 ?hQbz1 (Or.inl ⟨?hwbz1, ?hybz1⟩) ?hSbz1 ?restbz1
                case hibz1 => (simp; rfl)
                case hsbz1 => kernel_rfl
                case hfbz1 => kernel_rfl
                case hrbz1 => kernel_rfl
                case hQbz1 => exact fun _ _ _ h => h
                case hwbz1 => rfl
                case hybz1 => (intro wq hSq; (try dsimp only at hSq); go_simp; (try with_reducible rfl))
                case hSbz1 => assumption
                simp only [Act.put, List.setIfInBounds_toArray, List.set_cons_zero, List.set_cons_succ]
                refine wpAnyH_take (i := 2) (oi := ?obz2) (v := ?vbz2) ?hibz2 ?hsbz2 ?hfbz2 ?hrbz2 ?hQbz2 (Or.inl ⟨?hwbz2, ?hybz2⟩) ?hSbz2 ?restbz2
                case hibz2 => (simp; rfl)
                case hsbz2 => kernel_rfl
                case hfbz2 => kernel_rfl
                case hrbz2 => kernel_rfl
                case hQbz2 => exact fun _ _ _ h => h
                case hwbz2 => rfl
                case hybz2 => (intro wq hSq; (try dsimp only at hSq); go_simp; (try with_reducible rfl))
                case hSbz2 => assumption
                simp only [Act.put, List.setIfInBounds_toArray, List.set_cons_zero, List.set_cons_succ]
                refine wpAnyH_take (i := 3) (oi := ?obz3) (v := ?vbz3) ?hibz3 ?hsbz3 ?hfbz3 ?hrbz3 ?hQbz3 (Or.inl ⟨?hwbz3, ?hybz3⟩) ?hSbz3 ?restbz3
                case hibz3 => (simp; rfl)
                case hsbz3 => kernel_rfl
                case hfbz3 => kernel_rfl
                case hrbz3 => kernel_rfl
                case hQbz3 => exact fun _ _ _ h => h
                case hwbz3 => rfl
                case hybz3 => (intro wq hSq; (try dsimp only at hSq); go_simp; (try with_reducible rfl))
                case hSbz3 => assumption
                simp only [Act.put, List.setIfInBounds_toArray, List.set_cons_zero, List.set_cons_succ]
                refine wpAnyH_take (i := 4) (oi := ?obz4) (v := ?vbz4) ?hibz4 ?hsbz4 ?hfbz4 ?hrbz4 ?hQbz4 (Or.inl ⟨?hwbz4, ?hybz4⟩) ?hSbz4 ?restbz4
                case hibz4 => (simp; rfl)
                case hsbz4 => kernel_rfl
                case hfbz4 => kernel_rfl
                case hrbz4 => kernel_rfl
                case hQbz4 => exact fun _ _ _ h => h
                case hwbz4 => rfl
                case hybz4 => (intro wq hSq; (try dsimp only at hSq); go_simp; (try with_reducible rfl))
                case hSbz4 => assumption
                simp only [Act.put, List.setIfInBounds_toArray, List.set_cons_zero, List.set_cons_succ]
                refine wpAnyH_take (i := 5) (oi := ?obz5) (v := ?vbz5) ?hibz5 ?hsbz5 ?hfbz5 ?hrbz5 ?hQbz5 (Or.inl ⟨?hwbz5, ?hybz5⟩) ?hSbz5 ?restbz5
                case hibz5 => (simp; rfl)
                case hsbz5 => kernel_rfl
                case hfbz5 => kernel_rfl
                case hrbz5 => kernel_rfl
                case hQbz5 => exact fun _ _ _ h => h
                case hwbz5 => rfl
                case hybz5 => (intro wq hSq; (try dsimp only at hSq); go_simp; (try with_reducible rfl))
                case hSbz5 => assumption
                simp only [Act.put, List.setIfInBounds_toArray, List.set_cons_zero, List.set_cons_succ]
                refine wpAnyH_take (i := 6) (oi := ?obz6) (v := ?vbz6) ?hibz6 ?hsbz6 ?hfbz6 ?hrbz6 ?hQbz6 (Or.inl ⟨?hwbz6, ?hybz6⟩) ?hSbz6 ?restbz6
                case hibz6 => (simp; rfl)
                case hsbz6 => kernel_rfl
                case hfbz6 => kernel_rfl
                case hrbz6 => kernel_rfl
                case hQbz6 => exact fun _ _ _ h => h
                case hwbz6 => rfl
                case hybz6 => (intro wq hSq; (try dsimp only at hSq); go_simp; (try with_reducible rfl))
                case hSbz6 => assumption
                simp only [Act.put, List.setIfInBounds_toArray, List.set_cons_zero, List.set_cons_succ]
                refine wpAnyH_take (i := 7) (oi := ?obz7) (v := ?vbz7) ?hibz7 ?hsbz7 ?hfbz7 ?hrbz7 ?hQbz7 (Or.inl ⟨?hwbz7, ?hybz7⟩) ?hSbz7 ?restbz7
                case hibz7 => (simp; rfl)
                case hsbz7 => kernel_rfl
                case hfbz7 => kernel_rfl
                case hrbz7 => kernel_rfl
                case hQbz7 => exact fun _ _ _ h => h
                case hwbz7 => rfl
                case hybz7 => (intro wq hSq; (try dsimp only at hSq); go_simp; (try with_reducible rfl))
                case hSbz7 => assumption
                simp only [Act.put, List.setIfInBounds_toArray, List.set_cons_zero, List.set_cons_succ]
                refine wpAnyH_take (i := 8) (oi := ?obz8) (v := ?vbz8) ?hibz8 ?hsbz8 ?hfbz8 ?hrbz8 ?hQbz8 (Or.inl ⟨?hwbz8, ?hybz8⟩) ?hSbz8 ?restbz8
                case hibz8 => (simp; rfl)
                case hsbz8 => kernel_rfl
                case hfbz8 => kernel_rfl
                case hrbz8 => kernel_rfl
                case hQbz8 => exact fun _ _ _ h => h
                case hwbz8 => rfl
                case hybz8 => (intro wq hSq; (try dsimp only at hSq); go_simp; (try with_reducible rfl))
                case hSbz8 => assumption
                simp only [Act.put, List.setIfInBounds_toArray, List.set_cons_zero, List.set_cons_succ]
                refine wpAnyH_take (i := 9) (oi := ?obz9) (v := ?vbz9) ?hibz9 ?hsbz9 ?hfbz9 ?hrbz9 ?hQbz9 (Or.inl ⟨?hwbz9, ?hybz9⟩) ?hSbz9 ?restbz9
                case hibz9 => (simp; rfl)
                case hsbz9 => kernel_rfl
                case hfbz9 => kernel_rfl
                case hrbz9 => kernel_rfl
                case hQbz9 => exact fun _ _ _ h => h
                case hwbz9 => rfl
                case hybz9 => (intro wq hSq; (try dsimp only at hSq); go_simp; (try with_reducible rfl))
                case hSbz9 => assumption
                simp only [Act.put, List.setIfInBounds_toArray, List.set_cons_zero, List.set_cons_succ]
                refine wpAnyH_take (i := 10) (oi := ?obz10) (v := ?vbz10) ?hibz10 ?hsbz10 ?hfbz10 ?hrbz10 ?hQbz10 (Or.inl ⟨?hwbz10, ?hybz10⟩) ?hSbz10 ?restbz10
                case hibz10 => (simp; rfl)
                case hsbz10 => kernel_rfl
                case hfbz10 => kernel_rfl
                case hrbz10 => kernel_rfl
                case hQbz10 => exact fun _ _ _ h => h
                case hwbz10 => rfl
                case hybz10 => (intro wq hSq; (try dsimp only at hSq); go_simp; (try with_reducible rfl))
                case hSbz10 => assumption
                simp only [Act.put, List.setIfInBounds_toArray, List.set_cons_zero, List.set_cons_succ]
                refine wpAnyH_take (i := 11) (oi := ?obz11) (v := ?vbz11) ?hibz11 ?hsbz11 ?hfbz11 ?hrbz11 ?hQbz11 (Or.inl ⟨?hwbz11, ?hybz11⟩) ?hSbz11 ?restbz11
                case hibz11 => (simp; rfl)
                case hsbz11 => kernel_rfl
                case hfbz11 => kernel_rfl
                case hrbz11 => kernel_rfl
                case hQbz11 => exact fun _ _ _ h => h
                case hwbz11 => rfl
                case hybz11 => (intro wq hSq; (try dsimp only at hSq); go_simp; (try with_reducible rfl))
                case hSbz11 => assumption
                simp only [Act.put, List.setIfInBounds_toArray, List.set_cons_zero, List.set_cons_succ]
                refine wpAnyH_take (i := 12) (oi := ?obz12) (v := ?vbz12) ?hibz12 ?hsbz12 ?hfbz12 ?hrbz12 ?hQbz12 (Or.inl ⟨?hwbz12, ?hybz12⟩) ?hSbz12 ?restbz12
                case hibz12 => (simp; rfl)
                case hsbz12 => kernel_rfl
                case hfbz12 => kernel_rfl
                case hrbz12 => kernel_rfl
                case hQbz12 => exact fun _ _ _ h => h
                case hwbz12 => rfl
                case hybz12 => (intro wq hSq; (try dsimp only at hSq); go_simp; (try with_reducible rfl))
                case hSbz12 => assumption
                simp only [Act.put, List.setIfInBounds_toArray, List.set_cons_zero, List.set_cons_succ]
                refine wpAnyH_done (by kernel_rfl) ?_ _
                clear hH
                have HB6d : Hid (Below w.heap.size w w6.drew) := Vl.hid (Vl.bdrewN HB6.out 1)
                have HR6d : Hid (Vl.RowIn w6.drew pv rs) := Vl.hid HR6.out
                have HF6d : Hid (Vl.RowIn w6.drew pf (Vl.fillL cs rs)) := Vl.hid HF6.out
                rw [HFL.out] at HF6d
                go_wp2_with fail
                refine (keepValues_same pf pv k cf cv rs _ HRL.out (by omega) hcf hcv HF6d HR6d).mono ?_
                rintro e w7 ⟨rfl, hb⟩
                have HB7 := Vl.hid (Vl.btr HB6d.out hb)
                clear hb
                go_wp2_with fail
                refine (wakes_any _).mono ?_
                rintro e wk ⟨rfl, hb⟩
                have HBK := Vl.hid (Vl.btr HB7.out hb)
                clear hb
                go_wp2_with fail
                go_ret
                exact ⟨rfl, HBK.out⟩
            · have hk1 : (v.k != 0) = false := by simpa using hk0
              cases hnn : ck.nn
              · rw [hnn] at q2
                obtain rfl : E = 0 := by rw [← HE.out]; exact Vl.takes_00 HGV.out hk0 hnn
                have HFL := Vl.hid (HFR.out.2 HE.out)
                obtain rfl : k = L := by rw [← HLL.out, HFL.out, HRL.out]
                go_wp2_with fail
                refine wp_region_held_drew (S := (fun w' => w'.cell? ⟨b1, o1 + kk * 7, none⟩ = some (.string ck.nm) ∧ w'.cell? ⟨b1, o1 + kk * 7 + 1, none⟩ = some (.int .i64 ck.k) ∧ w'.cell? ⟨b1, o1 + kk * 7 + 2, none⟩ = some (.bool ck.nn) ∧ w'.cell? ⟨b1, o1 + kk * 7 + 3, none⟩ = some (.int .i64 ck.d.k) ∧ w'.cell? ⟨b1, o1 + kk * 7 + 4, none⟩ = some (.int .i64 ck.d.n) ∧ w'.cell? ⟨b1, o1 + kk * 7 + 5, none⟩ = some (.float .f64 ck.d.f) ∧ w'.cell? ⟨b1, o1 + kk * 7 + 6, none⟩ = some (.string ck.d.s) ∧ w'.cell? ⟨w.heap.size, 0, none⟩ = some (.int .i64 v.k) ∧ w'.cell? ⟨w.heap.size, 1, none⟩ = some (.int .i64 v.n) ∧ w'.cell? ⟨w.heap.size, 2, none⟩ = some (.float .f64 v.f) ∧ w'.cell? ⟨w.heap.size, 3, none⟩ = some (.string v.s) ∧ b1 < w'.heap.size ∧ w.heap.size < w'.heap.size ∧ Below w6.heap.size w6 w')) (by kernel_rfl) (Vl.CVS.drew HSV.out) (fun hH => ?_)
                refine wpAnyH_take (i := 0) (oi := ?ocz0) (v := ?vcz0) ?hicz0 ?hscz0 ?hfcz0 ?hrcz0 ?hQcz0 (Or.inl ⟨?hwcz0, ?hycz0⟩) ?hScz0 ?restcz0
                case hicz0 => (simp; rfl)
                case hscz0 => kernel_rfl
                case hfcz0 => kernel_rfl
                case hrcz0 => kernel_rfl
                case hQcz0 => exact fun _ _ _ h => h
                case hwcz0 => rfl
                case hycz0 => (intro wq hSq; (try dsimp only at hSq); go_simp; (try with_reducible rfl))
                case hScz0 => assumption
                simp only [Act.put, List.setIfInBounds_toArray, List.set_cons_zero, List.set_cons_succ]
                refine wpAnyH_take (i := 1) (oi := ?ocz1) (v := ?vcz1) ?hicz1 ?hscz1 ?hfcz1 ?hrcz1 ?hQcz1 (Or.inl ⟨?hwcz1, ?hycz1⟩) ?hScz1 ?restcz1
                case hicz1 => (simp; rfl)
                case hscz1 => kernel_rfl
                case hfcz1 => kernel_rfl
                case hrcz1 => kernel_rfl
                case hQcz1 => exact fun _ _ _ h => h
                case hwcz1 => rfl
                case hycz1 => (intro wq hSq; (try dsimp only at hSq); go_simp; (try with_reducible rfl))
                case hScz1 => assumption
                simp only [Act.put, List.setIfInBounds_toArray, List.set_cons_zero, List.set_cons_succ]
                refine wpAnyH_take (i := 2) (oi := ?ocz2) (v := ?vcz2) ?hicz2 ?hscz2 ?hfcz2 ?hrcz2 ?hQcz2 (Or.inl ⟨?hwcz2, ?hycz2⟩) ?hScz2 ?restcz2
                case hicz2 => (simp; rfl)
                case hscz2 => kernel_rfl
                case hfcz2 => kernel_rfl
                case hrcz2 => kernel_rfl
                case hQcz2 => exact fun _ _ _ h => h
                case hwcz2 => rfl
                case hycz2 => (intro wq hSq; (try dsimp only at hSq); go_simp; (try with_reducible rfl))
                case hScz2 => assumption
                simp only [Act.put, List.setIfInBounds_toArray, List.set_cons_zero, List.set_cons_succ]
                refine wpAnyH_take (i := 3) (oi := ?ocz3) (v := ?vcz3) ?hicz3 ?hscz3 ?hfcz3 ?hrcz3 ?hQcz3 (Or.inl ⟨?hwcz3, ?hycz3⟩) ?hScz3 ?restcz3
                case hicz3 => (simp; rfl)
                case hscz3 => kernel_rfl
                case hfcz3 => kernel_rfl
                case hrcz3 => kernel_rfl
                case hQcz3 => exact fun _ _ _ h => h
                case hwcz3 => rfl
                case hycz3 => (intro wq hSq; (try dsimp only at hSq); go_simp; (try with_reducible rfl))
                case hScz3 => assumption
                simp only [Act.put, List.setIfInBounds_toArray, List.set_cons_zero, List.set_cons_succ]
                refine wpAnyH_take (i := 4) (oi := ?ocz4) (v := undef) ?hicz4 ?hscz4 ?hfcz4 ?hrcz4 ?hQcz4 (Or.inr ⟨?hwcz4, rfl⟩) ?hScz4 ?restcz4
                case hicz4 => (simp; rfl)
                case hscz4 => kernel_rfl
                case hfcz4 => kernel_rfl
                case hrcz4 => kernel_rfl
                case hQcz4 => exact fun _ _ _ h => h
                case hwcz4 => rfl
                case hScz4 => assumption
                simp only [Act.put, List.setIfInBounds_toArray, List.set_cons_zero, List.set_cons_succ]
                refine wpAnyH_take (i := 5) (oi := ?ocz5) (v := undef) ?hicz5 ?hscz5 ?hfcz5 ?hrcz5 ?hQcz5 (Or.inr ⟨?hwcz5, rfl⟩) ?hScz5 ?restcz5
                case hicz5 => (simp; rfl)
                case hscz5 => kernel_rfl
                case hfcz5 => kernel_rfl
                case hrcz5 => kernel_rfl
                case hQcz5 => exact fun _ _ _ h => h
                case hwcz5 => rfl
                case hScz5 => assumption
                simp only [Act.put, List.setIfInBounds_toArray, List.set_cons_zero, List.set_cons_succ]
                refine wpAnyH_take (i := 6) (oi := ?ocz6) (v := undef) ?hicz6 ?hscz6 ?hfcz6 ?hrcz6 ?hQcz6 (Or.inr ⟨?hwcz6, rfl⟩) ?hScz6 ?restcz6
                case hicz6 => (simp; rfl)
                case hscz6 => kernel_rfl
                case hfcz6 => kernel_rfl
                case hrcz6 => kernel_rfl
                case hQcz6 => exact fun _ _ _ h => h
                case hwcz6 => rfl
                case hScz6 => assumption
                simp only [Act.put, List.setIfInBounds_toArray, List.set_cons_zero, List.set_cons_succ]
                refine wpAnyH_take (i := 7) (oi := ?ocz7) (v := undef) ?hicz7 ?hscz7 ?hfcz7 ?hrcz7 ?hQcz7 (Or.inr ⟨?hwcz7, rfl⟩) ?hScz7 ?restcz7
                case hicz7 => (simp; rfl)
                case hscz7 => kernel_rfl
                case hfcz7 => kernel_rfl
                case hrcz7 => kernel_rfl
                case hQcz7 => exact fun _ _ _ h => h
                case hwcz7 => rfl
                case hScz7 => assumption
                simp only [Act.put, List.setIfInBounds_toArray, List.set_cons_zero, List.set_cons_succ]
                refine wpAnyH_take (i := 8) (oi := ?ocz8) (v := undef) ?hicz8 ?hscz8 ?hfcz8 ?hrcz8 ?hQcz8 (Or.inr ⟨?hwcz8, rfl⟩) ?hScz8 ?restcz8
                case hicz8 => (simp; rfl)
                case hscz8 => kernel_rfl
                case hfcz8 => kernel_rfl
                case hrcz8 => kernel_rfl
                case hQcz8 => exact fun _ _ _ h => h
                case hwcz8 => rfl
                case hScz8 => assumption
                simp only [Act.put, List.setIfInBounds_toArray, List.set_cons_zero, List.set_cons_succ]
                refine wpAnyH_take (i := 9) (oi := ?ocz9) (v := undef) ?hicz9 ?hscz9 ?hfcz9 ?hrcz9 ?hQcz9 (Or.inr ⟨?hwcz9, rfl⟩) ?hScz9 ?restcz9
                case hicz9 => (simp; rfl)
                case hscz9 => kernel_rfl
                case hfcz9 => kernel_rfl
                case hrcz9 => kernel_rfl
                case hQcz9 => exact fun _ _ _ h => h
                case hwcz9 => rfl
                case hScz9 => assumption
                simp only [Act.put, List.setIfInBounds_toArray, List.set_cons_zero, List.set_cons_succ]
                refine wpAnyH_take (i := 10) (oi := ?ocz10) (v := undef) ?hicz10 ?hscz10 ?hfcz10 ?hrcz10 ?hQcz10 (Or.inr ⟨?hwcz10, rfl⟩) ?hScz10 ?restcz10
                case hicz10 => (simp; rfl)
                case hscz10 => kernel_rfl
                case hfcz10 => kernel_rfl
                case hrcz10 => kernel_rfl
                case hQcz10 => exact fun _ _ _ h => h
                case hwcz10 => rfl
                case hScz10 => assumption
                simp only [Act.put, List.setIfInBounds_toArray, List.set_cons_zero, List.set_cons_succ]
                refine wpAnyH_take (i := 11) (oi := ?ocz11) (v := undef) ?hicz11 ?hscz11 ?hfcz11 ?hrcz11 ?hQcz11 (Or.inr ⟨?hwcz11, rfl⟩) ?hScz11 ?restcz11
                case hicz11 => (simp; rfl)
                case hscz11 => kernel_rfl
                case hfcz11 => kernel_rfl
                case hrcz11 => kernel_rfl
                case hQcz11 => exact fun _ _ _ h => h
                case hwcz11 => rfl
                case hScz11 => assumption
                simp only [Act.put, List.setIfInBounds_toArray, List.set_cons_zero, List.set_cons_succ]
                refine wpAnyH_take (i := 12) (oi := ?ocz12) (v := ?vcz12) ?hicz12 ?hscz12 ?hfcz12 ?hrcz12 ?hQcz12 (Or.inl ⟨?hwcz12, ?hycz12⟩) ?hScz12 ?restcz12
                case hicz12 => (simp; rfl)
                case hscz12 => kernel_rfl
                case hfcz12 => kernel_rfl
                case hrcz12 => kernel_rfl
                case hQcz12 => exact fun _ _ _ h => h
                case hwcz12 => rfl
                case hycz12 => (intro wq hSq; (try dsimp only at hSq); go_simp; (try with_reducible rfl))
                case hScz12 => assumption
                simp only [Act.put, List.setIfInBounds_toArray, List.set_cons_zero, List.set_cons_succ]
                refine wpAnyH_done (by kernel_rfl) ?_ _
                clear hH
                have HB6d : Hid (Below w.heap.size w w6.drew) := Vl.hid (Vl.bdrewN HB6.out 1)
                have HR6d : Hid (Vl.RowIn w6.drew pv rs) := Vl.hid HR6.out
                have HF6d : Hid (Vl.RowIn w6.drew pf (Vl.fillL cs rs)) := Vl.hid HF6.out
                rw [HFL.out] at HF6d
                go_wp2_with fail
                refine (keepValues_same pf pv k cf cv rs _ HRL.out (by omega) hcf hcv HF6d HR6d).mono ?_
                rintro e w7 ⟨rfl, hb⟩
                have HB7 := Vl.hid (Vl.btr HB6d.out hb)
                clear hb
                go_wp2_with fail
                refine (wakes_any _).mono ?_
                rintro e wk ⟨rfl, hb⟩
                have HBK := Vl.hid (Vl.btr HB7.out hb)
                clear hb
                go_wp2_with fail
                go_ret
                exact ⟨rfl, HBK.out⟩
              · rw [hnn] at q2
                obtain rfl : E = 21 := by rw [← HE.out]; exact Vl.takes_21 HGV.out hk0 hnn
                go_wp2_with fail
                refine (wakes_any _).mono ?_
                rintro e wk ⟨rfl, hb⟩
                have HBK := Vl.hid (Vl.btr HB6.out hb)
                clear hb
                go_wp2_with fail
                go_ret
                exact ⟨rfl, HBK.out⟩

end Go.Proofs.Ytaclkmhgbmencaa
