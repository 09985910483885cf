/- Add. -/
import Derived.Test.YtaclkmhgbmencaaG5
import Derived.Test.YtaclkmhgbmencaaH3
import Derived.Deep.RegionHeld3
namespace Go.Proofs.Ytaclkmhgbmencaa
open Go.RowKit
attribute [local go_sem] Fl.run_store_float

namespace Vl
/-- A column that was handed in, in a world that only grew. -/
structure CB (w0 : World) (c : Col) (w : World) : Prop where
  c : C7 w w0.heap.size 0 c
  b : Below w0.heap.size w0 w
theorem CB.start (w0 : World) (c : Col) (t : TypeId) : CB w0 c (w0.alloc (.cells #[.string c.nm, .int .i64 c.k, .bool c.nn, .int .i64 c.d.k, .int .i64 c.d.n, .float .f64 c.d.f, .string c.d.s] t)) := ⟨C7.made c t rfl, bal (Below.refl _ _) _⟩
theorem CB.step {w0 w w1 : World} {c : Col} (h : CB w0 c w) (hb : Below w.heap.size w w1) : CB w0 c w1 := ⟨h.c.below hb, btr h.b hb⟩
theorem CB.drew {w0 w : World} {c : Col} (h : CB w0 c w) : CB w0 c w.drew := ⟨h.c.drew, bdrewN h.b 1⟩
theorem C7.oth {w : World} {b o g i : Nat} {c : Col} (h : C7 w b o c) (hne : g ≠ b) (u : Value) : C7 (w.setCell ⟨g, i, none⟩ u) b o c := by
  have ne : ∀ j : Nat, (⟨g, i, none⟩ : Addr) ≠ ⟨b, j, none⟩ := fun j e => hne (by injection e)
  exact ⟨by simpa using h.lt, (sc_other _ _ _ _ (ne _)).trans h.c0, (sc_other _ _ _ _ (ne _)).trans h.c1, (sc_other _ _ _ _ (ne _)).trans h.c2, (sc_other _ _ _ _ (ne _)).trans h.c3, (sc_other _ _ _ _ (ne _)).trans h.c4, (sc_other _ _ _ _ (ne _)).trans h.c5, (sc_other _ _ _ _ (ne _)).trans h.c6⟩
theorem C7.row {w : World} {b o g : Nat} {c : Col} (h : C7 w b o c) (hne : b ≠ g) (us : Array Value) : C7 (w.setRow g us) b o c := by
  have e : ∀ j, (w.setRow g us).cell? ⟨b, j, none⟩ = w.cell? ⟨b, j, none⟩ := fun j => cell_setRow_other _ _ _ _ hne
  exact ⟨by simpa [World.setRow] using h.lt, (e _).trans h.c0, (e _).trans h.c1, (e _).trans h.c2, (e _).trans h.c3, (e _).trans h.c4, (e _).trans h.c5, (e _).trans h.c6⟩
/-- copy, as one step of a region that draws. -/
theorem step_copy {P : Program} {ops : Array Oper} {o : Oper} {a : Act} {w : World} {K : Act → World → Prop} {Q : Exit → Act → World → Prop} {E : Prop}
    (hgd : o.guard = none) (s x : Operand) (dT sT : TypeId) (hop : o.op = Op.call { callee := Callee.builtin Builtin.copy, args := #[s, x], argTypes := #[dT, sT] })
    (elem : TypeId) (g n m c size k : Nat) (p : Option Addr) (cs : List Value) (cur : Array Value) (t : TypeId)
    (hu : P.underlying dT = some (.slice elem)) (hs : (P.info? elem).map (·.size) = some size) (hd : a.eval s = .slice (some ⟨g, 0, none⟩) n n) (hx0 : a.eval x = .slice p m c) (hg : w.heap[g]? = some (.cells cur t (0, 0))) (hcur : cur.size = n * size) (hcs : cs.length = m * size) (hx : Lies w p cs) (h1 : ∀ v ∈ cs, v.oneCell' = true) (hk : Nat.min m n = k)
    (hK : K (a.put o.dst (.int .i64 (k : Int))) (w.setRow g (cs.take (k * size) ++ cur.toList.drop (k * size)).toArray)) :
    if Region.wanted o (yielded ops a.tmps) = true then Oper.wp P o a w K Q else E := by
  have hw : Region.wanted o (yielded ops a.tmps) = true := by simp [Region.wanted, hgd]
  rw [if_pos hw]
  have hrun := copy_any (P := P) w dT sT o.type elem g n m c size p cs cur t hu hs hg hcur hcs hx h1
  rw [hk] at hrun
  unfold Oper.wp
  simp [execOp, hop, resolve, invoke, builtin, hd, hx0, hrun, Result.andThen]
  exact hK
/-- What lies where, behind the copy. -/
theorem add_mem {w W0 : World} {g n : Nat} {cs : List Col} {x : Col} {cur0 : Array Value} {t : TypeId} (hg : W0.heap[g]? = some (.cells cur0 t (0, 0))) (hc : cur0.size = (n + 1) * 7) (hx : cs.length = n) (hS : CB w x W0) (hne : w.heap.size ≠ g) (hle : w.heap.size ≤ g) :
    ∀ W5, W5 = W0.drew.setRow g (List.take (n * 7) (cellsC cs) ++ List.drop (n * 7) cur0.toList).toArray → C7 W5 w.heap.size 0 x ∧ FilC W5 g (n + 1) cs ∧ Below w.heap.size w W5 := by
  rintro W5 rfl
  refine ⟨hS.c.drew.row hne _, ?_, below_setRow (bdrewN hS.b 1) hle _⟩
  have e : List.take (n * 7) (cellsC cs) = cellsC cs := List.take_of_length_le (by rw [cellsC_length, hx]; exact Nat.le_refl _)
  rw [e]
  refine FilC.of (setRow_heap _ _ cur0 _ t (0, 0) hg) rfl ?_
  rw [List.size_toArray, List.length_append, cellsC_length, hx, List.length_drop, Array.length_toList, hc]; omega
theorem add_11 {cs : List Col} {c : Col} (h : (colsB cs && colB c) = false) : addL cs c = [] ∧ addE cs c = 11 := by
  have e : addE cs c = 11 := by unfold addE; rw [h]; rfl
  unfold addL; rw [e]; exact ⟨rfl, rfl⟩
theorem add_62 {cs : List Col} {c : Col} (h1 : colsB cs = true) (h2 : colB c = true) (h : 0 ≤ findN cs c.nm) : addL cs c = [] ∧ addE cs c = 62 := by
  have e : addE cs c = 62 := by unfold addE; rw [h1, h2, Bool.and_self, if_pos rfl, if_pos h]
  unfold addL; rw [e]; exact ⟨rfl, rfl⟩
theorem add_3 {cs : List Col} {c : Col} (h1 : colsB cs = true) (h2 : colB c = true) (h : ¬ 0 ≤ findN cs c.nm) (h6 : 6 ≤ cs.length) : addL cs c = [] ∧ addE cs c = 3 := by
  have e : addE cs c = 3 := by unfold addE; rw [h1, h2, Bool.and_self, if_pos rfl, if_neg h, if_pos h6]
  unfold addL; rw [e]; exact ⟨rfl, rfl⟩
theorem add_21 {cs : List Col} {c : Col} (h1 : colsB cs = true) (h2 : colB c = true) (h : ¬ 0 ≤ findN cs c.nm) (h6 : ¬ 6 ≤ cs.length) (hn : (c.nn && c.d.k == 0) = true) : addL cs c = [] ∧ addE cs c = 21 := by
  have e : addE cs c = 21 := by unfold addE; rw [h1, h2, Bool.and_self, if_pos rfl, if_neg h, if_neg h6, if_pos hn]
  unfold addL; rw [e]; exact ⟨rfl, rfl⟩
theorem add_0 {cs : List Col} {c : Col} (h1 : colsB cs = true) (h2 : colB c = true) (h : ¬ 0 ≤ findN cs c.nm) (h6 : ¬ 6 ≤ cs.length) (hn : (c.nn && c.d.k == 0) = false) : addL cs c = cs ++ [c] ∧ addE cs c = 0 := by
  have e : addE cs c = 0 := by unfold addE; rw [h1, h2, Bool.and_self, if_pos rfl, if_neg h, if_neg h6, hn]; rfl
  unfold addL; rw [e]; exact ⟨rfl, rfl⟩
end Vl

set_option maxRecDepth 100000 in
set_option maxHeartbeats 4000000 in
theorem add_any (p : Option Addr) (n c : Nat) (cs : List Vl.Col) (x : Vl.Col) (w : World) (hx : cs.length = n) (hn : n ≤ c) (hn1 : n ≤ 100000) (H : Hid (Vl.ColIn w p cs)) :
    Calls Try.prog 10 #[.slice p n c, .agg #[.string x.nm, .int .i64 x.k, .bool x.nn, .int .i64 x.d.k, .int .i64 x.d.n, .float .f64 x.d.f, .string x.d.s]] w fun e w' => ∃ p' c', e = .returned (.tuple #[.slice p' (Vl.addL cs x).length c', .int .i64 (Vl.addE cs x)]) ∧ (Vl.addL cs x).length ≤ c' ∧ (p' = none → (Vl.addL cs x).length = 0 ∧ c' = 0) ∧ Vl.ColIn w' p' (Vl.addL cs x) ∧ Below w.heap.size w w' := by
  have HX := Vl.hid hx
  have HN := Vl.hid (And.intro hn hn1)
  clear hx
  have HS0 := Vl.hid (Vl.CB.start w x 27)
  go_enter Try.func10, Try.ntmps10
  go_wp2_with fail
  refine (goodC_any p n c cs _ HX.out HN.out.1 HN.out.2 (Vl.hid (H.out.al _))).mono ?_
  rintro e w1 ⟨rfl, hb⟩
  have HS1 := Vl.hid (HS0.out.step hb)
  clear hb HS0
  cases hg : Vl.colsB cs
  · have HE := Vl.hid (Vl.add_11 (cs := cs) (c := x) (by rw [hg]; rfl))
    go_wp2_with fail
    go_ret2
    rw [HE.out.1, HE.out.2]
    exact ⟨none, 0, rfl, Nat.le_refl _, (fun _ => ⟨rfl, rfl⟩), Vl.ColIn.none _ _, HS1.out.b⟩
  · have HG := Vl.hid hg
    obtain ⟨p0, p1, p2, p3, p4, p5, p6⟩ := HS1.out.c.box
    go_wp2_with fail
    refine (alone_any x _).mono ?_
    rintro e w2 ⟨rfl, hb⟩
    have HS2 := Vl.hid (HS1.out.step hb)
    clear hb HS1 p0 p1 p2 p3 p4 p5 p6
    cases hc : Vl.colB x
    · have HE := Vl.hid (Vl.add_11 (cs := cs) (c := x) (by rw [hc, Bool.and_false]))
      clear hg
      go_wp2_with fail
      go_ret2
      rw [HE.out.1, HE.out.2]
      exact ⟨none, 0, rfl, Nat.le_refl _, (fun _ => ⟨rfl, rfl⟩), Vl.ColIn.none _ _, HS2.out.b⟩
    · have HC := Vl.hid hc
      obtain ⟨p0, p1, p2, p3, p4, p5, p6⟩ := HS2.out.c.box
      clear hg hc
      go_wp2_with fail
      refine (find_any p n c cs x.nm _ HX.out HN.out.1 HN.out.2 (Vl.hid (H.out.below HS2.out.b))).mono ?_
      rintro e w3 ⟨rfl, hb⟩
      have HS3 := Vl.hid (HS2.out.step hb)
      clear hb HS2 p0 p1 p2 p3 p4 p5 p6
      obtain ⟨p0, p1, p2, p3, p4, p5, p6⟩ := HS3.out.c.box
      obtain ⟨f, HF⟩ : ∃ f, Hid (Vl.findN cs x.nm = f) := ⟨_, Vl.hid rfl⟩
      rw [HF.out]
      cases hf : decide (0 ≤ f)
      · have HF2 : Hid (¬ 0 ≤ Vl.findN cs x.nm) := Vl.hid (by rw [HF.out]; simpa using hf)
        cases h6 : decide ((6 : Int) ≤ (n : Int))
        · have HL : Hid (¬ 6 ≤ cs.length) := Vl.hid (by rw [HX.out]; simp at h6; omega)
          cases hnn : (x.nn && x.d.k == 0)
          · have HE := Vl.hid (Vl.add_0 HG.out HC.out HF2.out HL.out hnn)
            obtain ⟨i24, hi, hz0, hz1, hz2⟩ : ∃ i, Try.prog.info? 27 = some i ∧ i.zero = some (.agg #[.string ⟨#[]⟩, .int .i64 0, .bool false, .int .i64 0, .int .i64 0, .float .f64 0, .string ⟨#[]⟩]) ∧ i.size = 7 ∧ i.bytes = 72 := ⟨_, Try.type27, rfl, rfl, rfl⟩
            cases hnb : x.nn
            · clear hnn
              rw [hnb] at p2
              go_wp2_with (first | (at_make; refine wpList_make_full _ rfl _ _ 22 rfl w.heap.size 27 i24 (.agg #[.string ⟨#[]⟩, .int .i64 0, .bool false, .int .i64 0, .int .i64 0, .float .f64 0, .string ⟨#[]⟩]) 7 Try.underlying22 hi hz0 hz1 .i64 .i64 ((n : Int) + 1) ((n : Int) + 1) (n + 1) rfl rfl (by omega) (by omega) (by rw [hz2]; omega) (by unfold maxLen; omega) HS3.out.b.size ?_; intro W0 hown0 hgrow0))
              have hb3 := HS3.out.b.size
              have hlt3 := HS3.out.c.lt
              obtain ⟨cur0, hg0, hc0⟩ := Vl.row_of hown0
              have hB0 : Below w3.heap.size w3 W0 := (Below.refl _ _).grown hgrow0 (Nat.le_refl _) (fun k h => by cases h)
              have HS4 := Vl.hid (HS3.out.step hB0)
              have HG0 := Vl.hid (And.intro hg0 hc0)
              have HCI := Vl.hid (H.out.below HS4.out.b)
              have HII : Hid ((Try.prog.info? 27).map (·.size) = some 7) := Vl.hid (by rw [hi]; simp [hz1])
              have hneb : w.heap.size ≠ w3.heap.size := by omega
              have hneb2 : w3.heap.size ≠ w.heap.size := by omega
              have b0 : (0 : Int) ≤ (n : Int) := by omega
              have b1 : (n : Int) < (n : Int) + 1 := by omega
              have b2 : n < n + 1 := by omega
              have MEM := Vl.hid (Vl.add_mem (W0 := W0) (g := w3.heap.size) (n := n) (cur0 := cur0) hg0 hc0 HX.out HS4.out hneb hb3)
              clear hown0 hgrow0 hg0 hc0 hi hz0 hz1 hz2 hB0 p0 p1 p2 p3 p4 p5 p6
              obtain ⟨p0, p1, p2, p3, p4, p5, p6⟩ := HS4.out.c.box
              rw [hnb] at p2
              go_region_held3 (fun w' => w'.cell? ⟨w.heap.size, 0, none⟩ = some (.string x.nm) ∧ w'.cell? ⟨w.heap.size, 1, none⟩ = some (.int .i64 x.k) ∧ w'.cell? ⟨w.heap.size, 2, none⟩ = some (.bool false) ∧ w'.cell? ⟨w.heap.size, 3, none⟩ = some (.int .i64 x.d.k) ∧ w'.cell? ⟨w.heap.size, 4, none⟩ = some (.int .i64 x.d.n) ∧ w'.cell? ⟨w.heap.size, 5, none⟩ = some (.float .f64 x.d.f) ∧ w'.cell? ⟨w.heap.size, 6, none⟩ = some (.string x.d.s))
                (first | (rw [← hnb]; with_reducible exact HS4.out.c.drew.box) | (rw [← hnb]; with_reducible exact HC5.out.box) | (rw [← hnb]; with_reducible exact (Vl.C7.oth (Vl.C7.oth (Vl.C7.oth (Vl.C7.oth (Vl.C7.oth (Vl.C7.oth (Vl.C7.oth HC5.out hneb2 _) hneb2 _) hneb2 _) hneb2 _) hneb2 _) hneb2 _) hneb2 _).box))
                (first | (refine Vl.step_copy rfl _ _ 22 22 rfl 27 w3.heap.size (n + 1) n c 7 n p (Vl.cellsC cs) cur0 27 Try.underlying22 HII.out rfl rfl HG0.out.1 HG0.out.2 (by rw [Vl.cellsC_length, HX.out]) HCI.out.drew (Vl.cellsC_one cs) (Nat.min_eq_left (Nat.le_succ n)) ?_; obtain ⟨W5, hW5⟩ : ∃ W, W = W0.drew.setRow w3.heap.size (List.take (n * 7) (Vl.cellsC cs) ++ List.drop (n * 7) cur0.toList).toArray := ⟨_, rfl⟩; rw [← hW5]; have HC5 := Vl.hid (MEM.out W5 hW5).1; have HF5 := Vl.hid (MEM.out W5 hW5).2.1; have HB5 := Vl.hid (MEM.out W5 hW5).2.2; clear hW5; obtain ⟨x0, q0⟩ := HF5.out.ex (n * 7) (by omega); have f0 := HF5.out.fz (n * 7); obtain ⟨x1, q1⟩ := HF5.out.ex (n * 7 + 1) (by omega); have f1 := HF5.out.fz (n * 7 + 1); obtain ⟨x2, q2⟩ := HF5.out.ex (n * 7 + 2) (by omega); have f2 := HF5.out.fz (n * 7 + 2); obtain ⟨x3, q3⟩ := HF5.out.ex (n * 7 + 3) (by omega); have f3 := HF5.out.fz (n * 7 + 3); obtain ⟨x4, q4⟩ := HF5.out.ex (n * 7 + 4) (by omega); have f4 := HF5.out.fz (n * 7 + 4); obtain ⟨x5, q5⟩ := HF5.out.ex (n * 7 + 5) (by omega); have f5 := HF5.out.fz (n * 7 + 5); obtain ⟨x6, q6⟩ := HF5.out.ex (n * 7 + 6) (by omega); have f6 := HF5.out.fz (n * 7 + 6)))
              go_wp2_with fail
              go_ret2
              rw [HE.out.1, HE.out.2, List.length_append, HX.out]
              have hput := HF5.out.put x HX.out (Nat.lt_succ_self n)
              rw [hnb] at hput
              exact ⟨some ⟨w3.heap.size, 0, none⟩, n + 1, rfl, Nat.le_refl _, (fun h => nomatch h), hput.colIn, ((((((HB5.out.setCell hb3 _).setCell hb3 _).setCell hb3 _).setCell hb3 _).setCell hb3 _).setCell hb3 _).setCell hb3 _⟩
            · rw [hnb] at hnn
              have hk0 : (x.d.k == 0) = false := by simpa using hnn
              clear hnn
              rw [hnb] at p2
              go_wp2_with (first | (at_make; refine wpList_make_full _ rfl _ _ 22 rfl w.heap.size 27 i24 (.agg #[.string ⟨#[]⟩, .int .i64 0, .bool false, .int .i64 0, .int .i64 0, .float .f64 0, .string ⟨#[]⟩]) 7 Try.underlying22 hi hz0 hz1 .i64 .i64 ((n : Int) + 1) ((n : Int) + 1) (n + 1) rfl rfl (by omega) (by omega) (by rw [hz2]; omega) (by unfold maxLen; omega) HS3.out.b.size ?_; intro W0 hown0 hgrow0))
              have hb3 := HS3.out.b.size
              have hlt3 := HS3.out.c.lt
              obtain ⟨cur0, hg0, hc0⟩ := Vl.row_of hown0
              have hB0 : Below w3.heap.size w3 W0 := (Below.refl _ _).grown hgrow0 (Nat.le_refl _) (fun k h => by cases h)
              have HS4 := Vl.hid (HS3.out.step hB0)
              have HG0 := Vl.hid (And.intro hg0 hc0)
              have HCI := Vl.hid (H.out.below HS4.out.b)
              have HII : Hid ((Try.prog.info? 27).map (·.size) = some 7) := Vl.hid (by rw [hi]; simp [hz1])
              have hneb : w.heap.size ≠ w3.heap.size := by omega
              have hneb2 : w3.heap.size ≠ w.heap.size := by omega
              have b0 : (0 : Int) ≤ (n : Int) := by omega
              have b1 : (n : Int) < (n : Int) + 1 := by omega
              have b2 : n < n + 1 := by omega
              have MEM := Vl.hid (Vl.add_mem (W0 := W0) (g := w3.heap.size) (n := n) (cur0 := cur0) hg0 hc0 HX.out HS4.out hneb hb3)
              clear hown0 hgrow0 hg0 hc0 hi hz0 hz1 hz2 hB0 p0 p1 p2 p3 p4 p5 p6
              obtain ⟨p0, p1, p2, p3, p4, p5, p6⟩ := HS4.out.c.box
              rw [hnb] at p2
              go_region_held3 (fun w' => w'.cell? ⟨w.heap.size, 0, none⟩ = some (.string x.nm) ∧ w'.cell? ⟨w.heap.size, 1, none⟩ = some (.int .i64 x.k) ∧ w'.cell? ⟨w.heap.size, 2, none⟩ = some (.bool true) ∧ w'.cell? ⟨w.heap.size, 3, none⟩ = some (.int .i64 x.d.k) ∧ w'.cell? ⟨w.heap.size, 4, none⟩ = some (.int .i64 x.d.n) ∧ w'.cell? ⟨w.heap.size, 5, none⟩ = some (.float .f64 x.d.f) ∧ w'.cell? ⟨w.heap.size, 6, none⟩ = some (.string x.d.s))
                (first | (rw [← hnb]; with_reducible exact HS4.out.c.drew.box) | (rw [← hnb]; with_reducible exact HC5.out.box) | (rw [← hnb]; with_reducible exact (Vl.C7.oth (Vl.C7.oth (Vl.C7.oth (Vl.C7.oth (Vl.C7.oth (Vl.C7.oth (Vl.C7.oth HC5.out hneb2 _) hneb2 _) hneb2 _) hneb2 _) hneb2 _) hneb2 _) hneb2 _).box))
                (first | (refine Vl.step_copy rfl _ _ 22 22 rfl 27 w3.heap.size (n + 1) n c 7 n p (Vl.cellsC cs) cur0 27 Try.underlying22 HII.out rfl rfl HG0.out.1 HG0.out.2 (by rw [Vl.cellsC_length, HX.out]) HCI.out.drew (Vl.cellsC_one cs) (Nat.min_eq_left (Nat.le_succ n)) ?_; obtain ⟨W5, hW5⟩ : ∃ W, W = W0.drew.setRow w3.heap.size (List.take (n * 7) (Vl.cellsC cs) ++ List.drop (n * 7) cur0.toList).toArray := ⟨_, rfl⟩; rw [← hW5]; have HC5 := Vl.hid (MEM.out W5 hW5).1; have HF5 := Vl.hid (MEM.out W5 hW5).2.1; have HB5 := Vl.hid (MEM.out W5 hW5).2.2; clear hW5; obtain ⟨x0, q0⟩ := HF5.out.ex (n * 7) (by omega); have f0 := HF5.out.fz (n * 7); obtain ⟨x1, q1⟩ := HF5.out.ex (n * 7 + 1) (by omega); have f1 := HF5.out.fz (n * 7 + 1); obtain ⟨x2, q2⟩ := HF5.out.ex (n * 7 + 2) (by omega); have f2 := HF5.out.fz (n * 7 + 2); obtain ⟨x3, q3⟩ := HF5.out.ex (n * 7 + 3) (by omega); have f3 := HF5.out.fz (n * 7 + 3); obtain ⟨x4, q4⟩ := HF5.out.ex (n * 7 + 4) (by omega); have f4 := HF5.out.fz (n * 7 + 4); obtain ⟨x5, q5⟩ := HF5.out.ex (n * 7 + 5) (by omega); have f5 := HF5.out.fz (n * 7 + 5); obtain ⟨x6, q6⟩ := HF5.out.ex (n * 7 + 6) (by omega); have f6 := HF5.out.fz (n * 7 + 6)))
              go_wp2_with fail
              go_ret2
              rw [HE.out.1, HE.out.2, List.length_append, HX.out]
              have hput := HF5.out.put x HX.out (Nat.lt_succ_self n)
              rw [hnb] at hput
              exact ⟨some ⟨w3.heap.size, 0, none⟩, n + 1, rfl, Nat.le_refl _, (fun h => nomatch h), hput.colIn, ((((((HB5.out.setCell hb3 _).setCell hb3 _).setCell hb3 _).setCell hb3 _).setCell hb3 _).setCell hb3 _).setCell hb3 _⟩
          · have HE := Vl.hid (Vl.add_21 HG.out HC.out HF2.out HL.out hnn)
            have hnb : x.nn = true := by revert hnn; cases x.nn <;> simp
            have hk0 : (x.d.k == 0) = true := by revert hnn; cases x.nn <;> simp
            rw [hnb] at p2
            clear hnn hnb
            go_wp2_with fail
            go_ret2
            rw [HE.out.1, HE.out.2]
            exact ⟨none, 0, rfl, Nat.le_refl _, (fun _ => ⟨rfl, rfl⟩), Vl.ColIn.none _ _, HS3.out.b⟩
        · have HE := Vl.hid (Vl.add_3 HG.out HC.out HF2.out (by rw [HX.out]; simp at h6; omega))
          go_wp2_with fail
          go_ret2
          rw [HE.out.1, HE.out.2]
          exact ⟨none, 0, rfl, Nat.le_refl _, (fun _ => ⟨rfl, rfl⟩), Vl.ColIn.none _ _, HS3.out.b⟩
      · have HE := Vl.hid (Vl.add_62 HG.out HC.out (by rw [HF.out]; simpa using hf))
        go_wp2_with fail
        go_ret2
        rw [HE.out.1, HE.out.2]
        exact ⟨none, 0, rfl, Nat.le_refl _, (fun _ => ⟨rfl, rfl⟩), Vl.ColIn.none _ _, HS3.out.b⟩

end Go.Proofs.Ytaclkmhgbmencaa
