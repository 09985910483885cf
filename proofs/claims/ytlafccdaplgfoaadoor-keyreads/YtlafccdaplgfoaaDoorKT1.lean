/- The reference's text. -/
import Derived.Test.YtlafccdaplgfoaaDoorKT0
namespace Go.Proofs.YtlafccdaplgfoaaDoor
open Go.RowKit
attribute [local go_sem] Fl.run_store_float
namespace Ky
open Vl
def txtT : Option (List UInt8 × Nat) → Value
  | none => .agg #[.int .i64 0, .int .i64 0, .float .f64 0, .string ⟨#[]⟩, .int .i64 0]
  | some p => .agg #[.int .i64 0, .int .i64 0, .float .f64 0, .string ⟨p.1.toArray⟩, .int .i64 (p.2 : Int)]
/-- Where text stands: its answer's block, the bytes that it has. -/
structure StT (w0 : World) (vb : Value) (b : List UInt8) (w : World) : Prop where
  c : w.heap[w0.heap.size]? = some (.cells #[.int .i64 0, .int .i64 0, .float .f64 0, .string ⟨#[]⟩, .int .i64 0] 66)
  o : w.ownsRow (w0.heap.size + 1) 5 1 vb b.length (Lib.byteCells b)
  l : Below w0.heap.size w0 w
theorem StT.start (w0 : World) : StT w0 (.slice none 0 0) [] (w0.alloc (.cells #[.int .i64 0, .int .i64 0, .float .f64 0, .string ⟨#[]⟩, .int .i64 0] 66)) :=
  ⟨by show (w0.heap.push _)[w0.heap.size]? = _; simp, ⟨rfl, .inl ⟨rfl, rfl⟩⟩, Vl.bal (Below.refl _ _) _⟩
theorem StT.lt {w0 w : World} {vb : Value} {b : List UInt8} (h : StT w0 vb b w) : w0.heap.size < w.heap.size := by
  rcases Nat.lt_or_ge w0.heap.size w.heap.size with c | c
  · exact c
  · have := h.c; rw [Array.getElem?_eq_none c] at this; cases this
theorem StT.grow {w0 w w3 : World} {vb v' : Value} {b : List UInt8} (h : StT w0 vb b w) (c : UInt8) {o : Obj} (ho : w3.ownsRow (w0.heap.size + 1) 5 1 v' (b.length + 1) (Lib.byteCells b ++ Lib.byteCells [c])) (hg : (w.alloc o).grownBy w3 vb.ownBlock) : StT w0 v' (b ++ [c]) w3 := by
  have hl := h.lt
  have e : (b ++ [c]).length = b.length + 1 := by simp
  have e2 : Lib.byteCells (b ++ [c]) = Lib.byteCells b ++ Lib.byteCells [c] := by simp [Lib.byteCells]
  have hB : Below (w0.heap.size + 1) (w.alloc o) w3 := (Below.refl _ _).grown hg (by simp; omega) (fun k hk => (h.o.lt k hk).1)
  refine ⟨?_, by rw [e, e2]; exact ho, ?_⟩
  · rw [hB.block _ (by omega), ← h.c]
    exact (Vl.bal (Below.refl w.heap.size w) o).block _ hl
  · exact (Vl.bal h.l o).trans (hB.mono (by omega))
theorem StT.slice {w0 w : World} {vb : Value} {b : List UInt8} (h : StT w0 vb b w) : ∃ p c, vb = .slice p b.length c := by
  rcases h.o.2 with ⟨rfl, e⟩ | ⟨g, cap, cur, rfl, _⟩
  · exact ⟨none, 0, by rw [e]⟩
  · exact ⟨_, _, rfl⟩
theorem StT.cells {w0 w : World} {vb : Value} {b : List UInt8} (h : StT w0 vb b w) :
    (w.cell? ⟨w0.heap.size, 0, none⟩ = some (.int .i64 0) ∧ w.cell? ⟨w0.heap.size, 1, none⟩ = some (.int .i64 0) ∧ w.cell? ⟨w0.heap.size, 2, none⟩ = some (.float .f64 0) ∧ w.cell? ⟨w0.heap.size, 3, none⟩ = some (.string ⟨#[]⟩) ∧ w.cell? ⟨w0.heap.size, 4, none⟩ = some (.int .i64 0)) ∧
    (w.frozen? ⟨w0.heap.size, 0, none⟩ = false ∧ w.frozen? ⟨w0.heap.size, 1, none⟩ = false ∧ w.frozen? ⟨w0.heap.size, 2, none⟩ = false ∧ w.frozen? ⟨w0.heap.size, 3, none⟩ = false ∧ w.frozen? ⟨w0.heap.size, 4, none⟩ = false) := by
  simp [World.cell?, World.frozen?, h.c]
end Ky

set_option maxRecDepth 100000 in
set_option maxHeartbeats 4000000 in
theorem refText_any (s : ByteArray) (w : World) (hs : s.size ≤ 50000) :
    Calls Tryd.prog 49 #[.string s] w fun e w' => ∃ o, e = .returned (Ky.txtT o) ∧ Ky.TextIs s.data.toList o ∧ Below w.heap.size w w' := by
  obtain ⟨i5, hi, hz0, hz1, hz2⟩ : ∃ i, Tryd.prog.info? 5 = some i ∧ i.zero = some (.int .u8 0) ∧ i.size = 1 ∧ i.bytes = 1 := ⟨_, Tryd.type5, rfl, rfl, rfl⟩
  have HS0 := Vl.hid (Ky.StT.start w)
  go_enter Tryd.func49, Tryd.ntmps49
  go_wp2_with fail
  go_loopw [3, 4] (fun vb vi wr => ∃ (k : Nat) (b : List UInt8), vi = .int .i64 (k : Int) ∧ k ≤ s.size ∧ b.length ≤ k ∧ Hid (Ky.TextAt s b k) ∧ Hid (Ky.StT w vb b wr)) (fun _ vi _ => s.size - (intOf vi).toNat)
  case atStart => exact ⟨0, [], rfl, Nat.zero_le _, Nat.le_refl _, Vl.hid (Ky.textAt_0 s), HS0⟩
  case round =>
    rename Value => vb
    obtain ⟨k, b, rfl, hk, hbk, HT, HR⟩ := hrel
    rename World => wr
    clear HS0
    obtain ⟨⟨p0, p1, p2, p3, p4⟩, q0, q1, q2, q3, q4⟩ := HR.out.cells
    have z1 := HR.out.lt
    obtain ⟨pv, cv, rfl⟩ := HR.out.slice
    by_cases hlt : k < s.size
    · have hX : ∀ w, (Instr.index 9 (.string s) (.int .i64 (k : Int))).run Tryd.prog w = .ok (.int .u8 (Vl.cAt s k : Int)) w := Vl.idx_str 9 Tryd.underlying9 s k hlt
      by_cases hc : Vl.cAt s k = 0
      · have hd : ((Vl.cAt s k : Int) != 0) = false := by rw [hc]; rfl
        have HC := Vl.hid (Ky.cAt_n (n := 0) (by decide) hc)
        clear hc
        by_cases hl : k + 1 = s.size
        · have hd2 : ((k : Int) + 1 == (s.size : Int)) = true := by simp; omega
          have HE := Vl.hid (HT.out.last hl HC.out)
          go_wp2_with fail
          refine bodyPost_ret (v := .agg #[.int .i64 0, .int .i64 0, .float .f64 0, .string ⟨#[]⟩, .int .i64 0]) (by simp [results, Tryd.results49, go_sem, *]) rfl ⟨none, rfl, HE.out, ?_⟩
          exact ((((HR.out.l.setCell (Nat.le_refl _) _).setCell (Nat.le_refl _) _).setCell (Nat.le_refl _) _).setCell (Nat.le_refl _) _).setCell (Nat.le_refl _) _
        · have hd2 : ((k : Int) + 1 == (s.size : Int)) = false := by simp; omega
          have hX2 : ∀ w, (Instr.index 9 (.string s) (.int .i64 ((k : Int) + 1))).run Tryd.prog w = .ok (.int .u8 (Vl.cAt s (k + 1) : Int)) w := Vl.idx_str 9 Tryd.underlying9 s (k + 1) (by omega)
          by_cases h1 : Vl.cAt s (k + 1) = 1
          · have hd3 : ((Vl.cAt s (k + 1) : Int) == 1) = true := by rw [h1]; rfl
            have HE := Vl.hid (HT.out.endd (by omega) HC.out (Ky.cAt_n (n := 1) (by decide) h1))
            clear h1
            have hcv := Ky.conv_own Tryd.underlying60 Tryd.underlying5 Tryd.underlying9 HR.out.o
            go_wp2_with fail
            refine bodyPost_ret (v := .agg #[.int .i64 0, .int .i64 0, .float .f64 0, .string ⟨b.toArray⟩, .int .i64 ((k : Int) + 2)]) (by simp [results, Tryd.results49, go_sem, *]) rfl ⟨some (b, k + 2), rfl, HE.out, ?_⟩
            exact ((((HR.out.l.setCell (Nat.le_refl _) _).setCell (Nat.le_refl _) _).setCell (Nat.le_refl _) _).setCell (Nat.le_refl _) _).setCell (Nat.le_refl _) _
          · have hd3 : ((Vl.cAt s (k + 1) : Int) == 1) = false := by simp; omega
            by_cases h2 : Vl.cAt s (k + 1) = 255
            · have hd4 : ((Vl.cAt s (k + 1) : Int) != 255) = false := by rw [h2]; rfl
              have HE := Vl.hid (HT.out.zero (by omega) HC.out (Ky.cAt_n (n := 255) (by decide) h2))
              clear h1 h2
              go_wp2_with (at_builtin; refine wpList_append_own _ rfl _ _ 60 rfl (w.heap.size + 1) 5 i5 (.int .u8 0) 1 1 Tryd.underlying60 hi hz0 hz1 hz2 rfl (by decide) (.slice pv b.length cv) b.length (Lib.byteCells b) rfl (HR.out.o.alloc _) ⟨wr.heap.size, 0, none⟩ 1 1 (Lib.byteCells [0]) rfl rfl ?c1 ?c2 ?c3 ?c4 ?c5 ?_)
              case c1 =>
                intro j u hj
                match j, hj with
                | 0, hj => simp [Lib.byteCells] at hj; subst hj; simp [Addr.add, go_sem]
                | j + 1, hj => simp [Lib.byteCells] at hj
              case c2 => intro u hu; simp [Lib.byteCells] at hu; subst hu; rfl
              case c3 => unfold maxLen; omega
              case c4 => omega
              case c5 => simp; omega
              intro v' w3 hown' hgrow _
              have HR3 := Vl.hid (HR.out.grow 0 hown' hgrow)
              clear hown' hgrow
              go_wp2_with fail
              exact ⟨⟨k + 1 + 1, b ++ [0], by go_num, by omega, by simp; omega, HE, HR3⟩, by simp [intOf]; omega⟩
            · have hd4 : ((Vl.cAt s (k + 1) : Int) != 255) = true := by simp; omega
              have HE := Vl.hid (HT.out.bad (by omega) HC.out (fun e => h1 (by unfold Vl.cAt; rw [e]; rfl)) (fun e => h2 (by unfold Vl.cAt; rw [e]; rfl)))
              clear h1 h2
              go_wp2_with fail
              refine bodyPost_ret (v := .agg #[.int .i64 0, .int .i64 0, .float .f64 0, .string ⟨#[]⟩, .int .i64 0]) (by simp [results, Tryd.results49, go_sem, *]) rfl ⟨none, rfl, HE.out, ?_⟩
              exact ((((HR.out.l.setCell (Nat.le_refl _) _).setCell (Nat.le_refl _) _).setCell (Nat.le_refl _) _).setCell (Nat.le_refl _) _).setCell (Nat.le_refl _) _
      · have hd : ((Vl.cAt s k : Int) != 0) = true := by simp; omega
        obtain ⟨c, hc0⟩ : ∃ c, s.data.toList.getD k 0 = c := ⟨_, rfl⟩
        have HE := Vl.hid (HT.out.byte hlt hc0 (fun e => hc (by unfold Vl.cAt; rw [hc0, e]; rfl)))
        have HCC : Hid ((Vl.cAt s k : Int) = (c.toNat : Int)) := Vl.hid (by unfold Vl.cAt; rw [hc0])
        clear hc hc0
        go_wp2_with (at_builtin; refine wpList_append_own _ rfl _ _ 60 rfl (w.heap.size + 1) 5 i5 (.int .u8 0) 1 1 Tryd.underlying60 hi hz0 hz1 hz2 rfl (by decide) (.slice pv b.length cv) b.length (Lib.byteCells b) rfl (HR.out.o.alloc _) ⟨wr.heap.size, 0, none⟩ 1 1 (Lib.byteCells [c]) rfl rfl ?c1 ?c2 ?c3 ?c4 ?c5 ?_)
        case c1 =>
          intro j u hj
          match j, hj with
          | 0, hj => simp [Lib.byteCells] at hj; subst hj; simp [Addr.add, go_sem, HCC.out]
          | j + 1, hj => simp [Lib.byteCells] at hj
        case c2 => intro u hu; simp [Lib.byteCells] at hu; subst hu; rfl
        case c3 => unfold maxLen; omega
        case c4 => omega
        case c5 => simp; omega
        intro v' w3 hown' hgrow _
        have HR3 := Vl.hid (HR.out.grow c hown' hgrow)
        clear hown' hgrow
        go_wp2_with fail
        exact ⟨⟨k + 1, b ++ [c], by go_num, by omega, by simp; omega, HE, HR3⟩, by simp [intOf]; omega⟩
    · have HE := Vl.hid (HT.out.over (by omega))
      go_wp2_with fail
      refine bodyPost_ret (v := .agg #[.int .i64 0, .int .i64 0, .float .f64 0, .string ⟨#[]⟩, .int .i64 0]) (by simp [results, Tryd.results49, go_sem, *]) rfl ⟨none, rfl, HE.out, ?_⟩
      exact ((((HR.out.l.setCell (Nat.le_refl _) _).setCell (Nat.le_refl _) _).setCell (Nat.le_refl _) _).setCell (Nat.le_refl _) _).setCell (Nat.le_refl _) _

end Go.Proofs.YtlafccdaplgfoaaDoor
