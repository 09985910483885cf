/- What a text's bytes in a key are read as: plain. -/
import Derived.Test.YtjnaafgiokdcbaaGreatDoorHN
import Derived.Laws.AppendOwn
import Derived.Lib.BufferRead
namespace Go.Proofs.YtjnaafgiokdcbaaGreatDoor
open Go.RowKit
namespace Ky
open Vl
/-- What text answers: the text and how many bytes it has. -/
def TextIs (l : List UInt8) : Option (List UInt8 × Nat) → Prop
  | none => ∀ t r, l ≠ esc t ++ 0 :: 1 :: r
  | some p => ∃ r, l = esc p.1 ++ 0 :: 1 :: r ∧ p.2 = (esc p.1).length + 2
theorem esc_cons_inv : ∀ (b t r x : List UInt8), esc b ++ r = esc t ++ 0 :: 1 :: x → ∃ u, t = b ++ u ∧ r = esc u ++ 0 :: 1 :: x
  | [], t, r, x, h => ⟨t, rfl, h⟩
  | c :: b, t, r, x, h => by
    by_cases hc : c = 0
    · subst hc
      rw [esc_z] at h
      cases t with
      | nil =>
        have h' : (0 : UInt8) :: 255 :: (esc b ++ r) = 0 :: 1 :: x := h
        injection h' with _ h'; injection h' with h' _; exact absurd h' (by decide)
      | cons d t =>
        by_cases hd : d = 0
        · subst hd
          rw [esc_z] at h
          have h' : (0 : UInt8) :: 255 :: (esc b ++ r) = 0 :: 255 :: (esc t ++ 0 :: 1 :: x) := h
          injection h' with _ h'; injection h' with _ h'
          obtain ⟨u, rfl, hu⟩ := esc_cons_inv b t r x h'
          exact ⟨u, rfl, hu⟩
        · rw [esc_nz hd] at h
          have h' : (0 : UInt8) :: 255 :: (esc b ++ r) = d :: (esc t ++ 0 :: 1 :: x) := h
          injection h' with h' _; exact absurd h'.symm hd
    · rw [esc_nz hc] at h
      cases t with
      | nil =>
        have h' : c :: (esc b ++ r) = 0 :: 1 :: x := h
        injection h' with h' _; exact absurd h' hc
      | cons d t =>
        by_cases hd : d = 0
        · subst hd
          rw [esc_z] at h
          have h' : c :: (esc b ++ r) = 0 :: 255 :: (esc t ++ 0 :: 1 :: x) := h
          injection h' with h' _; exact absurd h' hc
        · rw [esc_nz hd] at h
          have h' : c :: (esc b ++ r) = d :: (esc t ++ 0 :: 1 :: x) := h
          injection h' with h1 h'
          obtain ⟨u, rfl, hu⟩ := esc_cons_inv b t r x h'
          exact ⟨u, by rw [h1]; rfl, hu⟩
/-- A rest that no text's end opens. -/
def Dead (r : List UInt8) : Prop := ∀ u x, r ≠ esc u ++ 0 :: 1 :: x
theorem dead_nil : Dead [] := fun u x h => by cases hu : esc u <;> (rw [hu] at h; cases h)
theorem dead_one : Dead [0] := fun u x h => by
  have := congrArg List.length h
  rw [List.length_append] at this
  simp at this
  omega
theorem dead_two {c : UInt8} {r : List UInt8} (h1 : c ≠ 1) (h2 : c ≠ 255) : Dead (0 :: c :: r) := fun u x h => by
  cases u with
  | nil =>
    have h' : (0 : UInt8) :: c :: r = 0 :: 1 :: x := h
    injection h' with _ h'; injection h' with h' _; exact h1 h'
  | cons d u =>
    by_cases hd : d = 0
    · subst hd
      rw [esc_z] at h
      have h' : (0 : UInt8) :: c :: r = 0 :: 255 :: (esc u ++ 0 :: 1 :: x) := h
      injection h' with _ h'; injection h' with h' _; exact h2 h'
    · rw [esc_nz hd] at h
      have h' : (0 : UInt8) :: c :: r = d :: (esc u ++ 0 :: 1 :: x) := h
      injection h' with h' _; exact hd h'.symm
theorem text_none {l b r : List UInt8} (h : l = esc b ++ r) (hr : Dead r) : TextIs l none := fun t x e => by
  obtain ⟨u, _, hu⟩ := esc_cons_inv b t r x (h.symm.trans e)
  exact hr u x hu
/-- Behind i bytes of which b has been read. -/
def TextAt (s : ByteArray) (b : List UInt8) (i : Nat) : Prop := s.data.toList = esc b ++ s.data.toList.drop i ∧ (esc b).length = i
theorem textAt_0 (s : ByteArray) : TextAt s [] 0 := ⟨rfl, rfl⟩
theorem drop_at (s : ByteArray) {i : Nat} (h : i < s.size) : s.data.toList.drop i = s.data.toList.getD i 0 :: s.data.toList.drop (i + 1) := by
  have hl : i < s.data.toList.length := by rw [← size_list]; exact h
  rw [List.drop_eq_getElem_cons hl]
  have e : s.data.toList[i] = s.data.toList.getD i 0 := by rw [List.getD_eq_getElem?_getD, List.getElem?_eq_getElem hl]; rfl
  rw [e]
theorem esc_snoc_nz {b : List UInt8} {c : UInt8} (h : c ≠ 0) : esc (b ++ [c]) = esc b ++ [c] := by rw [esc_append, esc_nz h]; rfl
theorem esc_snoc_z {b : List UInt8} : esc (b ++ [0]) = esc b ++ [0, 255] := by rw [esc_append]; rfl
theorem TextAt.byte {s : ByteArray} {b : List UInt8} {i : Nat} (h : TextAt s b i) (hi : i < s.size) {c : UInt8} (hc : s.data.toList.getD i 0 = c) (h0 : c ≠ 0) : TextAt s (b ++ [c]) (i + 1) := by
  refine ⟨?_, by rw [esc_snoc_nz h0, List.length_append, h.2]; rfl⟩
  rw [esc_snoc_nz h0, List.append_assoc, ← hc]
  have e := h.1
  rw [drop_at s hi] at e
  exact e
theorem TextAt.zero {s : ByteArray} {b : List UInt8} {i : Nat} (h : TextAt s b i) (hi : i + 1 < s.size) (h0 : s.data.toList.getD i 0 = 0) (h1 : s.data.toList.getD (i + 1) 0 = 255) : TextAt s (b ++ [0]) (i + 1 + 1) := by
  refine ⟨?_, by rw [esc_snoc_z, List.length_append, h.2]; rfl⟩
  rw [esc_snoc_z, List.append_assoc]
  have e := h.1
  rw [drop_at s (by omega), drop_at s hi, h0, h1] at e
  exact e
theorem TextAt.endd {s : ByteArray} {b : List UInt8} {i : Nat} (h : TextAt s b i) (hi : i + 1 < s.size) (h0 : s.data.toList.getD i 0 = 0) (h1 : s.data.toList.getD (i + 1) 0 = 1) : TextIs s.data.toList (some (b, i + 2)) := by
  refine ⟨s.data.toList.drop (i + 1 + 1), ?_, by rw [h.2]⟩
  have e := h.1
  rw [drop_at s (by omega), drop_at s hi, h0, h1] at e
  exact e
theorem TextAt.bad {s : ByteArray} {b : List UInt8} {i : Nat} (h : TextAt s b i) (hi : i + 1 < s.size) (h0 : s.data.toList.getD i 0 = 0) (h1 : s.data.toList.getD (i + 1) 0 ≠ 1) (h2 : s.data.toList.getD (i + 1) 0 ≠ 255) : TextIs s.data.toList none := by
  have e := h.1
  rw [drop_at s (by omega), drop_at s hi, h0] at e
  exact text_none e (dead_two h1 h2)
theorem TextAt.last {s : ByteArray} {b : List UInt8} {i : Nat} (h : TextAt s b i) (hi : i + 1 = s.size) (h0 : s.data.toList.getD i 0 = 0) : TextIs s.data.toList none := by
  have e := h.1
  rw [drop_at s (by omega), h0, List.drop_of_length_le (by rw [← size_list]; omega)] at e
  exact text_none e dead_one
theorem TextAt.over {s : ByteArray} {b : List UInt8} {i : Nat} (h : TextAt s b i) (hi : s.size ≤ i) : TextIs s.data.toList none := by
  have e := h.1
  rw [List.drop_of_length_le (by rw [← size_list]; omega)] at e
  exact text_none e dead_nil
theorem TextAt.len {s : ByteArray} {b : List UInt8} {i : Nat} (h : TextAt s b i) : b.length ≤ i ∧ i ≤ s.size := by
  have h1 := (esc_len b).1
  have h2 := congrArg List.length h.1
  rw [List.length_append, ← size_list, h.2] at h2
  have := h.2
  omega
theorem cAt_n {s : ByteArray} {k n : Nat} (hn : n < 256) (h : cAt s k = n) : s.data.toList.getD k 0 = UInt8.ofNat n := by
  apply UInt8.toNat_inj.1
  rw [UInt8.toNat_ofNat_of_lt' hn]; exact h
/-- What is owned as bytes converts to them. -/
theorem conv_own {P : Program} {T S B : TypeId} (hT : P.underlying T = some (.slice B)) (hB : P.underlying B = some (.int .u8)) (hS : P.underlying S = some .string) {W : World} {base n : Nat} {v : Value} {l : List UInt8} (h : W.ownsRow base B 1 v n (Lib.byteCells l)) :
    (convert T S v).run P W = .ok (.string ⟨l.toArray⟩) W := by
  obtain ⟨hl, ⟨rfl, rfl⟩ | ⟨g, cap, cur, rfl, _, hg, _, _, _, htk⟩⟩ := h
  · have : l = [] := by
      rw [Lib.byteCells_length] at hl
      exact List.length_eq_zero_iff.1 (by omega)
    subst this
    exact Lib.run_convert_nil_bytes W T S B 0 hT hB hS
  · rw [Lib.byteCells_length, Nat.mul_one] at hl
    subst hl
    rw [Nat.mul_one] at htk
    exact run_convert_bytes_back W T S B ⟨g, 0, none⟩ cap l hT hB hS (Lib.bytes_of_row hg htk)
end Ky

end Go.Proofs.YtjnaafgiokdcbaaGreatDoor

/- The reference's text. -/
namespace Go.Proofs.YtjnaafgiokdcbaaGreatDoor
open Go.RowKit
attribute [local go_sem] Fl.run_store_float
namespace Ky
open Vl
def txtT : Option (List UInt8 × Nat) → Value
  | none => .agg #[.int .i64 0, .int .i64 0, .float .f64 0, .string ⟨#[]⟩, .int .i64 0]
  | some p => .agg #[.int .i64 0, .int .i64 0, .float .f64 0, .string ⟨p.1.toArray⟩, .int .i64 (p.2 : Int)]
/-- Where text stands: its answer's block, the bytes that it has. -/
structure StT (w0 : World) (vb : Value) (b : List UInt8) (w : World) : Prop where
  c : w.heap[w0.heap.size]? = some (.cells #[.int .i64 0, .int .i64 0, .float .f64 0, .string ⟨#[]⟩, .int .i64 0] 145)
  o : w.ownsRow (w0.heap.size + 1) 5 1 vb b.length (Lib.byteCells b)
  l : Below w0.heap.size w0 w
theorem StT.start (w0 : World) : StT w0 (.slice none 0 0) [] (w0.alloc (.cells #[.int .i64 0, .int .i64 0, .float .f64 0, .string ⟨#[]⟩, .int .i64 0] 145)) :=
  ⟨by show (w0.heap.push _)[w0.heap.size]? = _; simp, ⟨rfl, .inl ⟨rfl, rfl⟩⟩, Vl.bal (Below.refl _ _) _⟩
theorem StT.lt {w0 w : World} {vb : Value} {b : List UInt8} (h : StT w0 vb b w) : w0.heap.size < w.heap.size := by
  rcases Nat.lt_or_ge w0.heap.size w.heap.size with c | c
  · exact c
  · have := h.c; rw [Array.getElem?_eq_none c] at this; cases this
theorem StT.grow {w0 w w3 : World} {vb v' : Value} {b : List UInt8} (h : StT w0 vb b w) (c : UInt8) {o : Obj} (ho : w3.ownsRow (w0.heap.size + 1) 5 1 v' (b.length + 1) (Lib.byteCells b ++ Lib.byteCells [c])) (hg : (w.alloc o).grownBy w3 vb.ownBlock) : StT w0 v' (b ++ [c]) w3 := by
  have hl := h.lt
  have e : (b ++ [c]).length = b.length + 1 := by simp
  have e2 : Lib.byteCells (b ++ [c]) = Lib.byteCells b ++ Lib.byteCells [c] := by simp [Lib.byteCells]
  have hB : Below (w0.heap.size + 1) (w.alloc o) w3 := (Below.refl _ _).grown hg (by simp; omega) (fun k hk => (h.o.lt k hk).1)
  refine ⟨?_, by rw [e, e2]; exact ho, ?_⟩
  · rw [hB.block _ (by omega), ← h.c]
    exact (Vl.bal (Below.refl w.heap.size w) o).block _ hl
  · exact (Vl.bal h.l o).trans (hB.mono (by omega))
theorem StT.slice {w0 w : World} {vb : Value} {b : List UInt8} (h : StT w0 vb b w) : ∃ p c, vb = .slice p b.length c := by
  rcases h.o.2 with ⟨rfl, e⟩ | ⟨g, cap, cur, rfl, _⟩
  · exact ⟨none, 0, by rw [e]⟩
  · exact ⟨_, _, rfl⟩
theorem StT.cells {w0 w : World} {vb : Value} {b : List UInt8} (h : StT w0 vb b w) :
    (w.cell? ⟨w0.heap.size, 0, none⟩ = some (.int .i64 0) ∧ w.cell? ⟨w0.heap.size, 1, none⟩ = some (.int .i64 0) ∧ w.cell? ⟨w0.heap.size, 2, none⟩ = some (.float .f64 0) ∧ w.cell? ⟨w0.heap.size, 3, none⟩ = some (.string ⟨#[]⟩) ∧ w.cell? ⟨w0.heap.size, 4, none⟩ = some (.int .i64 0)) ∧
    (w.frozen? ⟨w0.heap.size, 0, none⟩ = false ∧ w.frozen? ⟨w0.heap.size, 1, none⟩ = false ∧ w.frozen? ⟨w0.heap.size, 2, none⟩ = false ∧ w.frozen? ⟨w0.heap.size, 3, none⟩ = false ∧ w.frozen? ⟨w0.heap.size, 4, none⟩ = false) := by
  simp [World.cell?, World.frozen?, h.c]
end Ky

set_option maxRecDepth 100000 in
set_option maxHeartbeats 4000000 in
theorem refText_any (s : ByteArray) (w : World) (hs : s.size ≤ 50000) :
    Calls Tryz.prog 102 #[.string s] w fun e w' => ∃ o, e = .returned (Ky.txtT o) ∧ Ky.TextIs s.data.toList o ∧ Below w.heap.size w w' := by
  obtain ⟨i5, hi, hz0, hz1, hz2⟩ : ∃ i, Tryz.prog.info? 5 = some i ∧ i.zero = some (.int .u8 0) ∧ i.size = 1 ∧ i.bytes = 1 := ⟨_, Tryz.type5, rfl, rfl, rfl⟩
  have HS0 := Vl.hid (Ky.StT.start w)
  go_enter Tryz.func102, Tryz.ntmps102
  go_wp2_with fail
  go_loopw [3, 4] (fun vb vi wr => ∃ (k : Nat) (b : List UInt8), vi = .int .i64 (k : Int) ∧ k ≤ s.size ∧ b.length ≤ k ∧ Hid (Ky.TextAt s b k) ∧ Hid (Ky.StT w vb b wr)) (fun _ vi _ => s.size - (intOf vi).toNat)
  case atStart => exact ⟨0, [], rfl, Nat.zero_le _, Nat.le_refl _, Vl.hid (Ky.textAt_0 s), HS0⟩
  case round =>
    rename Value => vb
    obtain ⟨k, b, rfl, hk, hbk, HT, HR⟩ := hrel
    rename World => wr
    clear HS0
    obtain ⟨⟨p0, p1, p2, p3, p4⟩, q0, q1, q2, q3, q4⟩ := HR.out.cells
    have z1 := HR.out.lt
    obtain ⟨pv, cv, rfl⟩ := HR.out.slice
    by_cases hlt : k < s.size
    · have hX : ∀ w, (Instr.index 9 (.string s) (.int .i64 (k : Int))).run Tryz.prog w = .ok (.int .u8 (Vl.cAt s k : Int)) w := Vl.idx_str 9 Tryz.underlying9 s k hlt
      by_cases hc : Vl.cAt s k = 0
      · have hd : ((Vl.cAt s k : Int) != 0) = false := by rw [hc]; rfl
        have HC := Vl.hid (Ky.cAt_n (n := 0) (by decide) hc)
        clear hc
        by_cases hl : k + 1 = s.size
        · have hd2 : ((k : Int) + 1 == (s.size : Int)) = true := by simp; omega
          have HE := Vl.hid (HT.out.last hl HC.out)
          go_wp2_with fail
          refine bodyPost_ret (v := .agg #[.int .i64 0, .int .i64 0, .float .f64 0, .string ⟨#[]⟩, .int .i64 0]) (by simp [results, Tryz.results102, go_sem, *]) rfl ⟨none, rfl, HE.out, ?_⟩
          exact ((((HR.out.l.setCell (Nat.le_refl _) _).setCell (Nat.le_refl _) _).setCell (Nat.le_refl _) _).setCell (Nat.le_refl _) _).setCell (Nat.le_refl _) _
        · have hd2 : ((k : Int) + 1 == (s.size : Int)) = false := by simp; omega
          have hX2 : ∀ w, (Instr.index 9 (.string s) (.int .i64 ((k : Int) + 1))).run Tryz.prog w = .ok (.int .u8 (Vl.cAt s (k + 1) : Int)) w := Vl.idx_str 9 Tryz.underlying9 s (k + 1) (by omega)
          by_cases h1 : Vl.cAt s (k + 1) = 1
          · have hd3 : ((Vl.cAt s (k + 1) : Int) == 1) = true := by rw [h1]; rfl
            have HE := Vl.hid (HT.out.endd (by omega) HC.out (Ky.cAt_n (n := 1) (by decide) h1))
            clear h1
            have hcv := Ky.conv_own Tryz.underlying106 Tryz.underlying5 Tryz.underlying9 HR.out.o
            go_wp2_with fail
            refine bodyPost_ret (v := .agg #[.int .i64 0, .int .i64 0, .float .f64 0, .string ⟨b.toArray⟩, .int .i64 ((k : Int) + 2)]) (by simp [results, Tryz.results102, go_sem, *]) rfl ⟨some (b, k + 2), rfl, HE.out, ?_⟩
            exact ((((HR.out.l.setCell (Nat.le_refl _) _).setCell (Nat.le_refl _) _).setCell (Nat.le_refl _) _).setCell (Nat.le_refl _) _).setCell (Nat.le_refl _) _
          · have hd3 : ((Vl.cAt s (k + 1) : Int) == 1) = false := by simp; omega
            by_cases h2 : Vl.cAt s (k + 1) = 255
            · have hd4 : ((Vl.cAt s (k + 1) : Int) != 255) = false := by rw [h2]; rfl
              have HE := Vl.hid (HT.out.zero (by omega) HC.out (Ky.cAt_n (n := 255) (by decide) h2))
              clear h1 h2
              go_wp2_with (at_builtin; refine wpList_append_own _ rfl _ _ 106 rfl (w.heap.size + 1) 5 i5 (.int .u8 0) 1 1 Tryz.underlying106 hi hz0 hz1 hz2 rfl (by decide) (.slice pv b.length cv) b.length (Lib.byteCells b) rfl (HR.out.o.alloc _) ⟨wr.heap.size, 0, none⟩ 1 1 (Lib.byteCells [0]) rfl rfl ?c1 ?c2 ?c3 ?c4 ?c5 ?_)
              case c1 =>
                intro j u hj
                match j, hj with
                | 0, hj => simp [Lib.byteCells] at hj; subst hj; simp [Addr.add, go_sem]
                | j + 1, hj => simp [Lib.byteCells] at hj
              case c2 => intro u hu; simp [Lib.byteCells] at hu; subst hu; rfl
              case c3 => unfold maxLen; omega
              case c4 => omega
              case c5 => simp; omega
              intro v' w3 hown' hgrow _
              have HR3 := Vl.hid (HR.out.grow 0 hown' hgrow)
              clear hown' hgrow
              go_wp2_with fail
              exact ⟨⟨k + 1 + 1, b ++ [0], by go_num, by omega, by simp; omega, HE, HR3⟩, by simp [intOf]; omega⟩
            · have hd4 : ((Vl.cAt s (k + 1) : Int) != 255) = true := by simp; omega
              have HE := Vl.hid (HT.out.bad (by omega) HC.out (fun e => h1 (by unfold Vl.cAt; rw [e]; rfl)) (fun e => h2 (by unfold Vl.cAt; rw [e]; rfl)))
              clear h1 h2
              go_wp2_with fail
              refine bodyPost_ret (v := .agg #[.int .i64 0, .int .i64 0, .float .f64 0, .string ⟨#[]⟩, .int .i64 0]) (by simp [results, Tryz.results102, go_sem, *]) rfl ⟨none, rfl, HE.out, ?_⟩
              exact ((((HR.out.l.setCell (Nat.le_refl _) _).setCell (Nat.le_refl _) _).setCell (Nat.le_refl _) _).setCell (Nat.le_refl _) _).setCell (Nat.le_refl _) _
      · have hd : ((Vl.cAt s k : Int) != 0) = true := by simp; omega
        obtain ⟨c, hc0⟩ : ∃ c, s.data.toList.getD k 0 = c := ⟨_, rfl⟩
        have HE := Vl.hid (HT.out.byte hlt hc0 (fun e => hc (by unfold Vl.cAt; rw [hc0, e]; rfl)))
        have HCC : Hid ((Vl.cAt s k : Int) = (c.toNat : Int)) := Vl.hid (by unfold Vl.cAt; rw [hc0])
        clear hc hc0
        go_wp2_with (at_builtin; refine wpList_append_own _ rfl _ _ 106 rfl (w.heap.size + 1) 5 i5 (.int .u8 0) 1 1 Tryz.underlying106 hi hz0 hz1 hz2 rfl (by decide) (.slice pv b.length cv) b.length (Lib.byteCells b) rfl (HR.out.o.alloc _) ⟨wr.heap.size, 0, none⟩ 1 1 (Lib.byteCells [c]) rfl rfl ?c1 ?c2 ?c3 ?c4 ?c5 ?_)
        case c1 =>
          intro j u hj
          match j, hj with
          | 0, hj => simp [Lib.byteCells] at hj; subst hj; simp [Addr.add, go_sem, HCC.out]
          | j + 1, hj => simp [Lib.byteCells] at hj
        case c2 => intro u hu; simp [Lib.byteCells] at hu; subst hu; rfl
        case c3 => unfold maxLen; omega
        case c4 => omega
        case c5 => simp; omega
        intro v' w3 hown' hgrow _
        have HR3 := Vl.hid (HR.out.grow c hown' hgrow)
        clear hown' hgrow
        go_wp2_with fail
        exact ⟨⟨k + 1, b ++ [c], by go_num, by omega, by simp; omega, HE, HR3⟩, by simp [intOf]; omega⟩
    · have HE := Vl.hid (HT.out.over (by omega))
      go_wp2_with fail
      refine bodyPost_ret (v := .agg #[.int .i64 0, .int .i64 0, .float .f64 0, .string ⟨#[]⟩, .int .i64 0]) (by simp [results, Tryz.results102, go_sem, *]) rfl ⟨none, rfl, HE.out, ?_⟩
      exact ((((HR.out.l.setCell (Nat.le_refl _) _).setCell (Nat.le_refl _) _).setCell (Nat.le_refl _) _).setCell (Nat.le_refl _) _).setCell (Nat.le_refl _) _

end Go.Proofs.YtjnaafgiokdcbaaGreatDoor

/- What a key's beginning is read as: plain; where the reference's read stands. -/
namespace Go.Proofs.YtjnaafgiokdcbaaGreatDoor
open Go.RowKit
attribute [local go_sem] Fl.run_store_float
namespace Ky
open Vl
/-- What read answers: the value and how many bytes it has. -/
def ReadIs (l : List UInt8) : Option (V × Nat) → Prop
  | none => ∀ v r, GoodV v → l ≠ keyL v ++ r
  | some p => GoodV p.1 ∧ (∃ r, l = keyL p.1 ++ r) ∧ p.2 = (keyL p.1).length
def rdT : Option (V × Nat) → Value
  | none => .agg #[.int .i64 0, .int .i64 0, .float .f64 0, .string ⟨#[]⟩, .int .i64 0]
  | some p => .agg #[.int .i64 p.1.k, .int .i64 p.1.n, .float .f64 p.1.f, .string p.1.s, .int .i64 (p.2 : Int)]
theorem rk {u : V} (hu : GoodV u) {c : UInt8} {x r : List UInt8} (h : c :: x = keyL u ++ r) : u.k = c.toNat ∧ bodyL u ++ r = x ∧ keyL u = c :: bodyL u := by
  have h' : c :: x = u.k.toNat.toUInt8 :: (bodyL u ++ r) := h
  injection h' with h1 h2
  have hk : keyL u = c :: bodyL u := by rw [h1]; rfl
  exact ⟨(key_cons hu hk).1, h2.symm, hk⟩
theorem read_no {c : UInt8} {x : List UInt8} {m : Nat} {v : V} {ok : Bool} (ht : Took c (x.take m) v ok) (h : ok = false ∨ goodB v.k v.n v.f v.s = false) (hl : ∀ u, GoodV u → u.k = c.toNat → (bodyL u).length = m) : ReadIs (c :: x) none := fun u r hu e => by
  obtain ⟨hk, hx, hq⟩ := rk hu e
  have hm := hl u hu hk
  refine ht.no h u hu ?_
  rw [hq, ← hx, ← hm, List.take_left]
theorem read_yes {c : UInt8} {x : List UInt8} {m : Nat} {v : V} (ht : Took c (x.take m) v true) (hg : goodB v.k v.n v.f v.s = true) (hl : (x.take m).length = m) : ReadIs (c :: x) (some (v, m + 1)) := by
  have hy := ht.yes rfl hg
  refine ⟨ht.i.good hg, ⟨x.drop m, ?_⟩, ?_⟩
  · rw [hy]; show c :: x = c :: (x.take m ++ x.drop m); rw [List.take_append_drop]
  · rw [hy, List.length_cons, hl]
theorem len_1 (u : V) (_ : GoodV u) (h : u.k = (1 : UInt8).toNat) : (bodyL u).length = 1 := by rw [body_1 h, beL_length]
theorem len_2 (u : V) (_ : GoodV u) (h : u.k = (2 : UInt8).toNat) : (bodyL u).length = 8 := by rw [body_2 h, beL_length]
theorem len_3 (u : V) (_ : GoodV u) (h : u.k = (3 : UInt8).toNat) : (bodyL u).length = 8 := by rw [body_3 h, beL_length]
theorem read_0 (x : List UInt8) : ReadIs (0 :: x) (some (⟨0, 0, 0, ⟨#[]⟩⟩, 1)) := ⟨good_0, ⟨x, rfl⟩, rfl⟩
theorem read_5 {c : UInt8} (hc : 4 < c.toNat) (x : List UInt8) : ReadIs (c :: x) none := fun u r hu e => by
  have := (rk hu e).1
  have := hu.kind
  omega
theorem read_nil : ReadIs [] none := fun u r _ e => by
  have h' : ([] : List UInt8) = u.k.toNat.toUInt8 :: (bodyL u ++ r) := e
  cases h'
theorem read_4no {x : List UInt8} (h : TextIs x none) : ReadIs (4 :: x) none := fun u r hu e => by
  obtain ⟨hk, hx, _⟩ := rk hu e
  have hk' : u.k = 4 := hk
  rw [body_4 hk', List.append_assoc] at hx
  exact h u.s.data.toList r hx.symm
theorem read_4yes {x t : List UInt8} {z : Nat} (h : TextIs x (some (t, z))) (hg : t.length ≤ 256) : ReadIs (4 :: x) (some (⟨4, 0, 0, ⟨t.toArray⟩⟩, z + 1)) := by
  obtain ⟨r, hx, hz⟩ := h
  have e : keyL ⟨4, 0, 0, ⟨t.toArray⟩⟩ = 4 :: (esc t ++ [0, 1]) := by
    show (4 : Int).toNat.toUInt8 :: bodyL _ = _
    rw [body_4 rfl]; rfl
  refine ⟨good_4 (by rw [size_list]; exact hg), ⟨r, ?_⟩, ?_⟩
  · show 4 :: x = keyL ⟨4, 0, 0, ⟨t.toArray⟩⟩ ++ r
    rw [e, hx]; simp
  · show z + 1 = (keyL ⟨4, 0, 0, ⟨t.toArray⟩⟩).length
    have hz' : z = (esc t).length + 2 := hz
    rw [e, hz']; simp
theorem read_4big {x t : List UInt8} {z : Nat} (h : TextIs x (some (t, z))) (hg : 256 < t.length) : ReadIs (4 :: x) none := fun u r hu e => by
  obtain ⟨hk, hx, _⟩ := rk hu e
  have hk' : u.k = 4 := hk
  rw [body_4 hk', List.append_assoc] at hx
  obtain ⟨r0, hx0, _⟩ := h
  obtain ⟨y, hy, _⟩ := esc_cons_inv t u.s.data.toList _ r (hx0.symm.trans hx.symm)
  have hs : u.s.size ≤ 256 := by rcases hu.cases with q | q | q | q | q <;> first | (exfalso; omega) | exact q.2.2.2
  have := congrArg List.length hy
  rw [List.length_append, ← size_list] at this
  omega
/-- Where read stands. -/
structure StR (w0 : World) (v : V) (w : World) : Prop where
  c : w.heap[w0.heap.size]? = some (.cells #[.int .i64 0, .int .i64 0, .float .f64 0, .string ⟨#[]⟩, .int .i64 0] 145)
  v : Cell4 w (w0.heap.size + 1) v
  l : Below w0.heap.size w0 w
theorem StR.start (w0 : World) (v : V) : StR w0 v ((w0.alloc (.cells #[.int .i64 0, .int .i64 0, .float .f64 0, .string ⟨#[]⟩, .int .i64 0] 145)).alloc (.cells #[.int .i64 v.k, .int .i64 v.n, .float .f64 v.f, .string v.s] 34)) :=
  ⟨by show ((w0.heap.push _).push _)[w0.heap.size]? = _; simp [Array.getElem?_push], Cell4.made' v _ (by simp), Vl.bal (Vl.bal (Below.refl _ _) _) _⟩
theorem StR.lt {w0 w : World} {v : V} (h : StR w0 v w) : w0.heap.size + 1 < w.heap.size := h.v.lt
theorem StR.step {w0 w w1 : World} {v : V} (h : StR w0 v w) (hb : Below w.heap.size w w1) : StR w0 v w1 :=
  ⟨(hb.block _ (by have := h.lt; omega)).trans h.c, h.v.below hb, Vl.btr h.l hb⟩
theorem StR.cells {w0 w : World} {v : V} (h : StR w0 v w) :
    (w.cell? ⟨w0.heap.size, 0, none⟩ = some (.int .i64 0) ∧ w.cell? ⟨w0.heap.size, 1, none⟩ = some (.int .i64 0) ∧ w.cell? ⟨w0.heap.size, 2, none⟩ = some (.float .f64 0) ∧ w.cell? ⟨w0.heap.size, 3, none⟩ = some (.string ⟨#[]⟩) ∧ w.cell? ⟨w0.heap.size, 4, none⟩ = some (.int .i64 0)) ∧
    (w.frozen? ⟨w0.heap.size, 0, none⟩ = false ∧ w.frozen? ⟨w0.heap.size, 1, none⟩ = false ∧ w.frozen? ⟨w0.heap.size, 2, none⟩ = false ∧ w.frozen? ⟨w0.heap.size, 3, none⟩ = false ∧ w.frozen? ⟨w0.heap.size, 4, none⟩ = false) := by
  simp [World.cell?, World.frozen?, h.c]
end Ky

end Go.Proofs.YtjnaafgiokdcbaaGreatDoor
