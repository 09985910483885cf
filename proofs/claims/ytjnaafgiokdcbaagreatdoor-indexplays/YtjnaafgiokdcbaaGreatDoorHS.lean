/- The reference's read whole; its Value and Split. -/
import Derived.Test.YtjnaafgiokdcbaaGreatDoorHR
namespace Go.Proofs.YtjnaafgiokdcbaaGreatDoor
open Go.RowKit
attribute [local go_sem] Fl.run_store_float

theorem refRead_any (s : ByteArray) (w : World) (hs : s.size ≤ 50000) :
    Calls Tryz.prog 85 #[.string s] w fun e w' => ∃ o, e = .returned (Ky.rdT o) ∧ Ky.ReadIs s.data.toList o ∧ Below w.heap.size w w' := by
  by_cases h0 : s.size = 0
  · have e : s = ⟨#[]⟩ := Ky.ext_list (by rw [Ky.size_list] at h0; exact List.length_eq_zero_iff.1 h0)
    subst e; exact refRead_nil w
  have h0' : 0 < s.size := by omega
  by_cases h1 : Vl.cAt s 0 = 1
  · exact refRead_1 s w hs h0' (by rw [h1]; rfl)
  by_cases h2 : Vl.cAt s 0 = 2
  · exact refRead_2 s w hs h0' (by rw [h2]; rfl)
  by_cases h3 : Vl.cAt s 0 = 3
  · exact refRead_3 s w hs h0' (by rw [h3]; rfl)
  by_cases h4 : Vl.cAt s 0 = 4
  · exact refRead_4 s w hs h0' (by rw [h4]; rfl)
  exact refRead_05 s w h0' _ rfl (by omega)

namespace Ky
open Vl
theorem keyIs_no {l : List UInt8} (h : ReadIs l none) : KeyIs l none := fun v hv e => h v [] hv (by rw [List.append_nil, e])
theorem keyIs_yes {l : List UInt8} {v : V} {z : Nat} (h : ReadIs l (some (v, z))) (hz : z = l.length) : KeyIs l (some v) := by
  obtain ⟨hg, ⟨r, hr⟩, hz'⟩ := h
  have hr' : l = keyL v ++ r := hr
  have hz2 : z = (keyL v).length := hz'
  have hl := congrArg List.length hr'
  rw [List.length_append] at hl
  have : r = [] := List.length_eq_zero_iff.1 (by omega)
  rw [this, List.append_nil] at hr'
  exact ⟨hg, hr'.symm⟩
theorem keyIs_other {l : List UInt8} {v : V} {z : Nat} (h : ReadIs l (some (v, z))) (hz : z ≠ l.length) : KeyIs l none := fun u hu e => by
  obtain ⟨hg, ⟨r, hr⟩, hz'⟩ := h
  have hr' : l = keyL v ++ r := hr
  have hz2 : z = (keyL v).length := hz'
  obtain ⟨rfl, _⟩ := key_front hu hg (x := []) (y := r) (by rw [List.append_nil, e, hr'])
  rw [e] at hz2
  exact hz hz2
theorem entIs_no {l : List UInt8} (h : ReadIs l none) : EntIs l none := fun v _ hv _ e => h v _ hv e.symm
theorem entIs_other {l : List UInt8} {v : V} {z : Nat} (h : ReadIs l (some (v, z))) (hz : z + 2 ≠ l.length) : EntIs l none := fun u _ hu _ e => by
  obtain ⟨hg, ⟨r, hr⟩, hz'⟩ := h
  have hr' : l = keyL v ++ r := hr
  have hz2 : z = (keyL v).length := hz'
  obtain ⟨rfl, hx⟩ := key_front hu hg (e.trans hr')
  have hl := congrArg List.length hr'
  rw [List.length_append, ← hx, beL_length] at hl
  exact hz (by omega)
theorem entIs_yes {s : ByteArray} {v : V} {z : Nat} (h : ReadIs s.data.toList (some (v, z))) (hz : z + 2 = s.size) : EntIs s.data.toList (some (v, cAt s z * 256 + cAt s (z + 1))) := by
  obtain ⟨hg, ⟨r, hr⟩, hz'⟩ := h
  have hr' : s.data.toList = keyL v ++ r := hr
  have hz2 : z = (keyL v).length := hz'
  have e1 : s.data.toList.drop z = r := by rw [hr', hz2, List.drop_left]
  rw [drop_at s (by omega), drop_at s (by omega), List.drop_of_length_le (by rw [← size_list]; omega)] at e1
  have h1 := cAt_lt s z
  have h2 := cAt_lt s (z + 1)
  have hn : nvL r = cAt s z * 256 + cAt s (z + 1) := by rw [← e1]; simp [nvL, cAt]
  have hb := beL_nvL r
  rw [hn, ← e1] at hb
  refine ⟨hg, by show _ < 65536; omega, ?_⟩
  show keyL v ++ beL (cAt s z * 256 + cAt s (z + 1)) 2 = s.data.toList
  rw [hr', ← e1]
  exact congrArg (keyL v ++ ·) hb
theorem read_pos {l : List UInt8} {v : V} {z : Nat} (h : ReadIs l (some (v, z))) : 0 < z ∧ z ≤ l.length := by
  obtain ⟨_, ⟨r, hr⟩, hz⟩ := h
  have hr' : l = keyL v ++ r := hr
  have hz2 : z = (keyL v).length := hz
  have hl := congrArg List.length hr'
  rw [List.length_append] at hl
  have : (keyL v).length = (bodyL v).length + 1 := rfl
  omega
def oV : Option V → V
  | none => ⟨0, 0, 0, ⟨#[]⟩⟩
  | some v => v
def oE : Option V → Int
  | none => 11
  | some _ => 0
theorem valT_eq (o : Option V) : valT o = .tuple #[.agg #[.int .i64 (oV o).k, .int .i64 (oV o).n, .float .f64 (oV o).f, .string (oV o).s], .int .i64 (oE o)] := by cases o <;> rfl
def pV : Option (V × Nat) → V
  | none => ⟨0, 0, 0, ⟨#[]⟩⟩
  | some p => p.1
def pN : Option (V × Nat) → Int
  | none => 0
  | some p => (p.2 : Int)
def pE : Option (V × Nat) → Int
  | none => 11
  | some _ => 0
theorem splT_eq (o : Option (V × Nat)) : splT o = .tuple #[.agg #[.int .i64 (pV o).k, .int .i64 (pV o).n, .float .f64 (pV o).f, .string (pV o).s], .int .i64 (pN o), .int .i64 (pE o)] := by cases o <;> rfl
def gotT (o : Option (V × Nat)) : Value := .tuple #[.agg #[.int .i64 (pV o).k, .int .i64 (pV o).n, .float .f64 (pV o).f, .string (pV o).s, .int .i64 (pN o)], .int .i64 (pE o)]
end Ky

end Go.Proofs.YtjnaafgiokdcbaaGreatDoor

/- The reference's Split. -/
namespace Go.Proofs.YtjnaafgiokdcbaaGreatDoor
open Go.RowKit
attribute [local go_sem] Fl.run_store_float
namespace Ky
open Vl
/-- An answer of five cells lies untouched. -/
structure St5 (w0 : World) (t : TypeId) (w : World) : Prop where
  c : w.heap[w0.heap.size]? = some (.cells #[.int .i64 0, .int .i64 0, .float .f64 0, .string ⟨#[]⟩, .int .i64 0] t)
  l : Below w0.heap.size w0 w
theorem St5.start (w0 : World) (t : TypeId) : St5 w0 t (w0.alloc (.cells #[.int .i64 0, .int .i64 0, .float .f64 0, .string ⟨#[]⟩, .int .i64 0] t)) :=
  ⟨by show (w0.heap.push _)[w0.heap.size]? = _; simp, Vl.bal (Below.refl _ _) _⟩
theorem St5.lt {w0 w : World} {t : TypeId} (h : St5 w0 t w) : w0.heap.size < w.heap.size := by
  rcases Nat.lt_or_ge w0.heap.size w.heap.size with c | c
  · exact c
  · have := h.c; rw [Array.getElem?_eq_none c] at this; cases this
theorem St5.step {w0 w w1 : World} {t : TypeId} (h : St5 w0 t w) (hb : Below w.heap.size w w1) : St5 w0 t w1 := ⟨(hb.block _ h.lt).trans h.c, Vl.btr h.l hb⟩
theorem St5.cells {w0 w : World} {t : TypeId} (h : St5 w0 t w) :
    (w.cell? ⟨w0.heap.size, 0, none⟩ = some (.int .i64 0) ∧ w.cell? ⟨w0.heap.size, 1, none⟩ = some (.int .i64 0) ∧ w.cell? ⟨w0.heap.size, 2, none⟩ = some (.float .f64 0) ∧ w.cell? ⟨w0.heap.size, 3, none⟩ = some (.string ⟨#[]⟩) ∧ w.cell? ⟨w0.heap.size, 4, none⟩ = some (.int .i64 0)) ∧
    (w.frozen? ⟨w0.heap.size, 0, none⟩ = false ∧ w.frozen? ⟨w0.heap.size, 1, none⟩ = false ∧ w.frozen? ⟨w0.heap.size, 2, none⟩ = false ∧ w.frozen? ⟨w0.heap.size, 3, none⟩ = false ∧ w.frozen? ⟨w0.heap.size, 4, none⟩ = false) := by
  simp [World.cell?, World.frozen?, h.c]
theorem St5.set {w0 w : World} {t : TypeId} (h : St5 w0 t w) (x0 x1 x2 x3 x4 : Value) (o : Obj) : Below w0.heap.size w0 ((((((w.setCell ⟨w0.heap.size, 0, none⟩ x0).setCell ⟨w0.heap.size, 1, none⟩ x1).setCell ⟨w0.heap.size, 2, none⟩ x2).setCell ⟨w0.heap.size, 3, none⟩ x3).setCell ⟨w0.heap.size, 4, none⟩ x4).alloc o) :=
  Vl.bal (((((h.l.setCell (Nat.le_refl _) _).setCell (Nat.le_refl _) _).setCell (Nat.le_refl _) _).setCell (Nat.le_refl _) _).setCell (Nat.le_refl _) _) _
end Ky

set_option maxRecDepth 100000 in
set_option maxHeartbeats 4000000 in
theorem refSplit_any (s : ByteArray) (w : World) (hs : s.size ≤ 50000) :
    Calls Tryz.prog 65 #[.string s] w fun e w' => ∃ o, e = .returned (Ky.gotT o) ∧ Ky.EntIs s.data.toList o ∧ Below w.heap.size w w' := by
  go_enter Tryz.func65, Tryz.ntmps65
  go_wp2_with fail
  refine (refRead_any s _ hs).mono ?_
  rintro e w1 ⟨o, rfl, ho, hb⟩
  have HS := Vl.hid ((Ky.St5.start w 118).step hb)
  have HO := Vl.hid ho
  clear hb ho
  obtain ⟨⟨c0, c1, c2, c3, c4⟩, f0, f1, f2, f3, f4⟩ := HS.out.cells
  have z1 := HS.out.lt
  cases o with
  | none =>
    have HE := Vl.hid (Ky.entIs_no HO.out)
    unfold Ky.rdT
    go_wp2_with fail
    refine bodyPost_ret (v := .tuple #[.agg #[.int .i64 0, .int .i64 0, .float .f64 0, .string ⟨#[]⟩, .int .i64 0], .int .i64 11]) (by simp [results, Tryz.results65, go_sem, *]) rfl ⟨none, rfl, HE.out, ?_⟩
    exact HS.out.set _ _ _ _ _ _
  | some p =>
    obtain ⟨v, z⟩ := p
    have hz := Ky.read_pos HO.out
    rw [← Ky.size_list] at hz
    have hz0 : ((z : Int) == 0) = false := by simp; omega
    have hzz : (z : Int) ≤ 50000 := by omega
    have hzp : (0 : Int) ≤ (z : Int) := by omega
    have hz2 : (z : Int) + 1 < (s.size : Int) ∨ (s.size : Int) ≤ (z : Int) + 1 := by omega
    unfold Ky.rdT
    dsimp only
    by_cases he : z + 2 = s.size
    · have hz1 : ((z : Int) + 2 != (s.size : Int)) = false := by rw [← he]; simp
      have HE := Vl.hid (Ky.entIs_yes HO.out he)
      have hX : ∀ w, (Instr.index 9 (.string s) (.int .i64 (z : Int))).run Tryz.prog w = .ok (.int .u8 (Vl.cAt s z : Int)) w := Vl.idx_str 9 Tryz.underlying9 s z (by omega)
      have hX2 : ∀ w, (Instr.index 9 (.string s) (.int .i64 ((z : Int) + 1))).run Tryz.prog w = .ok (.int .u8 (Vl.cAt s (z + 1) : Int)) w := Vl.idx_str 9 Tryz.underlying9 s (z + 1) (by omega)
      have h1 := Vl.cAt_lt s z
      have h2 := Vl.cAt_lt s (z + 1)
      have hi1 : (z : Int) < (s.size : Int) := by omega
      have hi2 : (z : Int) + 1 < (s.size : Int) := by omega
      clear he hz2
      generalize Vl.cAt s z = x at hX HE h1
      generalize Vl.cAt s (z + 1) = y at hX2 HE h2
      go_wp2_with fail
      go_region
      all_goals
        go_wp2_with fail
        refine bodyPost_ret (v := .tuple #[.agg #[.int .i64 v.k, .int .i64 v.n, .float .f64 v.f, .string v.s, .int .i64 ((x : Int) * 256 + (y : Int))], .int .i64 0]) (by simp [results, Tryz.results65, go_sem, *]) rfl ⟨some (v, x * 256 + y), by rw [show (x : Int) * 256 + (y : Int) = ((x * 256 + y : Nat) : Int) from by omega]; rfl, HE.out, ?_⟩
        exact Below.drew (HS.out.set _ _ _ _ _ _)
    · have hz1 : ((z : Int) + 2 != (s.size : Int)) = true := by simp; omega
      clear hz2
      have HE := Vl.hid (Ky.entIs_other HO.out (by rw [← Ky.size_list]; exact he))
      clear he
      go_wp2_with fail
      refine bodyPost_ret (v := .tuple #[.agg #[.int .i64 0, .int .i64 0, .float .f64 0, .string ⟨#[]⟩, .int .i64 0], .int .i64 11]) (by simp [results, Tryz.results65, go_sem, *]) rfl ⟨none, rfl, HE.out, ?_⟩
      exact HS.out.set _ _ _ _ _ _

end Go.Proofs.YtjnaafgiokdcbaaGreatDoor
