/- The reference's read whole; its Value and Split. -/
import Derived.Test.YtlafccdaplgfoaaDoorKT4
namespace Go.Proofs.YtlafccdaplgfoaaDoor
open Go.RowKit
attribute [local go_sem] Fl.run_store_float

theorem refRead_any (s : ByteArray) (w : World) (hs : s.size ≤ 50000) :
    Calls Tryd.prog 33 #[.string s] w fun e w' => ∃ o, e = .returned (Ky.rdT o) ∧ Ky.ReadIs s.data.toList o ∧ Below w.heap.size w w' := by
  by_cases h0 : s.size = 0
  · have e : s = ⟨#[]⟩ := Ky.ext_list (by rw [Ky.size_list] at h0; exact List.length_eq_zero_iff.1 h0)
    subst e; exact refRead_nil w
  have h0' : 0 < s.size := by omega
  by_cases h1 : Vl.cAt s 0 = 1
  · exact refRead_1 s w hs h0' (by rw [h1]; rfl)
  by_cases h2 : Vl.cAt s 0 = 2
  · exact refRead_2 s w hs h0' (by rw [h2]; rfl)
  by_cases h3 : Vl.cAt s 0 = 3
  · exact refRead_3 s w hs h0' (by rw [h3]; rfl)
  by_cases h4 : Vl.cAt s 0 = 4
  · exact refRead_4 s w hs h0' (by rw [h4]; rfl)
  exact refRead_05 s w h0' _ rfl (by omega)

namespace Ky
open Vl
theorem keyIs_no {l : List UInt8} (h : ReadIs l none) : KeyIs l none := fun v hv e => h v [] hv (by rw [List.append_nil, e])
theorem keyIs_yes {l : List UInt8} {v : V} {z : Nat} (h : ReadIs l (some (v, z))) (hz : z = l.length) : KeyIs l (some v) := by
  obtain ⟨hg, ⟨r, hr⟩, hz'⟩ := h
  have hr' : l = keyL v ++ r := hr
  have hz2 : z = (keyL v).length := hz'
  have hl := congrArg List.length hr'
  rw [List.length_append] at hl
  have : r = [] := List.length_eq_zero_iff.1 (by omega)
  rw [this, List.append_nil] at hr'
  exact ⟨hg, hr'.symm⟩
theorem keyIs_other {l : List UInt8} {v : V} {z : Nat} (h : ReadIs l (some (v, z))) (hz : z ≠ l.length) : KeyIs l none := fun u hu e => by
  obtain ⟨hg, ⟨r, hr⟩, hz'⟩ := h
  have hr' : l = keyL v ++ r := hr
  have hz2 : z = (keyL v).length := hz'
  obtain ⟨rfl, _⟩ := key_front hu hg (x := []) (y := r) (by rw [List.append_nil, e, hr'])
  rw [e] at hz2
  exact hz hz2
theorem entIs_no {l : List UInt8} (h : ReadIs l none) : EntIs l none := fun v _ hv _ e => h v _ hv e.symm
theorem entIs_other {l : List UInt8} {v : V} {z : Nat} (h : ReadIs l (some (v, z))) (hz : z + 2 ≠ l.length) : EntIs l none := fun u _ hu _ e => by
  obtain ⟨hg, ⟨r, hr⟩, hz'⟩ := h
  have hr' : l = keyL v ++ r := hr
  have hz2 : z = (keyL v).length := hz'
  obtain ⟨rfl, hx⟩ := key_front hu hg (e.trans hr')
  have hl := congrArg List.length hr'
  rw [List.length_append, ← hx, beL_length] at hl
  exact hz (by omega)
theorem entIs_yes {s : ByteArray} {v : V} {z : Nat} (h : ReadIs s.data.toList (some (v, z))) (hz : z + 2 = s.size) : EntIs s.data.toList (some (v, cAt s z * 256 + cAt s (z + 1))) := by
  obtain ⟨hg, ⟨r, hr⟩, hz'⟩ := h
  have hr' : s.data.toList = keyL v ++ r := hr
  have hz2 : z = (keyL v).length := hz'
  have e1 : s.data.toList.drop z = r := by rw [hr', hz2, List.drop_left]
  rw [drop_at s (by omega), drop_at s (by omega), List.drop_of_length_le (by rw [← size_list]; omega)] at e1
  have h1 := cAt_lt s z
  have h2 := cAt_lt s (z + 1)
  have hn : nvL r = cAt s z * 256 + cAt s (z + 1) := by rw [← e1]; simp [nvL, cAt]
  have hb := beL_nvL r
  rw [hn, ← e1] at hb
  refine ⟨hg, by show _ < 65536; omega, ?_⟩
  show keyL v ++ beL (cAt s z * 256 + cAt s (z + 1)) 2 = s.data.toList
  rw [hr', ← e1]
  exact congrArg (keyL v ++ ·) hb
theorem read_pos {l : List UInt8} {v : V} {z : Nat} (h : ReadIs l (some (v, z))) : 0 < z ∧ z ≤ l.length := by
  obtain ⟨_, ⟨r, hr⟩, hz⟩ := h
  have hr' : l = keyL v ++ r := hr
  have hz2 : z = (keyL v).length := hz
  have hl := congrArg List.length hr'
  rw [List.length_append] at hl
  have : (keyL v).length = (bodyL v).length + 1 := rfl
  omega
def oV : Option V → V
  | none => ⟨0, 0, 0, ⟨#[]⟩⟩
  | some v => v
def oE : Option V → Int
  | none => 11
  | some _ => 0
theorem valT_eq (o : Option V) : valT o = .tuple #[.agg #[.int .i64 (oV o).k, .int .i64 (oV o).n, .float .f64 (oV o).f, .string (oV o).s], .int .i64 (oE o)] := by cases o <;> rfl
def pV : Option (V × Nat) → V
  | none => ⟨0, 0, 0, ⟨#[]⟩⟩
  | some p => p.1
def pN : Option (V × Nat) → Int
  | none => 0
  | some p => (p.2 : Int)
def pE : Option (V × Nat) → Int
  | none => 11
  | some _ => 0
theorem splT_eq (o : Option (V × Nat)) : splT o = .tuple #[.agg #[.int .i64 (pV o).k, .int .i64 (pV o).n, .float .f64 (pV o).f, .string (pV o).s], .int .i64 (pN o), .int .i64 (pE o)] := by cases o <;> rfl
def gotT (o : Option (V × Nat)) : Value := .tuple #[.agg #[.int .i64 (pV o).k, .int .i64 (pV o).n, .float .f64 (pV o).f, .string (pV o).s, .int .i64 (pN o)], .int .i64 (pE o)]
end Ky

set_option maxRecDepth 100000 in
set_option maxHeartbeats 2000000 in
theorem refValue_any (s : ByteArray) (w : World) (hs : s.size ≤ 50000) :
    Calls Tryd.prog 20 #[.string s] w fun e w' => ∃ o, e = .returned (Ky.valT o) ∧ Ky.KeyIs s.data.toList o ∧ Below w.heap.size w w' := by
  go_enter Tryd.func20, Tryd.ntmps20
  go_wp2_with fail
  refine (refRead_any s _ hs).mono ?_
  rintro e w1 ⟨o, rfl, ho, hb⟩
  have HC := Vl.hid ((Ky.Cell4.made w ⟨0, 0, 0, ⟨#[]⟩⟩ 24).below hb)
  have HB := Vl.hid (Vl.btr (Vl.bal (Below.refl _ _) _) hb)
  have HO := Vl.hid ho
  clear hb ho
  obtain ⟨c0, c1, c2, c3, f0, f1, f2, f3⟩ := id HC.out
  dsimp only at c0 c1 c2 c3
  have z1 := HC.out.lt
  cases o with
  | none =>
    have HE := Vl.hid (Ky.keyIs_no HO.out)
    unfold Ky.rdT
    go_wp2_with fail
    refine bodyPost_ret (v := .tuple #[.agg #[.int .i64 0, .int .i64 0, .float .f64 0, .string ⟨#[]⟩], .int .i64 11]) (by simp [results, Tryd.results20, go_sem, *]) rfl ⟨none, rfl, HE.out, ?_⟩
    exact Vl.bal ((((HB.out.setCell (Nat.le_refl _) _).setCell (Nat.le_refl _) _).setCell (Nat.le_refl _) _).setCell (Nat.le_refl _) _) _
  | some p =>
    obtain ⟨v, z⟩ := p
    have hz := Ky.read_pos HO.out
    rw [← Ky.size_list] at hz
    have hz0 : ((z : Int) == 0) = false := by simp; omega
    unfold Ky.rdT
    dsimp only
    by_cases he : z = s.size
    · have hz1 : ((z : Int) != (s.size : Int)) = false := by rw [he]; simp
      have HE := Vl.hid (Ky.keyIs_yes HO.out (by rw [← Ky.size_list]; exact he))
      clear he
      go_wp2_with fail
      refine bodyPost_ret (v := .tuple #[.agg #[.int .i64 v.k, .int .i64 v.n, .float .f64 v.f, .string v.s], .int .i64 0]) (by simp [results, Tryd.results20, go_sem, *]) rfl ⟨some v, rfl, HE.out, ?_⟩
      exact Vl.bal ((((HB.out.setCell (Nat.le_refl _) _).setCell (Nat.le_refl _) _).setCell (Nat.le_refl _) _).setCell (Nat.le_refl _) _) _
    · have hz1 : ((z : Int) != (s.size : Int)) = true := by simp; omega
      have HE := Vl.hid (Ky.keyIs_other HO.out (by rw [← Ky.size_list]; exact he))
      clear he
      go_wp2_with fail
      refine bodyPost_ret (v := .tuple #[.agg #[.int .i64 0, .int .i64 0, .float .f64 0, .string ⟨#[]⟩], .int .i64 11]) (by simp [results, Tryd.results20, go_sem, *]) rfl ⟨none, rfl, HE.out, ?_⟩
      exact Vl.bal ((((HB.out.setCell (Nat.le_refl _) _).setCell (Nat.le_refl _) _).setCell (Nat.le_refl _) _).setCell (Nat.le_refl _) _) _

end Go.Proofs.YtlafccdaplgfoaaDoor
