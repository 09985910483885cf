/- value.Rows of no rows; one swap of two rows. -/
import Derived.Test.YtanljohnmaokeaaO5
namespace Go.Proofs.Ytanljohnmaokeaa
open Go.RowKit Go.Sort
attribute [local go_sem] Fl.run_store_float

set_option maxRecDepth 100000 in
set_option maxHeartbeats 2000000 in
theorem rows_none (p : Option Addr) (c : Nat) (w : World) :
    Calls Try.prog 31 #[.slice p 0 c] w fun e w' => e = .returned (.slice (some ⟨w.heap.size, 0, none⟩) 0 0) ∧ RowKit.Below w.heap.size w w' := by
  obtain ⟨i42, ji, jz0, jz1, jz2⟩ : ∃ i, Try.prog.info? 42 = some i ∧ i.zero = some (.slice none 0 0) ∧ i.size = 1 ∧ i.bytes = 24 := ⟨_, Try.type42, rfl, rfl, rfl⟩
  have HSO : Hid (∀ (q : Option Addr) (k : Nat) (fv : Value) (W : World), Calls Try.prog 56 #[.slice q 0 k, fv] W fun e w' => e = .returned (.tuple #[]) ∧ w' = W) := Vl.hid (fun q k fv W => AnyF.slices_SortFunc_none (P := Try.prog) (ρ := Try.sortF_ren) { Try.sortF with } q k fv W)
  go_enter Try.func31, Try.ntmps31
  go_wp2_with (first | (at_make; refine wpList_make_full _ rfl _ _ 52 rfl w.heap.size 42 i42 (.slice none 0 0) 1 Try.underlying52 ji jz0 jz1 .i64 .i64 0 0 0 rfl rfl rfl rfl (by rw [jz2]; omega) (by unfold maxLen; omega) (Nat.le_refl _) ?_; intro W0 hown0 hgrow0))
  have HB0 : Hid (RowKit.Below w.heap.size w W0) := (RowKit.Below.refl _ _).grown hgrow0 (Nat.le_refl _) (fun k h => by cases h)
  clear hown0 hgrow0 ji jz0 jz1 jz2
  go_loopw [11] (fun vi wr => vi = .int .i64 0 ∧ Hid (RowKit.Below w.heap.size w wr)) (fun _ _ => 0)
  case atStart => exact ⟨rfl, HB0⟩
  case round =>
    obtain ⟨rfl, HB⟩ := hrel
    rename World => wr
    go_wp2_with fail
    refine (HSO.out _ _ _ _).mono ?_
    rintro e w' ⟨rfl, hq⟩
    obtain rfl := hq.symm
    go_wp2_with fail
    go_ret
    exact ⟨rfl, HB.out⟩

namespace Vl
/-- The rows, two of them in each other's place. -/
def swapL {α : Type} (l : List α) (a b : Nat) (ha : a < l.length) (hb : b < l.length) : List α := (l.set a l[b]).set b l[a]
theorem swapL_perm {α : Type} (l : List α) (a b : Nat) (ha : a < l.length) (hb : b < l.length) : (swapL l a b ha hb).Perm l := List.set_set_perm ha hb
theorem swapL_length {α : Type} (l : List α) (a b : Nat) (ha : a < l.length) (hb : b < l.length) : (swapL l a b ha hb).length = l.length := by simp [swapL]
end Vl
end Go.Proofs.Ytanljohnmaokeaa
