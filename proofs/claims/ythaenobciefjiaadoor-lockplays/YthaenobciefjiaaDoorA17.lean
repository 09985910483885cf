/- leave, of who does not wait. -/
import Derived.Test.YthaenobciefjiaaDoorA16
import Derived.Shelf.SlIter.Nil
namespace Go.Proofs.YthaenobciefjiaaDoor
open Go.RowKit Go.Maps Go.ChangeMaps Go.MapKept Go.Sort Go.Shelf

namespace Lk
variable {w : World} {tag : Nat → Option Lb} {p N : Nat} {s : St} {bs bw bq : Nat} {bi : Int → Nat} {sl : Bytes → Value}
/-- maps.Keys of what a holder has. -/
theorem keysI_any (mb : Option Nat) (W : World) : Calls Tryd.prog 43 #[.map mb] W fun e w' => e = .returned (.func (.func 55) #[] #[.pointer (some ⟨W.heap.size, 0, none⟩)]) ∧ w' = W.alloc (.cells #[.map mb] 75) :=
  (callsIn_wide (n := 5)).1 (AnyZ.keys_in Tryd.keysI Fence.wide 5 trivial rfl mb W)
theorem mem_keys {k : TypeId} {H : Type} {R : Value → Option (DataW H × List MemPlace)} {b n : Nat} {D : DataW H} (hk : Tryd.prog.underlying k = some .string) (h : w.ownsMap Tryd.prog k R b n D) (x : Bytes) : x ∈ strKeys D ↔ has D (.string x) = true := by
  obtain ⟨es, rfl, hes⟩ := h.keysOf
  show x ∈ (es.map fun p => strOf p.1) ↔ _
  rw [has_eq, List.any_eq_true, List.mem_map]
  constructor
  · rintro ⟨q, hq, rfl⟩
    obtain ⟨v, hv⟩ := hes q hq
    obtain ⟨y, _, h2, _⟩ := Maps.keyOf_str hk hv
    exact ⟨q, hq, by rw [h2]; simp [strOf, Lit.sameKey]⟩
  · rintro ⟨q, hq, e⟩
    obtain ⟨v, hv⟩ := hes q hq
    obtain ⟨y, _, h2, _⟩ := Maps.keyOf_str hk hv
    refine ⟨q, hq, ?_⟩
    rw [h2] at e ⊢
    simpa [strOf, Lit.sameKey] using e
end Lk
set_option maxHeartbeats 1000000 in
/-- slices.Collect of them. -/
theorem collI_any (w : World) (tag : Nat → Option Lk.Lb) (p N : Nat) (s : Lk.St) (bs bw bq : Nat) (bi : Int → Nat) (sl : Lk.Bytes → Value) (x : Int) (hT : Hid (Lk.Tb w tag p N s bs bw bq bi sl)) (hh : s.hol x = true) (hN : Hid (N < 100000)) :
    Calls Tryd.prog 40 #[.func (.func 55) #[] #[.pointer (some ⟨w.heap.size, 0, none⟩)]] (w.alloc (.cells #[.map (some (bi x))] 75)) fun e w' => ∃ (v : Value) (ss : List Lk.Bytes), e = .returned v ∧ w'.ownsRow w.heap.size 9 1 v ss.length (ss.map encStr) ∧ (∀ n, n ∈ ss ↔ (n.length ≤ maxLen ∧ s.set x n ≠ 0)) ∧ ss.length ≤ N ∧ Below w.heap.size w w' := by
  obtain ⟨D, hD, hf⟩ := (hT.out.alloc (.cells #[.map (some (bi x))] 75)).inner x hh
  have hle := hD.size_le
  have hseq : SeqGives Fence.wide (5 - 1 - 1) Tryd.prog 55 #[.pointer (some ⟨w.heap.size, 0, none⟩)] encStr (fun ss => ss.Perm (strKeys D)) (Maps.size D) (w.alloc (.cells #[.map (some (bi x))] 75)) :=
    AnyZ.keys_gives (ρ := Tryd.keysI_ren) { Tryd.keysI with } Fence.wide _ trivial rfl (by omega) w.heap.size (bi x) N D _ (by simp) (by simp) hD
  have cS := AnyZ.collect_in Tryd.coll Fence.wide 5 trivial trivial rfl (by omega) 55 #[.pointer (some ⟨w.heap.size, 0, none⟩)] trivial (enters_of Tryd.func55 (by kernel_rfl) rfl) _ (Maps.size D) (by have := hN.out; unfold maxLen; omega) (by have := hN.out; omega) _ hseq
  refine ((callsIn_wide (n := 5)).1 cS).mono ?_
  rintro e w' ⟨v, ss, rfl, hS, hrow, _, hb⟩
  refine ⟨v, ss, rfl, ownsRow_base_a hrow (by simp), fun n => ?_, ?_, ((Below.refl _ w).alloc (Nat.le_refl _) _).trans (hb.mono (by simp))⟩
  · rw [hS.mem_iff, Lk.mem_keys Tryd.underlying9 hD]
    by_cases hl : n.length ≤ maxLen
    · have := Mp.Fn.has hD Lk.keyS hf (a := n) ⟨_, Lk.key_s hl⟩
      rw [show (Lit.string n) = Lk.sK n from rfl, this]
      by_cases e : s.set x n = 0
      · simp [e]
      · simp [e, hl]
    · simp only [hl, false_and, iff_false]
      intro e
      exact hl (strKeys_le hD Tryd.underlying9 n ((Lk.mem_keys Tryd.underlying9 hD n).2 e))
  · rw [hS.length_eq]
    obtain ⟨es, rfl, _⟩ := hD.keysOf
    have : (strKeys (DataW.map es)).length = es.length := List.length_map ..
    rw [this]
    exact Nat.le_trans (Nat.le_refl _) hle

set_option maxHeartbeats 1000000 in
theorem collN_any (w : World) :
    Calls Tryd.prog 40 #[.func (.func 55) #[] #[.pointer (some ⟨w.heap.size, 0, none⟩)]] (w.alloc (.cells #[.map none] 75)) fun e w' => e = .returned (.slice none 0 0) ∧ Below w.heap.size w w' := by
  have hseq : SeqGives Fence.wide (5 - 1 - 1) Tryd.prog 55 #[.pointer (some ⟨w.heap.size, 0, none⟩)] encStr (fun ss : List (List UInt8) => ss = []) 0 (w.alloc (.cells #[.map none] 75)) :=
    AnyZ.keys_gives_nil (ρ := Tryd.keysI_ren) { Tryd.keysI with } Fence.wide _ trivial rfl w.heap.size _ (by simp) (by simp)
  have cS := AnyZ.collect_in Tryd.coll Fence.wide 5 trivial trivial rfl (by omega) 55 #[.pointer (some ⟨w.heap.size, 0, none⟩)] trivial (enters_of Tryd.func55 (by kernel_rfl) rfl) _ 0 (Nat.zero_le _) (by omega) _ hseq
  refine ((callsIn_wide (n := 5)).1 cS).mono ?_
  rintro e w' ⟨v, ss, rfl, hS, hrow, hn, hb⟩
  exact ⟨by rw [hn.2 hS], ((Below.refl _ w).alloc (Nat.le_refl _) _).trans (hb.mono (by simp))⟩

end Go.Proofs.YthaenobciefjiaaDoor
