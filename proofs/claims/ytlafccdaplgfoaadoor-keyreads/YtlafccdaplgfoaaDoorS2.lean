/- Walks of joined, kept, plain. -/
import Derived.Test.YtlafccdaplgfoaaDoorS1
import Derived.Deep.QuietTactic
import Derived.BigQuiet
import Derived.Deep.RegionWith
import Derived.Deep.DrawnRows
namespace Go.Proofs.YtlafccdaplgfoaaDoor
open Go.RowKit

/-- The first k of two parts. -/
def Ky.two (a b : ByteArray) (k : Nat) : List UInt8 := if k = 0 then [] else if k = 1 then a.data.toList else a.data.toList ++ b.data.toList

set_option maxRecDepth 100000 in
set_option maxHeartbeats 2000000 in
theorem joined_two (r : Nat) (a b : ByteArray) (w : World) (h0 : w.cell? ⟨r, 0, none⟩ = some (.string a)) (h1 : w.cell? ⟨r, 1, none⟩ = some (.string b)) (ha : a.size ≤ 100000) (hb : b.size ≤ 100000) :
    Calls Tryd.prog 27 #[.slice (some ⟨r, 0, none⟩) 2 2] w fun e w' => e = .returned (.string (a ++ b)) ∧ Below w.heap.size w w' := by
  have hr : r < w.heap.size := World.block_lt_of_cell? _ _ h0
  have H0 := Vl.hid h0
  have H1 := Vl.hid h1
  clear h0 h1
  have HF := Vl.hid (Lib.fresh_isBuilder 83 5 w)
  go_enter Tryd.func27, Tryd.ntmps27
  go_wp2_with fail
  go_loopw [8] (fun vi wr => ∃ k : Nat, k ≤ 2 ∧ vi = .int .i64 (k : Int) ∧ Hid (Lib.IsBuilder 83 5 w.heap.size w.heap.size (Lib.byteCells (Ky.two a b k)) wr) ∧ Hid (Below w.heap.size w wr)) (fun vi _ => 2 - (RowKit.intOf vi).toNat)
  case atStart => exact ⟨0, by omega, rfl, HF, Vl.hid (Vl.bal (Below.refl _ _) _)⟩
  case round =>
    obtain ⟨k, hk, rfl, HI, HB⟩ := hrel
    rename World => W0
    by_cases hlt : k < 2
    · obtain ⟨c, hc, hcs, hn⟩ : ∃ c : ByteArray, W0.cell? ⟨r, k, none⟩ = some (.string c) ∧ c.size ≤ 100000 ∧ Hid (Ky.two a b (k + 1) = Ky.two a b k ++ c.data.toList) := by
        rcases (by omega : k = 0 ∨ k = 1) with rfl | rfl
        · exact ⟨a, by rw [HB.out.cell (p := ⟨r, 0, none⟩) hr]; exact H0.out, ha, rfl⟩
        · exact ⟨b, by rw [HB.out.cell (p := ⟨r, 1, none⟩) hr]; exact H1.out, hb, rfl⟩
      have hl : (Lib.byteCells (Ky.two a b k)).length ≤ 100000 := by
        rw [Lib.byteCells_length]
        rcases (by omega : k = 0 ∨ k = 1) with rfl | rfl
        · show 0 ≤ _; omega
        · show a.data.toList.length ≤ _; rw [← Ky.size_list]; exact ha
      have HWR := Vl.hid (Ky.write_any w.heap.size w.heap.size _ c W0 HI.out (by omega) HB.out.size)
      clear hl
      go_wp2_with fail
      refine HWR.out.mono ?_
      rintro e w1 ⟨rfl, hb1, hb2⟩
      rw [Lib.strCells_eq, ← Lib.byteCells_append, ← hn.out] at hb1
      have H1' := Vl.hid (Or.inr hb1 : Lib.IsBuilder 83 5 w.heap.size w.heap.size _ w1)
      have HB' := Vl.hid (HB.out.trans hb2)
      clear hb1 hb2 HWR
      go_wp2
      go_roundw
      case rel => exact ⟨k + 1, by omega, by go_num, H1', HB'⟩
      case measure => simp [intOf]; omega
    · obtain rfl : k = 2 := by omega
      have HS := Vl.hid (Ky.string_any w.heap.size w.heap.size _ W0 HI.out HB.out.size)
      go_wp2_with fail
      refine HS.out.mono ?_
      rintro e w1 ⟨rfl, hb1⟩
      have HB' := Vl.hid (HB.out.trans hb1)
      clear HS hb1
      go_wp2
      go_ret
      refine ⟨congrArg (fun x => Ending.returned (Value.string x)) (Ky.ext_list ?_), HB'.out⟩
      rw [Ky.append_list]; rfl

theorem joined_new (a b : ByteArray) (w : World) (ha : a.size ≤ 100000) (hb : b.size ≤ 100000) :
    Calls Tryd.prog 27 #[.slice (some ⟨w.heap.size, 0, none⟩) 2 2] (w.alloc (.cells #[.string a, .string b] 9)) fun e w' => e = .returned (.string (a ++ b)) ∧ Below w.heap.size w w' :=
  (joined_two w.heap.size a b _ (by simp [go_sem]) (by simp [go_sem]) ha hb).mono fun _ _ ⟨h, h2⟩ => ⟨h, Vl.btr (Vl.bal (Below.refl _ _) _) h2⟩

set_option maxHeartbeats 1000000 in
theorem kept_any (s : ByteArray) (w : World) (hM : Ky.Mx w) (hs : s.size ≤ 100000) :
    Calls Tryd.prog 43 #[.string s] w fun e w' => e = .returned (.string ⟨(Ky.esc s.data.toList).toArray⟩) ∧ Below w.heap.size w w' := by
  obtain ⟨m, hm⟩ := hM
  have hc := Ky.count_le_len (old := [0]) (by simp) _ s.data.toList (Nat.le_refl _)
  rw [← Ky.size_list] at hc
  have HR := Tryd.strings_ReplaceAll s ⟨#[0]⟩ ⟨#[0, 255]⟩ m w (by omega) hm (by decide) (by
    have e : Lib.countB s ⟨#[0]⟩ = Lib.count s.data.toList [0] := rfl
    have e2 : (⟨#[0, 255]⟩ : ByteArray).size = 2 := rfl
    rw [e, e2]; omega)
  have e : Lib.replaceAll s.data.toList (⟨#[0]⟩ : ByteArray).data.toList (⟨#[0, 255]⟩ : ByteArray).data.toList = Ky.esc s.data.toList := Ky.rep_esc _
  rw [e] at HR
  have HR := Vl.hid HR
  clear hm hc e
  go_enter Tryd.func43, Tryd.ntmps43
  go_wp2_with fail
  refine HR.out.mono ?_
  rintro e w1 ⟨rfl, hb⟩
  go_wp2
  go_ret
  exact ⟨rfl, hb⟩

theorem Ky.replace_back (s : ByteArray) (w : World) (hM : Ky.Mx w) (hs : s.size ≤ 100000) :
    Calls Tryd.prog 68 #[.string s, .string ⟨#[0, 255]⟩, .string ⟨#[0]⟩] w fun e w' => e = .returned (.string ⟨(Ky.unesc s.data.toList).toArray⟩) ∧ Below w.heap.size w w' := by
  obtain ⟨m, hm⟩ := hM
  have hc := Ky.count_le_len (old := [0, 255]) (by simp) _ s.data.toList (Nat.le_refl _)
  rw [← Ky.size_list] at hc
  have HR := Tryd.strings_ReplaceAll s ⟨#[0, 255]⟩ ⟨#[0]⟩ m w (by omega) hm (by decide) (by
    have e : Lib.countB s ⟨#[0, 255]⟩ = Lib.count s.data.toList [0, 255] := rfl
    have e2 : (⟨#[0]⟩ : ByteArray).size = 1 := rfl
    rw [e, e2]; omega)
  have e : Lib.replaceAll s.data.toList (⟨#[0, 255]⟩ : ByteArray).data.toList (⟨#[0]⟩ : ByteArray).data.toList = Ky.unesc s.data.toList := Ky.rep_unesc _
  rw [e] at HR
  exact HR

/-- Where a text ends. -/
theorem Ky.suffix_no {l : List UInt8} (h : Lib.hasSuffix l [0, 1] = false) (b : List UInt8) : l ≠ Ky.esc b ++ [0, 1] := by
  intro e
  have : Lib.hasSuffix l [0, 1] = true := by
    unfold Lib.hasSuffix
    rw [List.isSuffixOf_iff_suffix]
    exact ⟨_, e.symm⟩
  rw [this] at h; cases h
theorem Ky.suffix_yes {l : List UInt8} (h : Lib.hasSuffix l [0, 1] = true) : l = Lib.trimSuffix l [0, 1] ++ [0, 1] := by
  unfold Lib.trimSuffix
  rw [if_pos h]
  unfold Lib.hasSuffix at h
  rw [List.isSuffixOf_iff_suffix] at h
  obtain ⟨t, rfl⟩ := h
  simp
theorem Ky.trim_len (l : List UInt8) : (Lib.trimSuffix l [0, 1]).length ≤ l.length := by
  unfold Lib.trimSuffix
  split
  · simp
  · omega

set_option maxRecDepth 100000 in
set_option maxHeartbeats 2000000 in
theorem plain_key (s : ByteArray) (w : World) (hM : Ky.Mx w) (hs : s.size ≤ 50000) :
    Calls Tryd.prog 46 #[.string s] w fun e w' => ∃ (t : ByteArray) (ok : Bool), e = .returned (.tuple #[.string t, .bool ok]) ∧ t.size ≤ s.size ∧ (ok = true → s.data.toList = Ky.esc t.data.toList ++ [0, 1]) ∧ (ok = false → ∀ b, s.data.toList ≠ Ky.esc b ++ [0, 1]) ∧ Below w.heap.size w w' := by
  have hC := Vl.hid (Tryd.strings_CutSuffix s ⟨#[0, 1]⟩ w (by omega))
  cases hsf : Lib.hasSuffix s.data.toList [0, 1]
  · go_enter Tryd.func46, Tryd.ntmps46
    go_wp2_with fail
    refine hC.out.mono ?_
    rintro e w1 ⟨rfl, hq⟩
    obtain rfl := hq.symm
    have hsf' : Lib.hasSuffix s.data.toList (⟨#[0, 1]⟩ : ByteArray).data.toList = false := hsf
    go_wp2_with fail
    go_ret2
    exact ⟨_, _, rfl, Nat.zero_le _, (fun h => by cases h), fun _ => Ky.suffix_no hsf, Below.refl _ _⟩
  · obtain ⟨t, ht⟩ : ∃ t : ByteArray, t = ⟨(Lib.trimSuffix s.data.toList [0, 1]).toArray⟩ := ⟨_, rfl⟩
    have htl : t.data.toList = Lib.trimSuffix s.data.toList [0, 1] := by rw [ht]
    have hts : t.size ≤ s.size := by rw [Ky.size_list, Ky.size_list, htl]; exact Ky.trim_len _
    have hst : s.data.toList = t.data.toList ++ [0, 1] := by rw [htl]; exact Ky.suffix_yes hsf
    obtain ⟨x, hx⟩ : ∃ x : ByteArray, x = ⟨(Ky.unesc t.data.toList).toArray⟩ := ⟨_, rfl⟩
    have hxl : x.data.toList = Ky.unesc t.data.toList := by rw [hx]
    have hxs : x.size ≤ t.size := by rw [Ky.size_list, Ky.size_list, hxl]; exact Ky.unesc_len _
    have HC : Hid (Calls Tryd.prog 72 #[.string s, .string ⟨#[0, 1]⟩] w fun e w' => e = .returned (.tuple #[.string t, .bool true]) ∧ w' = w) := by
      rw [ht, ← hsf]; exact hC.out
    have HR : Hid (∀ W, Ky.Mx W → Calls Tryd.prog 68 #[.string t, .string ⟨#[0, 255]⟩, .string ⟨#[0]⟩] W fun e w' => e = .returned (.string x) ∧ Below W.heap.size W w') := fun W h => by
      rw [hx]; exact Ky.replace_back t W h (by omega)
    have HT := Vl.hid hst
    have HX := Vl.hid hxl
    clear hC hsf ht htl hst hx hxl
    go_enter Tryd.func46, Tryd.ntmps46
    go_wp2_with fail
    refine HC.out.mono ?_
    rintro e w1 ⟨rfl, hq⟩
    obtain rfl := hq.symm
    go_wp2_with fail
    refine (HR.out _ hM).mono ?_
    rintro e w1 ⟨rfl, hb1⟩
    have HM1 := Vl.hid (hM.below hb1)
    have HB1 := Vl.hid hb1
    clear hb1 hM HC HR
    go_wp2_with fail
    refine (clone_any x _ (by omega)).mono ?_
    rintro e w2 ⟨rfl, hb2⟩
    have HM2 := Vl.hid (HM1.out.below hb2)
    have HB2 := Vl.hid (Vl.btr HB1.out hb2)
    clear hb2
    go_wp2_with fail
    refine (kept_any x _ HM2.out (by omega)).mono ?_
    rintro e w3 ⟨rfl, hb3⟩
    have HB3 := Vl.hid (Vl.btr HB2.out hb3)
    clear hb3
    go_wp2_with fail
    go_ret2
    refine ⟨x, _, rfl, by omega, ?_, ?_, HB3.out⟩
    · intro h
      simp only [ByteArray.toList_eq] at h
      rw [beq_iff_eq] at h
      rw [HT.out, ← h]
    · intro h b e
      simp only [ByteArray.toList_eq] at h
      rw [beq_eq_false_iff_ne] at h
      rw [HT.out] at e
      have e' := List.append_cancel_right e
      apply h
      show Ky.esc x.data.toList = _
      rw [HX.out, e', Ky.unesc_esc]

end Go.Proofs.YtlafccdaplgfoaaDoor
