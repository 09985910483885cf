/- Walks of key's small functions: number, told, joined, kept, plain. -/
import Derived.Test.YtjnaafgiokdcbaaGreatDoorHD
import Derived.Test.YtjnaafgiokdcbaaGreatDoorHE
import Derived.Test.YtjnaafgiokdcbaaGreatDoorShelf
import Derived.Deep.QuietTactic
import Derived.BigQuiet
import Derived.Deep.RegionWith
import Derived.Deep.DrawnRows
namespace Go.Proofs.YtjnaafgiokdcbaaGreatDoor
open Go.RowKit Go.Sort

theorem Ky.write_any (B b : Nat) (bs : List Value) (s : ByteArray) (w : World) (h : Lib.IsBuilder 136 5 B b bs w) (hlen : bs.length + s.size ≤ 140737488355328) (hBw : B ≤ w.heap.size) :
    Calls Tryz.prog 81 #[.pointer (some ⟨b, 0, none⟩), .string s] w fun e w' => e = .returned (.tuple #[.int .i64 s.size, .nilIface]) ∧ (Lib.BuilderAt 136 5 B b (.pointer (some ⟨b, 0, none⟩)) (bs ++ Lib.strCells s) w' ∧ Below B w w') :=
  Any.Builder_WriteString { Tryz.lays155 with } Tryz.Builder_Extra_155 B b bs s w h hlen hBw
theorem Ky.string_any (B b : Nat) (l : List UInt8) (w : World) (h : Lib.IsBuilder 136 5 B b (Lib.byteCells l) w) (hBw : B ≤ w.heap.size) :
    Calls Tryz.prog 82 #[.pointer (some ⟨b, 0, none⟩)] w fun e w' => e = .returned (.string ⟨l.toArray⟩) ∧ Below B w w' :=
  Any.Builder_String_any { Tryz.lays155 with } Tryz.Builder_Extra_155 B b l w h hBw

/-- The library's variable holds some number. -/
def Ky.Mx (w : World) : Prop := ∃ m, w.cell? ⟨1, 0, none⟩ = some (.int .i64 m)
theorem Ky.Mx.lt {w : World} (h : Ky.Mx w) : 1 < w.heap.size := by
  obtain ⟨m, hm⟩ := h
  exact World.block_lt_of_cell? _ _ hm
theorem Ky.Mx.below {w w1 : World} (h : Ky.Mx w) (hb : Below w.heap.size w w1) : Ky.Mx w1 := by
  have hl := h.lt
  obtain ⟨m, hm⟩ := h
  exact ⟨m, by rw [hb.cell (p := ⟨1, 0, none⟩) hl]; exact hm⟩

set_option maxRecDepth 100000 in
set_option maxHeartbeats 2000000 in
theorem knumber_any (u m : Nat) (w : World) (hm : m ≤ 8) :
    Calls Tryz.prog 70 #[.int .u64 (u : Int), .int .i64 (m : Int)] w fun e w' => e = .returned (.string ⟨(Vl.beL u m).toArray⟩) ∧ Below w.heap.size w w' := by
  obtain ⟨i5, hi, hz0, hz1, hz2⟩ : ∃ i, Tryz.prog.info? 5 = some i ∧ i.zero = some (.int .u8 0) ∧ i.size = 1 ∧ i.bytes = 1 := ⟨_, Tryz.type5, rfl, rfl, rfl⟩
  go_enter Tryz.func70, Tryz.ntmps70
  go_wp2_with (first | (at_make; refine wpList_make_full _ rfl _ _ 106 rfl w.heap.size 5 i5 (.int .u8 0) 1 Tryz.underlying106 hi hz0 hz1 .i64 .i64 (m : Int) (m : Int) m rfl rfl rfl rfl (by rw [hz2]; omega) (by unfold maxLen; omega) (Nat.le_refl _) ?_; intro W1 hown hgrow))
  have HZ := Vl.hid (Vl.madeM hown)
  have HB : Hid (Below w.heap.size w W1) := (Below.refl _ _).grown hgrow (Nat.le_refl _) (fun k h => by cases h)
  clear hown hgrow hi hz0 hz1 hz2
  go_loopw [11] (fun vi wr => ∃ (t : Nat) (dk : Array UInt8), t ≤ m ∧ vi = .int .i64 (t : Int) ∧ wr = putRow (fun (b : UInt8) => Value.int .u8 (b.toNat : Int)) W1 w.heap.size 0 dk ∧ Hid (Vl.Be u m t dk)) (fun vi _ => m - (RowKit.intOf vi).toNat)
  case atStart => exact ⟨0, _, by omega, rfl, (putRow_self _ _ _ _ _ HZ.out).symm, Vl.Be.start _ _⟩
  case round =>
    obtain ⟨t, dk, ht, rfl, hw0, HI⟩ := hrel
    rename World => W0
    have hs0 := HI.out.size
    have hH0 : Holds (fun (b : UInt8) => Value.int .u8 (b.toNat : Int)) W0 w.heap.size 0 dk := by rw [hw0]; exact holds_putRow _ _ _ _ _ dk HZ.out (by rw [hs0]; simp)
    have AW0 := Vl.hid hw0
    by_cases h16 : t < m
    · have hc1 : W0.cell? ⟨w.heap.size, m - 1 - t, none⟩ = some (.int .u8 (dk[m - 1 - t]!.toNat : Int)) := by have := (hH0 (m - 1 - t) (by omega)).1; rw [Nat.zero_add] at this; exact this
      have hf1 : W0.frozen? ⟨w.heap.size, m - 1 - t, none⟩ = false := by have := (hH0 (m - 1 - t) (by omega)).2; rw [Nat.zero_add] at this; exact this
      generalize (dk[m - 1 - t]!.toNat : Int) = old at hc1
      clear hw0 hH0
      go_wp2_with fail
      refine ⟨⟨t + 1, dk.setIfInBounds (m - 1 - t) (u / 256 ^ t % 256).toUInt8, by omega, by go_num, ?_, HI.out.step h16⟩, by simp [intOf]; omega⟩
      rw [Vl.byte_shr, AW0.out, ← putRow_set (fun (b : UInt8) => Value.int .u8 (b.toNat : Int)) _ _ 0 dk (m - 1 - t) _ (by omega), Nat.zero_add]
    · obtain rfl : t = m := by omega
      have hcv : (convert 106 9 (.slice (some ⟨w.heap.size, 0, none⟩) t t)).run Tryz.prog W0 = .ok (.string ⟨(Vl.beL u t).toArray⟩) W0 := by
        have h := run_convert_bytes_back (P := Tryz.prog) W0 106 9 5 ⟨w.heap.size, 0, none⟩ t (Vl.beL u t) Tryz.underlying106 Tryz.underlying5 Tryz.underlying9 (fun j hj => by
          rw [HI.out.row j hj, Vl.add_plain]
          have hj' : j < t := by rw [Vl.beL_length] at hj; exact hj
          exact (hH0 j (by omega)).1)
        rw [Vl.beL_length] at h
        exact h
      clear hw0 hH0
      go_wp2
      go_ret
      refine ⟨rfl, ?_⟩
      rw [AW0.out]
      exact Vl.below_putRow _ HB.out (Nat.le_refl _) _ _

/-- One byte more, whatever came before. -/
theorem Ky.or_any (v d : Nat) (hd : d < 256) : ∃ x : Nat, x < 18446744073709551616 ∧ bits BinOp.or IntKind.u64 (IntKind.u64.wrap ((v : Int) * 256)) (d : Int) = (x : Int) ∧ (v < 72057594037927936 → x = v * 256 + d) := by
  have e : IntKind.u64.wrap ((v : Int) * 256) = ((v * 256 % 18446744073709551616 : Nat) : Int) := by rw [IntKind.wrap_u64]; omega
  have h1 : v * 256 % 18446744073709551616 < 18446744073709551616 := by omega
  rw [e, u64_or_nat _ d h1 (by omega)]
  refine ⟨_, Nat.or_lt_two_pow (n := 64) h1 (by omega : d < 2 ^ 64), rfl, fun hv => ?_⟩
  have := nat_join 8 (256 * v) d (by omega) hd
  rw [Nat.mod_eq_of_lt (by omega), Nat.mul_comm v 256, this]

set_option maxHeartbeats 1000000 in
theorem told_any (s : ByteArray) (w : World) (hs : s.size ≤ 100000) :
    Calls Tryz.prog 99 #[.string s] w fun e w' => ∃ v : Nat, v < 18446744073709551616 ∧ e = .returned (.int .u64 (v : Int)) ∧ (s.size ≤ 8 → v = Ky.nvL s.data.toList) ∧ w' = w := by
  go_enter Tryz.func99, Tryz.ntmps99
  go_wp2_with fail
  go_loop [3, 7] (fun b i => ∃ k v : Nat, k ≤ s.size ∧ i = .int .i64 k ∧ b = .int .u64 (v : Int) ∧ Hid (v < 18446744073709551616 ∧ (k ≤ 8 → v = Vl.nv s k))) (fun _ i => s.size - (intOf i).toNat)
  case atStart => exact ⟨0, 0, Nat.zero_le _, rfl, rfl, by decide, fun _ => rfl⟩
  case round =>
    obtain ⟨k, v, hk, rfl, rfl, HV⟩ := hrel
    by_cases hlt : k < s.size
    · have hX : ∀ w, (Instr.index 9 (.string s) (.int .i64 (k : Int))).run Tryz.prog w = .ok (.int .u8 (Vl.cAt s k : Int)) w := Vl.idx_str 9 Tryz.underlying9 s k (by omega)
      have hc := Vl.cAt_lt s k
      obtain ⟨x, hx1, hx2, hx3⟩ := Ky.or_any v (Vl.cAt s k) hc
      have HX := Vl.hid (And.intro hx1 (And.intro hx2 hx3))
      clear hx1 hx2 hx3
      go_wp2
      go_round
      case rel => exact ⟨k + 1, x, by omega, by go_num, by first | rw [HX.out.2.1] | (have := HX.out.2.1; simp_all), HX.out.1, fun h8 => by
        have hv := HV.out.2 (by omega)
        rw [HX.out.2.2 (by rw [hv]; exact Vl.nv_lt56 s (by omega)), hv]; rfl⟩
      case measure => simp [intOf]; omega
    · obtain rfl : k = s.size := by omega
      go_wp2
      go_ret
      exact ⟨v, HV.out.1, rfl, fun h => by rw [HV.out.2 h, Ky.nv_all], rfl⟩

end Go.Proofs.YtjnaafgiokdcbaaGreatDoor

/- Walks of joined, kept, plain. -/
namespace Go.Proofs.YtjnaafgiokdcbaaGreatDoor
open Go.RowKit

/-- The first k of two parts. -/
def Ky.two (a b : ByteArray) (k : Nat) : List UInt8 := if k = 0 then [] else if k = 1 then a.data.toList else a.data.toList ++ b.data.toList

set_option maxRecDepth 100000 in
set_option maxHeartbeats 2000000 in
theorem joined_two (r : Nat) (a b : ByteArray) (w : World) (h0 : w.cell? ⟨r, 0, none⟩ = some (.string a)) (h1 : w.cell? ⟨r, 1, none⟩ = some (.string b)) (ha : a.size ≤ 100000) (hb : b.size ≤ 100000) :
    Calls Tryz.prog 61 #[.slice (some ⟨r, 0, none⟩) 2 2] w fun e w' => e = .returned (.string (a ++ b)) ∧ Below w.heap.size w w' := by
  have hr : r < w.heap.size := World.block_lt_of_cell? _ _ h0
  have H0 := Vl.hid h0
  have H1 := Vl.hid h1
  clear h0 h1
  have HF := Vl.hid (Lib.fresh_isBuilder 136 5 w)
  go_enter Tryz.func61, Tryz.ntmps61
  go_wp2_with fail
  go_loopw [8] (fun vi wr => ∃ k : Nat, k ≤ 2 ∧ vi = .int .i64 (k : Int) ∧ Hid (Lib.IsBuilder 136 5 w.heap.size w.heap.size (Lib.byteCells (Ky.two a b k)) wr) ∧ Hid (Below w.heap.size w wr)) (fun vi _ => 2 - (RowKit.intOf vi).toNat)
  case atStart => exact ⟨0, by omega, rfl, HF, Vl.hid (Vl.bal (Below.refl _ _) _)⟩
  case round =>
    obtain ⟨k, hk, rfl, HI, HB⟩ := hrel
    rename World => W0
    by_cases hlt : k < 2
    · obtain ⟨c, hc, hcs, hn⟩ : ∃ c : ByteArray, W0.cell? ⟨r, k, none⟩ = some (.string c) ∧ c.size ≤ 100000 ∧ Hid (Ky.two a b (k + 1) = Ky.two a b k ++ c.data.toList) := by
        rcases (by omega : k = 0 ∨ k = 1) with rfl | rfl
        · exact ⟨a, by rw [HB.out.cell (p := ⟨r, 0, none⟩) hr]; exact H0.out, ha, rfl⟩
        · exact ⟨b, by rw [HB.out.cell (p := ⟨r, 1, none⟩) hr]; exact H1.out, hb, rfl⟩
      have hl : (Lib.byteCells (Ky.two a b k)).length ≤ 100000 := by
        rw [Lib.byteCells_length]
        rcases (by omega : k = 0 ∨ k = 1) with rfl | rfl
        · show 0 ≤ _; omega
        · show a.data.toList.length ≤ _; rw [← Ky.size_list]; exact ha
      have HWR := Vl.hid (Ky.write_any w.heap.size w.heap.size _ c W0 HI.out (by omega) HB.out.size)
      clear hl
      go_wp2_with fail
      refine HWR.out.mono ?_
      rintro e w1 ⟨rfl, hb1, hb2⟩
      rw [Lib.strCells_eq, ← Lib.byteCells_append, ← hn.out] at hb1
      have H1' := Vl.hid (Or.inr hb1 : Lib.IsBuilder 136 5 w.heap.size w.heap.size _ w1)
      have HB' := Vl.hid (HB.out.trans hb2)
      clear hb1 hb2 HWR
      go_wp2
      go_roundw
      case rel => exact ⟨k + 1, by omega, by go_num, H1', HB'⟩
      case measure => simp [intOf]; omega
    · obtain rfl : k = 2 := by omega
      have HS := Vl.hid (Ky.string_any w.heap.size w.heap.size _ W0 HI.out HB.out.size)
      go_wp2_with fail
      refine HS.out.mono ?_
      rintro e w1 ⟨rfl, hb1⟩
      have HB' := Vl.hid (HB.out.trans hb1)
      clear HS hb1
      go_wp2
      go_ret
      refine ⟨congrArg (fun x => Ending.returned (Value.string x)) (Ky.ext_list ?_), HB'.out⟩
      rw [Ky.append_list]; rfl

theorem joined_new (a b : ByteArray) (w : World) (ha : a.size ≤ 100000) (hb : b.size ≤ 100000) :
    Calls Tryz.prog 61 #[.slice (some ⟨w.heap.size, 0, none⟩) 2 2] (w.alloc (.cells #[.string a, .string b] 9)) fun e w' => e = .returned (.string (a ++ b)) ∧ Below w.heap.size w w' :=
  (joined_two w.heap.size a b _ (by simp [go_sem]) (by simp [go_sem]) ha hb).mono fun _ _ ⟨h, h2⟩ => ⟨h, Vl.btr (Vl.bal (Below.refl _ _) _) h2⟩

set_option maxHeartbeats 1000000 in
theorem kept_any (s : ByteArray) (w : World) (hM : Ky.Mx w) (hs : s.size ≤ 100000) :
    Calls Tryz.prog 105 #[.string s] w fun e w' => e = .returned (.string ⟨(Ky.esc s.data.toList).toArray⟩) ∧ Below w.heap.size w w' := by
  obtain ⟨m, hm⟩ := hM
  have hc := Ky.count_le_len (old := [0]) (by simp) _ s.data.toList (Nat.le_refl _)
  rw [← Ky.size_list] at hc
  have HR := Tryz.strings_ReplaceAll s ⟨#[0]⟩ ⟨#[0, 255]⟩ m w (by omega) hm (by decide) (by
    have e : Lib.countB s ⟨#[0]⟩ = Lib.count s.data.toList [0] := rfl
    have e2 : (⟨#[0, 255]⟩ : ByteArray).size = 2 := rfl
    rw [e, e2]; omega)
  have e : Lib.replaceAll s.data.toList (⟨#[0]⟩ : ByteArray).data.toList (⟨#[0, 255]⟩ : ByteArray).data.toList = Ky.esc s.data.toList := Ky.rep_esc _
  rw [e] at HR
  have HR := Vl.hid HR
  clear hm hc e
  go_enter Tryz.func105, Tryz.ntmps105
  go_wp2_with fail
  refine HR.out.mono ?_
  rintro e w1 ⟨rfl, hb⟩
  go_wp2
  go_ret
  exact ⟨rfl, hb⟩

theorem Ky.replace_back (s : ByteArray) (w : World) (hM : Ky.Mx w) (hs : s.size ≤ 100000) :
    Calls Tryz.prog 127 #[.string s, .string ⟨#[0, 255]⟩, .string ⟨#[0]⟩] w fun e w' => e = .returned (.string ⟨(Ky.unesc s.data.toList).toArray⟩) ∧ Below w.heap.size w w' := by
  obtain ⟨m, hm⟩ := hM
  have hc := Ky.count_le_len (old := [0, 255]) (by simp) _ s.data.toList (Nat.le_refl _)
  rw [← Ky.size_list] at hc
  have HR := Tryz.strings_ReplaceAll s ⟨#[0, 255]⟩ ⟨#[0]⟩ m w (by omega) hm (by decide) (by
    have e : Lib.countB s ⟨#[0, 255]⟩ = Lib.count s.data.toList [0, 255] := rfl
    have e2 : (⟨#[0]⟩ : ByteArray).size = 1 := rfl
    rw [e, e2]; omega)
  have e : Lib.replaceAll s.data.toList (⟨#[0, 255]⟩ : ByteArray).data.toList (⟨#[0]⟩ : ByteArray).data.toList = Ky.unesc s.data.toList := Ky.rep_unesc _
  rw [e] at HR
  exact HR

/-- Where a text ends. -/
theorem Ky.suffix_no {l : List UInt8} (h : Lib.hasSuffix l [0, 1] = false) (b : List UInt8) : l ≠ Ky.esc b ++ [0, 1] := by
  intro e
  have : Lib.hasSuffix l [0, 1] = true := by
    unfold Lib.hasSuffix
    rw [List.isSuffixOf_iff_suffix]
    exact ⟨_, e.symm⟩
  rw [this] at h; cases h
theorem Ky.suffix_yes {l : List UInt8} (h : Lib.hasSuffix l [0, 1] = true) : l = Lib.trimSuffix l [0, 1] ++ [0, 1] := by
  unfold Lib.trimSuffix
  rw [if_pos h]
  unfold Lib.hasSuffix at h
  rw [List.isSuffixOf_iff_suffix] at h
  obtain ⟨t, rfl⟩ := h
  simp
theorem Ky.trim_len (l : List UInt8) : (Lib.trimSuffix l [0, 1]).length ≤ l.length := by
  unfold Lib.trimSuffix
  split
  · simp
  · omega

set_option maxRecDepth 100000 in
set_option maxHeartbeats 2000000 in
theorem plain_key (s : ByteArray) (w : World) (hM : Ky.Mx w) (hs : s.size ≤ 50000) :
    Calls Tryz.prog 130 #[.string s] w fun e w' => ∃ (t : ByteArray) (ok : Bool), e = .returned (.tuple #[.string t, .bool ok]) ∧ t.size ≤ s.size ∧ (ok = true → s.data.toList = Ky.esc t.data.toList ++ [0, 1]) ∧ (ok = false → ∀ b, s.data.toList ≠ Ky.esc b ++ [0, 1]) ∧ Below w.heap.size w w' := by
  have hC := Vl.hid (Tryz.strings_CutSuffix s ⟨#[0, 1]⟩ w (by omega))
  cases hsf : Lib.hasSuffix s.data.toList [0, 1]
  · go_enter Tryz.func130, Tryz.ntmps130
    go_wp2_with fail
    refine hC.out.mono ?_
    rintro e w1 ⟨rfl, hq⟩
    obtain rfl := hq.symm
    have hsf' : Lib.hasSuffix s.data.toList (⟨#[0, 1]⟩ : ByteArray).data.toList = false := hsf
    go_wp2_with fail
    go_ret2
    exact ⟨_, _, rfl, Nat.zero_le _, (fun h => by cases h), fun _ => Ky.suffix_no hsf, Below.refl _ _⟩
  · obtain ⟨t, ht⟩ : ∃ t : ByteArray, t = ⟨(Lib.trimSuffix s.data.toList [0, 1]).toArray⟩ := ⟨_, rfl⟩
    have htl : t.data.toList = Lib.trimSuffix s.data.toList [0, 1] := by rw [ht]
    have hts : t.size ≤ s.size := by rw [Ky.size_list, Ky.size_list, htl]; exact Ky.trim_len _
    have hst : s.data.toList = t.data.toList ++ [0, 1] := by rw [htl]; exact Ky.suffix_yes hsf
    obtain ⟨x, hx⟩ : ∃ x : ByteArray, x = ⟨(Ky.unesc t.data.toList).toArray⟩ := ⟨_, rfl⟩
    have hxl : x.data.toList = Ky.unesc t.data.toList := by rw [hx]
    have hxs : x.size ≤ t.size := by rw [Ky.size_list, Ky.size_list, hxl]; exact Ky.unesc_len _
    have HC : Hid (Calls Tryz.prog 137 #[.string s, .string ⟨#[0, 1]⟩] w fun e w' => e = .returned (.tuple #[.string t, .bool true]) ∧ w' = w) := by
      rw [ht, ← hsf]; exact hC.out
    have HR : Hid (∀ W, Ky.Mx W → Calls Tryz.prog 127 #[.string t, .string ⟨#[0, 255]⟩, .string ⟨#[0]⟩] W fun e w' => e = .returned (.string x) ∧ Below W.heap.size W w') := fun W h => by
      rw [hx]; exact Ky.replace_back t W h (by omega)
    have HT := Vl.hid hst
    have HX := Vl.hid hxl
    clear hC hsf ht htl hst hx hxl
    go_enter Tryz.func130, Tryz.ntmps130
    go_wp2_with fail
    refine HC.out.mono ?_
    rintro e w1 ⟨rfl, hq⟩
    obtain rfl := hq.symm
    go_wp2_with fail
    refine (HR.out _ hM).mono ?_
    rintro e w1 ⟨rfl, hb1⟩
    have HM1 := Vl.hid (hM.below hb1)
    have HB1 := Vl.hid hb1
    clear hb1 hM HC HR
    go_wp2_with fail
    refine (clone_any x _ (by omega)).mono ?_
    rintro e w2 ⟨rfl, hb2⟩
    have HM2 := Vl.hid (HM1.out.below hb2)
    have HB2 := Vl.hid (Vl.btr HB1.out hb2)
    clear hb2
    go_wp2_with fail
    refine (kept_any x _ HM2.out (by omega)).mono ?_
    rintro e w3 ⟨rfl, hb3⟩
    have HB3 := Vl.hid (Vl.btr HB2.out hb3)
    clear hb3
    go_wp2_with fail
    go_ret2
    refine ⟨x, _, rfl, by omega, ?_, ?_, HB3.out⟩
    · intro h
      simp only [ByteArray.toList_eq] at h
      rw [beq_iff_eq] at h
      rw [HT.out, ← h]
    · intro h b e
      simp only [ByteArray.toList_eq] at h
      rw [beq_eq_false_iff_ne] at h
      rw [HT.out] at e
      have e' := List.append_cancel_right e
      apply h
      show Ky.esc x.data.toList = _
      rw [HX.out, e', Ky.unesc_esc]

end Go.Proofs.YtjnaafgiokdcbaaGreatDoor
