/- The reference's Of at a text; whole. -/
import Derived.Test.YtlafccdaplgfoaaDoorKR1
namespace Go.Proofs.YtlafccdaplgfoaaDoor
open Go.RowKit
attribute [local go_sem] Fl.run_store_float

theorem Ky.esc_take (s : ByteArray) (k : Nat) (h : k < s.size) : Ky.esc (s.data.toList.take (k + 1)) = Ky.esc (s.data.toList.take k) ++ (if s.data.toList.getD k 0 = 0 then [0, 255] else [s.data.toList.getD k 0]) := by
  have hl : k < s.data.toList.length := by rw [← Ky.size_list]; exact h
  have e : s.data.toList[k] = s.data.toList.getD k 0 := by rw [List.getD_eq_getElem?_getD, List.getElem?_eq_getElem hl]; rfl
  rw [List.take_succ_eq_append_getElem hl, Ky.esc_append, e]
  by_cases hz : s.data.toList.getD k 0 = 0
  · rw [if_pos hz, hz]; rfl
  · rw [if_neg hz, Ky.esc_nz hz]; rfl
theorem Ky.esc_len2 (s : ByteArray) (k : Nat) : (Ky.esc (s.data.toList.take k)).length ≤ 2 * s.size := by
  have h1 := (Ky.esc_len (s.data.toList.take k)).2
  have h2 : (s.data.toList.take k).length ≤ s.data.toList.length := by rw [List.length_take]; omega
  rw [← Ky.size_list] at h2
  omega
theorem Ky.cAt_zero {s : ByteArray} {k : Nat} (h : Vl.cAt s k = 0) : s.data.toList.getD k 0 = 0 := UInt8.toNat_inj.1 h
theorem Ky.cAt_nz {s : ByteArray} {k : Nat} (h : Vl.cAt s k ≠ 0) : s.data.toList.getD k 0 ≠ 0 := fun e => h (by unfold Vl.cAt; rw [e]; rfl)

set_option maxRecDepth 100000 in
set_option maxHeartbeats 2000000 in
theorem refOf_4 (n : Int) (f : Nat) (s : ByteArray) (w : World) (hM : Ky.Mx w) (hg : Vl.goodB 4 n f s = true) (hs : s.size ≤ 256) :
    Calls Tryd.prog 12 #[.agg #[.int .i64 4, .int .i64 n, .float .f64 f, .string s]] w fun e w' => e = .returned (.tuple #[.string (Ky.keyB ⟨4, n, f, s⟩), .int .i64 0]) ∧ Below w.heap.size w w' := by
  have hcv : ∀ (W : World) (r : Nat), W.cell? ⟨r, 0, none⟩ = some (.int .u8 4) → (convert 60 9 (.slice (some ⟨r, 0, none⟩) 1 1)).run Tryd.prog W = .ok (.string ⟨#[4]⟩) W := fun W r h => Ky.conv1 Tryd.underlying60 Tryd.underlying5 Tryd.underlying9 W r 4 h
  have hcc : ∀ (k : Nat) (W : World) (r : Nat), W.cell? ⟨r, 0, none⟩ = some (.int .u8 (Vl.cAt s k : Int)) → (convert 60 9 (.slice (some ⟨r, 0, none⟩) 1 1)).run Tryd.prog W = .ok (.string ⟨#[s.data.toList.getD k 0]⟩) W := fun k W r h => Ky.conv1 Tryd.underlying60 Tryd.underlying5 Tryd.underlying9 W r (s.data.toList.getD k 0) h
  have HCC := Vl.hid hcc
  clear hcc
  have HS0 := Vl.hid (Ky.St1.start w ⟨4, n, f, s⟩ hM)
  clear hM
  obtain ⟨p0, p1, p2, p3⟩ := HS0.out.a.four
  go_enter Tryd.func12, Tryd.ntmps12
  go_wp2_with fail
  refine (refGood_any 4 n f s _).mono ?_
  rintro e w1 ⟨rfl, hb⟩
  have HS1 := Vl.hid (HS0.out.step hb)
  clear hb HS0 p0 p1 p2 p3
  obtain ⟨p0, p1, p2, p3⟩ := HS1.out.a.four
  have z1 := HS1.out.a.lt
  go_wp2_with fail
  go_loopw [4, 5] (fun vk vi wr => ∃ (k : Nat) (x : ByteArray), k ≤ s.size ∧ vi = .int .i64 (k : Int) ∧ vk = .string x ∧ x.size ≤ 513 ∧ Hid (x.data.toList = 4 :: Ky.esc (s.data.toList.take k)) ∧ Hid (Ky.St1 w ⟨4, n, f, s⟩ w.heap.size wr)) (fun _ vi _ => s.size - (intOf vi).toNat)
  case atStart => exact ⟨0, ⟨#[4]⟩, Nat.zero_le _, rfl, rfl, by decide, Vl.hid rfl, Vl.hid (HS1.out.al _)⟩
  case round =>
    obtain ⟨k, x, hk, rfl, rfl, hx, HX, HR⟩ := hrel
    rename World => wr
    clear HS1 p0 p1 p2 p3 z1
    obtain ⟨p0, p1, p2, p3⟩ := HR.out.a.four
    have z1 := HR.out.a.lt
    by_cases hlt : k < s.size
    · have hX : ∀ w, (Instr.index 9 (.string s) (.int .i64 (k : Int))).run Tryd.prog w = .ok (.int .u8 (Vl.cAt s k : Int)) w := Vl.idx_str 9 Tryd.underlying9 s k hlt
      obtain ⟨c, hc0⟩ : ∃ c, s.data.toList.getD k 0 = c := ⟨_, rfl⟩
      have HT := Vl.hid (Ky.esc_take s k hlt)
      have HN := Vl.hid (Ky.esc_len2 s (k + 1))
      have hcc := HCC.out k
      have HC0 := Vl.hid hc0
      rw [hc0] at HT hcc
      clear hc0
      by_cases hc : Vl.cAt s k = 0
      · have hd : ((Vl.cAt s k : Int) == 0) = true := by rw [hc]; rfl
        have HC := Vl.hid hc
        clear hc
        go_wp2_with fail
        go_roundw
        case rel =>
          have hl : (x ++ ⟨#[c]⟩ ++ ⟨#[255]⟩).data.toList = 4 :: Ky.esc (s.data.toList.take (k + 1)) := by
            rw [Ky.append_list, Ky.append_list, HX.out, HT.out, if_pos (HC0.out.symm.trans (Ky.cAt_zero HC.out)), HC0.out.symm.trans (Ky.cAt_zero HC.out)]
            simp
          have hl2 : (x ++ ⟨#[c]⟩ ++ ⟨#[255]⟩).size ≤ 513 := by
            rw [Ky.size_list, hl, List.length_cons]; have := HN.out; omega
          exact ⟨k + 1, _, by omega, by go_num, rfl, hl2, Vl.hid hl, Vl.hid (HR.out.al _)⟩
        case measure => simp [intOf]; omega
      · have hd : ((Vl.cAt s k : Int) == 0) = false := by simp; omega
        have HC := Vl.hid hc
        clear hc
        go_wp2_with fail
        go_roundw
        case rel =>
          have hl : (x ++ ⟨#[c]⟩).data.toList = 4 :: Ky.esc (s.data.toList.take (k + 1)) := by
            rw [Ky.append_list, HX.out, HT.out, if_neg (fun e => Ky.cAt_nz HC.out (HC0.out.trans e))]
            rfl
          have hl2 : (x ++ ⟨#[c]⟩).size ≤ 513 := by
            rw [Ky.size_list, hl, List.length_cons]; have := HN.out; omega
          exact ⟨k + 1, _, by omega, by go_num, rfl, hl2, Vl.hid hl, Vl.hid (HR.out.al _)⟩
        case measure => simp [intOf]; omega
    · obtain rfl : k = s.size := by omega
      have HE : Hid (x ++ ⟨#[0, 1]⟩ = Ky.keyB ⟨4, n, f, s⟩) := Vl.hid (Ky.ext_list (by
        rw [Ky.append_list, Ky.keyB_list, HX.out]
        show _ = (4 : Int).toNat.toUInt8 :: Ky.bodyL ⟨4, n, f, s⟩
        rw [Ky.body_4 rfl, List.take_of_length_le (by rw [← Ky.size_list]; exact Nat.le_refl _)]
        rfl))
      go_wp2_with fail
      go_ret2
      exact ⟨by rw [← HE.out]; rfl, HR.out.l⟩

theorem refOf_any (v : Vl.V) (w : World) (hM : Ky.Mx w) (hv : Ky.In v) :
    Calls Tryd.prog 12 #[.agg #[.int .i64 v.k, .int .i64 v.n, .float .f64 v.f, .string v.s]] w fun e w' => e = .returned (.tuple #[.string (Ky.ofB v), .int .i64 (Ky.ofE v)]) ∧ Below w.heap.size w w' := by
  unfold Ky.ofB Ky.ofE
  cases hg : Vl.goodB v.k v.n v.f v.s
  · exact refOf_no v w hM hg
  · have hG := hv.good hg
    obtain ⟨k, n, f, s⟩ := v
    rcases hG.cases with ⟨h, _⟩ | ⟨h, _⟩ | ⟨h, _⟩ | ⟨h, _⟩ | ⟨h, _, _, hs⟩
    all_goals (simp only at h; subst h)
    · exact refOf_0 n f s w hM hg
    · exact refOf_1 n f s w hM hg
    · exact refOf_2 n f s w hM hg
    · exact refOf_3 n f s w hM hg hv.f
    · exact refOf_4 n f s w hM hg hs

end Go.Proofs.YtlafccdaplgfoaaDoor
