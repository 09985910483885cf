/- The reference's Of. -/
import Derived.Test.YtjnaafgiokdcbaaGreatDoorHN
namespace Go.Proofs.YtjnaafgiokdcbaaGreatDoor
open Go.RowKit
attribute [local go_sem] Fl.run_store_float Tryz.float64bits Tryz.float64frombits

theorem Ky.conv1 {P : Program} {T S B : TypeId} (hT : P.underlying T = some (.slice B)) (hB : P.underlying B = some (.int .u8)) (hS : P.underlying S = some .string) (W : World) (r : Nat) (x : UInt8) (h : W.cell? ⟨r, 0, none⟩ = some (.int .u8 (x.toNat : Int))) :
    (convert T S (.slice (some ⟨r, 0, none⟩) 1 1)).run P W = .ok (.string ⟨#[x]⟩) W := by
  have := run_convert_bytes_back (P := P) W T S B ⟨r, 0, none⟩ 1 [x] hT hB hS (fun j hj => by
    obtain rfl : j = 0 := by simp at hj; omega
    rw [Vl.add_plain]; exact h)
  exact this
theorem Ky.bitsN_lt {f : Nat} (hf : f < 18446744073709551616) : Fl.bitsN f < 18446744073709551616 := by
  have := Fl.canonN_lt hf
  unfold Fl.bitsN
  split <;> omega
theorem Ky.beA_size (u m : Nat) : (⟨(Vl.beL u m).toArray⟩ : ByteArray).size = m := by rw [Ky.size_list]; show (Vl.beL _ _).length = _; rw [Vl.beL_length]

set_option maxHeartbeats 1000000 in
theorem refOf_no (v : Vl.V) (w : World) (hM : Ky.Mx w) (hg : Vl.goodB v.k v.n v.f v.s = false) :
    Calls Tryz.prog 57 #[.agg #[.int .i64 v.k, .int .i64 v.n, .float .f64 v.f, .string v.s]] w fun e w' => e = .returned (.tuple #[.string ⟨#[]⟩, .int .i64 11]) ∧ Below w.heap.size w w' := by
  have HS0 := Vl.hid (Ky.St1.start w v hM)
  clear hM
  obtain ⟨p0, p1, p2, p3⟩ := HS0.out.a.four
  go_enter Tryz.func57, Tryz.ntmps57
  go_wp2_with fail
  refine (refGood_any v.k v.n v.f v.s _).mono ?_
  rintro e w1 ⟨rfl, hb⟩
  go_wp2_with fail
  go_ret2
  exact ⟨rfl, Vl.btr HS0.out.l hb⟩

set_option maxRecDepth 100000 in
set_option maxHeartbeats 2000000 in
theorem refOf_0 (n : Int) (f : Nat) (s : ByteArray) (w : World) (hM : Ky.Mx w) (hg : Vl.goodB 0 n f s = true) :
    Calls Tryz.prog 57 #[.agg #[.int .i64 0, .int .i64 n, .float .f64 f, .string s]] w fun e w' => e = .returned (.tuple #[.string (Ky.keyB ⟨0, n, f, s⟩), .int .i64 0]) ∧ Below w.heap.size w w' := by
  have hcv : ∀ (W : World) (r : Nat), W.cell? ⟨r, 0, none⟩ = some (.int .u8 0) → (convert 106 9 (.slice (some ⟨r, 0, none⟩) 1 1)).run Tryz.prog W = .ok (.string ⟨#[0]⟩) W := fun W r h => Ky.conv1 Tryz.underlying106 Tryz.underlying5 Tryz.underlying9 W r 0 h
  have HS0 := Vl.hid (Ky.St1.start w ⟨0, n, f, s⟩ hM)
  clear hM
  obtain ⟨p0, p1, p2, p3⟩ := HS0.out.a.four
  go_enter Tryz.func57, Tryz.ntmps57
  go_wp2_with fail
  refine (refGood_any 0 n f s _).mono ?_
  rintro e w1 ⟨rfl, hb⟩
  have HS1 := Vl.hid (HS0.out.step hb)
  clear hb HS0 p0 p1 p2 p3
  obtain ⟨p0, p1, p2, p3⟩ := HS1.out.a.four
  have z1 := HS1.out.a.lt
  go_wp2_with fail
  go_ret2
  exact ⟨rfl, (HS1.out.al _).l⟩

set_option maxRecDepth 100000 in
set_option maxHeartbeats 2000000 in
theorem refOf_1 (n : Int) (f : Nat) (s : ByteArray) (w : World) (hM : Ky.Mx w) (hg : Vl.goodB 1 n f s = true) :
    Calls Tryz.prog 57 #[.agg #[.int .i64 1, .int .i64 n, .float .f64 f, .string s]] w fun e w' => e = .returned (.tuple #[.string (Ky.keyB ⟨1, n, f, s⟩), .int .i64 0]) ∧ Below w.heap.size w w' := by
  have hn : n = 0 ∨ n = 1 := by
    have h := hg
    rw [Vl.goodB_1] at h
    unfold Vl.good1 at h
    simp at h
    exact h.1.1
  have HE : Hid ((⟨#[1]⟩ : ByteArray) ++ ⟨#[n.toNat.toUInt8]⟩ = Ky.keyB ⟨1, n, f, s⟩) := Vl.hid (Ky.ext_list (by
    rw [Ky.append_list, Ky.keyB_list]
    show _ = (1 : Int).toNat.toUInt8 :: Ky.bodyL ⟨1, n, f, s⟩
    rw [Ky.body_1 rfl]
    show _ = _ :: Vl.beL (Ky.uN n) 1
    rw [Ky.be1 (by omega) (by omega)]
    rfl))
  have HW8 : Hid (n % 256 = ((n.toNat.toUInt8.toNat : Nat) : Int)) := Vl.hid (by rcases hn with rfl | rfl <;> rfl)
  clear hn
  have hcv : ∀ (W : World) (r : Nat), W.cell? ⟨r, 0, none⟩ = some (.int .u8 1) → (convert 106 9 (.slice (some ⟨r, 0, none⟩) 1 1)).run Tryz.prog W = .ok (.string ⟨#[1]⟩) W := fun W r h => Ky.conv1 Tryz.underlying106 Tryz.underlying5 Tryz.underlying9 W r 1 h
  have hcn : ∀ (W : World) (r : Nat), W.cell? ⟨r, 0, none⟩ = some (.int .u8 (n % 256)) → (convert 106 9 (.slice (some ⟨r, 0, none⟩) 1 1)).run Tryz.prog W = .ok (.string ⟨#[n.toNat.toUInt8]⟩) W := fun W r h => Ky.conv1 Tryz.underlying106 Tryz.underlying5 Tryz.underlying9 W r _ (by rw [h, HW8.out])
  have HS0 := Vl.hid (Ky.St1.start w ⟨1, n, f, s⟩ hM)
  clear hM
  obtain ⟨p0, p1, p2, p3⟩ := HS0.out.a.four
  go_enter Tryz.func57, Tryz.ntmps57
  go_wp2_with fail
  refine (refGood_any 1 n f s _).mono ?_
  rintro e w1 ⟨rfl, hb⟩
  have HS1 := Vl.hid (HS0.out.step hb)
  clear hb HS0 p0 p1 p2 p3
  obtain ⟨p0, p1, p2, p3⟩ := HS1.out.a.four
  have z1 := HS1.out.a.lt
  go_wp2_with fail
  go_ret2
  exact ⟨by rw [← HE.out]; rfl, ((HS1.out.al _).al _).l⟩

set_option maxRecDepth 100000 in
set_option maxHeartbeats 2000000 in
theorem refOf_2 (n : Int) (f : Nat) (s : ByteArray) (w : World) (hM : Ky.Mx w) (hg : Vl.goodB 2 n f s = true) :
    Calls Tryz.prog 57 #[.agg #[.int .i64 2, .int .i64 n, .float .f64 f, .string s]] w fun e w' => e = .returned (.tuple #[.string (Ky.keyB ⟨2, n, f, s⟩), .int .i64 0]) ∧ Below w.heap.size w w' := by
  have hcv : ∀ (W : World) (r : Nat), W.cell? ⟨r, 0, none⟩ = some (.int .u8 2) → (convert 106 9 (.slice (some ⟨r, 0, none⟩) 1 1)).run Tryz.prog W = .ok (.string ⟨#[2]⟩) W := fun W r h => Ky.conv1 Tryz.underlying106 Tryz.underlying5 Tryz.underlying9 W r 2 h
  have HE : Hid ((⟨#[2]⟩ : ByteArray) ++ ⟨(Vl.beL (Ky.flipN (Ky.uN n)) 8).toArray⟩ = Ky.keyB ⟨2, n, f, s⟩) := Vl.hid (Ky.ext_list (by
    rw [Ky.append_list, Ky.keyB_list]
    show _ = (2 : Int).toNat.toUInt8 :: Ky.bodyL ⟨2, n, f, s⟩
    rw [Ky.body_2 rfl]
    rfl))
  have HS0 := Vl.hid (Ky.St1.start w ⟨2, n, f, s⟩ hM)
  clear hM
  obtain ⟨p0, p1, p2, p3⟩ := HS0.out.a.four
  go_enter Tryz.func57, Tryz.ntmps57
  go_wp2_with fail
  refine (refGood_any 2 n f s _).mono ?_
  rintro e w1 ⟨rfl, hb⟩
  have HS1 := Vl.hid (HS0.out.step hb)
  clear hb HS0 p0 p1 p2 p3
  obtain ⟨p0, p1, p2, p3⟩ := HS1.out.a.four
  have z1 := HS1.out.a.lt
  go_wp2_with fail
  rw [Ky.wrap_u64, Ky.flip_u64 _ (Ky.uN_lt n)]
  refine (eight_any _ _ (Ky.flipN_lt (Ky.uN_lt n))).mono ?_
  rintro e w2 ⟨rfl, hb2⟩
  have hl := Ky.beA_size (Ky.flipN (Ky.uN n)) 8
  go_wp2_with fail
  go_ret2
  exact ⟨by rw [← HE.out]; rfl, Vl.btr (HS1.out.al _).l hb2⟩

set_option maxRecDepth 100000 in
set_option maxHeartbeats 2000000 in
theorem refOf_3 (n : Int) (f : Nat) (s : ByteArray) (w : World) (hM : Ky.Mx w) (hg : Vl.goodB 3 n f s = true) (hf : f < 18446744073709551616) :
    Calls Tryz.prog 57 #[.agg #[.int .i64 3, .int .i64 n, .float .f64 f, .string s]] w fun e w' => e = .returned (.tuple #[.string (Ky.keyB ⟨3, n, f, s⟩), .int .i64 0]) ∧ Below w.heap.size w w' := by
  have hcv : ∀ (W : World) (r : Nat), W.cell? ⟨r, 0, none⟩ = some (.int .u8 3) → (convert 106 9 (.slice (some ⟨r, 0, none⟩) 1 1)).run Tryz.prog W = .ok (.string ⟨#[3]⟩) W := fun W r h => Ky.conv1 Tryz.underlying106 Tryz.underlying5 Tryz.underlying9 W r 3 h
  have HE : Hid ((⟨#[3]⟩ : ByteArray) ++ ⟨(Vl.beL (Fl.bitsN f) 8).toArray⟩ = Ky.keyB ⟨3, n, f, s⟩) := Vl.hid (Ky.ext_list (by
    rw [Ky.append_list, Ky.keyB_list]
    show _ = (3 : Int).toNat.toUInt8 :: Ky.bodyL ⟨3, n, f, s⟩
    rw [Ky.body_3 rfl]
    rfl))
  have HS0 := Vl.hid (Ky.St1.start w ⟨3, n, f, s⟩ hM)
  clear hM
  obtain ⟨p0, p1, p2, p3⟩ := HS0.out.a.four
  go_enter Tryz.func57, Tryz.ntmps57
  go_wp2_with fail
  refine (refGood_any 3 n f s _).mono ?_
  rintro e w1 ⟨rfl, hb⟩
  have HS1 := Vl.hid (HS0.out.step hb)
  clear hb HS0 p0 p1 p2 p3
  obtain ⟨p0, p1, p2, p3⟩ := HS1.out.a.four
  have z1 := HS1.out.a.lt
  go_wp2_with fail
  refine (refBits_any _ _ hf).mono ?_
  rintro e w2 ⟨rfl, hq⟩
  obtain rfl := hq.symm
  go_wp2_with fail
  refine (eight_any _ _ (Ky.bitsN_lt hf)).mono ?_
  rintro e w2 ⟨rfl, hb2⟩
  have hl := Ky.beA_size (Fl.bitsN f) 8
  go_wp2_with fail
  go_ret2
  exact ⟨by rw [← HE.out]; rfl, Vl.btr (HS1.out.al _).l hb2⟩

end Go.Proofs.YtjnaafgiokdcbaaGreatDoor

/- The reference's Of at a text; whole. -/
namespace Go.Proofs.YtjnaafgiokdcbaaGreatDoor
open Go.RowKit
attribute [local go_sem] Fl.run_store_float

theorem Ky.esc_take (s : ByteArray) (k : Nat) (h : k < s.size) : Ky.esc (s.data.toList.take (k + 1)) = Ky.esc (s.data.toList.take k) ++ (if s.data.toList.getD k 0 = 0 then [0, 255] else [s.data.toList.getD k 0]) := by
  have hl : k < s.data.toList.length := by rw [← Ky.size_list]; exact h
  have e : s.data.toList[k] = s.data.toList.getD k 0 := by rw [List.getD_eq_getElem?_getD, List.getElem?_eq_getElem hl]; rfl
  rw [List.take_succ_eq_append_getElem hl, Ky.esc_append, e]
  by_cases hz : s.data.toList.getD k 0 = 0
  · rw [if_pos hz, hz]; rfl
  · rw [if_neg hz, Ky.esc_nz hz]; rfl
theorem Ky.esc_len2 (s : ByteArray) (k : Nat) : (Ky.esc (s.data.toList.take k)).length ≤ 2 * s.size := by
  have h1 := (Ky.esc_len (s.data.toList.take k)).2
  have h2 : (s.data.toList.take k).length ≤ s.data.toList.length := by rw [List.length_take]; omega
  rw [← Ky.size_list] at h2
  omega
theorem Ky.cAt_zero {s : ByteArray} {k : Nat} (h : Vl.cAt s k = 0) : s.data.toList.getD k 0 = 0 := UInt8.toNat_inj.1 h
theorem Ky.cAt_nz {s : ByteArray} {k : Nat} (h : Vl.cAt s k ≠ 0) : s.data.toList.getD k 0 ≠ 0 := fun e => h (by unfold Vl.cAt; rw [e]; rfl)

set_option maxRecDepth 100000 in
set_option maxHeartbeats 2000000 in
theorem refOf_4 (n : Int) (f : Nat) (s : ByteArray) (w : World) (hM : Ky.Mx w) (hg : Vl.goodB 4 n f s = true) (hs : s.size ≤ 256) :
    Calls Tryz.prog 57 #[.agg #[.int .i64 4, .int .i64 n, .float .f64 f, .string s]] w fun e w' => e = .returned (.tuple #[.string (Ky.keyB ⟨4, n, f, s⟩), .int .i64 0]) ∧ Below w.heap.size w w' := by
  have hcv : ∀ (W : World) (r : Nat), W.cell? ⟨r, 0, none⟩ = some (.int .u8 4) → (convert 106 9 (.slice (some ⟨r, 0, none⟩) 1 1)).run Tryz.prog W = .ok (.string ⟨#[4]⟩) W := fun W r h => Ky.conv1 Tryz.underlying106 Tryz.underlying5 Tryz.underlying9 W r 4 h
  have hcc : ∀ (k : Nat) (W : World) (r : Nat), W.cell? ⟨r, 0, none⟩ = some (.int .u8 (Vl.cAt s k : Int)) → (convert 106 9 (.slice (some ⟨r, 0, none⟩) 1 1)).run Tryz.prog W = .ok (.string ⟨#[s.data.toList.getD k 0]⟩) W := fun k W r h => Ky.conv1 Tryz.underlying106 Tryz.underlying5 Tryz.underlying9 W r (s.data.toList.getD k 0) h
  have HCC := Vl.hid hcc
  clear hcc
  have HS0 := Vl.hid (Ky.St1.start w ⟨4, n, f, s⟩ hM)
  clear hM
  obtain ⟨p0, p1, p2, p3⟩ := HS0.out.a.four
  go_enter Tryz.func57, Tryz.ntmps57
  go_wp2_with fail
  refine (refGood_any 4 n f s _).mono ?_
  rintro e w1 ⟨rfl, hb⟩
  have HS1 := Vl.hid (HS0.out.step hb)
  clear hb HS0 p0 p1 p2 p3
  obtain ⟨p0, p1, p2, p3⟩ := HS1.out.a.four
  have z1 := HS1.out.a.lt
  go_wp2_with fail
  go_loopw [4, 5] (fun vk vi wr => ∃ (k : Nat) (x : ByteArray), k ≤ s.size ∧ vi = .int .i64 (k : Int) ∧ vk = .string x ∧ x.size ≤ 513 ∧ Hid (x.data.toList = 4 :: Ky.esc (s.data.toList.take k)) ∧ Hid (Ky.St1 w ⟨4, n, f, s⟩ w.heap.size wr)) (fun _ vi _ => s.size - (intOf vi).toNat)
  case atStart => exact ⟨0, ⟨#[4]⟩, Nat.zero_le _, rfl, rfl, by decide, Vl.hid rfl, Vl.hid (HS1.out.al _)⟩
  case round =>
    obtain ⟨k, x, hk, rfl, rfl, hx, HX, HR⟩ := hrel
    rename World => wr
    clear HS1 p0 p1 p2 p3 z1
    obtain ⟨p0, p1, p2, p3⟩ := HR.out.a.four
    have z1 := HR.out.a.lt
    by_cases hlt : k < s.size
    · have hX : ∀ w, (Instr.index 9 (.string s) (.int .i64 (k : Int))).run Tryz.prog w = .ok (.int .u8 (Vl.cAt s k : Int)) w := Vl.idx_str 9 Tryz.underlying9 s k hlt
      obtain ⟨c, hc0⟩ : ∃ c, s.data.toList.getD k 0 = c := ⟨_, rfl⟩
      have HT := Vl.hid (Ky.esc_take s k hlt)
      have HN := Vl.hid (Ky.esc_len2 s (k + 1))
      have hcc := HCC.out k
      have HC0 := Vl.hid hc0
      rw [hc0] at HT hcc
      clear hc0
      by_cases hc : Vl.cAt s k = 0
      · have hd : ((Vl.cAt s k : Int) == 0) = true := by rw [hc]; rfl
        have HC := Vl.hid hc
        clear hc
        go_wp2_with fail
        go_roundw
        case rel =>
          have hl : (x ++ ⟨#[c]⟩ ++ ⟨#[255]⟩).data.toList = 4 :: Ky.esc (s.data.toList.take (k + 1)) := by
            rw [Ky.append_list, Ky.append_list, HX.out, HT.out, if_pos (HC0.out.symm.trans (Ky.cAt_zero HC.out)), HC0.out.symm.trans (Ky.cAt_zero HC.out)]
            simp
          have hl2 : (x ++ ⟨#[c]⟩ ++ ⟨#[255]⟩).size ≤ 513 := by
            rw [Ky.size_list, hl, List.length_cons]; have := HN.out; omega
          exact ⟨k + 1, _, by omega, by go_num, rfl, hl2, Vl.hid hl, Vl.hid (HR.out.al _)⟩
        case measure => simp [intOf]; omega
      · have hd : ((Vl.cAt s k : Int) == 0) = false := by simp; omega
        have HC := Vl.hid hc
        clear hc
        go_wp2_with fail
        go_roundw
        case rel =>
          have hl : (x ++ ⟨#[c]⟩).data.toList = 4 :: Ky.esc (s.data.toList.take (k + 1)) := by
            rw [Ky.append_list, HX.out, HT.out, if_neg (fun e => Ky.cAt_nz HC.out (HC0.out.trans e))]
            rfl
          have hl2 : (x ++ ⟨#[c]⟩).size ≤ 513 := by
            rw [Ky.size_list, hl, List.length_cons]; have := HN.out; omega
          exact ⟨k + 1, _, by omega, by go_num, rfl, hl2, Vl.hid hl, Vl.hid (HR.out.al _)⟩
        case measure => simp [intOf]; omega
    · obtain rfl : k = s.size := by omega
      have HE : Hid (x ++ ⟨#[0, 1]⟩ = Ky.keyB ⟨4, n, f, s⟩) := Vl.hid (Ky.ext_list (by
        rw [Ky.append_list, Ky.keyB_list, HX.out]
        show _ = (4 : Int).toNat.toUInt8 :: Ky.bodyL ⟨4, n, f, s⟩
        rw [Ky.body_4 rfl, List.take_of_length_le (by rw [← Ky.size_list]; exact Nat.le_refl _)]
        rfl))
      go_wp2_with fail
      go_ret2
      exact ⟨by rw [← HE.out]; rfl, HR.out.l⟩

theorem refOf_any (v : Vl.V) (w : World) (hM : Ky.Mx w) (hv : Ky.In v) :
    Calls Tryz.prog 57 #[.agg #[.int .i64 v.k, .int .i64 v.n, .float .f64 v.f, .string v.s]] w fun e w' => e = .returned (.tuple #[.string (Ky.ofB v), .int .i64 (Ky.ofE v)]) ∧ Below w.heap.size w w' := by
  unfold Ky.ofB Ky.ofE
  cases hg : Vl.goodB v.k v.n v.f v.s
  · exact refOf_no v w hM hg
  · have hG := hv.good hg
    obtain ⟨k, n, f, s⟩ := v
    rcases hG.cases with ⟨h, _⟩ | ⟨h, _⟩ | ⟨h, _⟩ | ⟨h, _⟩ | ⟨h, _, _, hs⟩
    all_goals (simp only at h; subst h)
    · exact refOf_0 n f s w hM hg
    · exact refOf_1 n f s w hM hg
    · exact refOf_2 n f s w hM hg
    · exact refOf_3 n f s w hM hg hv.f
    · exact refOf_4 n f s w hM hg hs

end Go.Proofs.YtjnaafgiokdcbaaGreatDoor

/- The reference's Entry, Least, After. -/
namespace Go.Proofs.YtjnaafgiokdcbaaGreatDoor
open Go.RowKit
attribute [local go_sem] Fl.run_store_float

theorem Ky.conv2 {P : Program} {T S B : TypeId} (hT : P.underlying T = some (.slice B)) (hB : P.underlying B = some (.int .u8)) (hS : P.underlying S = some .string) (W : World) (r : Nat) (x y : UInt8) (h : W.cell? ⟨r, 0, none⟩ = some (.int .u8 (x.toNat : Int))) (h2 : W.cell? ⟨r, 1, none⟩ = some (.int .u8 (y.toNat : Int))) :
    (convert T S (.slice (some ⟨r, 0, none⟩) 2 2)).run P W = .ok (.string ⟨#[x, y]⟩) W := by
  have := run_convert_bytes_back (P := P) W T S B ⟨r, 0, none⟩ 2 [x, y] hT hB hS (fun j hj => by
    have e : j = 0 ∨ j = 1 := by simp at hj; omega
    rcases e with rfl | rfl
    · rw [Vl.add_plain]; exact h
    · rw [Vl.add_plain]; exact h2)
  exact this
theorem Ky.be2 (m : Nat) : Vl.beL m 2 = [(m / 256 % 256).toUInt8, (m % 256).toUInt8] := by
  simp [Vl.beL, List.range_succ]

set_option maxRecDepth 100000 in
set_option maxHeartbeats 2000000 in
theorem refEntry_yes (v : Vl.V) (m : Nat) (w : World) (hM : Ky.Mx w) (hv : Ky.GoodV v) (hm : m < 65536) :
    Calls Tryz.prog 34 #[.agg #[.int .i64 v.k, .int .i64 v.n, .float .f64 v.f, .string v.s], .int .i64 (m : Int)] w fun e w' => e = .returned (.tuple #[.string (Ky.entB v (m : Int)), .int .i64 0]) ∧ Below w.heap.size w w' := by
  have HS0 := Vl.hid (Ky.St1.start w v hM)
  have HE : Hid (Ky.keyB v ++ ⟨#[(m / 256 % 256).toUInt8, (m % 256).toUInt8]⟩ = Ky.entB v (m : Int)) := Vl.hid (Ky.ext_list (by rw [Ky.append_list, Ky.entB_good hv hm, Ky.be2]; rfl))
  have hks := Ky.keyB_size hv
  have HV := Vl.hid hv.inn
  have e1 := Ky.ofB_good hv
  have e2 := Ky.ofE_good hv
  have HO := Vl.hid (And.intro e1 e2)
  have hd1 : decide ((m : Int) < 0) = false := decide_eq_false (by omega)
  have hd2 : decide ((65535 : Int) < (m : Int)) = false := decide_eq_false (by omega)
  have w1 : (m : Int) / 256 = (((m / 256 % 256).toUInt8.toNat : Nat) : Int) := by rw [Vl.byte_of]; omega
  have w2 : (m : Int) % 256 = (((m % 256).toUInt8.toNat : Nat) : Int) := by rw [Vl.byte_of]
  have hcv : ∀ (W : World) (r : Nat), W.cell? ⟨r, 0, none⟩ = some (.int .u8 ((m : Int) / 256)) → W.cell? ⟨r, 1, none⟩ = some (.int .u8 ((m : Int) % 256)) → (convert 106 9 (.slice (some ⟨r, 0, none⟩) 2 2)).run Tryz.prog W = .ok (.string ⟨#[(m / 256 % 256).toUInt8, (m % 256).toUInt8]⟩) W := fun W r h g => Ky.conv2 Tryz.underlying106 Tryz.underlying5 Tryz.underlying9 W r _ _ (by rw [h, w1]) (by rw [g, w2])
  clear w1 w2
  clear hM hv e1 e2
  obtain ⟨p0, p1, p2, p3⟩ := HS0.out.a.four
  go_enter Tryz.func34, Tryz.ntmps34
  go_wp2_with fail
  refine (refOf_any v _ HS0.out.m HV.out).mono ?_
  rintro e w1 ⟨rfl, hb⟩
  rw [HO.out.1, HO.out.2]
  have HS1 := Vl.hid (HS0.out.step hb)
  clear hb HS0 p0 p1 p2 p3
  go_wp2_with fail
  go_ret2
  exact ⟨by rw [← HE.out]; rfl, (HS1.out.al _).l⟩

set_option maxRecDepth 100000 in
set_option maxHeartbeats 2000000 in
theorem refEntry_no (v : Vl.V) (n : Int) (w : World) (hM : Ky.Mx w) (hv : Ky.In v) (h : Vl.goodB v.k v.n v.f v.s = false ∨ (Vl.goodB v.k v.n v.f v.s = true ∧ (n < 0 ∨ 65535 < n))) :
    Calls Tryz.prog 34 #[.agg #[.int .i64 v.k, .int .i64 v.n, .float .f64 v.f, .string v.s], .int .i64 n] w fun e w' => e = .returned (.tuple #[.string ⟨#[]⟩, .int .i64 (Ky.entE v n)]) ∧ Below w.heap.size w w' := by
  have HS0 := Vl.hid (Ky.St1.start w v hM)
  have HV := Vl.hid hv
  clear hM hv
  obtain ⟨p0, p1, p2, p3⟩ := HS0.out.a.four
  rcases h with hg | ⟨hg, hn⟩
  · have HE : Hid (Ky.ofE v = 11 ∧ Ky.entE v n = 11) := Vl.hid ⟨by unfold Ky.ofE; rw [hg]; rfl, by unfold Ky.entE; rw [hg]; rfl⟩
    rw [HE.out.2]
    go_enter Tryz.func34, Tryz.ntmps34
    go_wp2_with fail
    refine (refOf_any v _ HS0.out.m HV.out).mono ?_
    rintro e w1 ⟨rfl, hb⟩
    rw [HE.out.1]
    go_wp2_with fail
    go_ret2
    exact ⟨rfl, Vl.btr HS0.out.l hb⟩
  · have HE : Hid (Ky.ofE v = 0 ∧ Ky.entE v n = 1) := Vl.hid ⟨by unfold Ky.ofE; rw [hg]; rfl, by unfold Ky.entE; rw [hg, if_pos rfl, if_pos hn]⟩
    rw [HE.out.2]
    have hd : (decide (n < 0) = true) ∨ (decide (n < 0) = false ∧ decide (65535 < n) = true) := by
      by_cases h : n < 0
      · exact .inl (decide_eq_true h)
      · exact .inr ⟨decide_eq_false h, decide_eq_true (by omega)⟩
    clear hn hg
    rcases hd with hd | ⟨hd, hd2⟩
    all_goals
      go_enter Tryz.func34, Tryz.ntmps34
      go_wp2_with fail
      refine (refOf_any v _ HS0.out.m HV.out).mono ?_
      rintro e w1 ⟨rfl, hb⟩
      rw [HE.out.1]
      go_wp2_with fail
      go_ret2
      exact ⟨rfl, Vl.btr HS0.out.l hb⟩

theorem refEntry_any (v : Vl.V) (n : Int) (w : World) (hM : Ky.Mx w) (hv : Ky.In v) :
    Calls Tryz.prog 34 #[.agg #[.int .i64 v.k, .int .i64 v.n, .float .f64 v.f, .string v.s], .int .i64 n] w fun e w' => e = .returned (.tuple #[.string (Ky.entB v n), .int .i64 (Ky.entE v n)]) ∧ Below w.heap.size w w' := by
  cases hg : Vl.goodB v.k v.n v.f v.s
  · have e : Ky.entB v n = ⟨#[]⟩ := by unfold Ky.entB; rw [hg]; rfl
    rw [e]; exact refEntry_no v n w hM hv (.inl hg)
  · by_cases hn : n < 0 ∨ 65535 < n
    · have e : Ky.entB v n = ⟨#[]⟩ := by unfold Ky.entB; rw [hg, if_pos rfl, if_pos hn]
      rw [e]; exact refEntry_no v n w hM hv (.inr ⟨hg, hn⟩)
    · obtain ⟨m, rfl⟩ : ∃ m : Nat, n = m := ⟨n.toNat, by omega⟩
      rw [Ky.entE_good (hv.good hg) (by omega : m < 65536)]
      exact refEntry_yes v m w hM (hv.good hg) (by omega)

set_option maxHeartbeats 1000000 in
theorem refLeast_any (v : Vl.V) (w : World) (hM : Ky.Mx w) (hv : Ky.In v) :
    Calls Tryz.prog 41 #[.agg #[.int .i64 v.k, .int .i64 v.n, .float .f64 v.f, .string v.s]] w fun e w' => e = .returned (.tuple #[.string (Ky.entB v 0), .int .i64 (Ky.entE v 0)]) ∧ Below w.heap.size w w' := by
  have HS0 := Vl.hid (Ky.St1.start w v hM)
  have HV := Vl.hid hv
  clear hM hv
  obtain ⟨p0, p1, p2, p3⟩ := HS0.out.a.four
  go_enter Tryz.func41, Tryz.ntmps41
  go_wp2_with fail
  refine (refEntry_any v 0 _ HS0.out.m HV.out).mono ?_
  rintro e w1 ⟨rfl, hb⟩
  go_wp2_with fail
  go_ret2
  exact ⟨rfl, Vl.btr HS0.out.l hb⟩

set_option maxHeartbeats 1000000 in
theorem refAfter_any (v : Vl.V) (w : World) (hM : Ky.Mx w) (hv : Ky.In v) :
    Calls Tryz.prog 42 #[.agg #[.int .i64 v.k, .int .i64 v.n, .float .f64 v.f, .string v.s]] w fun e w' => e = .returned (.tuple #[.string (Ky.aftB v), .int .i64 (Ky.ofE v)]) ∧ Below w.heap.size w w' := by
  have HS0 := Vl.hid (Ky.St1.start w v hM)
  have HV := Vl.hid hv
  clear hM hv
  obtain ⟨p0, p1, p2, p3⟩ := HS0.out.a.four
  cases hg : Vl.goodB v.k v.n v.f v.s
  · have HE : Hid (Ky.entE v 65535 = 11) := Vl.hid (by unfold Ky.entE; rw [hg]; rfl)
    have e1 : Ky.aftB v = ⟨#[]⟩ := by unfold Ky.aftB; rw [hg]; rfl
    have e2 : Ky.ofE v = 11 := by unfold Ky.ofE; rw [hg]; rfl
    rw [e1, e2]
    clear e1 e2 hg
    go_enter Tryz.func42, Tryz.ntmps42
    go_wp2_with fail
    refine (refEntry_any v 65535 _ HS0.out.m HV.out).mono ?_
    rintro e w1 ⟨rfl, hb⟩
    rw [HE.out]
    go_wp2_with fail
    go_ret2
    exact ⟨rfl, Vl.btr HS0.out.l hb⟩
  · have hG := HV.out.good hg
    have HE : Hid (Ky.entE v 65535 = 0) := Vl.hid (Ky.entE_good (m := 65535) hG (by omega))
    have hl : (Ky.entB v 65535).size ≤ 50000 := Ky.entB_size (n := 65535) hG (by omega)
    have e1 : Ky.aftB v = Ky.entB v 65535 ++ ⟨#[0]⟩ := by unfold Ky.aftB; rw [hg]; rfl
    have e2 : Ky.ofE v = 0 := by unfold Ky.ofE; rw [hg]; rfl
    rw [e1, e2]
    clear e1 e2 hg hG
    go_enter Tryz.func42, Tryz.ntmps42
    go_wp2_with fail
    refine (refEntry_any v 65535 _ HS0.out.m HV.out).mono ?_
    rintro e w1 ⟨rfl, hb⟩
    rw [HE.out]
    go_wp2_with fail
    go_ret2
    exact ⟨rfl, Vl.btr HS0.out.l hb⟩

end Go.Proofs.YtjnaafgiokdcbaaGreatDoor
