/- The reference's Of. -/
import Derived.Test.YtlafccdaplgfoaaDoorKBackLaw
namespace Go.Proofs.YtlafccdaplgfoaaDoor
open Go.RowKit
attribute [local go_sem] Fl.run_store_float Tryd.float64bits Tryd.float64frombits

theorem Ky.conv1 {P : Program} {T S B : TypeId} (hT : P.underlying T = some (.slice B)) (hB : P.underlying B = some (.int .u8)) (hS : P.underlying S = some .string) (W : World) (r : Nat) (x : UInt8) (h : W.cell? ⟨r, 0, none⟩ = some (.int .u8 (x.toNat : Int))) :
    (convert T S (.slice (some ⟨r, 0, none⟩) 1 1)).run P W = .ok (.string ⟨#[x]⟩) W := by
  have := run_convert_bytes_back (P := P) W T S B ⟨r, 0, none⟩ 1 [x] hT hB hS (fun j hj => by
    obtain rfl : j = 0 := by simp at hj; omega
    rw [Vl.add_plain]; exact h)
  exact this
theorem Ky.bitsN_lt {f : Nat} (hf : f < 18446744073709551616) : Fl.bitsN f < 18446744073709551616 := by
  have := Fl.canonN_lt hf
  unfold Fl.bitsN
  split <;> omega
theorem Ky.beA_size (u m : Nat) : (⟨(Vl.beL u m).toArray⟩ : ByteArray).size = m := by rw [Ky.size_list]; show (Vl.beL _ _).length = _; rw [Vl.beL_length]

set_option maxHeartbeats 1000000 in
theorem refOf_no (v : Vl.V) (w : World) (hM : Ky.Mx w) (hg : Vl.goodB v.k v.n v.f v.s = false) :
    Calls Tryd.prog 12 #[.agg #[.int .i64 v.k, .int .i64 v.n, .float .f64 v.f, .string v.s]] w fun e w' => e = .returned (.tuple #[.string ⟨#[]⟩, .int .i64 11]) ∧ Below w.heap.size w w' := by
  have HS0 := Vl.hid (Ky.St1.start w v hM)
  clear hM
  obtain ⟨p0, p1, p2, p3⟩ := HS0.out.a.four
  go_enter Tryd.func12, Tryd.ntmps12
  go_wp2_with fail
  refine (refGood_any v.k v.n v.f v.s _).mono ?_
  rintro e w1 ⟨rfl, hb⟩
  go_wp2_with fail
  go_ret2
  exact ⟨rfl, Vl.btr HS0.out.l hb⟩

set_option maxRecDepth 100000 in
set_option maxHeartbeats 2000000 in
theorem refOf_0 (n : Int) (f : Nat) (s : ByteArray) (w : World) (hM : Ky.Mx w) (hg : Vl.goodB 0 n f s = true) :
    Calls Tryd.prog 12 #[.agg #[.int .i64 0, .int .i64 n, .float .f64 f, .string s]] w fun e w' => e = .returned (.tuple #[.string (Ky.keyB ⟨0, n, f, s⟩), .int .i64 0]) ∧ Below w.heap.size w w' := by
  have hcv : ∀ (W : World) (r : Nat), W.cell? ⟨r, 0, none⟩ = some (.int .u8 0) → (convert 60 9 (.slice (some ⟨r, 0, none⟩) 1 1)).run Tryd.prog W = .ok (.string ⟨#[0]⟩) W := fun W r h => Ky.conv1 Tryd.underlying60 Tryd.underlying5 Tryd.underlying9 W r 0 h
  have HS0 := Vl.hid (Ky.St1.start w ⟨0, n, f, s⟩ hM)
  clear hM
  obtain ⟨p0, p1, p2, p3⟩ := HS0.out.a.four
  go_enter Tryd.func12, Tryd.ntmps12
  go_wp2_with fail
  refine (refGood_any 0 n f s _).mono ?_
  rintro e w1 ⟨rfl, hb⟩
  have HS1 := Vl.hid (HS0.out.step hb)
  clear hb HS0 p0 p1 p2 p3
  obtain ⟨p0, p1, p2, p3⟩ := HS1.out.a.four
  have z1 := HS1.out.a.lt
  go_wp2_with fail
  go_ret2
  exact ⟨rfl, (HS1.out.al _).l⟩

set_option maxRecDepth 100000 in
set_option maxHeartbeats 2000000 in
theorem refOf_1 (n : Int) (f : Nat) (s : ByteArray) (w : World) (hM : Ky.Mx w) (hg : Vl.goodB 1 n f s = true) :
    Calls Tryd.prog 12 #[.agg #[.int .i64 1, .int .i64 n, .float .f64 f, .string s]] w fun e w' => e = .returned (.tuple #[.string (Ky.keyB ⟨1, n, f, s⟩), .int .i64 0]) ∧ Below w.heap.size w w' := by
  have hn : n = 0 ∨ n = 1 := by
    have h := hg
    rw [Vl.goodB_1] at h
    unfold Vl.good1 at h
    simp at h
    exact h.1.1
  have HE : Hid ((⟨#[1]⟩ : ByteArray) ++ ⟨#[n.toNat.toUInt8]⟩ = Ky.keyB ⟨1, n, f, s⟩) := Vl.hid (Ky.ext_list (by
    rw [Ky.append_list, Ky.keyB_list]
    show _ = (1 : Int).toNat.toUInt8 :: Ky.bodyL ⟨1, n, f, s⟩
    rw [Ky.body_1 rfl]
    show _ = _ :: Vl.beL (Ky.uN n) 1
    rw [Ky.be1 (by omega) (by omega)]
    rfl))
  have HW8 : Hid (n % 256 = ((n.toNat.toUInt8.toNat : Nat) : Int)) := Vl.hid (by rcases hn with rfl | rfl <;> rfl)
  clear hn
  have hcv : ∀ (W : World) (r : Nat), W.cell? ⟨r, 0, none⟩ = some (.int .u8 1) → (convert 60 9 (.slice (some ⟨r, 0, none⟩) 1 1)).run Tryd.prog W = .ok (.string ⟨#[1]⟩) W := fun W r h => Ky.conv1 Tryd.underlying60 Tryd.underlying5 Tryd.underlying9 W r 1 h
  have hcn : ∀ (W : World) (r : Nat), W.cell? ⟨r, 0, none⟩ = some (.int .u8 (n % 256)) → (convert 60 9 (.slice (some ⟨r, 0, none⟩) 1 1)).run Tryd.prog W = .ok (.string ⟨#[n.toNat.toUInt8]⟩) W := fun W r h => Ky.conv1 Tryd.underlying60 Tryd.underlying5 Tryd.underlying9 W r _ (by rw [h, HW8.out])
  have HS0 := Vl.hid (Ky.St1.start w ⟨1, n, f, s⟩ hM)
  clear hM
  obtain ⟨p0, p1, p2, p3⟩ := HS0.out.a.four
  go_enter Tryd.func12, Tryd.ntmps12
  go_wp2_with fail
  refine (refGood_any 1 n f s _).mono ?_
  rintro e w1 ⟨rfl, hb⟩
  have HS1 := Vl.hid (HS0.out.step hb)
  clear hb HS0 p0 p1 p2 p3
  obtain ⟨p0, p1, p2, p3⟩ := HS1.out.a.four
  have z1 := HS1.out.a.lt
  go_wp2_with fail
  go_ret2
  exact ⟨by rw [← HE.out]; rfl, ((HS1.out.al _).al _).l⟩

set_option maxRecDepth 100000 in
set_option maxHeartbeats 2000000 in
theorem refOf_2 (n : Int) (f : Nat) (s : ByteArray) (w : World) (hM : Ky.Mx w) (hg : Vl.goodB 2 n f s = true) :
    Calls Tryd.prog 12 #[.agg #[.int .i64 2, .int .i64 n, .float .f64 f, .string s]] w fun e w' => e = .returned (.tuple #[.string (Ky.keyB ⟨2, n, f, s⟩), .int .i64 0]) ∧ Below w.heap.size w w' := by
  have hcv : ∀ (W : World) (r : Nat), W.cell? ⟨r, 0, none⟩ = some (.int .u8 2) → (convert 60 9 (.slice (some ⟨r, 0, none⟩) 1 1)).run Tryd.prog W = .ok (.string ⟨#[2]⟩) W := fun W r h => Ky.conv1 Tryd.underlying60 Tryd.underlying5 Tryd.underlying9 W r 2 h
  have HE : Hid ((⟨#[2]⟩ : ByteArray) ++ ⟨(Vl.beL (Ky.flipN (Ky.uN n)) 8).toArray⟩ = Ky.keyB ⟨2, n, f, s⟩) := Vl.hid (Ky.ext_list (by
    rw [Ky.append_list, Ky.keyB_list]
    show _ = (2 : Int).toNat.toUInt8 :: Ky.bodyL ⟨2, n, f, s⟩
    rw [Ky.body_2 rfl]
    rfl))
  have HS0 := Vl.hid (Ky.St1.start w ⟨2, n, f, s⟩ hM)
  clear hM
  obtain ⟨p0, p1, p2, p3⟩ := HS0.out.a.four
  go_enter Tryd.func12, Tryd.ntmps12
  go_wp2_with fail
  refine (refGood_any 2 n f s _).mono ?_
  rintro e w1 ⟨rfl, hb⟩
  have HS1 := Vl.hid (HS0.out.step hb)
  clear hb HS0 p0 p1 p2 p3
  obtain ⟨p0, p1, p2, p3⟩ := HS1.out.a.four
  have z1 := HS1.out.a.lt
  go_wp2_with fail
  rw [Ky.wrap_u64, Ky.flip_u64 _ (Ky.uN_lt n)]
  refine (eight_any _ _ (Ky.flipN_lt (Ky.uN_lt n))).mono ?_
  rintro e w2 ⟨rfl, hb2⟩
  have hl := Ky.beA_size (Ky.flipN (Ky.uN n)) 8
  go_wp2_with fail
  go_ret2
  exact ⟨by rw [← HE.out]; rfl, Vl.btr (HS1.out.al _).l hb2⟩

set_option maxRecDepth 100000 in
set_option maxHeartbeats 2000000 in
theorem refOf_3 (n : Int) (f : Nat) (s : ByteArray) (w : World) (hM : Ky.Mx w) (hg : Vl.goodB 3 n f s = true) (hf : f < 18446744073709551616) :
    Calls Tryd.prog 12 #[.agg #[.int .i64 3, .int .i64 n, .float .f64 f, .string s]] w fun e w' => e = .returned (.tuple #[.string (Ky.keyB ⟨3, n, f, s⟩), .int .i64 0]) ∧ Below w.heap.size w w' := by
  have hcv : ∀ (W : World) (r : Nat), W.cell? ⟨r, 0, none⟩ = some (.int .u8 3) → (convert 60 9 (.slice (some ⟨r, 0, none⟩) 1 1)).run Tryd.prog W = .ok (.string ⟨#[3]⟩) W := fun W r h => Ky.conv1 Tryd.underlying60 Tryd.underlying5 Tryd.underlying9 W r 3 h
  have HE : Hid ((⟨#[3]⟩ : ByteArray) ++ ⟨(Vl.beL (Fl.bitsN f) 8).toArray⟩ = Ky.keyB ⟨3, n, f, s⟩) := Vl.hid (Ky.ext_list (by
    rw [Ky.append_list, Ky.keyB_list]
    show _ = (3 : Int).toNat.toUInt8 :: Ky.bodyL ⟨3, n, f, s⟩
    rw [Ky.body_3 rfl]
    rfl))
  have HS0 := Vl.hid (Ky.St1.start w ⟨3, n, f, s⟩ hM)
  clear hM
  obtain ⟨p0, p1, p2, p3⟩ := HS0.out.a.four
  go_enter Tryd.func12, Tryd.ntmps12
  go_wp2_with fail
  refine (refGood_any 3 n f s _).mono ?_
  rintro e w1 ⟨rfl, hb⟩
  have HS1 := Vl.hid (HS0.out.step hb)
  clear hb HS0 p0 p1 p2 p3
  obtain ⟨p0, p1, p2, p3⟩ := HS1.out.a.four
  have z1 := HS1.out.a.lt
  go_wp2_with fail
  refine (refBits_any _ _ hf).mono ?_
  rintro e w2 ⟨rfl, hq⟩
  obtain rfl := hq.symm
  go_wp2_with fail
  refine (eight_any _ _ (Ky.bitsN_lt hf)).mono ?_
  rintro e w2 ⟨rfl, hb2⟩
  have hl := Ky.beA_size (Fl.bitsN f) 8
  go_wp2_with fail
  go_ret2
  exact ⟨by rw [← HE.out]; rfl, Vl.btr (HS1.out.al _).l hb2⟩

end Go.Proofs.YtlafccdaplgfoaaDoor
