/- New, give walked. -/
import Derived.Test.YthaenobciefjiaaDoorA3
namespace Go.Proofs.YthaenobciefjiaaDoor
open Go.RowKit Go.Maps Go.ChangeMaps Go.MapKept

namespace Lk
theorem or_eq (s k : Nat) (hs : s < 512) (hk : k < 512) : bits .or .i64 (s : Int) (k : Int) = ((s ||| k : Nat) : Int) := by
  have e1 : (BitVec.ofInt 64 (s : Int)).toNat = s := by rw [BitVec.toNat_ofInt]; omega
  have e2 : (BitVec.ofInt 64 (k : Int)).toNat = k := by rw [BitVec.toNat_ofInt]; omega
  have e3 : (BitVec.ofInt 64 (s : Int) ||| BitVec.ofInt 64 (k : Int)).toNat = s ||| k := by rw [BitVec.toNat_or, e1, e2]
  have e4 : s ||| k < 512 := Nat.or_lt_two_pow (n := 9) hs hk
  show IntKind.i64.wrap (((BitVec.ofInt 64 (s : Int) ||| BitVec.ofInt 64 (k : Int)).toNat : Nat) : Int) = _
  rw [e3, IntKind.wrap_i64]
  omega
/-- The set that a mode is, alone. -/
def bit (m : Int) : Nat := 2 ^ m.toNat
def st0 : St := ⟨fun _ _ => 0, fun _ => false, fun _ => none, fun _ => []⟩
def tag0 (n : Nat) : Nat → Option Lb := fun b => if b = n then some .s else if b = n + 1 then some .w else if b = n + 2 then some .q else if b = n + 3 then some .p else none
theorem Tb.new (w : World) : Tb ((((w.alloc (.map #[] 0)).alloc (.map #[] 0)).alloc (.map #[] 0)).alloc (.cells #[.map (some w.heap.size), .map (some (w.heap.size + 1)), .map (some (w.heap.size + 2))] 61))
    (tag0 w.heap.size) (w.heap.size + 3) 0 st0 w.heap.size (w.heap.size + 1) (w.heap.size + 2) (fun _ => 0) (fun _ => .slice none 0 0) := by
  have m1 := Mp.Fn.made (α := Int) w Tryd.prog 3 iK
  have m2 := Mp.Fn.made (α := Int) (w.alloc (.map #[] 0)) Tryd.prog 3 iK
  have m3 := Mp.Fn.made (α := Bytes) ((w.alloc (.map #[] 0)).alloc (.map #[] 0)) Tryd.prog 9 sK
  simp only [World.size_alloc] at m2 m3
  have k : ∀ (u : World) (o : Obj) (b : Nat), b < u.heap.size → (u.alloc o).heap[b]? = u.heap[b]? := fun u o b hb => Below.heap_alloc u o b hb
  refine ⟨?_, by simp [tag0], by simp [tag0], by simp [tag0], by simp [tag0], (fun _ hh => nomatch hh), fun b hb => ?_, ?_, (fun _ hh => nomatch hh), ?_, ?_, fun nm hn => absurd rfl hn, fun _ _ => by show 0 < 512; omega, fun _ _ _ => rfl, fun _ => Nat.le_refl _, (fun _ hh => nomatch hh), (fun _ _ hh => nomatch hh)⟩
  · have := (MapKept.heap_alloc (((w.alloc (.map #[] 0)).alloc (.map #[] 0)).alloc (.map #[] 0)) (.cells #[.map (some w.heap.size), .map (some (w.heap.size + 1)), .map (some (w.heap.size + 2))] 61)).1
    simpa using this
  · simp only [World.size_alloc] at hb
    simp only [tag0]
    rw [if_neg (by omega), if_neg (by omega), if_neg (by omega), if_neg (by omega)]
  · exact (m1.kept (by rw [k _ _ _ (by simp only [World.size_alloc]; omega), k _ _ _ (by simp only [World.size_alloc]; omega), k _ _ _ (by simp only [World.size_alloc]; omega)])).ext (fun _ _ => rfl)
  · exact (m2.kept (by rw [k _ _ _ (by simp only [World.size_alloc]; omega), k _ _ _ (by simp only [World.size_alloc]; omega)])).ext (fun _ _ => rfl)
  · exact (m3.kept (k _ _ _ (by simp))).ext (fun _ _ => rfl)
theorem eq_nil (w : World) : (binOp .eql 75 (.map none) (.map none)).run Tryd.prog w = .ok (.bool true) w := by kernel_rfl
theorem eq_not (b : Nat) (w : World) : (binOp .eql 75 (.map (some b)) (.map none)).run Tryd.prog w = .ok (.bool false) w := by kernel_rfl
theorem apart0 {w : World} {tag : Nat → Option Lb} {b : Nat} {l : Lb} (h : ∀ b, w.heap.size ≤ b → tag b = none) (hb : tag b = some l) : w.heap.size ≠ b := fun e => by rw [h b (by omega)] at hb; cases hb
theorem box_turned {w W : World} {a b : Value} {t : TypeId} {o : Obj} {c : Nat} (h : ((w.alloc (.cells #[a, b] t)).alloc o).mapTurned W c) (hne : w.heap.size ≠ c) : W.cell? ⟨w.heap.size, 0, none⟩ = some a ∧ W.cell? ⟨w.heap.size, 1, none⟩ = some b := by
  obtain ⟨h1, h2, -⟩ := Mp.turned_block h
  have e := (h2 _ hne).trans (Below.heap_alloc (w.alloc (.cells #[a, b] t)) o w.heap.size (by simp))
  have e2 := e.trans (MapKept.heap_alloc w _).1
  simp [World.cell?, e2]
theorem cells_turned {w W : World} {a c : Nat} (h : w.mapTurned W c) (hne : a ≠ c) : W.cell? ⟨a, 0, none⟩ = w.cell? ⟨a, 0, none⟩ ∧ W.cell? ⟨a, 1, none⟩ = w.cell? ⟨a, 1, none⟩ := by
  obtain ⟨h1, h2, -⟩ := Mp.turned_block h
  exact ⟨World.cell?_of_block (a := ⟨a, 0, none⟩) (h2 a hne), World.cell?_of_block (a := ⟨a, 1, none⟩) (h2 a hne)⟩
theorem box_new (w : World) (a b : Value) (t : TypeId) : (w.alloc (.cells #[a, b] t)).cell? ⟨w.heap.size, 0, none⟩ = some a ∧ (w.alloc (.cells #[a, b] t)).cell? ⟨w.heap.size, 1, none⟩ = some b := by
  have e2 := (MapKept.heap_alloc w (.cells #[a, b] t)).1
  unfold World.cell?
  simp only [e2]
  exact ⟨rfl, rfl⟩
theorem holS_same {s : St} {x : Int} (h : s.hol x = true) : holS s x = s := by
  unfold holS
  have : (fun y => if y = x then true else s.hol y) = s.hol := by
    funext y
    by_cases e : y = x
    · rw [if_pos e, e, h]
    · rw [if_neg e]
  rw [this]
theorem bit_lt {m : Int} (h : 1 ≤ m ∧ m ≤ 8) : 0 < bit m ∧ bit m < 512 := by
  have : m = 1 ∨ m = 2 ∨ m = 3 ∨ m = 4 ∨ m = 5 ∨ m = 6 ∨ m = 7 ∨ m = 8 := by omega
  rcases this with rfl | rfl | rfl | rfl | rfl | rfl | rfl | rfl <;> decide
theorem shl_run {m : Int} (h : 1 ≤ m ∧ m ≤ 8) (w : World) : (Op.shift BinOp.shl IntKind.i64 1 IntKind.i64 m).run Tryd.prog w = .ok (.int .i64 (bit m)) w := by
  have : m = 1 ∨ m = 2 ∨ m = 3 ∨ m = 4 ∨ m = 5 ∨ m = 6 ∨ m = 7 ∨ m = 8 := by omega
  rcases this with rfl | rfl | rfl | rfl | rfl | rfl | rfl | rfl <;> rfl
end Lk

set_option maxHeartbeats 400000 in
theorem new_any (w : World) :
    Calls Tryd.prog 9 #[] w fun e w' => e = .returned (.pointer (some ⟨w.heap.size + 3, 0, none⟩)) ∧
      Lk.Tb w' (Lk.tag0 w.heap.size) (w.heap.size + 3) 0 Lk.st0 w.heap.size (w.heap.size + 1) (w.heap.size + 2) (fun _ => 0) (fun _ => .slice none 0 0) ∧ Below w.heap.size w w' := by
  have hmm := @run_makeMap Tryd.prog
  go_enter Tryd.func9, Tryd.ntmps9
  go_wp2
  go_ret
  exact ⟨rfl, Lk.Tb.new w, ((((Below.refl _ _).alloc (Nat.le_refl _) _).alloc (by simp) _).alloc (by simp; omega) _).alloc (by simp; omega) _⟩

set_option maxRecDepth 100000 in
set_option maxHeartbeats 2000000 in
theorem give_any (w : World) (tag : Nat → Option Lk.Lb) (p N : Nat) (s : Lk.St) (bs bw bq : Nat) (bi : Int → Nat) (sl : Lk.Bytes → Value) (x : Int) (nm : Lk.Bytes) (m : Int) (hT : Hid (Lk.Tb w tag p N s bs bw bq bi sl)) (hx : Lk.wfI x) (hl : nm.length ≤ maxLen) (hm : Hid (1 ≤ m ∧ m ≤ 8)) (hN : Hid (N + 2 < maxLen)) :
    Calls Tryd.prog 33 #[.pointer (some ⟨p, 0, none⟩), .int .i64 x, .agg #[Lk.str nm, .int .i64 m]] w fun e w' => e = .returned (.tuple #[]) ∧
      ∃ tag' bi', Lk.Tb w' tag' p (N + 2) (Lk.giveS (Lk.holS s x) x nm (s.set x nm ||| Lk.bit m)) bs bw bq bi' sl ∧ Lk.Ev tag tag' w w' := by
  have hmm := @run_makeMap Tryd.prog
  have HT1 := Mp.hid (hT.out.alloc (.cells #[Lk.str nm, .int .i64 m] 64))
  have c0 := HT1.out.c0
  have hS := HT1.out.lookS hx
  obtain ⟨w1, hw1⟩ : ∃ w1, w1 = w.alloc (.cells #[Lk.str nm, .int .i64 m] 64) := ⟨_, rfl⟩
  cases hh : s.hol x
  · rw [hh] at hS
    simp only [Bool.false_eq_true, if_false] at hS
    have HF := Mp.hid hh
    have hEq := Lk.eq_nil
    clear hh hw1 w1
    go_enter Tryd.func33, Tryd.ntmps33
    go_wp2_with (first | (at_mapUpdate; refine Mp.wpList_update _ rfl _ _ _ 57 rfl 3 75 Lk.iK_inj Lk.keyI Tryd.underlying57 bs N _ rfl (HT1.out.alloc _).sets (by have := hN.out; omega) (.int .i64 x) (.map (some (w.heap.size + 1))) x rfl rfl (Lk.key_i hx) ?_; intro W hF2 hM2))
    have hne : w.heap.size ≠ bs := Lk.apart0 hT.out.top hT.out.ts
    obtain ⟨hTW, hEW⟩ := HT1.out.putHol hx HF.out hM2 (by simpa using hF2)
    obtain ⟨bI, hbI⟩ : ∃ bI, bI = (fun y => if y = x then (w.alloc (.cells #[Lk.str nm, .int .i64 m] 64)).heap.size else bi y) := ⟨_, rfl⟩
    obtain ⟨tg, htg⟩ : ∃ tg, tg = (fun b => if b = (w.alloc (.cells #[Lk.str nm, .int .i64 m] 64)).heap.size then some (Lk.Lb.i x) else tag b) := ⟨_, rfl⟩
    rw [← hbI, ← htg] at hTW
    rw [← htg] at hEW
    have HTW := Mp.hid hTW
    have HEW := Mp.hid ((Lk.Ev.below ((Below.refl _ _).alloc (Nat.le_refl _) _)).trans hEW)
    have HNB : Hid (w.heap.size ≠ bI x) := Mp.hid (by rw [hbI]; simp)
    have HHW : Hid ((Lk.holS s x).hol x = true) := Mp.hid (by simp [Lk.holS])
    have HSW : Hid ((Lk.holS s x).set x nm = s.set x nm) := Mp.hid rfl
    have HCW : Hid (W.cell? ⟨w.heap.size, 0, none⟩ = some (Lk.str nm) ∧ W.cell? ⟨w.heap.size, 1, none⟩ = some (.int .i64 m)) := Mp.hid (Lk.box_turned hM2 hne)
    clear hbI htg hTW hEW hF2 hM2 c0 hS HT1 hmm hEq
    have HB := Mp.hid (HTW.out.inner x HHW.out)
    have HL := Mp.hid (HTW.out.lo x nm)
    have HS0 := HSW.out
    have dS := HTW.out.drew.lookS hx
    rw [HHW.out] at dS
    simp only [if_true] at dS
    have dI := HTW.out.drew.lookI HHW.out hl
    rw [HS0] at dI
    have HLS := Mp.hid dS
    have HLI := Mp.hid dI
    clear HS0 dS dI
    have hsh := Lk.shl_run hm.out
    have hor := Lk.or_eq (s.set x nm) (Lk.bit m) (hT.out.lo x nm) (Lk.bit_lt hm.out).2
    obtain ⟨w3, hr3, hF3, hM3⟩ := (HB.out.kept (w' := W.drew) rfl).store Lk.sK_inj Lk.keyS Tryd.underlying75 (Nat.lt_of_lt_of_le (Nat.lt_succ_self _) (Nat.le_of_lt hN.out)) (Lk.key_s hl) (.int .i64 ((s.set x nm ||| Lk.bit m : Nat) : Int))
    have HF3 := Mp.hid hF3
    have HM3 := Mp.hid hM3
    clear hF3 hM3
    have HT3 := Mp.hid (HTW.out.drew.putSet HHW.out HM3.out (Nat.lt_of_lt_of_le (Lk.bit_lt hm.out).1 Nat.right_le_or) (Nat.or_lt_two_pow (n := 9) (hT.out.lo x nm) (Lk.bit_lt hm.out).2) HF3.out)
    have HL3 := Mp.hid (HT3.out.lookS hx)
    have HK3 : Hid (w3.cell? ⟨p, 0, none⟩ = some (.map (some bs)) ∧ w3.cell? ⟨w.heap.size, 0, none⟩ = some (Lk.str nm) ∧ w3.cell? ⟨w.heap.size, 1, none⟩ = some (.int .i64 m) ∧ (Instr.lookup 57 (.map (some bs)) (.int .i64 x) false).run Tryd.prog w3 = .ok (.map (some (bI x))) w3) := Mp.hid (by
      obtain ⟨e1, e2⟩ := Lk.cells_turned HM3.out HNB.out
      refine ⟨HT3.out.c0, e1.trans HCW.out.1, e2.trans HCW.out.2, ?_⟩
      have := HL3.out
      rw [show (Lk.giveS (Lk.holS s x) x nm (s.set x nm ||| Lk.bit m)).hol x = true from HHW.out] at this
      exact this)
    have d4 := HLI.out
    go_region_held3 (fun w' => w'.cell? ⟨p, 0, none⟩ = some (.map (some bs)) ∧ w'.cell? ⟨w.heap.size, 0, none⟩ = some (Lk.str nm) ∧ w'.cell? ⟨w.heap.size, 1, none⟩ = some (.int .i64 m) ∧ (Instr.lookup 57 (.map (some bs)) (.int .i64 x) false).run Tryd.prog w' = .ok (.map (some (bI x))) w')
      (first | (with_reducible exact HK3.out) | exact ⟨HTW.out.drew.c0, HCW.out.1, HCW.out.2, HLS.out⟩)
      (fail)
    go_wp2
    go_end0
    exact ⟨rfl, tg, bI, HT3.out, HEW.out.trans ((Lk.Ev.refl _ _).drew.trans (Lk.Ev.turned HM3.out (HTW.out.ti x HHW.out)))⟩
  · rw [hh] at hS
    simp only [if_true] at hS
    have hEq := Lk.eq_not
    have hTW := HT1.out.mono (Nat.le_succ N)
    rw [← Lk.holS_same hh] at hTW
    have HHW : Hid ((Lk.holS s x).hol x = true) := Mp.hid (by simp [Lk.holS])
    have HSW : Hid ((Lk.holS s x).set x nm = s.set x nm) := Mp.hid rfl
    obtain ⟨bI, hbI⟩ : ∃ bI, bI = bi := ⟨_, rfl⟩
    obtain ⟨tg, htg⟩ : ∃ tg, tg = tag := ⟨_, rfl⟩
    rw [← htg, ← hbI] at hTW
    have HNB : Hid (w.heap.size ≠ bI x) := Mp.hid (by rw [hbI]; exact Lk.apart0 hT.out.top (hT.out.ti x hh))
    rw [← hbI] at hS
    go_enter Tryd.func33, Tryd.ntmps33
    go_wp2
    have HCW0 := Lk.box_new w (Lk.str nm) (.int .i64 m) 64
    have HEW0 : Lk.Ev tag tg w (w.alloc (.cells #[Lk.str nm, .int .i64 m] 64)) := by rw [htg]; exact Lk.Ev.below ((Below.refl _ _).alloc (Nat.le_refl _) _)
    clear hEq hS c0 HT1 hmm hbI htg hh hw1 w1
    generalize w.alloc (.cells #[Lk.str nm, .int .i64 m] 64) = W at hTW HCW0 HEW0 ⊢
    have HTW := Mp.hid hTW
    have HEW := Mp.hid HEW0
    have HCW := Mp.hid HCW0
    clear hTW HCW0 HEW0
    have HB := Mp.hid (HTW.out.inner x HHW.out)
    have HL := Mp.hid (HTW.out.lo x nm)
    have HS0 := HSW.out
    have dS := HTW.out.drew.lookS hx
    rw [HHW.out] at dS
    simp only [if_true] at dS
    have dI := HTW.out.drew.lookI HHW.out hl
    rw [HS0] at dI
    have HLS := Mp.hid dS
    have HLI := Mp.hid dI
    clear HS0 dS dI
    have hsh := Lk.shl_run hm.out
    have hor := Lk.or_eq (s.set x nm) (Lk.bit m) (hT.out.lo x nm) (Lk.bit_lt hm.out).2
    obtain ⟨w3, hr3, hF3, hM3⟩ := (HB.out.kept (w' := W.drew) rfl).store Lk.sK_inj Lk.keyS Tryd.underlying75 (Nat.lt_of_lt_of_le (Nat.lt_succ_self _) (Nat.le_of_lt hN.out)) (Lk.key_s hl) (.int .i64 ((s.set x nm ||| Lk.bit m : Nat) : Int))
    have HF3 := Mp.hid hF3
    have HM3 := Mp.hid hM3
    clear hF3 hM3
    have HT3 := Mp.hid (HTW.out.drew.putSet HHW.out HM3.out (Nat.lt_of_lt_of_le (Lk.bit_lt hm.out).1 Nat.right_le_or) (Nat.or_lt_two_pow (n := 9) (hT.out.lo x nm) (Lk.bit_lt hm.out).2) HF3.out)
    have HL3 := Mp.hid (HT3.out.lookS hx)
    have HK3 : Hid (w3.cell? ⟨p, 0, none⟩ = some (.map (some bs)) ∧ w3.cell? ⟨w.heap.size, 0, none⟩ = some (Lk.str nm) ∧ w3.cell? ⟨w.heap.size, 1, none⟩ = some (.int .i64 m) ∧ (Instr.lookup 57 (.map (some bs)) (.int .i64 x) false).run Tryd.prog w3 = .ok (.map (some (bI x))) w3) := Mp.hid (by
      obtain ⟨e1, e2⟩ := Lk.cells_turned HM3.out HNB.out
      refine ⟨HT3.out.c0, e1.trans HCW.out.1, e2.trans HCW.out.2, ?_⟩
      have := HL3.out
      rw [show (Lk.giveS (Lk.holS s x) x nm (s.set x nm ||| Lk.bit m)).hol x = true from HHW.out] at this
      exact this)
    have d4 := HLI.out
    go_region_held3 (fun w' => w'.cell? ⟨p, 0, none⟩ = some (.map (some bs)) ∧ w'.cell? ⟨w.heap.size, 0, none⟩ = some (Lk.str nm) ∧ w'.cell? ⟨w.heap.size, 1, none⟩ = some (.int .i64 m) ∧ (Instr.lookup 57 (.map (some bs)) (.int .i64 x) false).run Tryd.prog w' = .ok (.map (some (bI x))) w')
      (first | (with_reducible exact HK3.out) | exact ⟨HTW.out.drew.c0, HCW.out.1, HCW.out.2, HLS.out⟩)
      (fail)
    go_wp2
    go_end0
    exact ⟨rfl, tg, bI, HT3.out, HEW.out.trans ((Lk.Ev.refl _ _).drew.trans (Lk.Ev.turned HM3.out (HTW.out.ti x HHW.out)))⟩

end Go.Proofs.YthaenobciefjiaaDoor
