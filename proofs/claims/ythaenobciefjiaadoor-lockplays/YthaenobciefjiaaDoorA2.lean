/- A table of locks in memory. -/
import Derived.Test.YthaenobciefjiaaDoorA1
import Derived.Test.YthaenobciefjiaaDoorJ1
import Derived.Deep.QuietTactic
import Derived.BigQuiet
namespace Go.Proofs.YthaenobciefjiaaDoor
open Go.RowKit Go.Maps

namespace Lk
abbrev Bytes := List UInt8
/-- What a table says: who has what; who has anything; who waits for what; the queues. -/
structure St where
  set : Int → Bytes → Nat
  hol : Int → Bool
  want : Int → Option (Bytes × Int)
  q : Bytes → List Int
/-- What a block of a table's is for. -/
inductive Lb
  | s | w | q | p
  | i (h : Int)
  | g (nm : Bytes)
def iK (h : Int) : Lit := .int .i64 h
def sK (nm : Bytes) : Lit := .string nm
abbrev str (nm : Bytes) : Value := .string ⟨nm.toArray⟩
abbrev reqV (r : Bytes × Int) : Value := .agg #[.string ⟨r.1.toArray⟩, .int .i64 r.2]
theorem iK_inj : ∀ x y : Int, iK x = iK y → x = y := fun _ _ h => by injection h
theorem sK_inj : ∀ x y : Bytes, sK x = sK y → x = y := fun _ _ h => by injection h
theorem keyI : Keyed Tryd.prog 3 := int_keyed Tryd.underlying3
theorem keyS : Keyed Tryd.prog 9 := string_keyed Tryd.underlying9
/-- A number that is one. -/
def wfI (h : Int) : Prop := -9223372036854775808 ≤ h ∧ h ≤ 9223372036854775807
theorem key_i {h : Int} (hw : wfI h) : keyOf Tryd.prog 3 (.int .i64 h) = some (iK h) := keyOf_int_mk Tryd.underlying3 (WalkArith.wf_i64 hw)
theorem key_s {nm : Bytes} (hl : nm.length ≤ maxLen) : keyOf Tryd.prog 9 (str nm) = some (sK nm) := WideMaps.keyOf_string_mk Tryd.underlying9 (by simpa [ByteArray.size] using hl)

structure Tb (w : World) (tag : Nat → Option Lb) (p N : Nat) (s : St) (bs bw bq : Nat) (bi : Int → Nat) (sl : Bytes → Value) : Prop where
  cell : w.heap[p]? = some (.cells #[.map (some bs), .map (some bw), .map (some bq)] 61 (0, 0))
  tp : tag p = some .p
  ts : tag bs = some .s
  tw : tag bw = some .w
  tq : tag bq = some .q
  ti : ∀ h, s.hol h = true → tag (bi h) = some (.i h)
  top : ∀ b, w.heap.size ≤ b → tag b = none
  sets : Mp.Fn w Tryd.prog 3 iK bs N (fun h => if s.hol h then some (.map (some (bi h))) else none)
  inner : ∀ h, s.hol h = true → Mp.Fn w Tryd.prog 9 sK (bi h) N (fun nm => if s.set h nm = 0 then none else some (.int .i64 (s.set h nm)))
  wants : Mp.Fn w Tryd.prog 3 iK bw N (fun h => (s.want h).map reqV)
  queues : Mp.Fn w Tryd.prog 9 sK bq N (fun nm => if s.q nm = [] then none else some (sl nm))
  rows : ∀ nm, s.q nm ≠ [] → w.ownsRow 0 3 1 (sl nm) (s.q nm).length ((s.q nm).map (Value.int .i64)) ∧ ∀ g, (sl nm).ownBlock = some g → tag g = some (.g nm)
  lo : ∀ h nm, s.set h nm < 512
  nh : ∀ h nm, s.hol h = false → s.set h nm = 0
  qn : ∀ nm, (s.q nm).length ≤ N
  hw : ∀ h, s.hol h = true → wfI h
  qw : ∀ nm h, h ∈ s.q nm → wfI h

variable {w : World} {tag : Nat → Option Lb} {p N : Nat} {s : St} {bs bw bq : Nat} {bi : Int → Nat} {sl : Bytes → Value}

theorem Tb.c0 (h : Tb w tag p N s bs bw bq bi sl) : w.cell? ⟨p, 0, none⟩ = some (.map (some bs)) := by simp [World.cell?, h.cell]
theorem Tb.c1 (h : Tb w tag p N s bs bw bq bi sl) : w.cell? ⟨p, 1, none⟩ = some (.map (some bw)) := by simp [World.cell?, h.cell]
theorem Tb.c2 (h : Tb w tag p N s bs bw bq bi sl) : w.cell? ⟨p, 2, none⟩ = some (.map (some bq)) := by simp [World.cell?, h.cell]

/-- The blocks of a table as they were: the table is. -/
theorem Tb.kept (h : Tb w tag p N s bs bw bq bi sl) {w' : World} (hz : w.heap.size ≤ w'.heap.size) (hk : ∀ b, b < w.heap.size → tag b ≠ none → w'.heap[b]? = w.heap[b]?) : Tb w' tag p N s bs bw bq bi sl := by
  have k : ∀ b l, b < w.heap.size → tag b = some l → w'.heap[b]? = w.heap[b]? := fun b l h1 h2 => hk b h1 (by rw [h2]; exact fun e => nomatch e)
  have hp : p < w.heap.size := (Array.getElem?_eq_some_iff.1 h.cell).1
  refine ⟨(k p _ hp h.tp).trans h.cell, h.tp, h.ts, h.tw, h.tq, h.ti, fun b hb => h.top b (Nat.le_trans hz hb), h.sets.kept (k _ _ h.sets.lt h.ts), fun x hx => (h.inner x hx).kept (k _ _ (h.inner x hx).lt (h.ti x hx)), h.wants.kept (k _ _ h.wants.lt h.tw), h.queues.kept (k _ _ h.queues.lt h.tq), fun nm hn => ?_, h.lo, h.nh, h.qn, h.hw, h.qw⟩
  obtain ⟨⟨h1, h2⟩, h3⟩ := h.rows nm hn
  refine ⟨⟨h1, ?_⟩, h3⟩
  rcases h2 with h2 | ⟨g, cap, cur, e, hb, hg, r⟩
  · exact Or.inl h2
  · have hlt : g < w.heap.size := (Array.getElem?_eq_some_iff.1 hg).1
    exact Or.inr ⟨g, cap, cur, e, hb, (k g _ hlt (h3 g (by rw [e]; rfl))).trans hg, r⟩
theorem Tb.below (h : Tb w tag p N s bs bw bq bi sl) {w' : World} (hb : Below w.heap.size w w') : Tb w' tag p N s bs bw bq bi sl := h.kept hb.size (fun b hlt _ => hb.block b hlt)

/-- What a look-up gives. -/
theorem Tb.lookS (h : Tb w tag p N s bs bw bq bi sl) {x : Int} (hx : wfI x) : (Instr.lookup 57 (.map (some bs)) (.int .i64 x) false).run Tryd.prog w = .ok (if s.hol x then .map (some (bi x)) else .map none) w := by
  have := h.sets.look false keyI Tryd.underlying57 (z := .map none) (by kernel_rfl) (key_i hx)
  rw [this]; cases s.hol x <;> rfl
theorem Tb.lookI (h : Tb w tag p N s bs bw bq bi sl) {x : Int} (hh : s.hol x = true) {nm : Bytes} (hl : nm.length ≤ maxLen) : (Instr.lookup 75 (.map (some (bi x))) (str nm) false).run Tryd.prog w = .ok (.int .i64 (s.set x nm)) w := by
  have := (h.inner x hh).look false keyS Tryd.underlying75 (z := .int .i64 0) (by kernel_rfl) (key_s hl)
  rw [this]
  by_cases e : s.set x nm = 0
  · simp [e]
  · simp [e]
theorem lookN (w : World) {nm : Bytes} (hl : nm.length ≤ maxLen) : (Instr.lookup 75 (.map none) (str nm) false).run Tryd.prog w = .ok (.int .i64 0) w :=
  Mp.look_none false keyS Tryd.underlying75 (z := .int .i64 0) (by kernel_rfl) (key_s hl)
theorem Tb.lookW (h : Tb w tag p N s bs bw bq bi sl) {x : Int} (hx : wfI x) : (Instr.lookup 58 (.map (some bw)) (.int .i64 x) true).run Tryd.prog w = .ok (.tuple #[((s.want x).map reqV).getD (.agg #[.string ⟨#[]⟩, .int .i64 0]), .bool (s.want x).isSome]) w := by
  have := h.wants.look true keyI Tryd.underlying58 (z := .agg #[.string ⟨#[]⟩, .int .i64 0]) (by kernel_rfl) (key_i hx)
  rw [this]; cases s.want x <;> rfl
theorem Tb.lookW' (h : Tb w tag p N s bs bw bq bi sl) {x : Int} (hx : wfI x) : (Instr.lookup 58 (.map (some bw)) (.int .i64 x) false).run Tryd.prog w = .ok (((s.want x).map reqV).getD (.agg #[.string ⟨#[]⟩, .int .i64 0])) w := by
  have := h.wants.look false keyI Tryd.underlying58 (z := .agg #[.string ⟨#[]⟩, .int .i64 0]) (by kernel_rfl) (key_i hx)
  rw [this]; rfl
theorem Tb.lookQ (h : Tb w tag p N s bs bw bq bi sl) {nm : Bytes} (hl : nm.length ≤ maxLen) : (Instr.lookup 59 (.map (some bq)) (str nm) false).run Tryd.prog w = .ok (if s.q nm = [] then .slice none 0 0 else sl nm) w := by
  have := h.queues.look false keyS Tryd.underlying59 (z := .slice none 0 0) (by kernel_rfl) (key_s hl)
  rw [this]
  by_cases e : s.q nm = []
  · simp [e]
  · simp [e]
end Lk

set_option maxHeartbeats 400000 in
theorem isHolder_any (m : Int) (w : World) :
    Calls Tryd.prog 29 #[.int .i64 m] w fun e w' => e = .returned (.bool (decide (1 ≤ m) && decide (m ≤ 200))) ∧ w' = w := by
  cases h : decide (1 ≤ m)
  all_goals
    go_enter Tryd.func29, Tryd.ntmps29
    go_wp2
    go_ret
    exact ⟨rfl, rfl⟩

set_option maxHeartbeats 400000 in
theorem isMode_any (m : Int) (w : World) :
    Calls Tryd.prog 30 #[.int .i64 m] w fun e w' => e = .returned (.bool (Md.isB m)) ∧ w' = w := by
  cases h : decide (1 ≤ m)
  all_goals
    go_enter Tryd.func30, Tryd.ntmps30
    go_wp2
    go_ret
    exact ⟨by unfold Md.isB; rw [h]; rfl, rfl⟩

set_option maxHeartbeats 400000 in
theorem modes_any (w : World) (tag : Nat → Option Lk.Lb) (p N : Nat) (s : Lk.St) (bs bw bq : Nat) (bi : Int → Nat) (sl : Lk.Bytes → Value) (x : Int) (nm : Lk.Bytes) (hT : Hid (Lk.Tb w tag p N s bs bw bq bi sl)) (hx : Lk.wfI x) (hl : nm.length ≤ maxLen) :
    Calls Tryd.prog 19 #[.pointer (some ⟨p, 0, none⟩), .int .i64 x, Lk.str nm] w fun e w' => e = .returned (.int .i64 (s.set x nm)) ∧ w' = w := by
  have c0 := hT.out.c0
  have hS := hT.out.lookS hx
  cases hh : s.hol x
  · have hI := Lk.lookN w hl
    have HN := Mp.hid (hT.out.nh x nm hh)
    rw [hh] at hS
    simp only [Bool.false_eq_true, if_false] at hS
    clear hh
    go_enter Tryd.func19, Tryd.ntmps19
    go_wp2
    go_ret
    rw [HN.out]
    exact ⟨rfl, rfl⟩
  · have hI := hT.out.lookI hh hl
    rw [hh] at hS
    simp only [if_true] at hS
    clear hh
    go_enter Tryd.func19, Tryd.ntmps19
    go_wp2
    go_ret
    exact ⟨rfl, rfl⟩

set_option maxHeartbeats 400000 in
theorem modes_nil (w : World) (x : Int) (nm : Value) :
    Calls Tryd.prog 19 #[.pointer none, .int .i64 x, nm] w fun e w' => e = .returned (.int .i64 0) ∧ w' = w := by
  go_enter Tryd.func19, Tryd.ntmps19
  go_wp2
  go_ret
  exact ⟨rfl, rfl⟩

end Go.Proofs.YthaenobciefjiaaDoor
