/- Encode. -/
import Derived.Test.YtanljohnmaokeaaK3
import Derived.Test.YtanljohnmaokeaaE1
import Derived.Shelf.Abstract
namespace Go.Proofs.Ytanljohnmaokeaa
open Go.RowKit
attribute [local go_sem] Fl.run_store_float Try.float64bits Try.float64frombits Vl.run_store_func Vl.run_store_nilFunc
attribute [local go_sem ↓] Go.wp_at_zero Go.wp_at_succ

/-- What stands behind a kind's byte. -/
def Vl.body (k n : Int) (f : Nat) (s : ByteArray) : ByteArray :=
  if k = 0 then ⟨#[]⟩ else if k = 1 then ⟨(Vl.beL (Vl.u64N n) 1).toArray⟩ else if k = 2 then ⟨(Vl.beL (Vl.u64N n) 8).toArray⟩ else if k = 3 then ⟨(Vl.beL (Fl.bitsN f) 8).toArray⟩ else ⟨(Vl.beL s.size 2).toArray⟩ ++ s
def Vl.encS (k n : Int) (f : Nat) (s : ByteArray) : ByteArray := ⟨#[k.toNat.toUInt8]⟩ ++ Vl.body k n f s
theorem Vl.conv1 {P : Program} {T S B : TypeId} (hT : P.underlying T = some (.slice B)) (hB : P.underlying B = some (.int .u8)) (hS : P.underlying S = some .string) (W : World) (r : Nat) (x : UInt8) (h : W.cell? ⟨r, 0, none⟩ = some (.int .u8 (x.toNat : Int))) :
    (convert T S (.slice (some ⟨r, 0, none⟩) 1 1)).run P W = .ok (.string ⟨#[x]⟩) W := by
  have := run_convert_bytes_back (P := P) W T S B ⟨r, 0, none⟩ 1 [x] hT hB hS (fun j hj => by
    have e : j = 0 := by simp at hj; omega
    subst e
    rw [Vl.add_plain]; exact h)
  exact this
/-- What the loads read. -/
def Vl.S5 (b g h : Nat) (k n : Int) (f : Nat) (s : ByteArray) (w : World) : Prop :=
  w.cell? ⟨b, 1, none⟩ = some (.func (.func g) #[] #[]) ∧ w.cell? ⟨h, 0, none⟩ = some (.int .i64 k) ∧ w.cell? ⟨h, 1, none⟩ = some (.int .i64 n) ∧ w.cell? ⟨h, 2, none⟩ = some (.float .f64 f) ∧ w.cell? ⟨h, 3, none⟩ = some (.string s) ∧ b < w.heap.size ∧ h < w.heap.size
theorem Vl.S5.drew {b g h : Nat} {k n : Int} {f : Nat} {s : ByteArray} {w : World} (x : Vl.S5 b g h k n f s w) : Vl.S5 b g h k n f s w.drew := x
theorem Vl.S5.below {b g h : Nat} {k n : Int} {f : Nat} {s : ByteArray} {w w' : World} (x : Vl.S5 b g h k n f s w) (hb : Below w.heap.size w w') : Vl.S5 b g h k n f s w' := by
  obtain ⟨x1, x2, x3, x4, x5, x6, x7⟩ := x
  obtain ⟨hc, _⟩ := Vl.bcell hb
  exact ⟨by rw [hc _ _ x6]; exact x1, by rw [hc _ _ x7]; exact x2, by rw [hc _ _ x7]; exact x3, by rw [hc _ _ x7]; exact x4, by rw [hc _ _ x7]; exact x5, Nat.lt_of_lt_of_le x6 hb.size, Nat.lt_of_lt_of_le x7 hb.size⟩
theorem Vl.S5.alloc {b g h : Nat} {k n : Int} {f : Nat} {s : ByteArray} {w : World} (x : Vl.S5 b g h k n f s w) (o : Obj) : Vl.S5 b g h k n f s (w.alloc o) := x.below ((Below.refl _ _).alloc (Nat.le_refl _) o)
theorem Vl.newCell {w w' : World} (hb : Below w.heap.size w w') : ∀ r c, r < w.heap.size → w.cell? ⟨r, 0, none⟩ = some c → w'.cell? ⟨r, 0, none⟩ = some c := fun r c h hc => by rw [(Vl.bcell hb).1 _ _ h]; exact hc
theorem Vl.beA_size (u m : Nat) : (⟨(Vl.beL u m).toArray⟩ : ByteArray).size = m := by show (Vl.beL u m).toArray.size = m; simp [Vl.beL_length]


/-- A kind whose functions are known: good. -/
def Vl.GoodAt (P : Program) (g : Nat) (k n : Int) (f : Nat) (s : ByteArray) (b : Bool) : Prop := ∀ W, Calls P g #[.agg #[.int .i64 k, .int .i64 n, .float .f64 f, .string s]] W fun e w' => e = .returned (.bool b) ∧ Below W.heap.size W w'
def Vl.PutAt (P : Program) (g : Nat) (k n : Int) (f : Nat) (s : ByteArray) (bd : ByteArray) : Prop := ∀ W, Calls P g #[.agg #[.int .i64 k, .int .i64 n, .float .f64 f, .string s]] W fun e w' => e = .returned (.string bd) ∧ Below W.heap.size W w'
def Vl.Enters (P : Program) (g : Nat) : Prop := ∀ args w, (callFunc g args).run P w = .ok (.enter g args) w

set_option maxRecDepth 100000 in
set_option maxHeartbeats 4000000 in
theorem encode_yes (g pf tf : Nat) (k n : Int) (f : Nat) (s bd : ByteArray) (w : World) (eg : Vl.Enters Try.prog g) (ep : Vl.Enters Try.prog pf) (hk0 : 0 ≤ k) (hk4 : k ≤ 4) (hl : Vl.Look Try.prog k (.agg #[.func (.func g) #[] #[], .func (.func pf) #[] #[], .func (.func tf) #[] #[]]) true)
    (HG : Vl.GoodAt Try.prog g k n f s true) (HP : Vl.PutAt Try.prog pf k n f s bd) (hsz : bd.size ≤ 300) (kb : ByteArray) (hs1 : kb.size = 1)
    (hcv : ∀ (W : World) (r : Nat), W.cell? ⟨r, 0, none⟩ = some (.int .u8 (IntKind.u8.wrap k)) → (convert 74 9 (.slice (some ⟨r, 0, none⟩) 1 1)).run Try.prog W = .ok (.string kb) W) :
    Calls Try.prog 18 #[.agg #[.int .i64 k, .int .i64 n, .float .f64 f, .string s]] w fun e w' => e = .returned (.tuple #[.string (kb ++ bd), .int .i64 0]) ∧ Below w.heap.size w w' := by
  have eg' : ∀ args w, (callFunc g args).run Try.prog w = .ok (.enter g args) w := eg
  have ep' : ∀ args w, (callFunc pf args).run Try.prog w = .ok (.enter pf args) w := ep
  clear eg ep
  have h1 : ∀ A, (Instr.lookup 70 (.map (some (w.heap.size + 1))) (.int .i64 k) true).run Try.prog ((w.alloc A).alloc (.map Vl.kE5 5)).drew = .ok (.tuple #[.agg #[.func (.func g) #[] #[], .func (.func pf) #[] #[], .func (.func tf) #[] #[]], .bool true]) ((w.alloc A).alloc (.map Vl.kE5 5)).drew := fun A => hl _ _ (Vl.IsK.drew (Vl.IsK.made (by simp)))
  have h2 : ∀ A Z, (Instr.lookup 70 (.map (some (w.heap.size + 1))) (.int .i64 k) true).run Try.prog (((w.alloc A).alloc (.map Vl.kE5 5)).alloc Z).drew = .ok (.tuple #[.agg #[.func (.func g) #[] #[], .func (.func pf) #[] #[], .func (.func tf) #[] #[]], .bool true]) (((w.alloc A).alloc (.map Vl.kE5 5)).alloc Z).drew := fun A Z => hl _ _ (Vl.IsK.drew ((Vl.IsK.made (by simp)).alloc _))
  have h3 : ∀ A Z, (Instr.lookup 70 (.map (some (w.heap.size + 1 + 1))) (.int .i64 k) true).run Try.prog (((w.alloc A).alloc Z).alloc (.map Vl.kE5 5)).drew = .ok (.tuple #[.agg #[.func (.func g) #[] #[], .func (.func pf) #[] #[], .func (.func tf) #[] #[]], .bool true]) (((w.alloc A).alloc Z).alloc (.map Vl.kE5 5)).drew := fun A Z => hl _ _ (Vl.IsK.drew (Vl.IsK.made (by simp)))
  clear hl
  go_enter Try.func18, Try.ntmps18
  go_upto_region 1 with fail
  go_cut [4, 5] (fun p t wc => ∃ b, p = .pointer (some ⟨b, 0, none⟩) ∧ t = .bool true ∧ wc.cell? ⟨b, 0, none⟩ = some (.func (.func g) #[] #[]) ∧ wc.cell? ⟨b, 1, none⟩ = some (.func (.func pf) #[] #[]) ∧ wc.cell? ⟨b, 2, none⟩ = some (.func (.func tf) #[] #[]) ∧ wc.cell? ⟨w.heap.size, 0, none⟩ = some (.int .i64 k) ∧ wc.cell? ⟨w.heap.size, 1, none⟩ = some (.int .i64 n) ∧ wc.cell? ⟨w.heap.size, 2, none⟩ = some (.float .f64 f) ∧ wc.cell? ⟨w.heap.size, 3, none⟩ = some (.string s) ∧ Hid (b < wc.heap.size) ∧ Hid (w.heap.size < wc.heap.size) ∧ Hid (Below w.heap.size w wc))
  case first =>
    go_region_with (first | (go_at_call 43; refine (kinds_any _).mono ?_; rintro e w' ⟨rfl, rfl⟩))
    all_goals
      go_wp2_with fail
      go_meet
      case rel => exact ⟨_, rfl, rfl, by simp [go_sem], by simp [go_sem], by simp [go_sem], by simp [go_sem], by simp [go_sem], by simp [go_sem], by simp [go_sem], (by simp : _ < _), (by simp; omega : _ < _), (Below.drew (Vl.bal (Vl.bal (Vl.bal (Below.refl _ _) _) _) _) : Below _ _ _)⟩
  case rest =>
    obtain ⟨b, rfl, rfl, c0, c1, c2, d0, d1, d2, d3, Hb, Hw, HB⟩ := hcut
    clear h1 h2 h3
    have hb0 := Hb.out
    have hw0 := Hw.out
    go_wp2_with (first | (go_at_fn g; refine (HG _).mono ?_; rintro e w1 ⟨rfl, hb1⟩; obtain ⟨hc1, hf1⟩ := Vl.bcell hb1))
    have e1 : w1.cell? ⟨b, 1, none⟩ = some (.func (.func pf) #[] #[]) := by rw [hc1 _ _ hb0]; exact c1
    have g0 : w1.cell? ⟨w.heap.size, 0, none⟩ = some (.int .i64 k) := by rw [hc1 _ _ hw0]; exact d0
    have g1 : w1.cell? ⟨w.heap.size, 1, none⟩ = some (.int .i64 n) := by rw [hc1 _ _ hw0]; exact d1
    have g2 : w1.cell? ⟨w.heap.size, 2, none⟩ = some (.float .f64 f) := by rw [hc1 _ _ hw0]; exact d2
    have g3 : w1.cell? ⟨w.heap.size, 3, none⟩ = some (.string s) := by rw [hc1 _ _ hw0]; exact d3
    have hb2 := Nat.lt_of_lt_of_le hb0 hb1.size
    have hw2 := Nat.lt_of_lt_of_le hw0 hb1.size
    have HB1 : Hid (Below w.heap.size w w1) := Vl.btr HB.out hb1
    clear c0 c1 c2 d0 d1 d2 d3 hc1 hf1 hb1 hb0 hw0
    have HS : Hid (Vl.S5 b pf w.heap.size k n f s w1) := ⟨e1, g0, g1, g2, g3, hb2, hw2⟩
    go_region_with (first | (go_at_fn pf; refine (HP _).mono ?_; rintro e w2 ⟨rfl, hb3⟩; have HS3 : Vl.S5 b pf w.heap.size k n f s w2 := Vl.S5.below (by repeat (first | exact HS.out | refine Vl.S5.drew ?_ | refine Vl.S5.alloc ?_ _)) hb3; obtain ⟨k1, k2, k3, k4, k5, k6, k7⟩ := HS3; have hcv2 := fun r h1 h2 => hcv w2 r (Vl.newCell hb3 r _ h1 h2); have HB3 := Vl.hid hb3; clear hb3))
    all_goals
      go_wp2_with fail
      go_ret2
      exact ⟨rfl, by first | exact Vl.btr (Below.drew HB1.out) HB3.out | exact Vl.btr (Below.drew (Vl.bal HB1.out _)) HB3.out | exact Vl.bal (Vl.btr (Below.drew HB1.out) HB3.out) _⟩

end Go.Proofs.Ytanljohnmaokeaa