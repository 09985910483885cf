/- Decode. -/
import Derived.Test.YtanljohnmaokeaaK3
import Derived.Test.YtanljohnmaokeaaD1
import Derived.Shelf.Abstract
namespace Go.Proofs.Ytanljohnmaokeaa
open Go.RowKit
attribute [local go_sem] Fl.run_store_float Try.float64bits Try.float64frombits Vl.run_store_func Vl.run_store_nilFunc
attribute [local go_sem ↓] Go.wp_at_zero Go.wp_at_succ


/-- A kind whose functions are known. -/
def Vl.GoodFn (P : Program) (g : Nat) (k n : Int) (f : Nat) (t : ByteArray) (b : Bool) : Prop := ∀ W, Calls P g #[.agg #[.int .i64 k, .int .i64 n, .float .f64 f, .string t]] W fun e w' => e = .returned (.bool b) ∧ Below W.heap.size W w'
def Vl.TakeFn (P : Program) (g : Nat) (x : ByteArray) (k n : Int) (f : Nat) (t : ByteArray) (sz : Int) (b : Bool) : Prop := ∀ W, Calls P g #[.string x] W fun e w' => e = .returned (.tuple #[.agg #[.int .i64 k, .int .i64 n, .float .f64 f, .string t], .int .i64 sz, .bool b]) ∧ Below W.heap.size W w'
def Vl.EntersFn (P : Program) (g : Nat) : Prop := ∀ args w, (callFunc g args).run P w = .ok (.enter g args) w

set_option maxRecDepth 100000 in
set_option maxHeartbeats 4000000 in
theorem decode_yes (g pf tf : Nat) (s x : ByteArray) (a c : Nat) (k n : Int) (f : Nat) (t : ByteArray) (sz : Nat) (w : World) (eg : Vl.EntersFn Try.prog g) (et : Vl.EntersFn Try.prog tf) (ha : a < s.size) (hs : s.size ≤ 100000)
    (HC : Hid (Vl.cAt s a = c)) (hl : Vl.Look Try.prog c (.agg #[.func (.func g) #[] #[], .func (.func pf) #[] #[], .func (.func tf) #[] #[]]) true) (HX : Hid (s.extract (a + 1) s.size = x)) (hsz : sz ≤ 100000)
    (HG : Vl.GoodFn Try.prog g k n f t true) (HT : Vl.TakeFn Try.prog tf x k n f t sz true) :
    Calls Try.prog 20 #[.string s, .int .i64 (a : Int)] w fun e w' => e = .returned (.tuple #[.agg #[.int .i64 k, .int .i64 n, .float .f64 f, .string t], .int .i64 (1 + (sz : Int)), .bool true]) ∧ Below w.heap.size w w' := by
  have eg' : ∀ args w, (callFunc g args).run Try.prog w = .ok (.enter g args) w := eg
  have et' : ∀ args w, (callFunc tf args).run Try.prog w = .ok (.enter tf args) w := et
  have hX : ∀ w, (Instr.index 9 (.string s) (.int .i64 (a : Int))).run Try.prog w = .ok (.int .u8 (c : Int)) w := by
    intro w; rw [← HC.out]; exact Vl.idx_str 9 Try.underlying9 s a ha w
  have hc256 : c < 256 := by rw [← HC.out]; exact Vl.cAt_lt _ _
  have hwc : IntKind.i64.wrap (c : Int) = (c : Int) := by rw [IntKind.wrap_i64]; omega
  have hwa : IntKind.i64.wrap ((a : Int) + 1) = (a : Int) + 1 := by rw [IntKind.wrap_i64]; omega
  have ha1 : ¬ (a : Int) < 0 := by omega
  have ha3 : (a : Int) + 1 ≤ (s.size : Int) := by omega
  have ha4 : (0 : Int) ≤ (a : Int) + 1 := by omega
  have ha2 : (a : Int) < (s.size : Int) := by omega
  clear eg et
  have h1 : ∀ A, (Instr.lookup 70 (.map (some (w.heap.size + 1))) (.int .i64 (c : Int)) true).run Try.prog ((w.alloc A).alloc (.map Vl.kE5 5)).drew = .ok (.tuple #[.agg #[.func (.func g) #[] #[], .func (.func pf) #[] #[], .func (.func tf) #[] #[]], .bool true]) ((w.alloc A).alloc (.map Vl.kE5 5)).drew := fun A => hl _ _ (Vl.IsK.drew (Vl.IsK.made (by simp)))
  have h2 : ∀ A Z, (Instr.lookup 70 (.map (some (w.heap.size + 1))) (.int .i64 (c : Int)) true).run Try.prog (((w.alloc A).alloc (.map Vl.kE5 5)).alloc Z).drew = .ok (.tuple #[.agg #[.func (.func g) #[] #[], .func (.func pf) #[] #[], .func (.func tf) #[] #[]], .bool true]) (((w.alloc A).alloc (.map Vl.kE5 5)).alloc Z).drew := fun A Z => hl _ _ (Vl.IsK.drew ((Vl.IsK.made (by simp)).alloc _))
  have h3 : ∀ A Z, (Instr.lookup 70 (.map (some (w.heap.size + 1 + 1))) (.int .i64 (c : Int)) true).run Try.prog (((w.alloc A).alloc Z).alloc (.map Vl.kE5 5)).drew = .ok (.tuple #[.agg #[.func (.func g) #[] #[], .func (.func pf) #[] #[], .func (.func tf) #[] #[]], .bool true]) (((w.alloc A).alloc Z).alloc (.map Vl.kE5 5)).drew := fun A Z => hl _ _ (Vl.IsK.drew (Vl.IsK.made (by simp)))
  clear hl
  go_enter Try.func20, Try.ntmps20
  go_upto_region 3 with fail
  go_cut [7, 8] (fun p q wc => ∃ b, p = .pointer (some ⟨b, 0, none⟩) ∧ q = .bool true ∧ wc.cell? ⟨b, 0, none⟩ = some (.func (.func g) #[] #[]) ∧ wc.cell? ⟨b, 1, none⟩ = some (.func (.func pf) #[] #[]) ∧ wc.cell? ⟨b, 2, none⟩ = some (.func (.func tf) #[] #[]) ∧ wc.cell? ⟨w.heap.size, 0, none⟩ = some (.int .i64 0) ∧ wc.cell? ⟨w.heap.size, 1, none⟩ = some (.int .i64 0) ∧ wc.cell? ⟨w.heap.size, 2, none⟩ = some (.float .f64 0) ∧ wc.cell? ⟨w.heap.size, 3, none⟩ = some (.string ⟨#[]⟩) ∧ wc.frozen? ⟨w.heap.size, 0, none⟩ = false ∧ wc.frozen? ⟨w.heap.size, 1, none⟩ = false ∧ wc.frozen? ⟨w.heap.size, 2, none⟩ = false ∧ wc.frozen? ⟨w.heap.size, 3, none⟩ = false ∧ Hid (b < wc.heap.size) ∧ Hid (w.heap.size < wc.heap.size) ∧ Hid (Below w.heap.size w wc))
  case first =>
    go_region_with (first | (go_at_call 43; refine (kinds_any _).mono ?_; rintro e w' ⟨rfl, rfl⟩))
    all_goals
      go_wp2_with fail
      go_meet
      case rel => exact ⟨_, rfl, rfl, by simp [go_sem], by simp [go_sem], by simp [go_sem], by simp [go_sem], by simp [go_sem], by simp [go_sem], by simp [go_sem], by simp [go_sem], by simp [go_sem], by simp [go_sem], by simp [go_sem], (by simp : _ < _), (by simp; omega : _ < _), (Below.drew (Vl.bal (Vl.bal (Vl.bal (Below.refl _ _) _) _) _) : Below _ _ _)⟩
  case rest =>
    obtain ⟨b, rfl, rfl, c0, c1, c2, d0, d1, d2, d3, f0, f1, f2, f3, Hb, Hw, HB⟩ := hcut
    clear h1 h2 h3
    have hb0 := Hb.out
    have hw0 := Hw.out
    go_upto_region 6 with fail
    go_cut [9, 10, 11] (fun p q r wd => ∃ h, p = .pointer (some ⟨h, 0, none⟩) ∧ q = .int .i64 sz ∧ r = .bool true ∧ wd.cell? ⟨h, 0, none⟩ = some (.int .i64 k) ∧ wd.cell? ⟨h, 1, none⟩ = some (.int .i64 n) ∧ wd.cell? ⟨h, 2, none⟩ = some (.float .f64 f) ∧ wd.cell? ⟨h, 3, none⟩ = some (.string t) ∧ Hid (h < wd.heap.size) ∧ Hid (Below wc.heap.size wc wd))
    case first =>
      go_region_with (first | (go_at_fn tf; (try rw [HX.out]); refine (HT _).mono ?_; rintro e w2 ⟨rfl, hb3⟩; obtain ⟨hc3, hf3⟩ := Vl.bcell hb3))
      all_goals
        go_wp2_with fail
        go_meet
        case rel =>
          refine ⟨_, rfl, rfl, rfl, ?_, ?_, ?_, ?_, ?_, ?_⟩
          · first | (simp [go_sem]; done) | (simp [go_sem, hc3]; done)
          · first | (simp [go_sem]; done) | (simp [go_sem, hc3]; done)
          · first | (simp [go_sem]; done) | (simp [go_sem, hc3]; done)
          · first | (simp [go_sem]; done) | (simp [go_sem, hc3]; done)
          · show _ < _
            first | (simp; done) | (have := hb3.size; simp at this ⊢; omega)
          · show Below _ _ _
            first | exact Vl.bal (Vl.btr (Below.drew (Below.refl _ _)) hb3) _ | (repeat (first | exact Vl.btr (Below.drew (Vl.bal (Below.refl _ _) _)) hb3 | refine Below.setCell ?_ (by exact Nat.le_refl _) _))
    case rest =>
      obtain ⟨h, rfl, rfl, rfl, k0, k1, k2, k3, Hh, HBd⟩ := hcut
      rename World => wd
      have hh0 := Hh.out
      have hm := Vl.bcell HBd.out
      have e0 := (hm.1 b 0 hb0).trans c0
      have y0 := (hm.1 w.heap.size 0 hw0).trans d0
      have y1 := (hm.1 w.heap.size 1 hw0).trans d1
      have y2 := (hm.1 w.heap.size 2 hw0).trans d2
      have y3 := (hm.1 w.heap.size 3 hw0).trans d3
      have z0 := (hm.2 w.heap.size 0 hw0).trans f0
      have z1 := (hm.2 w.heap.size 1 hw0).trans f1
      have z2 := (hm.2 w.heap.size 2 hw0).trans f2
      have z3 := (hm.2 w.heap.size 3 hw0).trans f3
      have hw1 := Nat.lt_of_lt_of_le hw0 HBd.out.size
      have HB1 : Hid (Below w.heap.size w wd) := Vl.btr HB.out HBd.out
      clear hm c0 c1 c2 d0 d1 d2 d3 f0 f1 f2 f3 hb0 hw0 Hb Hw HBd HB
      go_wp2_with (first | (go_at_fn g; refine (HG _).mono ?_; rintro e w3 ⟨rfl, hb4⟩; have hm := Vl.bcell hb4; have K0 := (hm.1 h 0 hh0).trans k0; have K1 := (hm.1 h 1 hh0).trans k1; have K2 := (hm.1 h 2 hh0).trans k2; have K3 := (hm.1 h 3 hh0).trans k3; have Y0 := (hm.1 w.heap.size 0 hw1).trans y0; have Y1 := (hm.1 w.heap.size 1 hw1).trans y1; have Y2 := (hm.1 w.heap.size 2 hw1).trans y2; have Y3 := (hm.1 w.heap.size 3 hw1).trans y3; have Z0 := (hm.2 w.heap.size 0 hw1).trans z0; have Z1 := (hm.2 w.heap.size 1 hw1).trans z1; have Z2 := (hm.2 w.heap.size 2 hw1).trans z2; have Z3 := (hm.2 w.heap.size 3 hw1).trans z3; have HB4 := Vl.hid (Vl.btr HB1.out hb4); clear hm hb4))
      exact bodyPost_ret (v := .tuple #[.agg #[.int .i64 k, .int .i64 n, .float .f64 f, .string t], .int .i64 (1 + (sz : Int)), .bool true]) (by simp [results, Try.results20, go_sem, Y0, Y1, Y2, Y3]) rfl ⟨rfl, by repeat (first | exact HB4.out | refine Below.setCell ?_ (by exact Nat.le_refl _) _)⟩

end Go.Proofs.Ytanljohnmaokeaa