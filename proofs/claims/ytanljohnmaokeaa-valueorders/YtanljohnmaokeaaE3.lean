/- Encode, where there is none; and whole. -/
import Derived.Test.YtanljohnmaokeaaE2
namespace Go.Proofs.Ytanljohnmaokeaa
open Go.RowKit
attribute [local go_sem] Fl.run_store_float Try.float64bits Try.float64frombits Vl.run_store_func Vl.run_store_nilFunc
attribute [local go_sem ↓] Go.wp_at_zero Go.wp_at_succ

set_option maxRecDepth 100000 in
set_option maxHeartbeats 4000000 in
theorem encode_no (g pf tf : Nat) (k n : Int) (f : Nat) (s : ByteArray) (w : World) (eg : Vl.Enters Try.prog g) (hl : Vl.Look Try.prog k (.agg #[.func (.func g) #[] #[], .func (.func pf) #[] #[], .func (.func tf) #[] #[]]) true)
    (HG : Vl.GoodAt Try.prog g k n f s false) :
    Calls Try.prog 18 #[.agg #[.int .i64 k, .int .i64 n, .float .f64 f, .string s]] w fun e w' => e = .returned (.tuple #[.string ⟨#[]⟩, .int .i64 11]) ∧ Below w.heap.size w w' := by
  have eg' : ∀ args w, (callFunc g args).run Try.prog w = .ok (.enter g args) w := eg
  clear eg
  have h1 : ∀ A, (Instr.lookup 70 (.map (some (w.heap.size + 1))) (.int .i64 k) true).run Try.prog ((w.alloc A).alloc (.map Vl.kE5 5)).drew = .ok (.tuple #[.agg #[.func (.func g) #[] #[], .func (.func pf) #[] #[], .func (.func tf) #[] #[]], .bool true]) ((w.alloc A).alloc (.map Vl.kE5 5)).drew := fun A => hl _ _ (Vl.IsK.drew (Vl.IsK.made (by simp)))
  have h2 : ∀ A Z, (Instr.lookup 70 (.map (some (w.heap.size + 1))) (.int .i64 k) true).run Try.prog (((w.alloc A).alloc (.map Vl.kE5 5)).alloc Z).drew = .ok (.tuple #[.agg #[.func (.func g) #[] #[], .func (.func pf) #[] #[], .func (.func tf) #[] #[]], .bool true]) (((w.alloc A).alloc (.map Vl.kE5 5)).alloc Z).drew := fun A Z => hl _ _ (Vl.IsK.drew ((Vl.IsK.made (by simp)).alloc _))
  have h3 : ∀ A Z, (Instr.lookup 70 (.map (some (w.heap.size + 1 + 1))) (.int .i64 k) true).run Try.prog (((w.alloc A).alloc Z).alloc (.map Vl.kE5 5)).drew = .ok (.tuple #[.agg #[.func (.func g) #[] #[], .func (.func pf) #[] #[], .func (.func tf) #[] #[]], .bool true]) (((w.alloc A).alloc Z).alloc (.map Vl.kE5 5)).drew := fun A Z => hl _ _ (Vl.IsK.drew (Vl.IsK.made (by simp)))
  clear hl
  go_enter Try.func18, Try.ntmps18
  go_upto_region 1 with fail
  go_cut [4, 5] (fun p t wc => ∃ b, p = .pointer (some ⟨b, 0, none⟩) ∧ t = .bool true ∧ wc.cell? ⟨b, 0, none⟩ = some (.func (.func g) #[] #[]) ∧ wc.cell? ⟨b, 1, none⟩ = some (.func (.func pf) #[] #[]) ∧ wc.cell? ⟨b, 2, none⟩ = some (.func (.func tf) #[] #[]) ∧ wc.cell? ⟨w.heap.size, 0, none⟩ = some (.int .i64 k) ∧ wc.cell? ⟨w.heap.size, 1, none⟩ = some (.int .i64 n) ∧ wc.cell? ⟨w.heap.size, 2, none⟩ = some (.float .f64 f) ∧ wc.cell? ⟨w.heap.size, 3, none⟩ = some (.string s) ∧ Hid (b < wc.heap.size) ∧ Hid (w.heap.size < wc.heap.size) ∧ Hid (Below w.heap.size w wc))
  case first =>
    go_region_with (first | (go_at_call 43; refine (kinds_any _).mono ?_; rintro e w' ⟨rfl, rfl⟩))
    all_goals
      go_wp2_with fail
      go_meet
      case rel => exact ⟨_, rfl, rfl, by simp [go_sem], by simp [go_sem], by simp [go_sem], by simp [go_sem], by simp [go_sem], by simp [go_sem], by simp [go_sem], (by simp : _ < _), (by simp; omega : _ < _), (Below.drew (Vl.bal (Vl.bal (Vl.bal (Below.refl _ _) _) _) _) : Below _ _ _)⟩
  case rest =>
    obtain ⟨b, rfl, rfl, c0, c1, c2, d0, d1, d2, d3, Hb, Hw, HB⟩ := hcut
    clear h1 h2 h3
    go_wp2_with (first | (go_at_fn g; refine (HG _).mono ?_; rintro e w1 ⟨rfl, hb1⟩))
    go_ret2
    exact ⟨rfl, Vl.btr HB.out hb1⟩

set_option maxRecDepth 100000 in
set_option maxHeartbeats 4000000 in
theorem encode_not (k n : Int) (f : Nat) (s : ByteArray) (w : World) (hk : k < 0 ∨ 4 < k) :
    Calls Try.prog 18 #[.agg #[.int .i64 k, .int .i64 n, .float .f64 f, .string s]] w fun e w' => e = .returned (.tuple #[.string ⟨#[]⟩, .int .i64 11]) ∧ Below w.heap.size w w' := by
  have hl := Try.lookNot k hk
  have h1 : ∀ A, (Instr.lookup 70 (.map (some (w.heap.size + 1))) (.int .i64 k) true).run Try.prog ((w.alloc A).alloc (.map Vl.kE5 5)).drew = .ok (.tuple #[.agg #[.nilFunc, .nilFunc, .nilFunc], .bool false]) ((w.alloc A).alloc (.map Vl.kE5 5)).drew := fun A => hl _ _ (Vl.IsK.drew (Vl.IsK.made (by simp)))
  have h2 : ∀ A Z, (Instr.lookup 70 (.map (some (w.heap.size + 1))) (.int .i64 k) true).run Try.prog (((w.alloc A).alloc (.map Vl.kE5 5)).alloc Z).drew = .ok (.tuple #[.agg #[.nilFunc, .nilFunc, .nilFunc], .bool false]) (((w.alloc A).alloc (.map Vl.kE5 5)).alloc Z).drew := fun A Z => hl _ _ (Vl.IsK.drew ((Vl.IsK.made (by simp)).alloc _))
  have h3 : ∀ A Z, (Instr.lookup 70 (.map (some (w.heap.size + 1 + 1))) (.int .i64 k) true).run Try.prog (((w.alloc A).alloc Z).alloc (.map Vl.kE5 5)).drew = .ok (.tuple #[.agg #[.nilFunc, .nilFunc, .nilFunc], .bool false]) (((w.alloc A).alloc Z).alloc (.map Vl.kE5 5)).drew := fun A Z => hl _ _ (Vl.IsK.drew (Vl.IsK.made (by simp)))
  clear hl
  clear hk
  go_enter Try.func18, Try.ntmps18
  go_upto_region 1 with fail
  go_cut [4, 5] (fun p t wc => ∃ b, p = .pointer (some ⟨b, 0, none⟩) ∧ t = .bool false ∧ wc.cell? ⟨b, 0, none⟩ = some .nilFunc ∧ wc.cell? ⟨b, 1, none⟩ = some .nilFunc ∧ wc.cell? ⟨b, 2, none⟩ = some .nilFunc ∧ wc.cell? ⟨w.heap.size, 0, none⟩ = some (.int .i64 k) ∧ wc.cell? ⟨w.heap.size, 1, none⟩ = some (.int .i64 n) ∧ wc.cell? ⟨w.heap.size, 2, none⟩ = some (.float .f64 f) ∧ wc.cell? ⟨w.heap.size, 3, none⟩ = some (.string s) ∧ Hid (b < wc.heap.size) ∧ Hid (w.heap.size < wc.heap.size) ∧ Hid (Below w.heap.size w wc))
  case first =>
    go_region_with (first | (go_at_call 43; refine (kinds_any _).mono ?_; rintro e w' ⟨rfl, rfl⟩))
    all_goals
      go_wp2_with fail
      go_meet
      case rel => exact ⟨_, rfl, rfl, by simp [go_sem], by simp [go_sem], by simp [go_sem], by simp [go_sem], by simp [go_sem], by simp [go_sem], by simp [go_sem], (by simp : _ < _), (by simp; omega : _ < _), (Below.drew (Vl.bal (Vl.bal (Vl.bal (Below.refl _ _) _) _) _) : Below _ _ _)⟩
  case rest =>
    obtain ⟨b, rfl, rfl, c0, c1, c2, d0, d1, d2, d3, Hb, Hw, HB⟩ := hcut
    clear h1 h2 h3
    go_wp2_with fail
    go_ret2
    exact ⟨rfl, HB.out⟩


theorem encode_0 (n : Int) (f : Nat) (s : ByteArray) (w : World) (hf : f < 18446744073709551616) (hg : Vl.goodB 0 n f s = true) :
    Calls Try.prog 18 #[.agg #[.int .i64 0, .int .i64 n, .float .f64 f, .string s]] w fun e w' => e = .returned (.tuple #[.string (Vl.encS 0 n f s), .int .i64 0]) ∧ Below w.heap.size w w' := by
  have hg' : Vl.good0 n f s = true := hg
  have hs : f < 18446744073709551616 := hf
  have hsz : (Vl.body 0 n f s).size ≤ 300 := by
    show (⟨#[]⟩ : ByteArray).size ≤ 300
    decide
  exact encode_yes 62 63 64 0 n f s (Vl.body 0 n f s) w (enters_of Try.func62 (by kernel_rfl) rfl) (enters_of Try.func63 (by kernel_rfl) rfl) (by omega) (by omega) Try.look0
    (fun W => by rw [← hg']; exact goodNull_any _ _ _ _ W) (fun W => putNull_any _ _ _ _ W) hsz ⟨#[0]⟩ rfl
    (fun W r h => Vl.conv1 Try.underlying74 Try.underlying5 Try.underlying9 W r 0 h)
theorem encode_no_0 (n : Int) (f : Nat) (s : ByteArray) (w : World) (hg : Vl.goodB 0 n f s = false) :
    Calls Try.prog 18 #[.agg #[.int .i64 0, .int .i64 n, .float .f64 f, .string s]] w fun e w' => e = .returned (.tuple #[.string ⟨#[]⟩, .int .i64 11]) ∧ Below w.heap.size w w' := by
  have hg' : Vl.good0 n f s = false := hg
  exact encode_no 62 63 64 0 n f s w (enters_of Try.func62 (by kernel_rfl) rfl) Try.look0
    (fun W => by rw [← hg']; exact goodNull_any _ _ _ _ W)


theorem encode_1 (n : Int) (f : Nat) (s : ByteArray) (w : World) (hf : f < 18446744073709551616) (hg : Vl.goodB 1 n f s = true) :
    Calls Try.prog 18 #[.agg #[.int .i64 1, .int .i64 n, .float .f64 f, .string s]] w fun e w' => e = .returned (.tuple #[.string (Vl.encS 1 n f s), .int .i64 0]) ∧ Below w.heap.size w w' := by
  have hg' : Vl.good1 n f s = true := hg
  have hs : f < 18446744073709551616 := hf
  have hsz : (Vl.body 1 n f s).size ≤ 300 := by
    show (⟨(Vl.beL (Vl.u64N n) 1).toArray⟩ : ByteArray).size ≤ 300
    rw [Vl.beA_size]; omega
  exact encode_yes 65 66 67 1 n f s (Vl.body 1 n f s) w (enters_of Try.func65 (by kernel_rfl) rfl) (enters_of Try.func66 (by kernel_rfl) rfl) (by omega) (by omega) Try.look1
    (fun W => by rw [← hg']; exact goodBool_any _ _ _ _ W) (fun W => putBool_any _ _ _ _ W) hsz ⟨#[1]⟩ rfl
    (fun W r h => Vl.conv1 Try.underlying74 Try.underlying5 Try.underlying9 W r 1 h)
theorem encode_no_1 (n : Int) (f : Nat) (s : ByteArray) (w : World) (hg : Vl.goodB 1 n f s = false) :
    Calls Try.prog 18 #[.agg #[.int .i64 1, .int .i64 n, .float .f64 f, .string s]] w fun e w' => e = .returned (.tuple #[.string ⟨#[]⟩, .int .i64 11]) ∧ Below w.heap.size w w' := by
  have hg' : Vl.good1 n f s = false := hg
  exact encode_no 65 66 67 1 n f s w (enters_of Try.func65 (by kernel_rfl) rfl) Try.look1
    (fun W => by rw [← hg']; exact goodBool_any _ _ _ _ W)


theorem encode_2 (n : Int) (f : Nat) (s : ByteArray) (w : World) (hf : f < 18446744073709551616) (hg : Vl.goodB 2 n f s = true) :
    Calls Try.prog 18 #[.agg #[.int .i64 2, .int .i64 n, .float .f64 f, .string s]] w fun e w' => e = .returned (.tuple #[.string (Vl.encS 2 n f s), .int .i64 0]) ∧ Below w.heap.size w w' := by
  have hg' : Vl.good2 f s = true := hg
  have hs : f < 18446744073709551616 := hf
  have hsz : (Vl.body 2 n f s).size ≤ 300 := by
    show (⟨(Vl.beL (Vl.u64N n) 8).toArray⟩ : ByteArray).size ≤ 300
    rw [Vl.beA_size]; omega
  exact encode_yes 68 69 70 2 n f s (Vl.body 2 n f s) w (enters_of Try.func68 (by kernel_rfl) rfl) (enters_of Try.func69 (by kernel_rfl) rfl) (by omega) (by omega) Try.look2
    (fun W => by rw [← hg']; exact goodInt_any _ _ _ _ W) (fun W => putInt_any _ _ _ _ W) hsz ⟨#[2]⟩ rfl
    (fun W r h => Vl.conv1 Try.underlying74 Try.underlying5 Try.underlying9 W r 2 h)
theorem encode_no_2 (n : Int) (f : Nat) (s : ByteArray) (w : World) (hg : Vl.goodB 2 n f s = false) :
    Calls Try.prog 18 #[.agg #[.int .i64 2, .int .i64 n, .float .f64 f, .string s]] w fun e w' => e = .returned (.tuple #[.string ⟨#[]⟩, .int .i64 11]) ∧ Below w.heap.size w w' := by
  have hg' : Vl.good2 f s = false := hg
  exact encode_no 68 69 70 2 n f s w (enters_of Try.func68 (by kernel_rfl) rfl) Try.look2
    (fun W => by rw [← hg']; exact goodInt_any _ _ _ _ W)


theorem encode_3 (n : Int) (f : Nat) (s : ByteArray) (w : World) (hf : f < 18446744073709551616) (hg : Vl.goodB 3 n f s = true) :
    Calls Try.prog 18 #[.agg #[.int .i64 3, .int .i64 n, .float .f64 f, .string s]] w fun e w' => e = .returned (.tuple #[.string (Vl.encS 3 n f s), .int .i64 0]) ∧ Below w.heap.size w w' := by
  have hg' : Vl.good3 n f s = true := hg
  have hs : f < 18446744073709551616 := hf
  have hsz : (Vl.body 3 n f s).size ≤ 300 := by
    show (⟨(Vl.beL (Fl.bitsN f) 8).toArray⟩ : ByteArray).size ≤ 300
    rw [Vl.beA_size]; omega
  exact encode_yes 71 72 73 3 n f s (Vl.body 3 n f s) w (enters_of Try.func71 (by kernel_rfl) rfl) (enters_of Try.func72 (by kernel_rfl) rfl) (by omega) (by omega) Try.look3
    (fun W => by rw [← hg']; exact goodFloat_any _ _ _ _ W) (fun W => putFloat_any _ _ _ _ W hf) hsz ⟨#[3]⟩ rfl
    (fun W r h => Vl.conv1 Try.underlying74 Try.underlying5 Try.underlying9 W r 3 h)
theorem encode_no_3 (n : Int) (f : Nat) (s : ByteArray) (w : World) (hg : Vl.goodB 3 n f s = false) :
    Calls Try.prog 18 #[.agg #[.int .i64 3, .int .i64 n, .float .f64 f, .string s]] w fun e w' => e = .returned (.tuple #[.string ⟨#[]⟩, .int .i64 11]) ∧ Below w.heap.size w w' := by
  have hg' : Vl.good3 n f s = false := hg
  exact encode_no 71 72 73 3 n f s w (enters_of Try.func71 (by kernel_rfl) rfl) Try.look3
    (fun W => by rw [← hg']; exact goodFloat_any _ _ _ _ W)


theorem encode_4 (n : Int) (f : Nat) (s : ByteArray) (w : World) (hg : Vl.goodB 4 n f s = true) :
    Calls Try.prog 18 #[.agg #[.int .i64 4, .int .i64 n, .float .f64 f, .string s]] w fun e w' => e = .returned (.tuple #[.string (Vl.encS 4 n f s), .int .i64 0]) ∧ Below w.heap.size w w' := by
  have hg' : Vl.good4 n f s = true := hg
  have hs : s.size ≤ 256 := by unfold Vl.good4 at hg'; simp at hg'; omega
  have hsz : (Vl.body 4 n f s).size ≤ 300 := by
    show (⟨(Vl.beL s.size 2).toArray⟩ ++ s : ByteArray).size ≤ 300
    rw [ByteArray.size_append, Vl.beA_size]; omega
  exact encode_yes 74 75 76 4 n f s (Vl.body 4 n f s) w (enters_of Try.func74 (by kernel_rfl) rfl) (enters_of Try.func75 (by kernel_rfl) rfl) (by omega) (by omega) Try.look4
    (fun W => by rw [← hg']; exact goodText_any _ _ _ _ W) (fun W => putText_any _ _ _ _ W hs) hsz ⟨#[4]⟩ rfl
    (fun W r h => Vl.conv1 Try.underlying74 Try.underlying5 Try.underlying9 W r 4 h)
theorem encode_no_4 (n : Int) (f : Nat) (s : ByteArray) (w : World) (hg : Vl.goodB 4 n f s = false) :
    Calls Try.prog 18 #[.agg #[.int .i64 4, .int .i64 n, .float .f64 f, .string s]] w fun e w' => e = .returned (.tuple #[.string ⟨#[]⟩, .int .i64 11]) ∧ Below w.heap.size w w' := by
  have hg' : Vl.good4 n f s = false := hg
  exact encode_no 74 75 76 4 n f s w (enters_of Try.func74 (by kernel_rfl) rfl) Try.look4
    (fun W => by rw [← hg']; exact goodText_any _ _ _ _ W)


/-- Encode of whatever value. -/
def Vl.encR (k n : Int) (f : Nat) (s : ByteArray) : ByteArray := if Vl.goodB k n f s then Vl.encS k n f s else ⟨#[]⟩
def Vl.encE (k n : Int) (f : Nat) (s : ByteArray) : Int := if Vl.goodB k n f s then 0 else 11
theorem encode_any (k n : Int) (f : Nat) (s : ByteArray) (w : World) (hf : f < 18446744073709551616) :
    Calls Try.prog 18 #[.agg #[.int .i64 k, .int .i64 n, .float .f64 f, .string s]] w fun e w' => e = .returned (.tuple #[.string (Vl.encR k n f s), .int .i64 (Vl.encE k n f s)]) ∧ Below w.heap.size w w' := by
  by_cases hk : k < 0 ∨ 4 < k
  · have e1 : Vl.encR k n f s = ⟨#[]⟩ := by unfold Vl.encR; rw [Vl.goodB_not n f s hk]; rfl
    have e2 : Vl.encE k n f s = 11 := by unfold Vl.encE; rw [Vl.goodB_not n f s hk]; rfl
    rw [e1, e2]; exact encode_not k n f s w hk
  · cases hg : Vl.goodB k n f s
    · have e1 : Vl.encR k n f s = ⟨#[]⟩ := by unfold Vl.encR; rw [hg]; rfl
      have e2 : Vl.encE k n f s = 11 := by unfold Vl.encE; rw [hg]; rfl
      rw [e1, e2]
      rcases (by omega : k = 0 ∨ k = 1 ∨ k = 2 ∨ k = 3 ∨ k = 4) with rfl | rfl | rfl | rfl | rfl
      · exact encode_no_0 n f s w hg
      · exact encode_no_1 n f s w hg
      · exact encode_no_2 n f s w hg
      · exact encode_no_3 n f s w hg
      · exact encode_no_4 n f s w hg
    · have e1 : Vl.encR k n f s = Vl.encS k n f s := by unfold Vl.encR; rw [hg]; rfl
      have e2 : Vl.encE k n f s = 0 := by unfold Vl.encE; rw [hg]; rfl
      rw [e1, e2]
      rcases (by omega : k = 0 ∨ k = 1 ∨ k = 2 ∨ k = 3 ∨ k = 4) with rfl | rfl | rfl | rfl | rfl
      · exact encode_0 n f s w hf hg
      · exact encode_1 n f s w hf hg
      · exact encode_2 n f s w hf hg
      · exact encode_3 n f s w hf hg
      · exact encode_4 n f s w hg

end Go.Proofs.Ytanljohnmaokeaa