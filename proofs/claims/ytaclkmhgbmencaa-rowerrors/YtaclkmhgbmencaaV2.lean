/- Walks of the reference's order, of Same, of names. -/
import Derived.Test.YtaclkmhgbmencaaV1
namespace Go.Proofs.Ytaclkmhgbmencaa
open Go.RowKit
attribute [local go_sem] Fl.run_store_float Try.float64bits Try.float64frombits Vl.str_lss Vl.str_eql

set_option maxHeartbeats 400000 in
theorem letter_any (c : Nat) (w : World) :
    Calls Try.prog 39 #[.int .u8 (c : Int)] w fun e w' => e = .returned (.bool (Vl.letB c)) ∧ w' = w := by
  by_cases h1 : 97 ≤ c
  all_goals
    go_enter Try.func39, Try.ntmps39
    go_wp2
    go_ret
    exact ⟨by simp [Vl.letB, h1] <;> omega, rfl⟩

set_option maxHeartbeats 400000 in
theorem vdigit_any (c : Nat) (w : World) :
    Calls Try.prog 40 #[.int .u8 (c : Int)] w fun e w' => e = .returned (.bool (Vl.digB c)) ∧ w' = w := by
  by_cases h1 : 48 ≤ c
  all_goals
    go_enter Try.func40, Try.ntmps40
    go_wp2
    go_ret
    exact ⟨by simp [Vl.digB, h1] <;> omega, rfl⟩

set_option maxHeartbeats 1000000 in
theorem name_any (s : ByteArray) (w : World) :
    Calls Try.prog 35 #[.string s] w fun e w' => e = .returned (.bool (Vl.nameB s)) ∧ w' = w := by
  by_cases h0 : s.size = 0
  · have hb : ((s.size : Int) == 0) = true := by simp [h0]
    have hn : Vl.nameB s = false := by unfold Vl.nameB; rw [h0]; rfl
    have HN := Vl.hid hn
    clear hn h0
    go_enter Try.func35, Try.ntmps35
    go_wp2
    go_ret
    exact ⟨by rw [HN.out]; rfl, rfl⟩
  have hb : ((s.size : Int) == 0) = false := beq_eq_false_iff_ne.2 (by omega)
  by_cases h8 : s.size ≤ 8
  · have hX : ∀ k : Nat, k < s.size → ∀ w, (Instr.index 9 (.string s) (.int .i64 (k : Int))).run Try.prog w = .ok (.int .u8 (Vl.cAt s k : Int)) w := fun k hk w => Vl.idx_str 9 Try.underlying9 s k hk w
    have hX0 : ∀ w, (Instr.index 9 (.string s) (.int .i64 0)).run Try.prog w = .ok (.int .u8 (Vl.cAt s 0 : Int)) w := hX 0 (by omega)
    have h8' : (s.size : Int) ≤ 8 := by omega
    cases hl : Vl.letB (Vl.cAt s 0)
    · have hn : Vl.nameB s = false := by unfold Vl.nameB; rw [hl]; simp
      have HN := Vl.hid hn
      clear hn hX
      go_enter Try.func35, Try.ntmps35
      go_wp2_with (go_at_call 39; refine (letter_any _ _).mono ?_; rintro e w' ⟨rfl, hq⟩; obtain rfl := hq.symm)
      go_ret
      exact ⟨by rw [HN.out]; rfl, rfl⟩
    · have HX := Vl.hid hX
      clear hX
      go_enter Try.func35, Try.ntmps35
      go_wp2_with (go_at_call 39; refine (letter_any _ _).mono ?_; rintro e w' ⟨rfl, hq⟩; obtain rfl := hq.symm)
      go_loop [20] (fun i => ∃ k : Nat, k ≤ s.size ∧ i = .int .i64 k ∧ Hid (Vl.allOk s k = true)) (fun i => s.size - (intOf i).toNat)
      case atStart => exact ⟨0, Nat.zero_le _, rfl, rfl⟩
      case round =>
        obtain ⟨k, hk, rfl, HA⟩ := hrel
        by_cases hlt : k < s.size
        · have hXk := HX.out k hlt
          cases h1 : Vl.letB (Vl.cAt s k) <;> cases h2 : Vl.digB (Vl.cAt s k) <;> cases h3 : ((Vl.cAt s k : Int) != 95)
          all_goals
            go_wp2_with (first | (go_at_call 39; refine (letter_any _ _).mono ?_; rintro e w' ⟨rfl, hq⟩; obtain rfl := hq.symm) | (go_at_call 40; refine (vdigit_any _ _).mono ?_; rintro e w' ⟨rfl, hq⟩; obtain rfl := hq.symm))
            first
            | (go_round
               case rel => exact ⟨k + 1, by omega, by go_num, by show Vl.allOk s (k + 1) = true; unfold Vl.allOk Vl.okB; rw [HA.out]; simp_all <;> omega⟩
               case measure => simp [intOf]; omega)
            | (go_ret
               exact ⟨by have : Vl.nameB s = false := by
                           have ho : Vl.okB (Vl.cAt s k) = false := by unfold Vl.okB; simp_all <;> omega
                           unfold Vl.nameB; rw [Vl.allOk_false s ho hlt]; simp
                         rw [this]; rfl, rfl⟩)
        · obtain rfl : k = s.size := by omega
          go_wp2
          go_ret
          exact ⟨by have : Vl.nameB s = true := by
                      unfold Vl.nameB; rw [HA.out, hl, decide_eq_true (by omega), decide_eq_true h8]; rfl
                    rw [this]; rfl, rfl⟩
  · have hn : Vl.nameB s = false := by unfold Vl.nameB; rw [decide_eq_false h8]; simp
    have h8' : 8 < (s.size : Int) := by omega
    have HN := Vl.hid hn
    clear hn h8
    go_enter Try.func35, Try.ntmps35
    go_wp2
    go_ret
    exact ⟨by rw [HN.out]; rfl, rfl⟩

set_option maxHeartbeats 1000000 in
theorem refName_any (s : ByteArray) (w : World) :
    Calls Try.prog 30 #[.string s] w fun e w' => e = .returned (.bool (Vl.nameB s)) ∧ w' = w := by
  by_cases h0 : s.size < 1
  · have hb : (s.size : Int) < 1 := by omega
    have hn : Vl.nameB s = false := by unfold Vl.nameB; rw [decide_eq_false (by omega)]; rfl
    have HN := Vl.hid hn
    clear hn h0
    go_enter Try.func30, Try.ntmps30
    go_wp2
    go_ret
    exact ⟨by rw [HN.out]; rfl, rfl⟩
  have hb : ¬ (s.size : Int) < 1 := by omega
  by_cases h8 : s.size ≤ 8
  · have h8' : (s.size : Int) ≤ 8 := by omega
    have h8b : decide ((8 : Int) < (s.size : Int)) = false := decide_eq_false (by omega)
    go_enter Try.func30, Try.ntmps30
    go_wp2
    go_loop [3] (fun i => ∃ k : Nat, k ≤ s.size ∧ i = .int .i64 k ∧ Hid (Vl.allOk s k = true ∧ (0 < k → Vl.letB (Vl.cAt s 0) = true))) (fun i => s.size - (intOf i).toNat)
    case atStart => exact ⟨0, Nat.zero_le _, rfl, rfl, fun h => absurd h (Nat.lt_irrefl _)⟩
    case round =>
      obtain ⟨k, hk, rfl, HA⟩ := hrel
      by_cases hlt : k < s.size
      · have hXk : ∀ w, (Instr.index 9 (.string s) (.int .i64 (k : Int))).run Try.prog w = .ok (.int .u8 (Vl.cAt s k : Int)) w := fun w => Vl.idx_str 9 Try.underlying9 s k hlt w
        have HC : Hid (∀ j, j = k → Vl.cAt s j = Vl.cAt s k) := fun j e => by rw [e]
        obtain ⟨c, hc⟩ : ∃ c, c = Vl.cAt s k := ⟨_, rfl⟩
        rw [← hc] at hXk
        have HC := Vl.hid hc
        clear hc
        have hlet : Hid (Vl.letB c = (decide ((97 : Int) ≤ (c : Int)) && decide ((c : Int) ≤ 122))) := by
          show _ = _
          unfold Vl.letB; congr 1 <;> simp <;> omega
        have hdig : Hid (Vl.digB c = (decide ((48 : Int) ≤ (c : Int)) && decide ((c : Int) ≤ 57))) := by
          show _ = _
          unfold Vl.digB; congr 1 <;> simp <;> omega
        cases a1 : decide ((97 : Int) ≤ (c : Int)) <;> cases a2 : decide ((c : Int) ≤ 122) <;> cases a3 : ((k : Int) == 0) <;> cases a4 : decide ((48 : Int) ≤ (c : Int)) <;> cases a5 : decide ((c : Int) ≤ 57) <;> cases a6 : ((c : Int) == 95)
        all_goals
          go_wp2
          first
          | (go_round
             case rel => exact ⟨k + 1, by omega, by go_num, Vl.ref_step HA HC.out (by first | (left; rw [hlet.out]; simp [a1, a2]; done) | (right; exact ⟨by have := (by simpa using a3 : ¬ (k : Int) = 0); omega, by unfold Vl.okB; rw [hlet.out, hdig.out]; simp_all <;> omega⟩))⟩
             case measure => simp [intOf]; omega)
          | (go_ret
             exact ⟨by rw [Vl.ref_stop HC.out hlt (by rw [hlet.out]; simp [a1, a2]) (by first | (left; have := (by simpa using a3 : (k : Int) = 0); omega) | (right; unfold Vl.okB; rw [hlet.out, hdig.out]; simp_all <;> omega))]; rfl, rfl⟩)
      · obtain rfl : k = s.size := by omega
        go_wp2
        go_ret
        exact ⟨by have : Vl.nameB s = true := by
                    unfold Vl.nameB; rw [HA.out.1, HA.out.2 (by omega), decide_eq_true (by omega), decide_eq_true h8]; rfl
                  rw [this]; rfl, rfl⟩
  · have hn : Vl.nameB s = false := by unfold Vl.nameB; rw [decide_eq_false h8]; simp
    have h8' : 8 < (s.size : Int) := by omega
    have HN := Vl.hid hn
    clear hn h8
    go_enter Try.func30, Try.ntmps30
    go_wp2
    go_ret
    exact ⟨by rw [HN.out]; rfl, rfl⟩

end Go.Proofs.Ytaclkmhgbmencaa
