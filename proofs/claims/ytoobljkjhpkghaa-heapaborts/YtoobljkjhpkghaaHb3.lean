/- HeapFirst. -/
import Derived.Test.YtoobljkjhpkghaaHb1
namespace Go.Proofs.Ytoobljkjhpkghaa
open Go.RowKit

namespace Hp
/-- So many begin. -/
def bsN (s : Cg.S) : Nat → Cg.S
  | 0 => s
  | k + 1 => Cg.begS (bsN s k) false
theorem bsN_inv {s : Cg.S} (h : Cg.Inv s) : ∀ k, Cg.Inv (bsN s k)
  | 0 => h
  | k + 1 => (bsN_inv h k).begS false
def f1 : Cg.S := Cg.comS (Cg.begS Cg.s0 false) 1
theorem f1_inv : Cg.Inv f1 := (Cg.inv0.begS false).comS 1
def fs (k : Nat) : Cg.S := bsN f1 k
def fe (k : Nat) (c : Bool) : Cg.S := if c = true then Cg.comS (fs k) 2 else Cg.aboS (fs k) 2
def fl (k : Nat) (c : Bool) : Cg.S := Cg.begS (fe k c) false
def wk2 (q : Option Addr) (d : Nat) : R := ⟨[⟨0, 1, 2, q, d, [v1 5]⟩], 1⟩
theorem wk2_eq (q : Option Addr) (d : Nat) : delS (wk q d) 2 0 = wk2 q d := rfl
/-- What is answered. -/
structure FF (k : Nat) (c : Bool) (q : Option Addr) (d : Nat) : Prop where
  a : mayE (fs k) (wk q d) 2 0 = 0
  b : mayE (fs k) (wk2 q d) 3 0 = 75
  b' : mayW (fs k) (wk2 q d) 3 0 = 2
  s2 : seesV (fs k) (wk2 q d) 2 0 = false
  s3 : seesV (fs k) (wk2 q d) 3 0 = true
  u3 : unsL (fs k) (wk2 q d) 3 0 = [2]
  e : mayE (fe k c) (wk2 q d) 3 0 = if c = true then 71 else 0
  e' : mayW (fe k c) (wk2 q d) 3 0 = if c = true then 2 else 0
  l3 : seesV (fl k c) (wk2 q d) 3 0 = true
  ll : seesV (fl k c) (wk2 q d) (Cg.begA (fe k c) : Int) 0 = !c
  un : c = false → unsL (fl k c) (wk2 q d) 3 0 = []
theorem ff (m : Nat) (c : Bool) (q : Option Addr) (d : Nat) : FF (2 + m % 5) c q d := by
  have h : m % 5 = 0 ∨ m % 5 = 1 ∨ m % 5 = 2 ∨ m % 5 = 3 ∨ m % 5 = 4 := by omega
  rcases h with h | h | h | h | h <;> rw [h] <;> cases c <;> exact ⟨by kernel_rfl, by kernel_rfl, by kernel_rfl, by kernel_rfl, by kernel_rfl, by kernel_rfl, by kernel_rfl, by kernel_rfl, by kernel_rfl, by kernel_rfl, fun h => by first | (cases h; done) | kernel_rfl⟩
theorem fs_inv (k : Nat) : Cg.Inv (fs k) := bsN_inv f1_inv k
theorem fe_inv (k : Nat) (c : Bool) : Cg.Inv (fe k c) := by unfold fe; split; exact (fs_inv k).comS 2; exact (fs_inv k).aboS 2
theorem bsN_clk (s : Cg.S) : ∀ k, (bsN s k).clk = s.clk
  | 0 => rfl
  | k + 1 => by rw [← bsN_clk s k]; show (Cg.begS (bsN s k) false).clk = _; unfold Cg.begS Cg.beg; split <;> rfl
end Hp

set_option maxRecDepth 100000 in
set_option maxHeartbeats 2000000 in
theorem heapFirst_all (c : Bool) (m : Nat) (w : World) (_ : True) (hm : m < 256) :
    Calls Try.prog 5 #[.bool c, .int .u8 (m : Int)] w fun e w' => e = .returned (.bool true) ∧ Below w.heap.size w w' := by
  go_enter Try.func5, Try.ntmps5
  go_wp2_with fail
  refine (new_any w).mono ?_
  rintro e w1 ⟨rfl, hl, hb⟩
  obtain ⟨p, hp⟩ : ∃ p, p = w.heap.size := ⟨_, rfl⟩
  rw [← hp] at hl ⊢
  have HP := Vl.hid hp
  have HL1 := Vl.hid hl
  have HB1 := Vl.hid hb
  clear hl hb hp
  go_wp2_with fail
  refine (hnew_any w1 (p + 1) (by have := HL1.out.lt; omega)).mono ?_
  rintro e w2 ⟨rfl, hr, hb⟩
  obtain ⟨b, hbb⟩ : ∃ b, b = w1.heap.size := ⟨_, rfl⟩
  rw [← hbb] at hr ⊢
  have HR2 := Vl.hid hr
  have HL2 := Vl.hid (HL1.out.below hb)
  have HB2 := Vl.hid (HB1.out.trans (hb.mono HB1.out.size))
  clear hr hb hbb
  go_wp2_with fail
  refine (begin_any w2 p Cg.s0 false HL2 (by decide)).mono ?_
  rintro e w3 ⟨rfl, hl, hb⟩
  have HL3 : Hid (Mm.Lg w3 p Hp.a1) := Vl.hid hl
  have HR3 := Vl.hid (HR2.out.tch hb (Nat.lt_succ_self p))
  have HB3 := Vl.hid (HB2.out.trans (hb.bel (Nat.le_of_eq HP.out.symm) HB2.out.size))
  clear hl hb
  rw [show (Cg.begA Cg.s0 : Int) = 1 from rfl, show (Cg.begE Cg.s0 : Int) = 0 from rfl]
  go_wp2_with fail
  refine (one_any 5 w3).mono ?_
  rintro e w5 ⟨rfl, hrow, hb⟩
  have HO5 := Vl.hid hrow
  have HR5 := Vl.hid (HR3.out.below hb)
  have HL5 := Vl.hid (HL3.out.below hb)
  have HB5 := Vl.hid (HB3.out.trans (hb.mono HB3.out.size))
  clear hrow hb
  go_wp2_with fail
  refine (insert_any w5 (p + 1) b Hp.r0 1 (some ⟨w3.heap.size, 0, none⟩) 1 [Hp.v1 5] HR5 (Vl.hid Hp.inv0) (by decide) (fun h => nomatch h) (Vl.hid (Hp.v1_small 5)) HO5).mono ?_
  rintro e w6 ⟨q, d, rfl, hr, hb, hsz⟩
  have HR6 : Hid (Hp.Rn w6 (p + 1) b (Hp.wk q d)) := Vl.hid hr
  have HI : Hid (Hp.Inv (Hp.wk q d)) := Vl.hid (Hp.inv0.insS 1 q d [Hp.v1 5])
  have HL6 : Hid (Mm.Lg w6 p Hp.a1) := Vl.hid (HL5.out.keep (hb.block p (by omega)))
  have HB6 := Vl.hid (HB5.out.trans (hb.mono (by have := HP.out; omega)))
  clear hr hb hsz
  rw [show (Hp.insA Hp.r0 1 : Int) = 0 from rfl, show (Hp.insE Hp.r0 1 : Int) = 0 from rfl]
  go_wp2_with fail
  refine (commit_any w6 p Hp.a1 1 HL6 (by decide) (by decide)).mono ?_
  rintro e w7 ⟨rfl, hl, hb⟩
  have HL7 : Hid (Mm.Lg w7 p (Hp.fs 0)) := Vl.hid hl
  have HR7 := Vl.hid (HR6.out.tch hb (Nat.lt_succ_self p))
  have HB7 := Vl.hid (HB6.out.trans (hb.bel (Nat.le_of_eq HP.out.symm) HB6.out.size))
  clear hl hb
  go_wp2_with fail
  have HM : Hid (2 + m % 5 ≤ 6) := Vl.hid (by omega)
  go_loopw [9] (fun vi wq => ∃ j : Nat, j ≤ 2 + m % 5 ∧ vi = .int .i64 (j : Int) ∧ Hid (Mm.Lg wq p (Hp.fs j)) ∧ Hid (Hp.Rn wq (p + 1) b (Hp.wk q d)) ∧ Hid (Below w.heap.size w wq)) (fun vi _ => 2 + m % 5 - (RowKit.intOf vi).toNat)
  case atStart => exact ⟨0, by omega, rfl, HL7, HR7, HB7⟩
  case round =>
    clear HL7 HR7 HB7 HL6 HR6 HB6 HL5 HR5 HB5 HO5 HL3 HR3 HB3 HL2 HR2 HB2 HL1 HB1
    obtain ⟨j, hj, rfl, HL, HR, HB⟩ := hrel
    rename World => wq
    by_cases hjm : j < 2 + m % 5
    · have i1 : (j : Int) < 2 + (m : Int) % 5 := by omega
      go_wp2_with fail
      refine (begin_any wq p (Hp.fs j) false HL (Hp.fs_inv j).le).mono ?_
      rintro e w8 ⟨rfl, hl, hb⟩
      have HL8 : Hid (Mm.Lg w8 p (Hp.fs (j + 1))) := Vl.hid hl
      have HR8 := Vl.hid (HR.out.tch hb (Nat.lt_succ_self p))
      have HB8 := Vl.hid (HB.out.trans (hb.bel (Nat.le_of_eq HP.out.symm) HB.out.size))
      clear hl hb
      go_wp2_with fail
      exact ⟨⟨j + 1, by omega, by go_num, HL8, HR8, HB8⟩, by simp [RowKit.intOf]; omega⟩
    · obtain rfl : j = 2 + m % 5 := by omega
      have i1 : ¬ ((2 + m % 5 : Nat) : Int) < 2 + (m : Int) % 5 := by omega
      have HF := Vl.hid (Hp.ff m c q d)
      obtain ⟨k, hk⟩ : ∃ k, k = 2 + m % 5 := ⟨_, rfl⟩
      have i2 : (((2 + m % 5 : Nat) : Int)) = 2 + (m : Int) % 5 := by omega
      rw [← hk] at HF HL
      have HI2 : Hid (Hp.Inv (Hp.wk2 q d)) := Vl.hid (HI.out.delS 2 0)
      have hn := (Hp.fs_inv k).le
      have hn2 := (Hp.fe_inv k c).le
      have hn3 : (Hp.fl k c).n ≤ 200 := ((Hp.fe_inv k c).begS false).le
      clear hk hj hjm
      go_wp2_with fail
      refine (may_any wq (p + 1) b (.pointer (some ⟨p, 0, none⟩)) (Hp.wk q d) (Hp.fs k) 2 0 HR HI (Vl.hid (show Mm.Lv wq (.pointer (some ⟨p, 0, none⟩)) (Hp.fs k) from Or.inl ⟨p, rfl, HL.out⟩)) hn).mono ?_
      rintro e w21 ⟨rfl, hb⟩
      have HL21 := Vl.hid (HL.out.below hb)
      have HR21 := Vl.hid (HR.out.below hb)
      have HB21 := Vl.hid (HB.out.trans (hb.mono HB.out.size))
      clear hb
      rw [show (Hp.mayE (Hp.fs k) (Hp.wk q d) 2 0 : Int) = 0 from by rw [HF.out.a]; rfl]
      go_wp2_with fail
      refine (delete_any w21 (p + 1) b (Hp.wk q d) 2 0 HR21 HI).mono ?_
      rintro e w22 ⟨rfl, hr, hb, hsz⟩
      have HR22 : Hid (Hp.Rn w22 (p + 1) b (Hp.wk2 q d)) := Vl.hid hr
      have HL22 := Vl.hid (HL21.out.keep (hb.block p (Nat.lt_succ_self p)))
      have HB22 := Vl.hid (HB21.out.trans (hb.mono (by have := HP.out; omega)))
      clear hr hb hsz
      rw [show (Hp.delE (Hp.wk q d) 2 0 : Int) = 0 from rfl]
      go_wp2_with fail
      refine (may_any w22 (p + 1) b (.pointer (some ⟨p, 0, none⟩)) (Hp.wk2 q d) (Hp.fs k) 3 0 HR22 HI2 (Vl.hid (show Mm.Lv w22 (.pointer (some ⟨p, 0, none⟩)) (Hp.fs k) from Or.inl ⟨p, rfl, HL22.out⟩)) hn).mono ?_
      rintro e w23 ⟨rfl, hb⟩
      have HL23 := Vl.hid (HL22.out.below hb)
      have HR23 := Vl.hid (HR22.out.below hb)
      have HB23 := Vl.hid (HB22.out.trans (hb.mono HB22.out.size))
      clear hb
      rw [show (Hp.mayE (Hp.fs k) (Hp.wk2 q d) 3 0 : Int) = 75 from by rw [HF.out.b]; rfl]
      rw [show Hp.mayW (Hp.fs k) (Hp.wk2 q d) 3 0 = 2 from HF.out.b']
      go_wp2_with fail
      refine (hsees_any w23 (p + 1) (.pointer (some ⟨b, 0, none⟩)) (.pointer (some ⟨p, 0, none⟩)) (Hp.wk2 q d) (Hp.fs k) 2 0 (Vl.hid (show Hp.Rv w23 (p + 1) (.pointer (some ⟨b, 0, none⟩)) (Hp.wk2 q d) from Or.inl ⟨b, rfl, HR23.out⟩)) HI2 (Vl.hid (show Mm.Lv w23 (.pointer (some ⟨p, 0, none⟩)) (Hp.fs k) from Or.inl ⟨p, rfl, HL23.out⟩)) hn).mono ?_
      rintro e w24 ⟨rfl, hb⟩
      have HL24 := Vl.hid (HL23.out.below hb)
      have HR24 := Vl.hid (HR23.out.below hb)
      have HB24 := Vl.hid (HB23.out.trans (hb.mono HB23.out.size))
      clear hb
      rw [show Hp.seesV (Hp.fs k) (Hp.wk2 q d) 2 0 = false from HF.out.s2]
      go_wp2_with fail
      refine (hsees_any w24 (p + 1) (.pointer (some ⟨b, 0, none⟩)) (.pointer (some ⟨p, 0, none⟩)) (Hp.wk2 q d) (Hp.fs k) 3 0 (Vl.hid (show Hp.Rv w24 (p + 1) (.pointer (some ⟨b, 0, none⟩)) (Hp.wk2 q d) from Or.inl ⟨b, rfl, HR24.out⟩)) HI2 (Vl.hid (show Mm.Lv w24 (.pointer (some ⟨p, 0, none⟩)) (Hp.fs k) from Or.inl ⟨p, rfl, HL24.out⟩)) hn).mono ?_
      rintro e w25 ⟨rfl, hb⟩
      have HL25 := Vl.hid (HL24.out.below hb)
      have HR25 := Vl.hid (HR24.out.below hb)
      have HB25 := Vl.hid (HB24.out.trans (hb.mono HB24.out.size))
      clear hb
      rw [show Hp.seesV (Hp.fs k) (Hp.wk2 q d) 3 0 = true from HF.out.s3]
      go_wp2_with fail
      refine (unseen_any w25 (p + 1) (.pointer (some ⟨b, 0, none⟩)) (.pointer (some ⟨p, 0, none⟩)) (Hp.wk2 q d) (Hp.fs k) 3 0 (Vl.hid (show Hp.Rv w25 (p + 1) (.pointer (some ⟨b, 0, none⟩)) (Hp.wk2 q d) from Or.inl ⟨b, rfl, HR25.out⟩)) HI2 (Vl.hid (show Mm.Lv w25 (.pointer (some ⟨p, 0, none⟩)) (Hp.fs k) from Or.inl ⟨p, rfl, HL25.out⟩)) hn).mono ?_
      rintro e w26 ⟨v26, rfl, ho, hb⟩
      rw [show Hp.unsL (Hp.fs k) (Hp.wk2 q d) 3 0 = [2] from HF.out.u3] at ho
      obtain ⟨q26, c26, rfl, -, hin⟩ := ho.iin
      have HIN26 := Vl.hid hin
      clear ho hin
      have HL26 := Vl.hid (HL25.out.below hb)
      have HR26 := Vl.hid (HR25.out.below hb)
      have HB26 := Vl.hid (HB25.out.trans (hb.mono HB25.out.size))
      clear hb
      go_wp2_with fail
      refine (ints_gen [2] [2] q26 (some ⟨w26.heap.size, 0, none⟩) 1 1 c26 1 _ (Vl.hid (HIN26.out.below ((Below.refl _ _).alloc (Nat.le_refl _) _))) (Vl.hid (Mm.iin_one (Mm.newAt w26 _ rfl))) (Vl.hid rfl) (Vl.hid rfl) (by decide)).mono ?_
      rintro e w27 ⟨rfl, hb'⟩
      have hb : Below w26.heap.size w26 w27 := ((Below.refl _ _).alloc (Nat.le_refl _) _).trans (hb'.mono (by simp))
      clear hb'
      have HL27 := Vl.hid (HL26.out.below hb)
      have HR27 := Vl.hid (HR26.out.below hb)
      have HB27 := Vl.hid (HB26.out.trans (hb.mono HB26.out.size))
      clear hb
      rw [show decide (([2] : List Int) = [2]) = true from rfl]
      cases c
      · go_wp2_with fail
        refine (abort_any w27 p (Hp.fs k) 2 HL27 hn).mono ?_
        rintro e w41 ⟨rfl, hl, hb⟩
        have HL41 : Hid (Mm.Lg w41 p (Hp.fe k false)) := Vl.hid hl
        have HR41 := Vl.hid (HR27.out.tch hb (Nat.lt_succ_self p))
        have HB41 := Vl.hid (HB27.out.trans (hb.bel (Nat.le_of_eq HP.out.symm) HB27.out.size))
        clear hl hb
        go_wp2_with fail
        refine (may_any w41 (p + 1) b (.pointer (some ⟨p, 0, none⟩)) (Hp.wk2 q d) (Hp.fe k false) 3 0 HR41 HI2 (Vl.hid (show Mm.Lv w41 (.pointer (some ⟨p, 0, none⟩)) (Hp.fe k false) from Or.inl ⟨p, rfl, HL41.out⟩)) hn2).mono ?_
        rintro e w42 ⟨rfl, hb⟩
        have HL42 := Vl.hid (HL41.out.below hb)
        have HR42 := Vl.hid (HR41.out.below hb)
        have HB42 := Vl.hid (HB41.out.trans (hb.mono HB41.out.size))
        clear hb
        rw [show (Hp.mayE (Hp.fe k false) (Hp.wk2 q d) 3 0 : Int) = 0 from by rw [HF.out.e]; rfl]
        rw [show Hp.mayW (Hp.fe k false) (Hp.wk2 q d) 3 0 = 0 from HF.out.e']
        go_wp2_with fail
        refine (begin_any w42 p (Hp.fe k false) false HL42 hn2).mono ?_
        rintro e w43 ⟨rfl, hl, hb⟩
        have HL43 : Hid (Mm.Lg w43 p (Hp.fl k false)) := Vl.hid hl
        have HR43 := Vl.hid (HR42.out.tch hb (Nat.lt_succ_self p))
        have HB43 := Vl.hid (HB42.out.trans (hb.bel (Nat.le_of_eq HP.out.symm) HB42.out.size))
        clear hl hb
        go_wp2_with fail
        refine (hsees_any w43 (p + 1) (.pointer (some ⟨b, 0, none⟩)) (.pointer (some ⟨p, 0, none⟩)) (Hp.wk2 q d) (Hp.fl k false) 3 0 (Vl.hid (show Hp.Rv w43 (p + 1) (.pointer (some ⟨b, 0, none⟩)) (Hp.wk2 q d) from Or.inl ⟨b, rfl, HR43.out⟩)) HI2 (Vl.hid (show Mm.Lv w43 (.pointer (some ⟨p, 0, none⟩)) (Hp.fl k false) from Or.inl ⟨p, rfl, HL43.out⟩)) hn3).mono ?_
        rintro e w44 ⟨rfl, hb⟩
        have HL44 := Vl.hid (HL43.out.below hb)
        have HR44 := Vl.hid (HR43.out.below hb)
        have HB44 := Vl.hid (HB43.out.trans (hb.mono HB43.out.size))
        clear hb
        rw [show Hp.seesV (Hp.fl k false) (Hp.wk2 q d) 3 0 = true from HF.out.l3]
        go_wp2_with fail
        refine (hsees_any w44 (p + 1) (.pointer (some ⟨b, 0, none⟩)) (.pointer (some ⟨p, 0, none⟩)) (Hp.wk2 q d) (Hp.fl k false) (Cg.begA (Hp.fe k false) : Int) 0 (Vl.hid (show Hp.Rv w44 (p + 1) (.pointer (some ⟨b, 0, none⟩)) (Hp.wk2 q d) from Or.inl ⟨b, rfl, HR44.out⟩)) HI2 (Vl.hid (show Mm.Lv w44 (.pointer (some ⟨p, 0, none⟩)) (Hp.fl k false) from Or.inl ⟨p, rfl, HL44.out⟩)) hn3).mono ?_
        rintro e w45 ⟨rfl, hb⟩
        have HL45 := Vl.hid (HL44.out.below hb)
        have HR45 := Vl.hid (HR44.out.below hb)
        have HB45 := Vl.hid (HB44.out.trans (hb.mono HB44.out.size))
        clear hb
        rw [show Hp.seesV (Hp.fl k false) (Hp.wk2 q d) (Cg.begA (Hp.fe k false) : Int) 0 = true from HF.out.ll]
        go_wp2_with fail
        refine (unseen_any w45 (p + 1) (.pointer (some ⟨b, 0, none⟩)) (.pointer (some ⟨p, 0, none⟩)) (Hp.wk2 q d) (Hp.fl k false) 3 0 (Vl.hid (show Hp.Rv w45 (p + 1) (.pointer (some ⟨b, 0, none⟩)) (Hp.wk2 q d) from Or.inl ⟨b, rfl, HR45.out⟩)) HI2 (Vl.hid (show Mm.Lv w45 (.pointer (some ⟨p, 0, none⟩)) (Hp.fl k false) from Or.inl ⟨p, rfl, HL45.out⟩)) hn3).mono ?_
        rintro e w46 ⟨v46, rfl, ho, hb⟩
        rw [show Hp.unsL (Hp.fl k false) (Hp.wk2 q d) 3 0 = [] from HF.out.un rfl] at ho
        obtain ⟨q46, c46, rfl, -, hin⟩ := ho.iin
        have HIN46 := Vl.hid hin
        clear ho hin
        have HL46 := Vl.hid (HL45.out.below hb)
        have HR46 := Vl.hid (HR45.out.below hb)
        have HB46 := Vl.hid (HB45.out.trans (hb.mono HB45.out.size))
        clear hb
        go_wp2_with fail
        refine (wakes_any w46).mono ?_
        rintro e w47 ⟨rfl, hb⟩
        have HB47 := Vl.hid (HB46.out.trans (hb.mono HB46.out.size))
        clear hb
        go_wp2_with fail
        go_ret
        exact ⟨rfl, HB47.out⟩
      · go_wp2_with fail
        refine (commit_any w27 p (Hp.fs k) 2 HL27 hn (by rw [show (Hp.fs k).clk = _ from Hp.bsN_clk _ _]; decide)).mono ?_
        rintro e w41 ⟨rfl, hl, hb⟩
        have HL41 : Hid (Mm.Lg w41 p (Hp.fe k true)) := Vl.hid hl
        have HR41 := Vl.hid (HR27.out.tch hb (Nat.lt_succ_self p))
        have HB41 := Vl.hid (HB27.out.trans (hb.bel (Nat.le_of_eq HP.out.symm) HB27.out.size))
        clear hl hb
        go_wp2_with fail
        refine (may_any w41 (p + 1) b (.pointer (some ⟨p, 0, none⟩)) (Hp.wk2 q d) (Hp.fe k true) 3 0 HR41 HI2 (Vl.hid (show Mm.Lv w41 (.pointer (some ⟨p, 0, none⟩)) (Hp.fe k true) from Or.inl ⟨p, rfl, HL41.out⟩)) hn2).mono ?_
        rintro e w42 ⟨rfl, hb⟩
        have HL42 := Vl.hid (HL41.out.below hb)
        have HR42 := Vl.hid (HR41.out.below hb)
        have HB42 := Vl.hid (HB41.out.trans (hb.mono HB41.out.size))
        clear hb
        rw [show (Hp.mayE (Hp.fe k true) (Hp.wk2 q d) 3 0 : Int) = 71 from by rw [HF.out.e]; rfl]
        rw [show Hp.mayW (Hp.fe k true) (Hp.wk2 q d) 3 0 = 2 from HF.out.e']
        go_wp2_with fail
        refine (begin_any w42 p (Hp.fe k true) false HL42 hn2).mono ?_
        rintro e w43 ⟨rfl, hl, hb⟩
        have HL43 : Hid (Mm.Lg w43 p (Hp.fl k true)) := Vl.hid hl
        have HR43 := Vl.hid (HR42.out.tch hb (Nat.lt_succ_self p))
        have HB43 := Vl.hid (HB42.out.trans (hb.bel (Nat.le_of_eq HP.out.symm) HB42.out.size))
        clear hl hb
        go_wp2_with fail
        refine (hsees_any w43 (p + 1) (.pointer (some ⟨b, 0, none⟩)) (.pointer (some ⟨p, 0, none⟩)) (Hp.wk2 q d) (Hp.fl k true) 3 0 (Vl.hid (show Hp.Rv w43 (p + 1) (.pointer (some ⟨b, 0, none⟩)) (Hp.wk2 q d) from Or.inl ⟨b, rfl, HR43.out⟩)) HI2 (Vl.hid (show Mm.Lv w43 (.pointer (some ⟨p, 0, none⟩)) (Hp.fl k true) from Or.inl ⟨p, rfl, HL43.out⟩)) hn3).mono ?_
        rintro e w44 ⟨rfl, hb⟩
        have HL44 := Vl.hid (HL43.out.below hb)
        have HR44 := Vl.hid (HR43.out.below hb)
        have HB44 := Vl.hid (HB43.out.trans (hb.mono HB43.out.size))
        clear hb
        rw [show Hp.seesV (Hp.fl k true) (Hp.wk2 q d) 3 0 = true from HF.out.l3]
        go_wp2_with fail
        refine (hsees_any w44 (p + 1) (.pointer (some ⟨b, 0, none⟩)) (.pointer (some ⟨p, 0, none⟩)) (Hp.wk2 q d) (Hp.fl k true) (Cg.begA (Hp.fe k true) : Int) 0 (Vl.hid (show Hp.Rv w44 (p + 1) (.pointer (some ⟨b, 0, none⟩)) (Hp.wk2 q d) from Or.inl ⟨b, rfl, HR44.out⟩)) HI2 (Vl.hid (show Mm.Lv w44 (.pointer (some ⟨p, 0, none⟩)) (Hp.fl k true) from Or.inl ⟨p, rfl, HL44.out⟩)) hn3).mono ?_
        rintro e w45 ⟨rfl, hb⟩
        have HL45 := Vl.hid (HL44.out.below hb)
        have HR45 := Vl.hid (HR44.out.below hb)
        have HB45 := Vl.hid (HB44.out.trans (hb.mono HB44.out.size))
        clear hb
        rw [show Hp.seesV (Hp.fl k true) (Hp.wk2 q d) (Cg.begA (Hp.fe k true) : Int) 0 = false from HF.out.ll]
        go_wp2_with fail
        refine (wakes_any w45).mono ?_
        rintro e w46 ⟨rfl, hb⟩
        have HB46 := Vl.hid (HB45.out.trans (hb.mono HB45.out.size))
        clear hb
        go_wp2_with fail
        go_ret
        exact ⟨rfl, HB46.out⟩
end Go.Proofs.Ytoobljkjhpkghaa
