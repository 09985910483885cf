/- Take walked. -/
import Derived.Test.YthaenobciefjiaaDoorA12
namespace Go.Proofs.YthaenobciefjiaaDoor
open Go.RowKit Go.Maps Go.ChangeMaps Go.MapKept

theorem Md.Tab.ev {w w' : World} {tag tag' : Nat → Option Lk.Lb} (h : Md.Tab w) (hE : Lk.Ev tag tag' w w') (hg : tag 0 = none) : Md.Tab w' := by
  have e : ∀ i, w'.cell? ⟨0, i, none⟩ = w.cell? ⟨0, i, none⟩ := fun i => World.cell?_of_block (a := ⟨0, i, none⟩) (hE.block _ h.lt hg)
  exact ⟨(e _).trans h.c1, (e _).trans h.c2, (e _).trans h.c3, (e _).trans h.c4, (e _).trans h.c5, (e _).trans h.c6, (e _).trans h.c7, (e _).trans h.c8⟩

namespace Lk
inductive TakeR (s : St) (x : Int) (nm : Bytes) (m : Int) : Int → St → Prop
  | arg : okArg x nm m = false → TakeR s x nm m 1 s
  | state : okArg x nm m = true → s.want x ≠ none → TakeR s x nm m 76 s
  | has : okArg x nm m = true → s.want x = none → s.set x nm &&& bit m ≠ 0 → TakeR s x nm m 0 s
  | waits : okArg x nm m = true → s.want x = none → s.set x nm &&& bit m = 0 → barredP s x nm m → TakeR s x nm m 75 (waitS s x nm m)
  | gets : okArg x nm m = true → s.want x = none → s.set x nm &&& bit m = 0 → ¬ barredP s x nm m → TakeR s x nm m 0 (giveS (holS s x) x nm (s.set x nm ||| bit m))
/-- What a take comes to. -/
def TakeE (w w' : World) (tag : Nat → Option Lb) (p N : Nat) (s : St) (bs bw bq : Nat) (x : Int) (nm : Bytes) (m : Int) (E : Int) : Prop :=
  ∃ s' tag' bi' sl', TakeR s x nm m E s' ∧ Tb w' tag' p (N + 2) s' bs bw bq bi' sl' ∧ Ev tag tag' w w'
theorem Bx.step {w W W' : World} {nm : Bytes} {m : Int} (h : Bx w W nm m) (hb : Below W.heap.size W W') : Bx w W' nm m := ⟨(hb.block _ h.lt).trans h.box, h.bel.trans (hb.mono (Nat.le_of_lt h.lt))⟩
/-- A box of a request. -/
def Box (W : World) (b : Nat) (nm : Bytes) (m : Int) : Prop := W.heap[b]? = some (.cells #[str nm, .int .i64 m] 64 (0, 0))
theorem Box.b0 {W : World} {b : Nat} {nm : Bytes} {m : Int} (h : Box W b nm m) : W.cell? ⟨b, 0, none⟩ = some (str nm) := by unfold World.cell?; simp only [show W.heap[b]? = _ from h]; rfl
theorem Box.b1 {W : World} {b : Nat} {nm : Bytes} {m : Int} (h : Box W b nm m) : W.cell? ⟨b, 1, none⟩ = some (.int .i64 m) := by unfold World.cell?; simp only [show W.heap[b]? = _ from h]; rfl
theorem Box.of {W W' : World} {b : Nat} {nm : Bytes} {m : Int} (h : Box W b nm m) (e : W'.heap[b]? = W.heap[b]?) : Box W' b nm m := Eq.trans e h
theorem Box.lt {W : World} {b : Nat} {nm : Bytes} {m : Int} (h : Box W b nm m) : b < W.heap.size := (Array.getElem?_eq_some_iff.1 h).1
variable {w : World} {tag : Nat → Option Lb} {p N : Nat} {s : St} {bs bw bq : Nat} {bi : Int → Nat} {sl : Bytes → Value}
theorem TakeE.same (h : Tb w tag p N s bs bw bq bi sl) {w' : World} (hb : Below w.heap.size w w') {x : Int} {nm : Bytes} {m E : Int} (hR : TakeR s x nm m E s) : TakeE w w' tag p N s bs bw bq x nm m E :=
  ⟨s, tag, bi, sl, hR, (h.below hb).mono (by omega), Ev.below hb⟩
end Lk

set_option maxHeartbeats 400000 in
theorem take_nil (w : World) (x m : Int) (nm : Value) :
    Calls Tryd.prog 12 #[.pointer none, .int .i64 x, nm, .int .i64 m] w fun e w' => e = .returned (.int .i64 1) ∧ w' = w := by
  go_enter Tryd.func12, Tryd.ntmps12
  go_wp2
  go_ret
  exact ⟨rfl, rfl⟩

set_option maxRecDepth 100000 in
set_option maxHeartbeats 4000000 in
theorem take_any (w : World) (tag : Nat → Option Lk.Lb) (p N : Nat) (s : Lk.St) (bs bw bq : Nat) (bi : Int → Nat) (sl : Lk.Bytes → Value) (x : Int) (nm : Lk.Bytes) (m : Int) (hT : Hid (Lk.Tb w tag p N s bs bw bq bi sl)) (hM : Hid (Md.Tab w)) (hx : Lk.wfI x) (hl : nm.length ≤ maxLen) (hN : Hid (N < 90000)) :
    Calls Tryd.prog 12 #[.pointer (some ⟨p, 0, none⟩), .int .i64 x, Lk.str nm, .int .i64 m] w fun e w' => ∃ E, e = .returned (.int .i64 E) ∧ Lk.TakeE w w' tag p N s bs bw bq x nm m E := by
  have hsz : (⟨nm.toArray⟩ : ByteArray).size = nm.length := by simp [ByteArray.size]
  cases hh : (decide (1 ≤ x) && decide (x ≤ 200))
  · have HA : Hid (Lk.okArg x nm m = false) := Mp.hid (by unfold Lk.okArg; rw [hh]; rfl)
    go_enter Tryd.func12, Tryd.ntmps12
    go_wp2_with (first | (go_at_call 29; refine (isHolder_any _ _).mono ?_; rw [hh]; rintro e w' ⟨rfl, rfl⟩) | go_in)
    go_ret
    exact ⟨_, rfl, Lk.TakeE.same hT.out (Below.refl _ _) (.arg HA.out)⟩
  · cases hm : Md.isB m
    · have HA : Hid (Lk.okArg x nm m = false) := Mp.hid (by unfold Lk.okArg; rw [hm, Bool.and_false]; rfl)
      go_enter Tryd.func12, Tryd.ntmps12
      go_wp2_with (first | (go_at_call 29; refine (isHolder_any _ _).mono ?_; rw [hh]; rintro e w' ⟨rfl, rfl⟩) | (go_at_call 30; refine (isMode_any _ _).mono ?_; rw [hm]; rintro e w' ⟨rfl, rfl⟩) | go_in)
      go_ret
      exact ⟨_, rfl, Lk.TakeE.same hT.out (Below.refl _ _) (.arg HA.out)⟩
    · by_cases hn : nm.length ≤ 8
      · have HA : Hid (Lk.okArg x nm m = true) := Mp.hid (by unfold Lk.okArg; rw [hm, hh]; simpa using hn)
        have hn2 : ¬ (8 : Int) < (nm.length : Int) := by omega
        have c1 := hT.out.c1
        have hO := hT.out.lookO hx
        cases hw : s.want x
        · have e1 : (s.want x).isSome = false := by rw [hw]; rfl
          have e2 : Lk.wn s x = [] := by unfold Lk.wn; rw [hw]; rfl
          have e3 : Lk.wm s x = 0 := by unfold Lk.wm; rw [hw]; rfl
          rw [e1, e2, e3] at hO
          have HW := Mp.hid hw
          have hmb : 1 ≤ m ∧ m ≤ 8 := Lk.isB_iff.1 hm
          clear hw e1 e2 e3
          go_enter Tryd.func12, Tryd.ntmps12
          go_wp2_with (first | (go_at_call 29; refine (isHolder_any _ _).mono ?_; rw [hh]; rintro e w' ⟨rfl, hw'⟩; obtain rfl := hw'.symm) | (go_at_call 30; refine (isMode_any _ _).mono ?_; rw [hm]; rintro e w' ⟨rfl, hw'⟩; obtain rfl := hw'.symm) | go_in)
          have HT1 := Mp.hid (hT.out.alloc (.cells #[.string ⟨#[]⟩, .int .i64 0] 64))
          have HB1 := Mp.hid ((Below.refl _ w).alloc (Nat.le_refl _) (.cells #[.string ⟨#[]⟩, .int .i64 0] 64))
          clear hO c1
          generalize w.alloc (.cells #[.string ⟨#[]⟩, .int .i64 0] 64) = W1 at HT1 HB1 ⊢
          have HT1d := Mp.hid HT1.out.drew
          have hsh := Lk.shl_run hmb
          have hand := Lk.and_bit (hT.out.lo x nm) hmb
          have HMB := Mp.hid hmb
          clear hmb
          by_cases hbit : s.set x nm &&& Lk.bit m = 0
          · have HBIT := Mp.hid hbit
            rw [hbit] at hand
            clear hbit
            go_region_held3 (fun _ => True) (trivial) ((go_at_call 19; refine (modes_any _ tag p N s bs bw bq bi sl x nm HT1d hx hl).mono ?_; rintro e w' ⟨rfl, hw'⟩; obtain rfl := hw'.symm))
            have HB1d := Mp.hid HB1.out.drew
            clear HT1 HB1 hand hsh
            obtain ⟨W2, hW2⟩ : ∃ W2, W2 = W1.drew := ⟨_, rfl⟩
            rw [← hW2] at HT1d HB1d ⊢
            clear hW2
            go_wp2_with fail
            refine (clone_any nm _ (Mp.hid (by omega))).mono ?_
            rintro e w1 ⟨rfl, hb⟩
            have HT2 := Mp.hid (HT1d.out.below hb)
            have HB2 := Mp.hid (HB1d.out.trans (hb.mono HB1d.out.size))
            have HT3 := Mp.hid (HT2.out.alloc (.cells #[Lk.str nm, .int .i64 m] 64))
            have HX3 := Mp.hid (Lk.Bx.start w1 nm m)
            have HM3 := Mp.hid (hM.out.below (HB2.out.trans (HX3.out.bel.mono HB2.out.size)))
            clear hb HT1d HB1d
            go_wp2_with fail
            refine (barred_any _ tag p N s bs bw bq bi sl x nm m HT3 HM3 hx hl (Mp.hid (by have := hN.out; omega))).mono ?_
            rintro e w3 ⟨b, rfl, hbar, hb⟩
            have HT4 := Mp.hid (HT3.out.below hb)
            have HX4 := Mp.hid (HX3.out.step hb)
            have HB4 := Mp.hid (HB2.out.trans (HX4.out.bel.mono HB2.out.size))
            have HBAR := Mp.hid hbar
            have HLX : Hid (w.heap.size ≤ w1.heap.size) := Mp.hid HB2.out.size
            clear hb hbar HT3 HX3 HM3 HT2
            cases b
            · have HT4' := HT4
              have b0 := HX4.out.b0
              have b1 := HX4.out.b1
              go_wp2_with fail
              refine (give_any _ tag p N s bs bw bq bi sl x nm m HT4 hx hl HMB (Mp.hid (by have := hN.out; unfold maxLen; omega))).mono ?_
              rintro e w5 ⟨rfl, tag', bi', hT5, hE5⟩
              have H5 := Mp.hid (And.intro hT5 hE5)
              clear hT5 hE5 b0 b1
              go_wp2
              go_ret
              exact ⟨_, rfl, _, tag', bi', sl, .gets HA.out HW.out HBIT.out (fun hb => nomatch (HBAR.out.2 hb)), H5.out.1, (Lk.Ev.below HB4.out).trans H5.out.2⟩
            · obtain ⟨w4, hr4, hF4, hM4⟩ := (HT4.out.wants.kept (w' := w3.drew) rfl).store Lk.iK_inj Lk.keyI Tryd.underlying58 (by have := hN.out; unfold maxLen; omega) (Lk.key_i hx) (Lk.reqV (nm, m))
              have HT5 := Mp.hid (HT4.out.drew.putWant hM4 (r := (nm, m)) hF4)
              have HTG : Hid (tag w1.heap.size = none) := Mp.hid (hT.out.top _ HLX.out)
              have HX5 : Hid (Lk.Box w4 w1.heap.size nm m) := Mp.hid (Lk.Box.of (W := w3) HX4.out.box ((Mp.turned_block hM4).2.1 _ (fun e => by have h1 := HTG.out; rw [e, HT4.out.tw] at h1; cases h1)))
              have HE5 : Hid (Lk.Ev tag tag w w4) := Mp.hid ((Lk.Ev.below HB4.out).drew.trans (Lk.Ev.turned hM4 HT4.out.tw))
              have HS4 : Hid (w3.drew.cell? ⟨p, 1, none⟩ = some (.map (some bw)) ∧ w3.drew.cell? ⟨w1.heap.size, 0, none⟩ = some (Lk.str nm) ∧ w3.drew.cell? ⟨w1.heap.size, 1, none⟩ = some (.int .i64 m)) := Mp.hid ⟨HT4.out.drew.c1, HX4.out.drew.b0, HX4.out.drew.b1⟩
              have HS5 : Hid (w4.cell? ⟨p, 1, none⟩ = some (.map (some bw)) ∧ w4.cell? ⟨w1.heap.size, 0, none⟩ = some (Lk.str nm) ∧ w4.cell? ⟨w1.heap.size, 1, none⟩ = some (.int .i64 m)) := Mp.hid ⟨HT5.out.c1, HX5.out.b0, HX5.out.b1⟩
              clear hF4 hM4
              go_wp2_with fail
              go_region_held3 (fun w' => w'.cell? ⟨p, 1, none⟩ = some (.map (some bw)) ∧ w'.cell? ⟨w1.heap.size, 0, none⟩ = some (Lk.str nm) ∧ w'.cell? ⟨w1.heap.size, 1, none⟩ = some (.int .i64 m)) (first | (with_reducible exact HS4.out) | (with_reducible exact HS5.out)) (fail)
              clear HS4 HS5 hr4 HT4 HX4
              obtain ⟨v0, v', w5, w6, hq⟩ := HT5.out.enq nm x hl hx (by have := hN.out; omega)
              have HQ := Mp.hid hq
              clear hq
              have l1 := HQ.out.l1
              have l2 := HQ.out.l2
              have hup := HQ.out.up
              have HO := Mp.hid (HQ.out.old _ HX5.out.lt HTG.out)
              have HS4 : Hid (w4.drew.cell? ⟨p, 2, none⟩ = some (.map (some bq)) ∧ w4.drew.cell? ⟨w1.heap.size, 0, none⟩ = some (Lk.str nm)) := Mp.hid ⟨HT5.out.drew.c2, HX5.out.b0⟩
              have HS5 : Hid ((w4.alloc (.cells #[.int .i64 x] 3)).drew.cell? ⟨p, 2, none⟩ = some (.map (some bq)) ∧ (w4.alloc (.cells #[.int .i64 x] 3)).drew.cell? ⟨w1.heap.size, 0, none⟩ = some (Lk.str nm)) := Mp.hid ⟨(HT5.out.alloc _).drew.c2, (HX5.out.of (Below.heap_alloc _ _ _ HX5.out.lt)).b0⟩
              have HS6 : Hid (w5.cell? ⟨p, 2, none⟩ = some (.map (some bq)) ∧ w5.cell? ⟨w1.heap.size, 0, none⟩ = some (Lk.str nm)) := Mp.hid ⟨HQ.out.c2.1, (HX5.out.of HO.out.1).b0⟩
              have HS7 : Hid (w6.cell? ⟨p, 2, none⟩ = some (.map (some bq)) ∧ w6.cell? ⟨w1.heap.size, 0, none⟩ = some (Lk.str nm)) := Mp.hid ⟨HQ.out.c2.2, (HX5.out.of HO.out.2).b0⟩
              go_wp2_with fail
              go_region_held3 (fun w' => w'.cell? ⟨p, 2, none⟩ = some (.map (some bq)) ∧ w'.cell? ⟨w1.heap.size, 0, none⟩ = some (Lk.str nm)) (first | (with_reducible exact HS4.out) | (with_reducible exact HS5.out) | (with_reducible exact HS6.out) | (with_reducible exact HS7.out)) ((refine Mp.step_app rfl _ _ 37 rfl v0 (.slice (some ⟨w4.heap.size, 0, none⟩) 1 1) v' w5 rfl rfl HQ.out.ap ?_))
              all_goals
                go_wp2
                go_ret
                obtain ⟨tag', sl', hT6, hE6⟩ := HQ.out.fin
                exact ⟨_, rfl, _, tag', bi, sl', .waits HA.out HW.out HBIT.out (by first | exact HBAR.out.1 trivial | exact HBAR.out.1 rfl), hT6, HE5.out.trans hE6⟩
          · have HBIT := Mp.hid hbit
            have hbz : (((s.set x nm &&& Lk.bit m : Nat) : Int) == 0) = false := by simpa using hbit
            clear hbit
            go_region_held3 (fun _ => True) (trivial) ((go_at_call 19; refine (modes_any _ tag p N s bs bw bq bi sl x nm HT1d hx hl).mono ?_; rintro e w' ⟨rfl, hw'⟩; obtain rfl := hw'.symm))
            go_wp2
            go_ret
            exact ⟨_, rfl, Lk.TakeE.same hT.out HB1.out.drew (.has HA.out HW.out HBIT.out)⟩
        · have e1 : (s.want x).isSome = true := by rw [hw]; rfl
          rw [e1] at hO
          have HW := Mp.hid hw
          clear hw e1
          go_enter Tryd.func12, Tryd.ntmps12
          go_wp2_with (first | (go_at_call 29; refine (isHolder_any _ _).mono ?_; rw [hh]; rintro e w' ⟨rfl, hw'⟩; obtain rfl := hw'.symm) | (go_at_call 30; refine (isMode_any _ _).mono ?_; rw [hm]; rintro e w' ⟨rfl, hw'⟩; obtain rfl := hw'.symm) | go_in)
          go_ret
          exact ⟨_, rfl, Lk.TakeE.same hT.out (by repeat (first | exact Below.refl _ _ | refine Below.setCell ?_ (Nat.le_refl _) _ | refine Below.alloc ?_ (by simp) _)) (.state HA.out (by rw [HW.out]; exact fun e => nomatch e))⟩
      · have HA : Hid (Lk.okArg x nm m = false) := Mp.hid (by unfold Lk.okArg; rw [decide_eq_false hn, Bool.and_false])
        have hn2 : (8 : Int) < (nm.length : Int) := by omega
        go_enter Tryd.func12, Tryd.ntmps12
        go_wp2_with (first | (go_at_call 29; refine (isHolder_any _ _).mono ?_; rw [hh]; rintro e w' ⟨rfl, rfl⟩) | (go_at_call 30; refine (isMode_any _ _).mono ?_; rw [hm]; rintro e w' ⟨rfl, rfl⟩) | go_in)
        go_ret
        exact ⟨_, rfl, Lk.TakeE.same hT.out (Below.refl _ _) (.arg HA.out)⟩

end Go.Proofs.YthaenobciefjiaaDoor
