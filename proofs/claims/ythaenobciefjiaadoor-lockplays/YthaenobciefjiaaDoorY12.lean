/- LockPlays: the walk. -/
import Derived.Test.YthaenobciefjiaaDoorY10
import Derived.Test.YthaenobciefjiaaDoorYC
import Derived.Test.YthaenobciefjiaaDoorYB
import Derived.Test.YthaenobciefjiaaDoorZ15
import Derived.Test.YthaenobciefjiaaDoorOpenS
import Derived.Deep.RegionHeld3
namespace Go.Proofs.YthaenobciefjiaaDoor
open Go.RowKit Go.Maps Go.ChangeMaps Go.MapKept Go.Sort Go.Shelf

set_option maxHeartbeats 400000 in
theorem forB_any (X : List Nat) (w W : World) (p N : Nat) (s : Lk.St) (bs bw bq : Nat) (x : Int) (hO : Hid (Lk.Ob X w W p N s bs bw bq)) (hM : Hid (Md.Tab w)) (hx : Lk.wfI x) (hI : Hid (Lk.Inv s)) (hN : Hid (N < 90000)) :
    Calls Tryd.prog 21 #[.pointer (some ⟨p, 0, none⟩), .int .i64 x] W fun e w' => ∃ (v : Value) (L : List Int), e = .returned v ∧ w'.ownsRow W.heap.size 3 1 v L.length (L.map (Value.int .i64)) ∧ Rs.Up (· ≤ ·) L ∧ (∀ o, o ∈ L ↔ ∃ r, s.want x = some r ∧ Lk.barB s x r.1 r.2 o = true) ∧ L.length ≤ 2 * N ∧ Below W.heap.size W w' := by
  obtain ⟨F, hF, hX⟩ := hO.out
  exact forO_any F w W p N s bs bw bq x (Mp.hid hF) hM hx (Mp.hid (fun r hr => Nat.le_trans (hI.out.wi x r hr).2 (by unfold maxLen; omega))) hN

namespace Lk
theorem step_box (W : World) (x : Stp) : (W.alloc (.cells #[.int .i64 x.kd, .int .i64 x.ho, .int .i64 x.md, str x.nm] 32)).heap[W.heap.size]? = some (.cells #[.int .i64 x.kd, .int .i64 x.ho, .int .i64 x.md, str x.nm] 32 (0, 0)) := (MapKept.heap_alloc W _).1
/-- The reference's table, made. -/
theorem Rm.new (W : World) : Rm [W.heap.size] (W.alloc (.cells #[.slice none 0 0, .slice none 0 0] 28)) W.heap.size ⟨[], []⟩ :=
  ⟨by simp, none, 0, none, 0, newAt W _ rfl, Or.inl rfl, Or.inl rfl, fun _ => ⟨rfl, rfl⟩, fun _ => ⟨rfl, rfl⟩, Nat.le_refl _, Nat.le_refl _, (fun _ _ h => nomatch h), (fun _ _ h => nomatch h)⟩
/-- Both tables, between two steps. -/
structure Pl (w wr : World) (p T N m : Nat) (bs bw bq : Nat) (s : St) (r : Rt) (X : List Nat) : Prop where
  ob : Ob X w wr p N s bs bw bq
  rm : Rm X wr T r
  inv : Inv s
  ap : Ap s
  wb : Wb s
  rf : Rf s r
  len : r.has.length + r.qu.length ≤ m
  lo : w.heap.size ≤ T
variable {w wr w2 w3 : World} {p T N m bs bw bq : Nat} {s s' : St} {r : Rt} {X : List Nat}
theorem Pl.below (h : Pl w wr p T N m bs bw bq s r X) (hb : Below wr.heap.size wr w2) : Pl w w2 p T N m bs bw bq s r X := ⟨h.ob.below hb, h.rm.below hb, h.inv, h.ap, h.wb, h.rf, h.len, h.lo⟩
theorem Lies.keep2 {W W' : World} {pp : Option Addr} {cs : List Value} (h : Lies W pp cs) (hk : ∀ b o, pp = some ⟨b, o, none⟩ → W'.heap[b]? = W.heap[b]?) : Lies W' pp cs := by
  rcases h with h | ⟨b, o, h1, h2, h3⟩
  · exact Or.inl h
  · have e := hk b o h1
    have hlt : b < W'.heap.size := by
      rw [Array.getElem?_eq_getElem h2] at e
      exact (Array.getElem?_eq_some_iff.1 e).1
    exact Or.inr ⟨b, o, h1, hlt, fun j u hu => (World.cell?_of_block (a := ⟨b, o + j, none⟩) e).trans (h3 j u hu)⟩
theorem Pl.mid (h : Pl w wr p T N m bs bw bq s r X) (hk : ∀ b ∈ X, w2.heap[b]? = wr.heap[b]?) : Rm X w2 T r := by
  obtain ⟨pa, ca, pb, cb, h1, h2, h3, h4, h5, h6, h7, h8, h9⟩ := h.rm.cell
  exact ⟨h.rm.mem, pa, ca, pb, cb, (hk T h.rm.mem).trans h1, Lies.keep2 h2 (fun b o e => hk b (h8 b o e).1), Lies.keep2 h3 (fun b o e => hk b (h9 b o e).1), h4, h5, h6, h7, h8, h9⟩
theorem Pl.next {s2 : St} {r2 : Rt} {N2 m2 : Nat} (hlo : w.heap.size ≤ T) (hT : T ∈ X) (ho : Ob X w w2 p N2 s2 bs bw bq) (he : Ends X w2 w3 T r2) (hI : Inv s2) (hA : Ap s2) (hW : Wb s2) (hR : Rf s2 r2) (hl : r2.has.length + r2.qu.length ≤ m2) : ∃ X2, Pl w w3 p T N2 m2 bs bw bq s2 r2 X2 := by
  obtain ⟨Y, h1, h2, h3⟩ := he
  exact ⟨Y ++ X, ho.refd hT hlo h2 h3, h1, hI, hA, hW, hR, hl, hlo⟩
/-- A step's box beside them. -/
def Bx4 (W : World) (b : Nat) (x : Stp) : Prop := W.heap[b]? = some (.cells #[.int .i64 x.kd, .int .i64 x.ho, .int .i64 x.md, str x.nm] 32 (0, 0))
theorem Bx4.cells {W : World} {b : Nat} {x : Stp} (h : Bx4 W b x) : W.cell? ⟨b, 0, none⟩ = some (.int .i64 x.kd) ∧ W.cell? ⟨b, 1, none⟩ = some (.int .i64 x.ho) ∧ W.cell? ⟨b, 2, none⟩ = some (.int .i64 x.md) ∧ W.cell? ⟨b, 3, none⟩ = some (str x.nm) := by
  refine ⟨?_, ?_, ?_, ?_⟩ <;> (unfold World.cell?; simp only [show W.heap[b]? = _ from h]; rfl)
theorem Bx4.of {W W' : World} {b : Nat} {x : Stp} (h : Bx4 W b x) (e : W'.heap[b]? = W.heap[b]?) : Bx4 W' b x := e.trans h
theorem Bx4.below {W W' : World} {b : Nat} {x : Stp} (h : Bx4 W b x) (hb : Below W.heap.size W W') : Bx4 W' b x := h.of (hb.block b (heapLt h))
theorem Pl.box (h : Pl w wr p T N m bs bw bq s r X) (o : Obj) : Pl w (wr.alloc o) p T N m bs bw bq s r (wr.heap.size :: X) :=
  ⟨h.ob.new o, (h.rm.below (belAl (Below.refl _ _) o)).more (fun _ hb => List.mem_cons_of_mem _ hb), h.inv, h.ap, h.wb, h.rf, h.len, h.lo⟩
theorem Ends.blk (he : Ends X wr w2 T r) {g : Nat} (hb : g < wr.heap.size) (hne : g ≠ T) : w2.heap[g]? = wr.heap[g]? := by
  obtain ⟨Y, h1, h2, h3⟩ := he
  exact h2.block g hb (fun e => hne (by injection e))
theorem Sl.row {pp : Option Addr} {n c : Nat} {l : List Int} (h : Sl wr pp n c (numsV l)) : Md.Row wr pp l := fun j v hv => by
  obtain ⟨b, e, _, hc⟩ := h.num hv
  exact ⟨b, e, hc⟩
theorem want_is (h : Rf s r) (k : Int) : wantV (r.qu.find? (fun y => y.ho == k)) = .agg #[str (wn s k), .int .i64 (wm s k), .bool (s.want k).isSome] := by
  have e := h.want k
  unfold wn wm
  cases hf : r.qu.find? (fun y => y.ho == k) with
  | none => rw [hf] at e; rw [e]; rfl
  | some y => rw [hf] at e; rw [e]; rfl
theorem for_one (h : Rf s r) {k : Int} {L1 L2 : List Int} (u1 : Rs.Up (· ≤ ·) L1) (m1 : ∀ o, o ∈ L1 ↔ ∃ q, s.want k = some q ∧ barB s k q.1 q.2 o = true) (u2 : Rs.Up (· ≤ ·) L2) (m2 : ∀ o, o ∈ L2 ↔ ∃ (i : Nat) (y : Hd), r.qu[i]? = some y ∧ y.ho = k ∧ BarsR r.has (r.qu.take i) y o) : L1 = L2 := by
  refine Rs.one (fun _ _ => Int.le_antisymm) u1 u2 (fun o => ?_)
  rw [m1, m2]
  constructor
  · rintro ⟨q, hq, hb⟩
    rw [h.want] at hq
    cases hf : r.qu.find? (fun y => y.ho == k) with
    | none => rw [hf] at hq; cases hq
    | some y =>
      rw [hf] at hq
      injection hq with hq
      have hy := List.mem_of_find?_eq_some hf
      have hk : y.ho = k := by simpa using List.find?_some hf
      obtain ⟨i, hi⟩ := List.getElem?_of_mem hy
      subst hk hq
      exact ⟨i, y, hi, rfl, (for_rf h hi o).1 hb⟩
  · rintro ⟨i, y, hi, rfl, hb⟩
    exact ⟨_, h.wantOf (List.mem_of_getElem? hi), (for_rf h hi o).2 hb⟩
theorem names_one (h : Rf s r) {L1 L2 : List Bytes} (u1 : Rs.Up (· ≤ ·) L1) (m1 : ∀ n, n ∈ L1 ↔ n.length ≤ maxLen ∧ (s.q n ≠ [] ∨ ∃ h, s.hol h = true ∧ s.set h n ≠ 0)) (u2 : Rs.Up (· ≤ ·) L2) (m2 : ∀ n, n ∈ L2 ↔ ∃ y ∈ r.has ++ r.qu, y.nm = n) : L1 = L2 :=
  Rs.one Rs.le_an u1 u2 (fun n => (m1 n).trans ((names_rf h n).trans (m2 n).symm))
end Lk

set_option maxRecDepth 100000 in
set_option maxHeartbeats 8000000 in
theorem lockPlays_walk (hRel : Hid Lk.RelOk) (a0 : Option Addr) (n0 c0 : Nat) (xs : List Lk.Stp) (w : World) (hS0 : Lk.Stps w a0 n0 c0 xs) (hM0 : Md.Tab w) :
    Calls Tryd.prog 3 #[.slice a0 n0 c0] w fun e w' => e = .returned (.bool true) ∧ Below w.heap.size w w' := by
  have hM := Mp.hid hM0
  have hS := Mp.hid hS0
  clear hM0 hS0
  have hm0 : n0 ≤ maxLen := Nat.le_trans hS.out.le hS.out.cap
  go_enter Tryd.func3, Tryd.ntmps3
  go_wp2_with fail
  refine (newB_any w).mono ?_
  rintro e w1 ⟨p, bs, bw, bq, rfl, hO⟩
  have HP1 : Hid (Lk.Pl w (w1.alloc (.cells #[.slice none 0 0, .slice none 0 0] 28)) p w1.heap.size 0 0 bs bw bq Lk.st0 ⟨[], []⟩ [w1.heap.size]) := Mp.hid ⟨hO.new _, Lk.Rm.new w1, Lk.Inv.start, Lk.Ap.start, (fun _ _ _ h => nomatch h), Lk.Rf.start, Nat.le_refl _, hO.bel.size⟩
  have HS1 : Hid (Lk.Stps (w1.alloc (.cells #[.slice none 0 0, .slice none 0 0] 28)) a0 n0 c0 xs) := Mp.hid ⟨hS.out.len, hS.out.le, hS.out.cap, fun i x hx => by
    obtain ⟨b, o, h1, h2, h3, h4, h5, h6, h7⟩ := hS.out.at_ i x hx
    have hb := hO.bel.alloc hO.bel.size (.cells #[.slice none 0 0, .slice none 0 0] 28)
    have k : ∀ j, (w1.alloc (.cells #[.slice none 0 0, .slice none 0 0] 28)).cell? ⟨b, j, none⟩ = w.cell? ⟨b, j, none⟩ := fun j => hb.cell (p := ⟨b, j, none⟩) h2
    exact ⟨b, o, h1, Nat.lt_of_lt_of_le h2 hb.size, (k _).trans h3, (k _).trans h4, (k _).trans h5, (k _).trans h6, h7⟩⟩
  clear hO
  go_wp2_with fail
  generalize w1.alloc (.cells #[.slice none 0 0, .slice none 0 0] 28) = w2 at HP1 HS1 ⊢
  generalize w1.heap.size = T at HP1 ⊢
  refine (fair_any a0 n0 c0 xs w2 HS1 hm0).mono ?_
  rintro e w1' ⟨⟨fb, rfl, hfb⟩, hq⟩
  obtain rfl := hq.symm
  clear hm0 HS1
  cases fb
  · go_wp2_with (first | (go_at_call 11; refine (wakes6_any _ (Mp.hid (HP1.out.ob.md hM.out))).mono ?_; rintro e w8 ⟨rfl, hb8⟩))
    go_ret
    exact ⟨rfl, HP1.out.ob.bel.trans (hb8.mono HP1.out.ob.bel.size)⟩
  · have hn0 : n0 ≤ 150 := hfb rfl
    clear hfb
    go_wp2_with fail
    go_loopw [5] (fun vi wr => ∃ (i : Nat) (s : Lk.St) (r : Lk.Rt) (X : List Nat), i ≤ n0 ∧ vi = .int .i64 (i : Int) ∧ Hid (Lk.Pl w wr p T (401 * i) i bs bw bq s r X)) (fun vi _ => n0 - (RowKit.intOf vi).toNat)
    case atStart => exact ⟨0, _, _, _, by omega, rfl, HP1.out⟩
    case round =>
      clear HP1
      obtain ⟨i, s, r, X, hi, rfl, HH⟩ := hrel
      by_cases hlt : i < n0
      · obtain ⟨x, hx⟩ : ∃ x, xs[i]? = some x := ⟨_, List.getElem?_eq_getElem (by rw [hS.out.len]; exact hlt)⟩
        obtain ⟨b, o, rfl, hbl, h0, h1, h2, h3, hfit⟩ := hS.out.at_ i x hx
        have k : ∀ j, wr.cell? ⟨b, j, none⟩ = w.cell? ⟨b, j, none⟩ := fun j => HH.out.ob.bel.cell (p := ⟨b, j, none⟩) hbl
        have r0 := (k _).trans h0
        have r1 := (k _).trans h1
        have r2 := (k _).trans h2
        have r3 := (k _).trans h3
        have HFit := Mp.hid hfit
        have g1 : (0 : Int) ≤ (i : Int) := by omega
        have g2 : (i : Int) < (n0 : Int) := by omega
        have HI := Mp.hid (And.intro hlt hn0)
        clear k h0 h1 h2 h3 hfit hx hbl hlt hi hn0
        have HX2 : Hid (Lk.Bx4 (wr.alloc (.cells #[.int .i64 x.kd, .int .i64 x.ho, .int .i64 x.md, Lk.str x.nm] 32)) wr.heap.size x) := Mp.hid (Lk.step_box wr x)
        have HP2 := Mp.hid (HH.out.box (.cells #[.int .i64 x.kd, .int .i64 x.ho, .int .i64 x.md, Lk.str x.nm] 32))
        obtain ⟨B, hB⟩ : ∃ B, B = wr.heap.size := ⟨_, rfl⟩
        have HBT : Hid (wr.heap.size ≠ T) := Mp.hid (by have := HH.out.rm.lt; omega)
        have hx0 := HX2.out.cells.1
        clear HH
        by_cases hkd : x.kd = 0
        · have hk0 : (x.kd == 0) = true := by simpa using hkd
          clear hkd
          go_wp2_with fail
          clear hx0 r0 r1 r2 r3
          generalize wr.alloc (.cells #[.int .i64 x.kd, .int .i64 x.ho, .int .i64 x.md, Lk.str x.nm] 32) = W2 at HX2 HP2 ⊢
          rw [← hB] at HX2 HP2 HBT ⊢
          clear hB
          have HPd := Mp.hid (HP2.out.below (Below.refl _ _).drew)
          have HXd : Hid (Lk.Bx4 W2.drew B x) := Mp.hid (HX2.out.below (Below.refl _ _).drew)
          have HOd := Mp.hid HPd.out.ob
          have HN9 : Hid (401 * i < 90000) := Mp.hid (by have := HI.out; omega)
          go_region_held3 (fun w' => w'.cell? ⟨B, 1, none⟩ = some (.int .i64 x.ho) ∧ w'.cell? ⟨B, 2, none⟩ = some (.int .i64 x.md) ∧ w'.cell? ⟨B, 3, none⟩ = some (Lk.str x.nm)) (first | exact HXd.out.cells.2 | exact HX3.out.cells.2 | exact HX4.out.cells.2)
            (first | (go_at_call 12; refine (takeB_any (B :: X) w _ p (401 * i) s bs bw bq x.ho x.nm x.md HOd hM HFit.out.ho HFit.out.nm HN9).mono ?_; rintro e w3 ⟨E, s3, rfl, hR, hO3, hk3⟩; have HX3 : Hid (Lk.Bx4 w3 B x) := Mp.hid (HXd.out.of (hk3 B (List.mem_cons_self ..))); have HT3 := Mp.hid (And.intro hR hO3); have HR3 : Hid (Lk.Rm (B :: X) w3 T r) := Mp.hid (HPd.out.mid hk3); clear hR hO3 hk3) | (go_at_call 13; refine (refTake_any (B :: X) w3 T r x.ho x.nm x.md HR3 (by have := HPd.out.len; have := HI.out; omega) (Mp.hid HPd.out.rf.nd) (Mp.hid HPd.out.rf.hf)).mono ?_; rintro e w4 ⟨rfl, hE4⟩; have HE4 := Mp.hid hE4; have hTR := Lk.take_rf HT3.out.1 HPd.out.rf; rw [← hTR.1]; have HTR := Mp.hid hTR.2; have HX4 : Hid (Lk.Bx4 w4 B x) := Mp.hid (HX3.out.of (hE4.blk (Lk.heapLt HX3.out) HBT.out)); clear hTR hE4))
          go_wp2_with fail
          have hAW := HT3.out.1.wb HPd.out.inv HPd.out.ap HPd.out.wb
          have hlen := Lk.takeT_len r x.ho x.nm x.md
          obtain ⟨X3, hPN⟩ := Lk.Pl.next (N2 := 401 * (i + 1)) (m2 := i + 1) HPd.out.lo HPd.out.rm.mem (HT3.out.2.mono (by omega)) HE4.out (HT3.out.1.inv HPd.out.inv) hAW.1 hAW.2 HTR.out (by have := HPd.out.len; omega)
          have HPN := Mp.hid hPN
          clear hAW hlen hPN HTR HE4 HT3 HR3 HX3 HXd HOd HPd HP2 HX2
          generalize (Lk.takeT r x.ho x.nm x.md).2 = r3 at HPN
          have HQ9 : Hid (i < 150 ∧ r3.has.length ≤ 1000 ∧ r3.qu.length ≤ 1000) := Mp.hid (by have h1 := HPN.out.len; have h2 := HI.out; exact ⟨by omega, by omega, by omega⟩)
          have HND : Hid ((r3.qu.map (·.ho)).Nodup) := Mp.hid HPN.out.rf.nd
          have HOKH : Hid (∀ y ∈ r3.has, y.ok) := Mp.hid HPN.out.rf.hf
          have HINV : Hid (Lk.Inv s3) := Mp.hid HPN.out.inv
          have HN9 : Hid (401 * (i + 1) < 90000) := Mp.hid (by have := HI.out; omega)
          go_loopw [7] (fun vh wi => ∃ h : Nat, h ≤ 9 ∧ vh = .int .i64 (h : Int) ∧ Hid (Below w4.heap.size w4 wi)) (fun vh _ => 9 - (RowKit.intOf vh).toNat)
          case atStart => exact ⟨0, by omega, rfl, Below.refl _ _⟩
          case round =>
            obtain ⟨h, hh9, rfl, HB⟩ := hrel
            have HPW := Mp.hid (HPN.out.below HB.out)
            have HXW := Mp.hid (HX4.out.below HB.out)
            have HOW := Mp.hid HPW.out.ob
            by_cases hh : h ≤ 8
            · have q1 : (h : Int) < 9 := by omega
              by_cases h8 : h = 8
              · have hx1 := HXW.out.cells.2.1
                have q8 : ((h : Int) == 8) = true := by simp; omega
                clear h8
                go_wp2_with (first | (go_at_call 17; refine (waitsB_any X3 w _ p (401 * (i + 1)) s3 bs bw bq (x.ho) HOW HFit.out.ho).mono ?_; rintro e wa ⟨rfl, hb⟩; have HBa := Mp.hid hb; have HRa := Mp.hid (HPW.out.rm.below hb); clear hb) | (go_at_call 18; refine (refWaits_any X3 wa T r3 (x.ho) HRa HQ9.out.2.2 HND).mono ?_; rintro e wb ⟨rfl, hb⟩; rw [Lk.want_is HPW.out.rf]; have HBb : Hid (Below wr.heap.size wr wb) := Mp.hid (Lk.belTr HBa.out hb); clear hb))
                have HBW : Hid (Below wr.heap.size wr (wb.alloc (.cells #[Lk.str (Lk.wn s3 (x.ho)), .int .i64 (Lk.wm s3 (x.ho)), .bool (s3.want (x.ho)).isSome] 42))) := Mp.hid (Lk.belAl HBb.out _)
                have HPD : Hid (Lk.Pl w ((wb.alloc (.cells #[Lk.str (Lk.wn s3 (x.ho)), .int .i64 (Lk.wm s3 (x.ho)), .bool (s3.want (x.ho)).isSome] 42))).drew p T (401 * (i + 1)) (i + 1) bs bw bq s3 r3 X3) := Mp.hid (HPW.out.below HBW.out.drew)
                have HOD := Mp.hid HPD.out.ob
                have HRD := Mp.hid HPD.out.rm
                have hbx : ((wb.alloc (.cells #[Lk.str (Lk.wn s3 (x.ho)), .int .i64 (Lk.wm s3 (x.ho)), .bool (s3.want (x.ho)).isSome] 42))).heap[wb.heap.size]? = _ := Lk.newAt wb _ rfl
                have HS21 : Hid (∀ w', Below ((wb.alloc (.cells #[Lk.str (Lk.wn s3 (x.ho)), .int .i64 (Lk.wm s3 (x.ho)), .bool (s3.want (x.ho)).isSome] 42))).heap.size (wb.alloc (.cells #[Lk.str (Lk.wn s3 (x.ho)), .int .i64 (Lk.wm s3 (x.ho)), .bool (s3.want (x.ho)).isSome] 42)) w' → w'.cell? ⟨wb.heap.size, 0, none⟩ = some (Lk.str (Lk.wn s3 (x.ho))) ∧ w'.cell? ⟨wb.heap.size, 1, none⟩ = some (.int .i64 (Lk.wm s3 (x.ho))) ∧ w'.cell? ⟨wb.heap.size, 2, none⟩ = some (.bool (s3.want (x.ho)).isSome) ∧ w'.cell? ⟨B, 3, none⟩ = some (Lk.str x.nm)) := Mp.hid (fun w' hb => by
                  have e := hb.block wb.heap.size (Lk.heapLt hbx)
                  refine ⟨?_, ?_, ?_, ?_⟩
                  · unfold World.cell?; simp only [e.trans hbx]; rfl
                  · unfold World.cell?; simp only [e.trans hbx]; rfl
                  · unfold World.cell?; simp only [e.trans hbx]; rfl
                  · exact (HXW.out.below (Lk.belTr HBW.out hb)).cells.2.2.2)
                clear hbx HBb HBa
                go_region_held3 (fun w' => w'.cell? ⟨wb.heap.size, 0, none⟩ = some (Lk.str (Lk.wn s3 (x.ho))) ∧ w'.cell? ⟨wb.heap.size, 1, none⟩ = some (.int .i64 (Lk.wm s3 (x.ho))) ∧ w'.cell? ⟨wb.heap.size, 2, none⟩ = some (.bool (s3.want (x.ho)).isSome) ∧ w'.cell? ⟨B, 3, none⟩ = some (Lk.str x.nm)) (first | exact HS21.out _ (Below.refl _ _).drew | exact HS21.out _ HC1.out | exact HS21.out _ HC2.out | exact HS21.out _ HC3.out | fail) (first | (go_at_call 19; refine (modesB_any X3 w _ p (401 * (i + 1)) s3 bs bw bq (x.ho) x.nm HOD HFit.out.ho HFit.out.nm).mono ?_; rintro e w' ⟨rfl, hq⟩; obtain rfl := hq.symm) | (go_at_call 20; refine (refSet_any X3 _ T r3 (x.ho) x.nm HRD HQ9.out.2.1 HOKH).mono ?_; rintro e w' ⟨rfl, hq⟩; obtain rfl := hq.symm; rw [← HPW.out.rf.set]) | (go_at_call 21; refine (forB_any X3 w _ p (401 * (i + 1)) s3 bs bw bq (x.ho) HOD hM HFit.out.ho HINV HN9).mono ?_; rintro e wc ⟨v1, L1, rfl, f1, f2, f3, f4, f5⟩; obtain ⟨p1, c1, rfl, hrw1, -⟩ := Lk.row_of f1; have HF1 := Mp.hid (And.intro f2 (And.intro f3 hrw1)); have HC1 : Hid (Below ((wb.alloc (.cells #[Lk.str (Lk.wn s3 (x.ho)), .int .i64 (Lk.wm s3 (x.ho)), .bool (s3.want (x.ho)).isSome] 42))).heap.size (wb.alloc (.cells #[Lk.str (Lk.wn s3 (x.ho)), .int .i64 (Lk.wm s3 (x.ho)), .bool (s3.want (x.ho)).isSome] 42)) wc) := Mp.hid (Lk.belTr (Below.refl _ _).drew f5); have HRC := Mp.hid (HRD.out.below f5); clear f1 f2 f3 f4 f5 hrw1) | (go_at_call 22; refine (refFor_any X3 wc T r3 (x.ho) HRC ⟨HQ9.out.2.1, HQ9.out.2.2⟩ HND HOKH).mono ?_; rintro e wd ⟨p2, c2, L2, rfl, f1, f2, f3, f4, f5⟩; have HLL : Hid (L1 = L2) := Mp.hid (Lk.for_one HPW.out.rf HF1.out.1 HF1.out.2.1 f2 f3); have HR1b : Hid (Md.Row wd p1 L1) := Mp.hid (HF1.out.2.2.below f5); have HR2b : Hid (Md.Row wd p2 L2) := Mp.hid f1.row; have HC2 : Hid (Below ((wb.alloc (.cells #[Lk.str (Lk.wn s3 (x.ho)), .int .i64 (Lk.wm s3 (x.ho)), .bool (s3.want (x.ho)).isSome] 42))).heap.size (wb.alloc (.cells #[Lk.str (Lk.wn s3 (x.ho)), .int .i64 (Lk.wm s3 (x.ho)), .bool (s3.want (x.ho)).isSome] 42)) wd) := Mp.hid (Lk.belTr HC1.out f5); have HL9 : Hid (L1.length ≤ 1000000) := Mp.hid (by rw [HLL.out]; omega); clear f1 f2 f3 f4 f5) | (go_at_call 14; refine (keepInts_any L1 L2 p1 p2 c1 c2 wd HR1b HR2b HL9.out).mono ?_; rintro e we ⟨rfl, hb⟩; rw [decide_eq_true HLL.out]; have HC3 : Hid (Below ((wb.alloc (.cells #[Lk.str (Lk.wn s3 (x.ho)), .int .i64 (Lk.wm s3 (x.ho)), .bool (s3.want (x.ho)).isSome] 42))).heap.size (wb.alloc (.cells #[Lk.str (Lk.wn s3 (x.ho)), .int .i64 (Lk.wm s3 (x.ho)), .bool (s3.want (x.ho)).isSome] 42)) we) := Mp.hid (Lk.belTr HC2.out hb); clear hb))
                go_wp2_with fail
                exact ⟨⟨h + 1, by omega, by go_num, Lk.belTr HB.out (Lk.belTr HBW.out HC3.out)⟩, by simp [RowKit.intOf]; omega⟩
              · have q8 : ((h : Int) == 8) = false := by simp; omega
                have hwf : Lk.wfI (h : Int) := Lk.wf_lit (by omega) (by omega)
                clear h8
                go_wp2_with (first | (go_at_call 17; refine (waitsB_any X3 w _ p (401 * (i + 1)) s3 bs bw bq ((h : Int)) HOW hwf).mono ?_; rintro e wa ⟨rfl, hb⟩; have HBa := Mp.hid hb; have HRa := Mp.hid (HPW.out.rm.below hb); clear hb) | (go_at_call 18; refine (refWaits_any X3 wa T r3 ((h : Int)) HRa HQ9.out.2.2 HND).mono ?_; rintro e wb ⟨rfl, hb⟩; rw [Lk.want_is HPW.out.rf]; have HBb : Hid (Below wr.heap.size wr wb) := Mp.hid (Lk.belTr HBa.out hb); clear hb))
                have HBW : Hid (Below wr.heap.size wr (wb.alloc (.cells #[Lk.str (Lk.wn s3 ((h : Int))), .int .i64 (Lk.wm s3 ((h : Int))), .bool (s3.want ((h : Int))).isSome] 42))) := Mp.hid (Lk.belAl HBb.out _)
                have HPD : Hid (Lk.Pl w ((wb.alloc (.cells #[Lk.str (Lk.wn s3 ((h : Int))), .int .i64 (Lk.wm s3 ((h : Int))), .bool (s3.want ((h : Int))).isSome] 42))).drew p T (401 * (i + 1)) (i + 1) bs bw bq s3 r3 X3) := Mp.hid (HPW.out.below HBW.out.drew)
                have HOD := Mp.hid HPD.out.ob
                have HRD := Mp.hid HPD.out.rm
                have hbx : ((wb.alloc (.cells #[Lk.str (Lk.wn s3 ((h : Int))), .int .i64 (Lk.wm s3 ((h : Int))), .bool (s3.want ((h : Int))).isSome] 42))).heap[wb.heap.size]? = _ := Lk.newAt wb _ rfl
                have HS21 : Hid (∀ w', Below ((wb.alloc (.cells #[Lk.str (Lk.wn s3 ((h : Int))), .int .i64 (Lk.wm s3 ((h : Int))), .bool (s3.want ((h : Int))).isSome] 42))).heap.size (wb.alloc (.cells #[Lk.str (Lk.wn s3 ((h : Int))), .int .i64 (Lk.wm s3 ((h : Int))), .bool (s3.want ((h : Int))).isSome] 42)) w' → w'.cell? ⟨wb.heap.size, 0, none⟩ = some (Lk.str (Lk.wn s3 ((h : Int)))) ∧ w'.cell? ⟨wb.heap.size, 1, none⟩ = some (.int .i64 (Lk.wm s3 ((h : Int)))) ∧ w'.cell? ⟨wb.heap.size, 2, none⟩ = some (.bool (s3.want ((h : Int))).isSome) ∧ w'.cell? ⟨B, 3, none⟩ = some (Lk.str x.nm)) := Mp.hid (fun w' hb => by
                  have e := hb.block wb.heap.size (Lk.heapLt hbx)
                  refine ⟨?_, ?_, ?_, ?_⟩
                  · unfold World.cell?; simp only [e.trans hbx]; rfl
                  · unfold World.cell?; simp only [e.trans hbx]; rfl
                  · unfold World.cell?; simp only [e.trans hbx]; rfl
                  · exact (HXW.out.below (Lk.belTr HBW.out hb)).cells.2.2.2)
                clear hbx HBb HBa
                go_region_held3 (fun w' => w'.cell? ⟨wb.heap.size, 0, none⟩ = some (Lk.str (Lk.wn s3 ((h : Int)))) ∧ w'.cell? ⟨wb.heap.size, 1, none⟩ = some (.int .i64 (Lk.wm s3 ((h : Int)))) ∧ w'.cell? ⟨wb.heap.size, 2, none⟩ = some (.bool (s3.want ((h : Int))).isSome) ∧ w'.cell? ⟨B, 3, none⟩ = some (Lk.str x.nm)) (first | exact HS21.out _ (Below.refl _ _).drew | exact HS21.out _ HC1.out | exact HS21.out _ HC2.out | exact HS21.out _ HC3.out | fail) (first | (go_at_call 19; refine (modesB_any X3 w _ p (401 * (i + 1)) s3 bs bw bq ((h : Int)) x.nm HOD hwf HFit.out.nm).mono ?_; rintro e w' ⟨rfl, hq⟩; obtain rfl := hq.symm) | (go_at_call 20; refine (refSet_any X3 _ T r3 ((h : Int)) x.nm HRD HQ9.out.2.1 HOKH).mono ?_; rintro e w' ⟨rfl, hq⟩; obtain rfl := hq.symm; rw [← HPW.out.rf.set]) | (go_at_call 21; refine (forB_any X3 w _ p (401 * (i + 1)) s3 bs bw bq ((h : Int)) HOD hM hwf HINV HN9).mono ?_; rintro e wc ⟨v1, L1, rfl, f1, f2, f3, f4, f5⟩; obtain ⟨p1, c1, rfl, hrw1, -⟩ := Lk.row_of f1; have HF1 := Mp.hid (And.intro f2 (And.intro f3 hrw1)); have HC1 : Hid (Below ((wb.alloc (.cells #[Lk.str (Lk.wn s3 ((h : Int))), .int .i64 (Lk.wm s3 ((h : Int))), .bool (s3.want ((h : Int))).isSome] 42))).heap.size (wb.alloc (.cells #[Lk.str (Lk.wn s3 ((h : Int))), .int .i64 (Lk.wm s3 ((h : Int))), .bool (s3.want ((h : Int))).isSome] 42)) wc) := Mp.hid (Lk.belTr (Below.refl _ _).drew f5); have HRC := Mp.hid (HRD.out.below f5); clear f1 f2 f3 f4 f5 hrw1) | (go_at_call 22; refine (refFor_any X3 wc T r3 ((h : Int)) HRC ⟨HQ9.out.2.1, HQ9.out.2.2⟩ HND HOKH).mono ?_; rintro e wd ⟨p2, c2, L2, rfl, f1, f2, f3, f4, f5⟩; have HLL : Hid (L1 = L2) := Mp.hid (Lk.for_one HPW.out.rf HF1.out.1 HF1.out.2.1 f2 f3); have HR1b : Hid (Md.Row wd p1 L1) := Mp.hid (HF1.out.2.2.below f5); have HR2b : Hid (Md.Row wd p2 L2) := Mp.hid f1.row; have HC2 : Hid (Below ((wb.alloc (.cells #[Lk.str (Lk.wn s3 ((h : Int))), .int .i64 (Lk.wm s3 ((h : Int))), .bool (s3.want ((h : Int))).isSome] 42))).heap.size (wb.alloc (.cells #[Lk.str (Lk.wn s3 ((h : Int))), .int .i64 (Lk.wm s3 ((h : Int))), .bool (s3.want ((h : Int))).isSome] 42)) wd) := Mp.hid (Lk.belTr HC1.out f5); have HL9 : Hid (L1.length ≤ 1000000) := Mp.hid (by rw [HLL.out]; omega); clear f1 f2 f3 f4 f5) | (go_at_call 14; refine (keepInts_any L1 L2 p1 p2 c1 c2 wd HR1b HR2b HL9.out).mono ?_; rintro e we ⟨rfl, hb⟩; rw [decide_eq_true HLL.out]; have HC3 : Hid (Below ((wb.alloc (.cells #[Lk.str (Lk.wn s3 ((h : Int))), .int .i64 (Lk.wm s3 ((h : Int))), .bool (s3.want ((h : Int))).isSome] 42))).heap.size (wb.alloc (.cells #[Lk.str (Lk.wn s3 ((h : Int))), .int .i64 (Lk.wm s3 ((h : Int))), .bool (s3.want ((h : Int))).isSome] 42)) we) := Mp.hid (Lk.belTr HC2.out hb); clear hb))
                go_wp2_with fail
                exact ⟨⟨h + 1, by omega, by go_num, Lk.belTr HB.out (Lk.belTr HBW.out HC3.out)⟩, by simp [RowKit.intOf]; omega⟩
            · have hi1 := HI.out.1
              have hi2 := HI.out.2
              go_wp2_with (first | (go_at_call 24; refine (namesB_any X3 w _ p (401 * (i + 1)) s3 bs bw bq HOW HN9).mono ?_; rintro e wa ⟨v1, L1, rfl, f1, f2, f3, f4, f5⟩; obtain ⟨p1, c1, rfl, hsl1⟩ := Lk.Sl.own f1; have HF1 := Mp.hid (And.intro f2 (And.intro f3 hsl1)); have HBa := Mp.hid f5; have HRa := Mp.hid (HPW.out.rm.below f5); clear f1 f2 f3 f4 f5 hsl1) | (go_at_call 25; refine (refNames_any X3 wa T r3 HRa ⟨HQ9.out.2.1, HQ9.out.2.2⟩).mono ?_; rintro e wb ⟨p2, c2, L2, rfl, f1, f2, f3, f4, f5⟩; have HLL : Hid (L1 = L2) := Mp.hid (Lk.names_one HPW.out.rf HF1.out.1 HF1.out.2.1 f2 f3); have HSa : Hid (Lk.Sl wb p1 L1.length c1 (Lk.strsV L1)) := Mp.hid (HF1.out.2.2.below f5); have HSb : Hid (Lk.Sl wb p2 L2.length c2 (Lk.strsV L2)) := Mp.hid f1; have HL9 : Hid (L1.length ≤ 10000000) := Mp.hid (by rw [HLL.out]; omega); have HBb : Hid (Below wr.heap.size wr wb) := Mp.hid (Lk.belTr HBa.out f5); clear f1 f2 f3 f4 f5) | (go_at_call 23; refine (keepTexts_any L1 L2 p1 p2 c1 c2 wb HSa HSb HL9.out).mono ?_; rintro e wc ⟨rfl, hb⟩; rw [decide_eq_true HLL.out]; have HBc : Hid (Below wr.heap.size wr wc) := Mp.hid (Lk.belTr HBb.out hb); clear hb))
              exact ⟨⟨i + 1, s3, r3, X3, by have := HI.out; omega, by go_num, HPW.out.below HBc.out⟩, by have := HI.out; simp [RowKit.intOf]; omega⟩
        · have hk0 : (x.kd == 0) = false := by simpa using hkd
          clear hkd
          go_wp2_with fail
          clear hx0 r0 r1 r2 r3
          generalize wr.alloc (.cells #[.int .i64 x.kd, .int .i64 x.ho, .int .i64 x.md, Lk.str x.nm] 32) = W2 at HX2 HP2 ⊢
          rw [← hB] at HX2 HP2 HBT ⊢
          clear hB
          have HPd := Mp.hid (HP2.out.below (Below.refl _ _).drew)
          have HXd : Hid (Lk.Bx4 W2.drew B x) := Mp.hid (HX2.out.below (Below.refl _ _).drew)
          have HOd := Mp.hid HPd.out.ob
          have HId := Mp.hid HPd.out.inv
          have HN8 : Hid (401 * i < 89000) := Mp.hid (by have := HI.out; omega)
          go_region_held3 (fun w' => w'.cell? ⟨B, 1, none⟩ = some (.int .i64 x.ho)) (first | exact HXd.out.cells.2.1 | exact HX3.out.cells.2.1 | exact HX4b.out.cells.2.1 | exact HX4.out.cells.2.1) (first | (go_at_call 15; refine (releaseB_any (B :: X) w _ p (401 * i) s bs bw bq x.ho HOd hM HFit.out.ho HId HN8).mono ?_; rintro e w3 ⟨v, out, s3, L, rfl, hR, hU, hm, hrow, hO3, hk3, hI3, hRF, hlen⟩; obtain ⟨po, co, rfl, hrw, hbl⟩ := Lk.row_of hrow; have HX3 : Hid (Lk.Bx4 w3 B x) := Mp.hid (HXd.out.of (hk3 B (List.mem_cons_self ..))); have HR3 : Hid (Lk.Rm (B :: X) w3 T r) := Mp.hid (HPd.out.mid hk3); have HT3 := Mp.hid (And.intro hR (And.intro hU (And.intro hm (And.intro hO3 (And.intro hI3 hlen))))); have HW3 := Mp.hid (And.intro hrw hbl); have HX9 : Hid (∀ b ∈ B :: X, b < w3.heap.size) := Mp.hid (fun b hb => hO3.lt hb); clear hR hU hm hrow hO3 hk3 hI3 hRF hlen hrw hbl) | (go_at_call 16; refine (hRel.out (B :: X) w3 T r x.ho HR3 HX9 (by have := HPd.out.len; have := HI.out; omega) (Mp.hid ⟨HPd.out.rf.hf, HPd.out.rf.qf⟩)).mono ?_; rintro e w4 ⟨pq, cq, lq, rfl, hs4, hfin⟩; obtain ⟨hl4, hE4⟩ := hfin L HT3.out.2.1 (fun n => (HT3.out.2.2.1 n).trans (Lk.touch_rf HPd.out.rf x.ho n)); have HE4 := Mp.hid hE4; have hRR := Lk.rel_rf HT3.out.1 (Lk.leave_rf HPd.out.rf x.ho); have HEQ : Hid (out = lq) := Mp.hid (hRR.1.trans hl4.symm); have HTR := Mp.hid hRR.2; have HRa : Hid (Md.Row w4 po out) := Mp.hid (HW3.out.1.keep (fun b e => hE4.blk (HW3.out.2 b e).2 (by have := (HW3.out.2 b e).1; have := HPd.out.rm.lt; omega))); have HRb : Hid (Md.Row w4 pq lq) := Mp.hid hs4.row; have HX4b : Hid (Lk.Bx4 w4 B x) := Mp.hid (HX3.out.of (hE4.blk (Lk.heapLt HX3.out) HBT.out)); have HL9 : Hid (out.length ≤ 1000000) := Mp.hid (by have := HT3.out.2.2.2.2.2; omega); clear hl4 hE4 hRR hs4 hfin) | (go_at_call 14; refine (keepInts_any out lq po pq co cq w4 HRa HRb HL9.out).mono ?_; rintro e w5 ⟨rfl, hb⟩; rw [decide_eq_true HEQ.out]; have HB5 := Mp.hid hb; have HX4 : Hid (Lk.Bx4 w5 B x) := Mp.hid (HX4b.out.below hb); clear hb))
          go_wp2_with fail
          have hAW := Lk.Rel.wp HT3.out.1 (Lk.leave_inv HPd.out.inv x.ho) (Lk.up_nodup HT3.out.2.1) (Lk.leave_ap HPd.out.ap x.ho) (Lk.leave_wp HPd.out.inv HPd.out.wb x.ho HT3.out.2.2.1)
          have hlen := Lk.relT_len L (Lk.leaveT r x.ho)
          have hlen2 := Lk.leaveT_len r x.ho
          obtain ⟨X3, hPN⟩ := Lk.Pl.next (N2 := 401 * (i + 1)) (m2 := i + 1) HPd.out.lo HPd.out.rm.mem (HT3.out.2.2.2.1.mono (by omega)) HE4.out HT3.out.2.2.2.2.1 hAW.1 hAW.2 HTR.out (by have := HPd.out.len; omega)
          have HPN := Mp.hid (hPN.below HB5.out)
          clear hAW hlen hlen2 hPN HTR HE4 HT3 HR3 HX3 HXd HOd HPd HP2 HX2 HX4b HB5
          generalize (Lk.relT L (Lk.leaveT r x.ho)).1 = r3 at HPN
          have HQ9 : Hid (i < 150 ∧ r3.has.length ≤ 1000 ∧ r3.qu.length ≤ 1000) := Mp.hid (by have h1 := HPN.out.len; have h2 := HI.out; exact ⟨by omega, by omega, by omega⟩)
          have HND : Hid ((r3.qu.map (·.ho)).Nodup) := Mp.hid HPN.out.rf.nd
          have HOKH : Hid (∀ y ∈ r3.has, y.ok) := Mp.hid HPN.out.rf.hf
          have HINV : Hid (Lk.Inv s3) := Mp.hid HPN.out.inv
          have HN9 : Hid (401 * (i + 1) < 90000) := Mp.hid (by have := HI.out; omega)
          go_loopw [7] (fun vh wi => ∃ h : Nat, h ≤ 9 ∧ vh = .int .i64 (h : Int) ∧ Hid (Below w5.heap.size w5 wi)) (fun vh _ => 9 - (RowKit.intOf vh).toNat)
          case atStart => exact ⟨0, by omega, rfl, Below.refl _ _⟩
          case round =>
            obtain ⟨h, hh9, rfl, HB⟩ := hrel
            have HPW := Mp.hid (HPN.out.below HB.out)
            have HXW := Mp.hid (HX4.out.below HB.out)
            have HOW := Mp.hid HPW.out.ob
            by_cases hh : h ≤ 8
            · have q1 : (h : Int) < 9 := by omega
              by_cases h8 : h = 8
              · have hx1 := HXW.out.cells.2.1
                have q8 : ((h : Int) == 8) = true := by simp; omega
                clear h8
                go_wp2_with (first | (go_at_call 17; refine (waitsB_any X3 w _ p (401 * (i + 1)) s3 bs bw bq (x.ho) HOW HFit.out.ho).mono ?_; rintro e wa ⟨rfl, hb⟩; have HBa := Mp.hid hb; have HRa := Mp.hid (HPW.out.rm.below hb); clear hb) | (go_at_call 18; refine (refWaits_any X3 wa T r3 (x.ho) HRa HQ9.out.2.2 HND).mono ?_; rintro e wb ⟨rfl, hb⟩; rw [Lk.want_is HPW.out.rf]; have HBb : Hid (Below wr.heap.size wr wb) := Mp.hid (Lk.belTr HBa.out hb); clear hb))
                have HBW : Hid (Below wr.heap.size wr (wb.alloc (.cells #[Lk.str (Lk.wn s3 (x.ho)), .int .i64 (Lk.wm s3 (x.ho)), .bool (s3.want (x.ho)).isSome] 42))) := Mp.hid (Lk.belAl HBb.out _)
                have HPD : Hid (Lk.Pl w ((wb.alloc (.cells #[Lk.str (Lk.wn s3 (x.ho)), .int .i64 (Lk.wm s3 (x.ho)), .bool (s3.want (x.ho)).isSome] 42))).drew p T (401 * (i + 1)) (i + 1) bs bw bq s3 r3 X3) := Mp.hid (HPW.out.below HBW.out.drew)
                have HOD := Mp.hid HPD.out.ob
                have HRD := Mp.hid HPD.out.rm
                have hbx : ((wb.alloc (.cells #[Lk.str (Lk.wn s3 (x.ho)), .int .i64 (Lk.wm s3 (x.ho)), .bool (s3.want (x.ho)).isSome] 42))).heap[wb.heap.size]? = _ := Lk.newAt wb _ rfl
                have HS21 : Hid (∀ w', Below ((wb.alloc (.cells #[Lk.str (Lk.wn s3 (x.ho)), .int .i64 (Lk.wm s3 (x.ho)), .bool (s3.want (x.ho)).isSome] 42))).heap.size (wb.alloc (.cells #[Lk.str (Lk.wn s3 (x.ho)), .int .i64 (Lk.wm s3 (x.ho)), .bool (s3.want (x.ho)).isSome] 42)) w' → w'.cell? ⟨wb.heap.size, 0, none⟩ = some (Lk.str (Lk.wn s3 (x.ho))) ∧ w'.cell? ⟨wb.heap.size, 1, none⟩ = some (.int .i64 (Lk.wm s3 (x.ho))) ∧ w'.cell? ⟨wb.heap.size, 2, none⟩ = some (.bool (s3.want (x.ho)).isSome) ∧ w'.cell? ⟨B, 3, none⟩ = some (Lk.str x.nm)) := Mp.hid (fun w' hb => by
                  have e := hb.block wb.heap.size (Lk.heapLt hbx)
                  refine ⟨?_, ?_, ?_, ?_⟩
                  · unfold World.cell?; simp only [e.trans hbx]; rfl
                  · unfold World.cell?; simp only [e.trans hbx]; rfl
                  · unfold World.cell?; simp only [e.trans hbx]; rfl
                  · exact (HXW.out.below (Lk.belTr HBW.out hb)).cells.2.2.2)
                clear hbx HBb HBa
                go_region_held3 (fun w' => w'.cell? ⟨wb.heap.size, 0, none⟩ = some (Lk.str (Lk.wn s3 (x.ho))) ∧ w'.cell? ⟨wb.heap.size, 1, none⟩ = some (.int .i64 (Lk.wm s3 (x.ho))) ∧ w'.cell? ⟨wb.heap.size, 2, none⟩ = some (.bool (s3.want (x.ho)).isSome) ∧ w'.cell? ⟨B, 3, none⟩ = some (Lk.str x.nm)) (first | exact HS21.out _ (Below.refl _ _).drew | exact HS21.out _ HC1.out | exact HS21.out _ HC2.out | exact HS21.out _ HC3.out | fail) (first | (go_at_call 19; refine (modesB_any X3 w _ p (401 * (i + 1)) s3 bs bw bq (x.ho) x.nm HOD HFit.out.ho HFit.out.nm).mono ?_; rintro e w' ⟨rfl, hq⟩; obtain rfl := hq.symm) | (go_at_call 20; refine (refSet_any X3 _ T r3 (x.ho) x.nm HRD HQ9.out.2.1 HOKH).mono ?_; rintro e w' ⟨rfl, hq⟩; obtain rfl := hq.symm; rw [← HPW.out.rf.set]) | (go_at_call 21; refine (forB_any X3 w _ p (401 * (i + 1)) s3 bs bw bq (x.ho) HOD hM HFit.out.ho HINV HN9).mono ?_; rintro e wc ⟨v1, L1, rfl, f1, f2, f3, f4, f5⟩; obtain ⟨p1, c1, rfl, hrw1, -⟩ := Lk.row_of f1; have HF1 := Mp.hid (And.intro f2 (And.intro f3 hrw1)); have HC1 : Hid (Below ((wb.alloc (.cells #[Lk.str (Lk.wn s3 (x.ho)), .int .i64 (Lk.wm s3 (x.ho)), .bool (s3.want (x.ho)).isSome] 42))).heap.size (wb.alloc (.cells #[Lk.str (Lk.wn s3 (x.ho)), .int .i64 (Lk.wm s3 (x.ho)), .bool (s3.want (x.ho)).isSome] 42)) wc) := Mp.hid (Lk.belTr (Below.refl _ _).drew f5); have HRC := Mp.hid (HRD.out.below f5); clear f1 f2 f3 f4 f5 hrw1) | (go_at_call 22; refine (refFor_any X3 wc T r3 (x.ho) HRC ⟨HQ9.out.2.1, HQ9.out.2.2⟩ HND HOKH).mono ?_; rintro e wd ⟨p2, c2, L2, rfl, f1, f2, f3, f4, f5⟩; have HLL : Hid (L1 = L2) := Mp.hid (Lk.for_one HPW.out.rf HF1.out.1 HF1.out.2.1 f2 f3); have HR1b : Hid (Md.Row wd p1 L1) := Mp.hid (HF1.out.2.2.below f5); have HR2b : Hid (Md.Row wd p2 L2) := Mp.hid f1.row; have HC2 : Hid (Below ((wb.alloc (.cells #[Lk.str (Lk.wn s3 (x.ho)), .int .i64 (Lk.wm s3 (x.ho)), .bool (s3.want (x.ho)).isSome] 42))).heap.size (wb.alloc (.cells #[Lk.str (Lk.wn s3 (x.ho)), .int .i64 (Lk.wm s3 (x.ho)), .bool (s3.want (x.ho)).isSome] 42)) wd) := Mp.hid (Lk.belTr HC1.out f5); have HL9 : Hid (L1.length ≤ 1000000) := Mp.hid (by rw [HLL.out]; omega); clear f1 f2 f3 f4 f5) | (go_at_call 14; refine (keepInts_any L1 L2 p1 p2 c1 c2 wd HR1b HR2b HL9.out).mono ?_; rintro e we ⟨rfl, hb⟩; rw [decide_eq_true HLL.out]; have HC3 : Hid (Below ((wb.alloc (.cells #[Lk.str (Lk.wn s3 (x.ho)), .int .i64 (Lk.wm s3 (x.ho)), .bool (s3.want (x.ho)).isSome] 42))).heap.size (wb.alloc (.cells #[Lk.str (Lk.wn s3 (x.ho)), .int .i64 (Lk.wm s3 (x.ho)), .bool (s3.want (x.ho)).isSome] 42)) we) := Mp.hid (Lk.belTr HC2.out hb); clear hb))
                go_wp2_with fail
                exact ⟨⟨h + 1, by omega, by go_num, Lk.belTr HB.out (Lk.belTr HBW.out HC3.out)⟩, by simp [RowKit.intOf]; omega⟩
              · have q8 : ((h : Int) == 8) = false := by simp; omega
                have hwf : Lk.wfI (h : Int) := Lk.wf_lit (by omega) (by omega)
                clear h8
                go_wp2_with (first | (go_at_call 17; refine (waitsB_any X3 w _ p (401 * (i + 1)) s3 bs bw bq ((h : Int)) HOW hwf).mono ?_; rintro e wa ⟨rfl, hb⟩; have HBa := Mp.hid hb; have HRa := Mp.hid (HPW.out.rm.below hb); clear hb) | (go_at_call 18; refine (refWaits_any X3 wa T r3 ((h : Int)) HRa HQ9.out.2.2 HND).mono ?_; rintro e wb ⟨rfl, hb⟩; rw [Lk.want_is HPW.out.rf]; have HBb : Hid (Below wr.heap.size wr wb) := Mp.hid (Lk.belTr HBa.out hb); clear hb))
                have HBW : Hid (Below wr.heap.size wr (wb.alloc (.cells #[Lk.str (Lk.wn s3 ((h : Int))), .int .i64 (Lk.wm s3 ((h : Int))), .bool (s3.want ((h : Int))).isSome] 42))) := Mp.hid (Lk.belAl HBb.out _)
                have HPD : Hid (Lk.Pl w ((wb.alloc (.cells #[Lk.str (Lk.wn s3 ((h : Int))), .int .i64 (Lk.wm s3 ((h : Int))), .bool (s3.want ((h : Int))).isSome] 42))).drew p T (401 * (i + 1)) (i + 1) bs bw bq s3 r3 X3) := Mp.hid (HPW.out.below HBW.out.drew)
                have HOD := Mp.hid HPD.out.ob
                have HRD := Mp.hid HPD.out.rm
                have hbx : ((wb.alloc (.cells #[Lk.str (Lk.wn s3 ((h : Int))), .int .i64 (Lk.wm s3 ((h : Int))), .bool (s3.want ((h : Int))).isSome] 42))).heap[wb.heap.size]? = _ := Lk.newAt wb _ rfl
                have HS21 : Hid (∀ w', Below ((wb.alloc (.cells #[Lk.str (Lk.wn s3 ((h : Int))), .int .i64 (Lk.wm s3 ((h : Int))), .bool (s3.want ((h : Int))).isSome] 42))).heap.size (wb.alloc (.cells #[Lk.str (Lk.wn s3 ((h : Int))), .int .i64 (Lk.wm s3 ((h : Int))), .bool (s3.want ((h : Int))).isSome] 42)) w' → w'.cell? ⟨wb.heap.size, 0, none⟩ = some (Lk.str (Lk.wn s3 ((h : Int)))) ∧ w'.cell? ⟨wb.heap.size, 1, none⟩ = some (.int .i64 (Lk.wm s3 ((h : Int)))) ∧ w'.cell? ⟨wb.heap.size, 2, none⟩ = some (.bool (s3.want ((h : Int))).isSome) ∧ w'.cell? ⟨B, 3, none⟩ = some (Lk.str x.nm)) := Mp.hid (fun w' hb => by
                  have e := hb.block wb.heap.size (Lk.heapLt hbx)
                  refine ⟨?_, ?_, ?_, ?_⟩
                  · unfold World.cell?; simp only [e.trans hbx]; rfl
                  · unfold World.cell?; simp only [e.trans hbx]; rfl
                  · unfold World.cell?; simp only [e.trans hbx]; rfl
                  · exact (HXW.out.below (Lk.belTr HBW.out hb)).cells.2.2.2)
                clear hbx HBb HBa
                go_region_held3 (fun w' => w'.cell? ⟨wb.heap.size, 0, none⟩ = some (Lk.str (Lk.wn s3 ((h : Int)))) ∧ w'.cell? ⟨wb.heap.size, 1, none⟩ = some (.int .i64 (Lk.wm s3 ((h : Int)))) ∧ w'.cell? ⟨wb.heap.size, 2, none⟩ = some (.bool (s3.want ((h : Int))).isSome) ∧ w'.cell? ⟨B, 3, none⟩ = some (Lk.str x.nm)) (first | exact HS21.out _ (Below.refl _ _).drew | exact HS21.out _ HC1.out | exact HS21.out _ HC2.out | exact HS21.out _ HC3.out | fail) (first | (go_at_call 19; refine (modesB_any X3 w _ p (401 * (i + 1)) s3 bs bw bq ((h : Int)) x.nm HOD hwf HFit.out.nm).mono ?_; rintro e w' ⟨rfl, hq⟩; obtain rfl := hq.symm) | (go_at_call 20; refine (refSet_any X3 _ T r3 ((h : Int)) x.nm HRD HQ9.out.2.1 HOKH).mono ?_; rintro e w' ⟨rfl, hq⟩; obtain rfl := hq.symm; rw [← HPW.out.rf.set]) | (go_at_call 21; refine (forB_any X3 w _ p (401 * (i + 1)) s3 bs bw bq ((h : Int)) HOD hM hwf HINV HN9).mono ?_; rintro e wc ⟨v1, L1, rfl, f1, f2, f3, f4, f5⟩; obtain ⟨p1, c1, rfl, hrw1, -⟩ := Lk.row_of f1; have HF1 := Mp.hid (And.intro f2 (And.intro f3 hrw1)); have HC1 : Hid (Below ((wb.alloc (.cells #[Lk.str (Lk.wn s3 ((h : Int))), .int .i64 (Lk.wm s3 ((h : Int))), .bool (s3.want ((h : Int))).isSome] 42))).heap.size (wb.alloc (.cells #[Lk.str (Lk.wn s3 ((h : Int))), .int .i64 (Lk.wm s3 ((h : Int))), .bool (s3.want ((h : Int))).isSome] 42)) wc) := Mp.hid (Lk.belTr (Below.refl _ _).drew f5); have HRC := Mp.hid (HRD.out.below f5); clear f1 f2 f3 f4 f5 hrw1) | (go_at_call 22; refine (refFor_any X3 wc T r3 ((h : Int)) HRC ⟨HQ9.out.2.1, HQ9.out.2.2⟩ HND HOKH).mono ?_; rintro e wd ⟨p2, c2, L2, rfl, f1, f2, f3, f4, f5⟩; have HLL : Hid (L1 = L2) := Mp.hid (Lk.for_one HPW.out.rf HF1.out.1 HF1.out.2.1 f2 f3); have HR1b : Hid (Md.Row wd p1 L1) := Mp.hid (HF1.out.2.2.below f5); have HR2b : Hid (Md.Row wd p2 L2) := Mp.hid f1.row; have HC2 : Hid (Below ((wb.alloc (.cells #[Lk.str (Lk.wn s3 ((h : Int))), .int .i64 (Lk.wm s3 ((h : Int))), .bool (s3.want ((h : Int))).isSome] 42))).heap.size (wb.alloc (.cells #[Lk.str (Lk.wn s3 ((h : Int))), .int .i64 (Lk.wm s3 ((h : Int))), .bool (s3.want ((h : Int))).isSome] 42)) wd) := Mp.hid (Lk.belTr HC1.out f5); have HL9 : Hid (L1.length ≤ 1000000) := Mp.hid (by rw [HLL.out]; omega); clear f1 f2 f3 f4 f5) | (go_at_call 14; refine (keepInts_any L1 L2 p1 p2 c1 c2 wd HR1b HR2b HL9.out).mono ?_; rintro e we ⟨rfl, hb⟩; rw [decide_eq_true HLL.out]; have HC3 : Hid (Below ((wb.alloc (.cells #[Lk.str (Lk.wn s3 ((h : Int))), .int .i64 (Lk.wm s3 ((h : Int))), .bool (s3.want ((h : Int))).isSome] 42))).heap.size (wb.alloc (.cells #[Lk.str (Lk.wn s3 ((h : Int))), .int .i64 (Lk.wm s3 ((h : Int))), .bool (s3.want ((h : Int))).isSome] 42)) we) := Mp.hid (Lk.belTr HC2.out hb); clear hb))
                go_wp2_with fail
                exact ⟨⟨h + 1, by omega, by go_num, Lk.belTr HB.out (Lk.belTr HBW.out HC3.out)⟩, by simp [RowKit.intOf]; omega⟩
            · have hi1 := HI.out.1
              have hi2 := HI.out.2
              go_wp2_with (first | (go_at_call 24; refine (namesB_any X3 w _ p (401 * (i + 1)) s3 bs bw bq HOW HN9).mono ?_; rintro e wa ⟨v1, L1, rfl, f1, f2, f3, f4, f5⟩; obtain ⟨p1, c1, rfl, hsl1⟩ := Lk.Sl.own f1; have HF1 := Mp.hid (And.intro f2 (And.intro f3 hsl1)); have HBa := Mp.hid f5; have HRa := Mp.hid (HPW.out.rm.below f5); clear f1 f2 f3 f4 f5 hsl1) | (go_at_call 25; refine (refNames_any X3 wa T r3 HRa ⟨HQ9.out.2.1, HQ9.out.2.2⟩).mono ?_; rintro e wb ⟨p2, c2, L2, rfl, f1, f2, f3, f4, f5⟩; have HLL : Hid (L1 = L2) := Mp.hid (Lk.names_one HPW.out.rf HF1.out.1 HF1.out.2.1 f2 f3); have HSa : Hid (Lk.Sl wb p1 L1.length c1 (Lk.strsV L1)) := Mp.hid (HF1.out.2.2.below f5); have HSb : Hid (Lk.Sl wb p2 L2.length c2 (Lk.strsV L2)) := Mp.hid f1; have HL9 : Hid (L1.length ≤ 10000000) := Mp.hid (by rw [HLL.out]; omega); have HBb : Hid (Below wr.heap.size wr wb) := Mp.hid (Lk.belTr HBa.out f5); clear f1 f2 f3 f4 f5) | (go_at_call 23; refine (keepTexts_any L1 L2 p1 p2 c1 c2 wb HSa HSb HL9.out).mono ?_; rintro e wc ⟨rfl, hb⟩; rw [decide_eq_true HLL.out]; have HBc : Hid (Below wr.heap.size wr wc) := Mp.hid (Lk.belTr HBb.out hb); clear hb))
              exact ⟨⟨i + 1, s3, r3, X3, by have := HI.out; omega, by go_num, HPW.out.below HBc.out⟩, by have := HI.out; simp [RowKit.intOf]; omega⟩
      · go_wp2_with (first | (go_at_call 11; refine (wakes6_any _ (Mp.hid (HH.out.ob.md hM.out))).mono ?_; rintro e w8 ⟨rfl, hb8⟩))
        go_ret
        exact ⟨rfl, HH.out.ob.bel.trans (hb8.mono HH.out.ob.bel.size)⟩

end Go.Proofs.YthaenobciefjiaaDoor
