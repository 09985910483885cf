/- The index over its leaves: New, entry, Has, Len, Leaves, and of nil. -/
import Derived.Test.YtjnaafgiokdcbaaGreatDoorI0
namespace Go.Proofs.YtjnaafgiokdcbaaGreatDoor
open Go.RowKit
attribute [local go_sem] Fl.run_store_float
attribute [local go_sem ↓] Go.wp_at_zero Go.wp_at_succ

namespace Ix
open Vl Ky
structure Iq (h : Nat) (w : World) (tag : Nat → Option Lf.Tg) (b p : Nat) (s : Lf.S) (N : Nat) : Prop where
  q : Lf.Lq h w tag p s N
  bx : w.heap[b]? = some (.cells #[.pointer (some ⟨p, 0, none⟩)] 72 (0, 0))
  t : tag b = none
variable {h : Nat} {w w' : World} {tag : Nat → Option Lf.Tg} {b p : Nat} {s : Lf.S} {N : Nat}
theorem Iq.lt (H : Iq h w tag b p s N) : b < w.heap.size := Mm.heapLt H.bx
theorem Iq.below (H : Iq h w tag b p s N) (hb : Below w.heap.size w w') : Iq h w' tag b p s N := ⟨H.q.below hb, (hb.block _ H.lt).trans H.bx, H.t⟩
theorem Iq.ev {tag' : Nat → Option Lf.Tg} {s' : Lf.S} {N' : Nat} (H : Iq h w tag b p s N) (hE : Lf.Ev tag tag' w w') (hq : Lf.Lq h w' tag' p s' N') : Iq h w' tag' b p s' N' := ⟨hq, (hE.block b H.lt H.t).trans H.bx, hE.tags b H.lt H.t⟩
theorem Iq.cell (H : Iq h w tag b p s N) : w.cell? ⟨b, 0, none⟩ = some (.pointer (some ⟨p, 0, none⟩)) := Mm.cellOf H.bx rfl
theorem Iq.inc (H : Iq h w tag b p s N) : Iq h w tag b p s (N + 1) := ⟨⟨H.q.1, H.q.2.1, Nat.le_succ_of_le H.q.2.2.1, Nat.le_succ_of_le H.q.2.2.2⟩, H.bx, H.t⟩
/-- What New makes. -/
def W1 (w : World) (fan : Nat) : World := (Lf.W0 w fan).alloc (.cells #[.pointer (some ⟨w.heap.size + 2, 0, none⟩)] 72)
theorem W0_size (w : World) (fan : Nat) : (Lf.W0 w fan).heap.size = w.heap.size + 3 := by unfold Lf.W0; simp
theorem iq0 (w : World) (fan : Nat) (h1 : 2 ≤ fan) (h2 : fan ≤ 64) : Iq w.heap.size (W1 w fan) (Lf.tag0 w.heap.size) (w.heap.size + 3) (w.heap.size + 2) (Lf.S0 fan) 0 := by
  refine ⟨(Lf.lq0 w fan h1 h2).below ((Below.refl _ _).alloc (Nat.le_refl _) _), Mm.newAt _ _ (W0_size w fan).symm, ?_⟩
  unfold Lf.tag0
  rw [if_neg (by omega), if_neg (by omega), if_neg (by omega)]
theorem bel1 (w : World) (fan : Nat) : Below w.heap.size w (W1 w fan) := (Lf.bel0 w fan).alloc (by rw [W0_size]; omega) _
/-- Two rows of numbers of one's own. -/
structure Tw (w wr : World) (v1 v2 : Value) (a b : List Nat) : Prop where
  o1 : Mm.Own wr w.heap.size 3 v1 (Mm.nts a)
  o2 : Mm.Own wr w.heap.size 3 v2 (Mm.nts b)
  bel : Below w.heap.size w wr
theorem Tw.nil {w wr : World} (h : Below w.heap.size w wr) : Tw w wr (.slice none 0 0) (.slice none 0 0) [] [] := ⟨Mm.Own.nil _ _ _, Mm.Own.nil _ _ _, h⟩
theorem Tw.from {w w1 wr : World} {v1 v2 : Value} {a b : List Nat} (h : Tw w1 wr v1 v2 a b) (hb : Below w.heap.size w w1) : Tw w wr v1 v2 a b := ⟨h.o1.base hb.size, h.o2.base hb.size, hb.trans (h.bel.mono hb.size)⟩
noncomputable def findT (s : Lf.S) (v : V) : List Nat := if entE v 0 = 0 then (Lf.spanK s (entB v 0) (aftB v)).map tidOf else []
def findL (s : Lf.S) (v : V) : List Nat := if entE v 0 = 0 then Lf.spanL s (entB v 0) (aftB v) else []
noncomputable def rangeT (s : Lf.S) (v x : V) : List Nat := if entE v 0 = 0 ∧ entE x 0 = 0 then (Lf.spanK s (entB v 0) (entB x 0)).map tidOf else []
def rangeL (s : Lf.S) (v x : V) : List Nat := if entE v 0 = 0 ∧ entE x 0 = 0 then Lf.spanL s (entB v 0) (entB x 0) else []
/-- Is an entry there? -/
def hasE (s : Lf.S) (v : V) (n : Int) : Bool := decide (entE v n = 0) && Lf.inKs (Lf.leafOf s (entB v n)).ks (entB v n)
end Ix

set_option maxRecDepth 100000 in
set_option maxHeartbeats 2000000 in
theorem newI_any (fan : Nat) (h1 : 2 ≤ fan) (h2 : fan ≤ 64) (w : World) : Calls Tryz.prog 7 #[.int .i64 (fan : Int)] w fun e w' => e = .returned (.tuple #[.pointer (some ⟨w.heap.size + 3, 0, none⟩), .int .i64 0]) ∧ w' = Ix.W1 w fan := by
  have HN := Mm.hid (new_any fan h1 h2 w)
  have HS := Mm.hid (Ix.W0_size w fan)
  go_enter Tryz.func7, Tryz.ntmps7
  go_wp2_with fail
  refine HN.out.mono ?_
  rintro e w1 ⟨rfl, rfl⟩
  go_wp2_with fail
  go_ret2
  rw [HS.out]
  exact ⟨rfl, rfl⟩

set_option maxRecDepth 100000 in
set_option maxHeartbeats 2000000 in
theorem newI_err (fan : Int) (h : fan < 2 ∨ 64 < fan) (w : World) : Calls Tryz.prog 7 #[.int .i64 fan] w fun e w' => e = .returned (.tuple #[.pointer none, .int .i64 1]) ∧ w' = w := by
  have HN := Mm.hid (new_err fan h w)
  go_enter Tryz.func7, Tryz.ntmps7
  go_wp2_with fail
  refine HN.out.mono ?_
  rintro e w1 ⟨rfl, rfl⟩
  go_wp2_with fail
  go_ret2
  exact ⟨rfl, rfl⟩

set_option maxRecDepth 100000 in
set_option maxHeartbeats 2000000 in
theorem ientry_any (a : Addr) (v : Vl.V) (n : Int) (w : World) (hM : Ky.Mx w) (hv : Ky.In v) :
    Calls Tryz.prog 32 #[.pointer (some a), .agg #[.int .i64 v.k, .int .i64 v.n, .float .f64 v.f, .string v.s], .int .i64 n] w fun e w' => e = .returned (.tuple #[.string (Ky.entB v n), .int .i64 (Ky.entE v n)]) ∧ Below w.heap.size w w' := by
  have HC := Mm.hid (entry_any v n _ (hM.below (Vl.bal (Below.refl _ _) (.cells #[.int .i64 v.k, .int .i64 v.n, .float .f64 v.f, .string v.s] 34))) hv)
  go_enter Tryz.func32, Tryz.ntmps32
  go_wp2_with fail
  refine HC.out.mono ?_
  rintro e w1 ⟨rfl, hb⟩
  go_wp2_with fail
  go_ret2
  exact ⟨rfl, Vl.btr (Vl.bal (Below.refl _ _) _) hb⟩

set_option maxRecDepth 100000 in
set_option maxHeartbeats 2000000 in
theorem ientry_nil (v : Vl.V) (n : Int) (w : World) :
    Calls Tryz.prog 32 #[.pointer none, .agg #[.int .i64 v.k, .int .i64 v.n, .float .f64 v.f, .string v.s], .int .i64 n] w fun e w' => e = .returned (.tuple #[.string ⟨#[]⟩, .int .i64 1]) ∧ Below w.heap.size w w' := by
  go_enter Tryz.func32, Tryz.ntmps32
  go_wp2_with fail
  go_ret2
  exact ⟨rfl, Vl.bal (Below.refl _ _) _⟩

section
variable {h : Nat} {w : World} {tag : Nat → Option Lf.Tg} {b p : Nat} {s : Lf.S} {N : Nat}

set_option maxRecDepth 100000 in
set_option maxHeartbeats 2000000 in
theorem ihas_any (H : Hid (Ix.Iq h w tag b p s N)) (hN : N ≤ 4900) (v : Vl.V) (n : Int) (hM : Ky.Mx w) (hv : Ky.In v) :
    Calls Tryz.prog 20 #[.pointer (some ⟨b, 0, none⟩), .agg #[.int .i64 v.k, .int .i64 v.n, .float .f64 v.f, .string v.s], .int .i64 n] w fun e w' => e = .returned (.bool (Ix.hasE s v n)) ∧ Below w.heap.size w w' := by
  have HC := Mm.hid (ientry_any ⟨b, 0, none⟩ v n _ (hM.below (Vl.bal (Below.refl _ _) (.cells #[.int .i64 v.k, .int .i64 v.n, .float .f64 v.f, .string v.s] 34))) hv)
  unfold Ix.hasE
  rcases Ix.entE_cases v n with h0 | h0 | h0
  · rw [h0] at HC ⊢
    rw [show decide ((0 : Int) = 0) = true from rfl, Bool.true_and]
    go_enter Tryz.func20, Tryz.ntmps20
    go_wp2_with fail
    refine HC.out.mono ?_
    rintro e w1 ⟨rfl, hb⟩
    have HB := Mm.hid (Vl.btr (Vl.bal (Below.refl w.heap.size w) _) hb)
    have HQ := Mm.hid (H.out.below HB.out)
    have hc := HQ.out.cell
    have HH := Mm.hid (has_q (Mm.hid HQ.out.q) hN (Ky.entB v n))
    clear hb HC
    go_wp2_with fail
    refine HH.out.mono ?_
    rintro e w2 ⟨rfl, hb2⟩
    have HB2 := Mm.hid (Vl.btr HB.out hb2)
    clear hb2
    go_wp2_with fail
    go_ret
    exact ⟨by simp, HB2.out⟩
  all_goals
    rw [h0] at HC ⊢
    go_enter Tryz.func20, Tryz.ntmps20
    go_wp2_with fail
    refine HC.out.mono ?_
    rintro e w1 ⟨rfl, hb⟩
    have HB := Mm.hid (Vl.btr (Vl.bal (Below.refl w.heap.size w) _) hb)
    clear hb HC
    go_wp2_with fail
    go_ret
    exact ⟨by simp, HB.out⟩

set_option maxRecDepth 100000 in
set_option maxHeartbeats 2000000 in
theorem ilen_any (H : Hid (Ix.Iq h w tag b p s N)) :
    Calls Tryz.prog 22 #[.pointer (some ⟨b, 0, none⟩)] w fun e w' => e = .returned (.int .i64 (s.count : Int)) ∧ Below w.heap.size w w' := by
  have hc := H.out.cell
  have HL := Mm.hid (len_q (Mm.hid H.out.q))
  go_enter Tryz.func22, Tryz.ntmps22
  go_wp2_with fail
  refine HL.out.mono ?_
  rintro e w1 ⟨rfl, hb⟩
  go_wp2_with fail
  go_ret
  exact ⟨rfl, hb⟩

set_option maxRecDepth 100000 in
set_option maxHeartbeats 2000000 in
theorem ileaves_any (H : Hid (Ix.Iq h w tag b p s N)) (hN : N ≤ 4900) :
    Calls Tryz.prog 24 #[.pointer (some ⟨b, 0, none⟩)] w fun e w' => ∃ v, e = .returned v ∧ Mm.Own w' w.heap.size 3 v (Mm.nts (Lf.nums s.pgs)) ∧ Below w.heap.size w w' := by
  have hc := H.out.cell
  have HL := Mm.hid (all_q (Mm.hid H.out.q) hN)
  go_enter Tryz.func24, Tryz.ntmps24
  go_wp2_with fail
  refine HL.out.mono ?_
  rintro e w1 ⟨v, rfl, ho, hb⟩
  go_wp2_with fail
  go_ret
  exact ⟨_, rfl, ho, hb⟩

end

set_option maxRecDepth 100000 in
set_option maxHeartbeats 2000000 in
theorem ihas_nil (v : Vl.V) (n : Int) (w : World) :
    Calls Tryz.prog 20 #[.pointer none, .agg #[.int .i64 v.k, .int .i64 v.n, .float .f64 v.f, .string v.s], .int .i64 n] w fun e w' => e = .returned (.bool false) ∧ Below w.heap.size w w' := by
  have HC := Mm.hid (ientry_nil v n (w.alloc (.cells #[.int .i64 v.k, .int .i64 v.n, .float .f64 v.f, .string v.s] 34)))
  go_enter Tryz.func20, Tryz.ntmps20
  go_wp2_with fail
  refine HC.out.mono ?_
  rintro e w1 ⟨rfl, hb⟩
  have HB := Mm.hid (Vl.btr (Vl.bal (Below.refl w.heap.size w) _) hb)
  clear hb HC
  go_wp2_with fail
  go_ret
  exact ⟨by simp, HB.out⟩

set_option maxRecDepth 100000 in
set_option maxHeartbeats 2000000 in
theorem ilen_nil (w : World) : Calls Tryz.prog 22 #[.pointer none] w fun e w' => e = .returned (.int .i64 0) ∧ w' = w := by
  go_enter Tryz.func22, Tryz.ntmps22
  go_wp2_with fail
  go_ret
  exact ⟨rfl, rfl⟩

set_option maxRecDepth 100000 in
set_option maxHeartbeats 2000000 in
theorem ileaves_nil (w : World) : Calls Tryz.prog 24 #[.pointer none] w fun e w' => e = .returned (.slice none 0 0) ∧ w' = w := by
  go_enter Tryz.func24, Tryz.ntmps24
  go_wp2_with fail
  go_ret
  exact ⟨rfl, rfl⟩

set_option maxRecDepth 100000 in
set_option maxHeartbeats 2000000 in
theorem between_nil (a c : ByteArray) (w : World) : Calls Tryz.prog 40 #[.pointer none, .string a, .string c] w fun e w' => e = .returned (.tuple #[.slice none 0 0, .slice none 0 0]) ∧ Below w.heap.size w w' := by
  go_enter Tryz.func40, Tryz.ntmps40
  go_wp2_with fail
  refine bodyPost_ret (v := .tuple #[.slice none 0 0, .slice none 0 0]) (by simp [results, Tryz.results40, go_sem]) rfl ⟨rfl, ?_⟩
  exact Vl.bal (Below.refl _ _) _

set_option maxRecDepth 100000 in
set_option maxHeartbeats 2000000 in
theorem add_nil (v : Vl.V) (n : Int) (w : World) :
    Calls Tryz.prog 11 #[.pointer none, .agg #[.int .i64 v.k, .int .i64 v.n, .float .f64 v.f, .string v.s], .int .i64 n] w fun e w' => e = .returned (.tuple #[.int .i64 0, .agg #[.int .i64 0, .int .i64 0], .int .i64 1]) ∧ Below w.heap.size w w' := by
  have HC := Mm.hid (ientry_nil v n ((w.alloc (.cells #[.int .i64 v.k, .int .i64 v.n, .float .f64 v.f, .string v.s] 34)).alloc (.cells #[.int .i64 0, .int .i64 0] 38)))
  have HB0 : Hid (Below w.heap.size w ((w.alloc (.cells #[.int .i64 v.k, .int .i64 v.n, .float .f64 v.f, .string v.s] 34)).alloc (.cells #[.int .i64 0, .int .i64 0] 38))) := Mm.hid (Vl.bal (Vl.bal (Below.refl _ _) _) _)
  have HZ : Hid (((w.alloc (.cells #[.int .i64 v.k, .int .i64 v.n, .float .f64 v.f, .string v.s] 34)).alloc (.cells #[.int .i64 0, .int .i64 0] 38)).heap[w.heap.size + 1]? = some (.cells #[.int .i64 0, .int .i64 0] 38 (0, 0))) := Mm.hid (Mm.newAt _ _ (by simp))
  go_enter Tryz.func11, Tryz.ntmps11
  go_wp2_with fail
  refine HC.out.mono ?_
  rintro e w1 ⟨rfl, hb⟩
  have HB := Mm.hid (Vl.btr HB0.out hb)
  have hz := (hb.block _ (Mm.heapLt HZ.out)).trans HZ.out
  have c0 : w1.cell? ⟨w.heap.size + 1, 0, none⟩ = some (.int .i64 0) := Mm.cellOf hz rfl
  have c1 : w1.cell? ⟨w.heap.size + 1, 1, none⟩ = some (.int .i64 0) := Mm.cellOf hz rfl
  have f0 : w1.frozen? ⟨w.heap.size + 1, 0, none⟩ = false := by simp [World.frozen?, hz]
  have f1 : w1.frozen? ⟨w.heap.size + 1, 1, none⟩ = false := by simp [World.frozen?, hz]
  clear hb HC HB0 HZ hz
  go_wp2_with fail
  refine bodyPost_ret (v := .tuple #[.int .i64 0, .agg #[.int .i64 0, .int .i64 0], .int .i64 1]) (by simp [results, Tryz.results11, go_sem, c0, c1]) rfl ⟨rfl, ?_⟩
  exact (HB.out.setCell (Nat.le_succ _) _).setCell (Nat.le_succ _) _

end Go.Proofs.YtjnaafgiokdcbaaGreatDoor
