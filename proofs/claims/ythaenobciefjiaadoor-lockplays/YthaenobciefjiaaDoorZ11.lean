/- fair, Mod; a table and blocks beside it; arrays of marks. -/
import Derived.Test.YthaenobciefjiaaDoorZ10
namespace Go.Proofs.YthaenobciefjiaaDoor
open Go.RowKit Go.Maps Go.ChangeMaps Go.MapKept Go.Sort Go.Shelf

set_option maxHeartbeats 400000 in
theorem mod8_any (a : Int) (w : World) :
    Calls Tryd.prog 26 #[.int .i64 a, .int .i64 8] w fun e w' => ∃ r : Nat, r < 8 ∧ e = .returned (.int .i64 (r : Int)) ∧ w' = w := by
  go_enter Tryd.func26, Tryd.ntmps26
  go_wp2_with fail
  go_ret
  have b1 : a.tmod 8 < 8 := Int.tmod_lt_of_pos a (by omega)
  have b2 : -8 < a.tmod 8 := Int.lt_tmod_of_pos a (by omega)
  have e1 : wrap64 (a.tmod 8 + 8) = a.tmod 8 + 8 := by
    generalize a.tmod 8 = t at *
    unfold wrap64
    omega
  have e2 : (a.tmod 8 + 8).tmod 8 = (a.tmod 8 + 8) % 8 := Int.tmod_eq_emod_of_nonneg (by omega)
  refine ⟨((a.tmod 8 + 8) % 8).toNat, by omega, ?_, rfl⟩
  show Ending.returned (Value.int .i64 ((wrap64 (a.tmod 8 + 8)).tmod 8)) = _
  rw [e1, e2, Int.toNat_of_nonneg (by omega)]

/-- What fair tells. -/
def Lk.FairE (n : Nat) (e : Ending) : Prop := ∃ b : Bool, e = .returned (.bool b) ∧ (b = true → n ≤ 150)
set_option maxRecDepth 100000 in
set_option maxHeartbeats 1000000 in
theorem fair_any (a : Option Addr) (n c : Nat) (xs : List Lk.Stp) (w : World) (hS : Hid (Lk.Stps w a n c xs)) (hn : n ≤ maxLen) :
    Calls Tryd.prog 10 #[.slice a n c] w fun e w' => Lk.FairE n e ∧ w' = w := by
  have hml : maxLen = 140737488351232 ∨ maxLen ≤ 9223372036854775807 := Or.inr (by unfold maxLen; omega)
  have hn2 : n ≤ 9223372036854775807 := by
    have : maxLen ≤ 9223372036854775807 := by unfold maxLen; omega
    omega
  clear hml
  go_enter Tryd.func10, Tryd.ntmps10
  go_wp2_with fail
  go_loopw [3] (fun vi wr => ∃ i : Nat, i ≤ n ∧ vi = .int .i64 (i : Int) ∧ wr = w) (fun vi _ => n - (RowKit.intOf vi).toNat)
  case atStart => exact ⟨0, by omega, rfl, rfl⟩
  case round =>
    obtain ⟨i, hi, rfl, hq⟩ := hrel
    obtain rfl := hq.symm
    by_cases hlt : i < n
    · obtain ⟨x, hx⟩ : ∃ x, xs[i]? = some x := ⟨_, List.getElem?_eq_getElem (by rw [hS.out.len]; exact hlt)⟩
      obtain ⟨b, o, rfl, hbl, h0, h1, h2, h3, hfit⟩ := hS.out.at_ i x hx
      have g1 : (0 : Int) ≤ (i : Int) := by omega
      have g2 : (i : Int) < (n : Int) := by omega
      have hsz : (⟨x.nm.toArray⟩ : ByteArray).size = x.nm.length := by simp [ByteArray.size]
      clear h0 h1 h2 hx hbl
      cases hd : decide ((100 : Int) < (x.nm.length : Int))
      · go_wp2_with fail
        refine ⟨⟨i + 1, by omega, by go_num, trivial⟩, by simp [RowKit.intOf]; omega⟩
      · go_wp2_with fail
        go_ret
        exact ⟨⟨false, rfl, (fun h => nomatch h)⟩, rfl⟩
    · by_cases h150 : n ≤ 150
      · go_wp2_with fail
        go_ret
        exact ⟨⟨_, rfl, fun _ => h150⟩, rfl⟩
      · have h151 : decide ((n : Int) ≤ 150) = false := by simp; omega
        go_wp2_with fail
        go_ret
        exact ⟨⟨false, rfl, (fun h => nomatch h)⟩, rfl⟩

namespace Lk
/-- A table, and blocks that are not its own. -/
def Ob (X : List Nat) (w W : World) (p N : Nat) (s : St) (bs bw bq : Nat) : Prop := ∃ F, Own F w W p N s bs bw bq ∧ ∀ b ∈ X, F b
variable {X : List Nat} {w W : World} {p N : Nat} {s : St} {bs bw bq : Nat}
theorem Ob.bel (h : Ob X w W p N s bs bw bq) : Below w.heap.size w W := let ⟨_, h, _⟩ := h; h.bel
theorem Ob.lt (h : Ob X w W p N s bs bw bq) {b : Nat} (hb : b ∈ X) : b < W.heap.size := let ⟨_, h, k⟩ := h; h.lt b (k b hb)
theorem Ob.mono (h : Ob X w W p N s bs bw bq) {M : Nat} (hm : N ≤ M) : Ob X w W p M s bs bw bq := let ⟨F, h, k⟩ := h; ⟨F, h.mono hm, k⟩
theorem Ob.less {Y : List Nat} (h : Ob X w W p N s bs bw bq) (hy : ∀ b ∈ Y, b ∈ X) : Ob Y w W p N s bs bw bq := let ⟨F, h, k⟩ := h; ⟨F, h, fun b hb => k b (hy b hb)⟩
theorem Ob.below {W' : World} (h : Ob X w W p N s bs bw bq) (hb : Below W.heap.size W W') : Ob X w W' p N s bs bw bq := let ⟨F, h, k⟩ := h; ⟨F, h.same hb, k⟩
theorem Ob.add {W' : World} (h : Ob X w W p N s bs bw bq) (hb : Below W.heap.size W W') {Y : List Nat} (hy : ∀ b ∈ Y, W.heap.size ≤ b ∧ b < W'.heap.size) : Ob (Y ++ X) w W' p N s bs bw bq := by
  obtain ⟨F, h, k⟩ := h
  exact ⟨_, h.below hb, fun b hbm => (List.mem_append.1 hbm).elim (fun e => Or.inr (hy b e)) (fun e => Or.inl (k b e))⟩
theorem Ob.new (h : Ob X w W p N s bs bw bq) (o : Obj) : Ob (W.heap.size :: X) w (W.alloc o) p N s bs bw bq :=
  h.add (Y := [W.heap.size]) ((Below.refl _ _).alloc (Nat.le_refl _) o) (fun b hb => by rw [List.mem_singleton.1 hb]; simp)
theorem setCell_size (W : World) (a : Addr) (v : Value) : (W.setCell a v).heap.size = W.heap.size := by show (W.heap.modify _ _).size = _; rw [Array.size_modify]
theorem Ob.setCell (h : Ob X w W p N s bs bw bq) {B k : Nat} (hB : B ∈ X) (hlo : w.heap.size ≤ B) (v : Value) : Ob X w (W.setCell ⟨B, k, none⟩ v) p N s bs bw bq := by
  obtain ⟨F, hO, hk⟩ := h
  refine ⟨F, (hO.kept (Nat.le_of_eq (setCell_size W _ v).symm) (fun b _ hf => Below.heap_setCell W ⟨B, k, none⟩ _ b (fun e => hf (by rw [e]; exact hk B hB))) (hO.bel.setCell hlo _)).less (fun _ h => Or.inl h) hO.old, hk⟩
theorem Ob.md (h : Ob X w W p N s bs bw bq) (hM : Md.Tab w) : Md.Tab W := hM.below h.bel
/-- An array of nine marks. -/
def Ar (W : World) (B : Nat) (f : Nat → Bool) : Prop := ∀ k : Nat, k < 9 → W.cell? ⟨B, k, none⟩ = some (.bool (f k)) ∧ W.frozen? ⟨B, k, none⟩ = false
theorem Ar.keep {W' : World} {B : Nat} {f : Nat → Bool} (h : Ar W B f) (hb : W'.heap[B]? = W.heap[B]?) : Ar W' B f := fun k hk => ⟨(World.cell?_of_block (a := ⟨B, k, none⟩) hb).trans (h k hk).1, (World.frozen?_of_block (a := ⟨B, k, none⟩) hb).trans (h k hk).2⟩
theorem Ar.set {B : Nat} {f : Nat → Bool} (h : Ar W B f) {j : Nat} (hj : j < 9) (v : Bool) : Ar (W.setCell ⟨B, j, none⟩ (.bool v)) B (fun k => if k = j then v else f k) := fun k hk => by
  refine ⟨?_, by rw [World.frozen?_setCell]; exact (h k hk).2⟩
  by_cases e : k = j
  · subst e
    rw [World.cell?_setCell_same (h := (h k hk).1)]; simp
  · rw [World.cell?_setCell_other (h := fun e2 => by injection e2 with _ e2; exact e e2.symm), (h k hk).1]; simp [e]
theorem Ar.far {B B' : Nat} {f : Nat → Bool} (h : Ar W B f) (hne : B ≠ B') (j : Nat) (v : Value) : Ar (W.setCell ⟨B', j, none⟩ v) B f := h.keep (Below.heap_setCell W ⟨B', j, none⟩ v B hne)
theorem Ar.new (W : World) : Ar (W.alloc (.cells #[.bool false, .bool false, .bool false, .bool false, .bool false, .bool false, .bool false, .bool false, .bool false] 51)) W.heap.size (fun _ => false) := fun h hh => by
  have e := (MapKept.heap_alloc W (.cells #[.bool false, .bool false, .bool false, .bool false, .bool false, .bool false, .bool false, .bool false, .bool false] 51)).1
  constructor
  · unfold World.cell?
    simp only [e]
    rcases h with _|_|_|_|_|_|_|_|_|h <;> first | rfl | omega
  · unfold World.frozen?
    simp only [e]
    simp
theorem Ar.ext {B : Nat} {f g : Nat → Bool} (h : Ar W B f) (hfg : ∀ k, k < 9 → f k = g k) : Ar W B g := fun k hk => by rw [← hfg k hk]; exact h k hk
theorem Ar.below {W' : World} {B : Nat} {f : Nat → Bool} (h : Ar W B f) (hb : Below W.heap.size W W') (hlt : B < W.heap.size) : Ar W' B f := h.keep (hb.block B hlt)
end Lk

set_option maxHeartbeats 400000 in
theorem takeB_any (X : List Nat) (w W : World) (p N : Nat) (s : Lk.St) (bs bw bq : Nat) (x : Int) (nm : Lk.Bytes) (m : Int) (hO : Hid (Lk.Ob X w W p N s bs bw bq)) (hM : Hid (Md.Tab w)) (hx : Lk.wfI x) (hl : nm.length ≤ maxLen) (hN : Hid (N < 90000)) :
    Calls Tryd.prog 12 #[.pointer (some ⟨p, 0, none⟩), .int .i64 x, Lk.str nm, .int .i64 m] W fun e w' => ∃ E s', e = .returned (.int .i64 E) ∧ Lk.TakeR s x nm m E s' ∧ Lk.Ob X w w' p (N + 2) s' bs bw bq ∧ ∀ b ∈ X, w'.heap[b]? = W.heap[b]? := by
  obtain ⟨F, hF, hX⟩ := hO.out
  refine (takeO_any F w W p N s bs bw bq x nm m (Mp.hid hF) hM hx hl hN).mono ?_
  rintro e w' ⟨E, s', rfl, hR, hO', hk⟩
  exact ⟨E, s', rfl, hR, ⟨F, hO', hX⟩, fun b hb => hk b (hX b hb)⟩

set_option maxHeartbeats 400000 in
theorem waitsB_any (X : List Nat) (w W : World) (p N : Nat) (s : Lk.St) (bs bw bq : Nat) (x : Int) (hO : Hid (Lk.Ob X w W p N s bs bw bq)) (hx : Lk.wfI x) :
    Calls Tryd.prog 17 #[.pointer (some ⟨p, 0, none⟩), .int .i64 x] W fun e w' => e = .returned (.tuple #[.string ⟨(Lk.wn s x).toArray⟩, .int .i64 (Lk.wm s x), .bool (s.want x).isSome]) ∧ Below W.heap.size W w' := by
  obtain ⟨F, hF, hX⟩ := hO.out
  exact waitsO_any F w W p N s bs bw bq x (Mp.hid hF) hx

set_option maxHeartbeats 400000 in
theorem releaseB_any (X : List Nat) (w W : World) (p N : Nat) (s : Lk.St) (bs bw bq : Nat) (x : Int) (hO : Hid (Lk.Ob X w W p N s bs bw bq)) (hM : Hid (Md.Tab w)) (hx : Lk.wfI x) (hI : Hid (Lk.Inv s)) (hN : Hid (N < 89000)) :
    Calls Tryd.prog 15 #[.pointer (some ⟨p, 0, none⟩), .int .i64 x] W fun e w' => ∃ (v : Value) (out : List Int) (s' : Lk.St) (L : List Lk.Bytes), e = .returned v ∧ Lk.Rel (Lk.leaveS s x) L s' out ∧ Rs.Up (· ≤ ·) L ∧ (∀ n, n ∈ L ↔ n.length ≤ maxLen ∧ (s.set x n ≠ 0 ∨ (s.want x).map (·.1) = some n)) ∧ w'.ownsRow W.heap.size 3 1 v out.length (out.map (Value.int .i64)) ∧ Lk.Ob X w w' p (N + 401) s' bs bw bq ∧ (∀ b ∈ X, w'.heap[b]? = W.heap[b]?) ∧ Lk.Inv s' ∧ Lk.RF (Lk.leaveS s x) out s' ∧ out.length ≤ 200 := by
  obtain ⟨F, hF, hX⟩ := hO.out
  refine (releaseI_any F w W p N s bs bw bq x (Mp.hid hF) hM hx hI hN).mono ?_
  rintro e w' ⟨v, out, s', L, rfl, hR, hU, hm, hrow, hO', hk, hI', hRF, hlen⟩
  exact ⟨v, out, s', L, rfl, hR, hU, hm, hrow, ⟨F, hO', hX⟩, fun b hb => hk b (hX b hb), hI', hRF, hlen⟩

set_option maxHeartbeats 400000 in
theorem modesB_any (X : List Nat) (w W : World) (p N : Nat) (s : Lk.St) (bs bw bq : Nat) (x : Int) (nm : Lk.Bytes) (hO : Hid (Lk.Ob X w W p N s bs bw bq)) (hx : Lk.wfI x) (hl : nm.length ≤ maxLen) :
    Calls Tryd.prog 19 #[.pointer (some ⟨p, 0, none⟩), .int .i64 x, Lk.str nm] W fun e w' => e = .returned (.int .i64 (s.set x nm)) ∧ w' = W := by
  obtain ⟨F, hF, hX⟩ := hO.out
  exact modesO_any F w W p N s bs bw bq x nm (Mp.hid hF) hx hl

set_option maxHeartbeats 400000 in
theorem namesB_any (X : List Nat) (w W : World) (p N : Nat) (s : Lk.St) (bs bw bq : Nat) (hO : Hid (Lk.Ob X w W p N s bs bw bq)) (hN : Hid (N < 90000)) :
    Calls Tryd.prog 24 #[.pointer (some ⟨p, 0, none⟩)] W fun e w' => ∃ (v : Value) (L : List Lk.Bytes), e = .returned v ∧ w'.ownsRow W.heap.size 9 1 v L.length (L.map encStr) ∧ Rs.Up (· ≤ ·) L ∧ (∀ n, n ∈ L ↔ n.length ≤ maxLen ∧ (s.q n ≠ [] ∨ ∃ h, s.hol h = true ∧ s.set h n ≠ 0)) ∧ L.length ≤ N + N * N ∧ Below W.heap.size W w' := by
  obtain ⟨F, hF, hX⟩ := hO.out
  exact namesO_any F w W p N s bs bw bq (Mp.hid hF) hN

set_option maxHeartbeats 400000 in
theorem newB_any (w : World) :
    Calls Tryd.prog 9 #[] w fun e w' => ∃ p bs bw bq, e = .returned (.pointer (some ⟨p, 0, none⟩)) ∧ Lk.Ob [] w w' p 0 Lk.st0 bs bw bq := by
  refine (newO_any w).mono ?_
  rintro e w' ⟨p, bs, bw, bq, rfl, hO⟩
  exact ⟨p, bs, bw, bq, rfl, _, hO, (fun _ h => nomatch h)⟩

end Go.Proofs.YthaenobciefjiaaDoor
