/- Walk of the statements' wakes. -/
import Derived.Test.YtanljohnmaokeaaR3
import Derived.Test.YtanljohnmaokeaaE3
import Derived.Test.YtanljohnmaokeaaD4
namespace Go.Proofs.Ytanljohnmaokeaa
open Go.RowKit
attribute [local go_sem] Fl.run_store_float
namespace Vl

theorem good2_zero : goodB 2 (-1) 0 ⟨#[]⟩ = true := by rw [goodB_2]; unfold good2; rw [ByteArray.toList_eq]; rfl
theorem wake_enc : encR 2 (-1) 0 ⟨#[]⟩ = ⟨#[2, 255, 255, 255, 255, 255, 255, 255, 255]⟩ := by
  unfold encR; rw [good2_zero, if_pos rfl]; decide +kernel
theorem wake_ok : encE 2 (-1) 0 ⟨#[]⟩ = 0 := by unfold encE; rw [good2_zero]; rfl
theorem wake_x : (⟨#[2, 255, 255, 255, 255, 255, 255, 255, 255, 120]⟩ : ByteArray).extract (0 + 1) 10 = ⟨#[255, 255, 255, 255, 255, 255, 255, 255, 120]⟩ := by decide +kernel
theorem wake_n : i64N (nv ⟨#[255, 255, 255, 255, 255, 255, 255, 255, 120]⟩ 8) = -1 := by decide +kernel
theorem wake_dec : dec ⟨#[2, 255, 255, 255, 255, 255, 255, 255, 255, 120]⟩ 0 = some ⟨⟨2, -1, 0, ⟨#[]⟩⟩, 8⟩ := by
  unfold dec
  rw [if_neg (by decide)]
  show decX 2 ((⟨#[2, 255, 255, 255, 255, 255, 255, 255, 255, 120]⟩ : ByteArray).extract (0 + 1) 10) = _
  rw [wake_x, decX_2, if_neg (by decide), wake_n]
  exact chk_yes good2_zero
theorem wake_cat : (⟨#[2, 255, 255, 255, 255, 255, 255, 255, 255]⟩ : ByteArray) ++ ⟨#[120]⟩ = ⟨#[2, 255, 255, 255, 255, 255, 255, 255, 255, 120]⟩ := by decide +kernel
theorem wake_t : decT (some ⟨⟨2, -1, 0, ⟨#[]⟩⟩, 8⟩) = .tuple #[.agg #[.int .i64 2, .int .i64 (-1), .float .f64 0, .string ⟨#[]⟩], .int .i64 9, .bool true] := rfl
theorem wake_n1 : nameB ⟨#[97, 95, 49]⟩ = true := by decide +kernel
theorem wake_n2 : nameB ⟨#[95, 97]⟩ = false := by decide +kernel
def wakeR : List (List V) := [[⟨2, 2, 0, ⟨#[]⟩⟩], [⟨2, 1, 0, ⟨#[]⟩⟩]]
def wakeS : List (List V) := [[⟨2, 1, 0, ⟨#[]⟩⟩], [⟨2, 2, 0, ⟨#[]⟩⟩]]
theorem wake_sort {rs : List (List V)} (hp : rs.Perm wakeR) (hs : SortedR rs) : rs = wakeS := by
  have hl : rs.length = 2 := hp.length_eq
  match rs, hl with
  | [a, b], _ =>
    unfold wakeR at hp
    have hab : cmpR a b ≤ 0 := by
      unfold SortedR at hs
      simp at hs
      exact hs
    have ha : a = [⟨2, 2, 0, ⟨#[]⟩⟩] ∨ a = [⟨2, 1, 0, ⟨#[]⟩⟩] := by
      have := hp.mem_iff (a := a)
      simp at this
      exact this
    rcases ha with rfl | rfl
    · have hb : b = [⟨2, 1, 0, ⟨#[]⟩⟩] := by
        have h := hp.cons_inv
        simpa using h
      subst hb
      exfalso
      have e : cmpR [⟨2, 2, 0, ⟨#[]⟩⟩] [⟨2, 1, 0, ⟨#[]⟩⟩] = 1 := by
        have e1 : cmpV ⟨2, 2, 0, ⟨#[]⟩⟩ ⟨2, 1, 0, ⟨#[]⟩⟩ = 1 := cmpV_n2 rfl (by decide)
        have e2 : cmpL cmpV [(⟨2, 2, 0, ⟨#[]⟩⟩ : V)] [⟨2, 1, 0, ⟨#[]⟩⟩] = 1 := by rw [cmpL_ne (by rw [e1]; decide)]; exact e1
        unfold cmpR; rw [lex_ne (by rw [e2]; decide)]; exact e2
      omega
    · have hb : b = [⟨2, 2, 0, ⟨#[]⟩⟩] := by
        have h := (hp.trans (List.Perm.swap _ _ _)).cons_inv
        simpa using h
      subst hb
      rfl
def wkA (n : Int) : Obj := .cells #[.int .i64 2, .int .i64 n, .float .f64 0, .string ⟨#[]⟩] 24
def wkW (w : World) : World := (((w.alloc (wkA (-1))).alloc (wkA 2)).alloc (wkA 1)).alloc (.cells #[.slice (some ⟨w.heap.size + 1, 0, none⟩) 1 1, .slice (some ⟨w.heap.size + 1 + 1, 0, none⟩) 1 1] 42)
theorem wk_row {w : World} {b : Nat} {n : Int} (h : w.heap[b]? = some (wkA n)) : RowAt w b 0 [⟨2, n, 0, ⟨#[]⟩⟩] := fun j v hv => by
  match j, hv with
  | 0, hv =>
    simp at hv
    subst hv
    unfold wkA at h
    exact ⟨by simp [World.cell?, h], by simp [World.cell?, h], by simp [World.cell?, h], by simp [World.cell?, h]⟩
theorem wk_size (w : World) : (wkW w).heap.size = w.heap.size + 4 := by unfold wkW; simp
theorem wk_0 (w : World) : (wkW w).heap[w.heap.size]? = some (wkA (-1)) := by
  unfold wkW
  rw [Below.heap_alloc _ _ _ (by simp; omega), Below.heap_alloc _ _ _ (by simp; omega), Below.heap_alloc _ _ _ (by simp)]
  show (w.heap.push _)[w.heap.size]? = _
  simp
theorem wk_1 (w : World) : (wkW w).heap[w.heap.size + 1]? = some (wkA 2) := by
  unfold wkW
  rw [Below.heap_alloc _ _ _ (by simp), Below.heap_alloc _ _ _ (by simp)]
  show ((w.alloc _).heap.push _)[w.heap.size + 1]? = _
  rw [show w.heap.size + 1 = (w.alloc (wkA (-1))).heap.size from by simp, Array.getElem?_push_size]
theorem wk_2 (w : World) : (wkW w).heap[w.heap.size + 1 + 1]? = some (wkA 1) := by
  unfold wkW
  rw [Below.heap_alloc _ _ _ (by simp)]
  show (((w.alloc _).alloc _).heap.push _)[w.heap.size + 1 + 1]? = _
  rw [show w.heap.size + 1 + 1 = ((w.alloc (wkA (-1))).alloc (wkA 2)).heap.size from by simp, Array.getElem?_push_size]
theorem wk_3 (w : World) : (wkW w).heap[w.heap.size + 1 + 1 + 1]? = some (.cells #[.slice (some ⟨w.heap.size + 1, 0, none⟩) 1 1, .slice (some ⟨w.heap.size + 1 + 1, 0, none⟩) 1 1] 42) := by
  unfold wkW
  show ((((w.alloc _).alloc _).alloc _).heap.push _)[w.heap.size + 1 + 1 + 1]? = _
  rw [show w.heap.size + 1 + 1 + 1 = (((w.alloc (wkA (-1))).alloc (wkA 2)).alloc (wkA 1)).heap.size from by simp, Array.getElem?_push_size]
theorem wk_in (w : World) : InAt (wkW w) (w.heap.size + 1 + 1 + 1) 0 wakeR := fun i xs hi => by
  unfold wakeR at hi
  match i, hi with
  | 0, hi =>
    simp at hi
    subst hi
    exact ⟨some ⟨w.heap.size + 1, 0, none⟩, 1, by simp [World.cell?, wk_3], by decide, Or.inr ⟨_, _, rfl, by rw [wk_size]; omega, wk_row (wk_1 w)⟩⟩
  | 1, hi =>
    simp at hi
    subst hi
    exact ⟨some ⟨w.heap.size + 1 + 1, 0, none⟩, 1, by simp [World.cell?, wk_3], by decide, Or.inr ⟨_, _, rfl, by rw [wk_size]; omega, wk_row (wk_2 w)⟩⟩
theorem wk_below (w : World) : Below w.heap.size w (wkW w) := bal (bal (bal (bal (Below.refl _ _) _) _) _) _
end Vl

set_option maxRecDepth 100000 in
set_option maxHeartbeats 2000000 in
theorem wakes_any (w : World) :
    Calls Try.prog 10 #[] w fun e w' => e = .returned (.bool true) ∧ Below w.heap.size w w' := by
  go_enter Try.func10, Try.ntmps10
  go_wp2_with fail
  refine (encode_any 2 (-1) 0 ⟨#[]⟩ _ (by decide)).mono ?_
  rintro e w1 ⟨rfl, hb1⟩
  rw [Vl.wake_enc, Vl.wake_ok]
  go_wp2_with fail
  rw [Vl.wake_cat]
  refine (decode_any _ 0 _ (by decide)).mono ?_
  rintro e w2 ⟨rfl, hb2⟩
  rw [Vl.wake_dec, Vl.wake_t]
  have HB2 := Vl.hid (Vl.btr hb1 hb2)
  clear hb1 hb2
  go_wp2_with fail
  have hrows := rows_any (w2.heap.size + 1 + 1 + 1) 0 2 Vl.wakeR (Vl.wkW w2) (by rw [Vl.wk_size]; omega) (Vl.wk_in w2) 2 rfl (by omega) (by omega) (by omega)
  refine Calls.mono hrows ?_
  rintro e w5 ⟨rs', rfl, hp, hs, ho, hb5, hlt⟩
  obtain rfl := Vl.wake_sort hp hs
  obtain ⟨b, o, c, k1, k2, k3, k4, k5, k6, k7⟩ := ho 0 [⟨2, 1, 0, ⟨#[]⟩⟩] rfl
  obtain ⟨_, kn, _, _⟩ := k7 0 ⟨2, 1, 0, ⟨#[]⟩⟩ rfl
  rw [Nat.zero_mul, Nat.add_zero] at kn
  have kd : w5.cell? ⟨w2.heap.size, 1, none⟩ = some (.int .i64 (-1)) := by
    rw [(Vl.bcell hb5).1 _ _ (by rw [Vl.wk_size]; omega)]
    simp [World.cell?, Vl.wk_0, Vl.wkA]
  have k3' : 1 ≤ c := k3
  have k1' : w5.cell? ⟨(Vl.wkW w2).heap.size, 0, none⟩ = some (.slice (some ⟨b, o, none⟩) 1 c) := k1
  have HB5 := Vl.hid (Vl.btr (Vl.btr HB2.out (Vl.wk_below w2)) hb5)
  generalize (Vl.wkW w2).heap.size = h5 at k1'
  clear k1 k2 k3 k4 k5 k6 k7 hp hs ho hb5 hlt hrows
  go_wp2_with (first | (go_at_call 12; refine (name_any _ _).mono ?_; rintro e w' ⟨rfl, hq⟩; obtain rfl := hq.symm; (first | rw [Vl.wake_n1] | rw [Vl.wake_n2])))
  go_ret
  exact ⟨rfl, HB5.out⟩

end Go.Proofs.Ytanljohnmaokeaa
