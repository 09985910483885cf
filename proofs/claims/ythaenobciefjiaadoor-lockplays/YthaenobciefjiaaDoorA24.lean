/- Names walked. -/
import Derived.Test.YthaenobciefjiaaDoorA23
namespace Go.Proofs.YthaenobciefjiaaDoor
open Go.RowKit Go.Maps Go.ChangeMaps Go.MapKept Go.Sort Go.Shelf

set_option maxRecDepth 100000 in
set_option maxHeartbeats 4000000 in
theorem names_any (w : World) (tag : Nat → Option Lk.Lb) (p N : Nat) (s : Lk.St) (bs bw bq : Nat) (bi : Int → Nat) (sl : Lk.Bytes → Value) (hT : Hid (Lk.Tb w tag p N s bs bw bq bi sl)) (hN : Hid (N < 100000)) :
    Calls Tryd.prog 24 #[.pointer (some ⟨p, 0, none⟩)] w fun e w' => ∃ (v : Value) (L : List Lk.Bytes), e = .returned v ∧ w'.ownsRow w.heap.size 9 1 v L.length (L.map encStr) ∧ Rs.Up (· ≤ ·) L ∧ (∀ n, n ∈ L ↔ n.length ≤ maxLen ∧ (s.q n ≠ [] ∨ ∃ h, s.hol h = true ∧ s.set h n ≠ 0)) ∧ L.length ≤ N + N * N ∧ Below w.heap.size w w' := by
  have c2 := hT.out.c2
  go_enter Tryd.func24, Tryd.ntmps24
  go_wp2_with fail
  refine (Lk.keysQ_any _ _).mono ?_
  rintro e w0 ⟨rfl, rfl⟩
  go_wp2_with fail
  refine (collQ_any w tag p N s bs bw bq bi sl hT hN).mono ?_
  rintro e w1 ⟨v0, l0, rfl, hrow, hmem, hlen, hb⟩
  have HT1 := Mp.hid (hT.out.below hb)
  have HB1 := Mp.hid hb
  have HR1 := Mp.hid hrow
  have HM1 := Mp.hid hmem
  have HL1 := Mp.hid hlen
  clear hb hrow hmem hlen c2
  have c0 := HT1.out.c0
  obtain ⟨D, hD, hDf⟩ := HT1.out.sets
  have HDF := Mp.hid hDf
  clear hDf
  go_wp2_with (first | (at_range; refine wpList_range_own _ rfl _ 57 rfl 3 75 Lk.keyI Tryd.underlying57 _ bs N _ rfl hD ?_; intro w2 hrg0 hg0 hs0) | go_in)
  try go_frame
  have HN0 : Hid (Lk.Nl w w2 N bs w1.heap.size s D (Maps.has D) (Maps.size D) v0 l0) := Mp.hid ⟨HB1.out.grown hg0 HB1.out.size (fun k e => nomatch e), hrg0, HR1.out.kept hg0 (Classical.em (v0.ownBlock = none)), fun n => (HM1.out n).trans (by
      constructor
      · exact fun h => ⟨h.1, Or.inl h.2⟩
      · rintro ⟨h1, h2⟩
        refine ⟨h1, ?_⟩
        rcases h2 with h2 | ⟨y, h3, h4, h5⟩
        · exact h2
        · have hw := HT1.out.hw y h4
          have hk := Mp.Fn.has hD Lk.keyI HDF.out (a := y) ⟨_, Lk.key_i hw⟩
          rw [h3] at hk
          rw [h4] at hk
          simp at hk), by
      have h1 := HL1.out
      have h2 := hD.size_le
      have h3 : Maps.size D * N ≤ N * N := Nat.mul_le_mul_right N h2
      omega, HB1.out.size⟩
  clear hrg0 hg0 hs0 c0 hD HR1 HM1 HL1
  go_loopw [3] (fun v wr => ∃ (l : List Lk.Bytes) (left : Lit → Bool) (cnt : Nat), Hid (Lk.Nl w wr N bs w1.heap.size s D left cnt v l)) (fun _ wr => wr.rangeLeft bs w1.heap.size)
  case atStart => exact ⟨l0, _, _, HN0⟩
  case round =>
    obtain ⟨l, left, cnt, HB⟩ := hrel
    have hrg := HB.out.rg
    go_wp2_with (first | (at_next; refine Mp.wpList_next (mk := Lk.iK) _ rfl _ rfl 3 Lk.keyI (fun h => if s.hol h then some (.map (some (bi h))) else none) (fun h => .map (some (bi h))) (Value.int .i64) Lk.invI (fun y v e => by revert e; cases s.hol y <;> simp [eq_comm]) bs w1.heap.size N D left cnt HDF.out rfl hrg ?_ ?_) | go_in)
    · intro hc0 hl0
      have HL0 := Mp.hid hl0
      clear hl0 hc0 hrg
      have HLL : Hid (l.length ≤ N + N * N) := Mp.hid (by have := HB.out.len; omega)
      go_wp2_with fail
      refine (risingS_any wr w.heap.size _ l (Mp.hid HB.out.row) (Mp.hid (by
        have h1 := HLL.out
        have h2 := hN.out
        have h3 : N * N ≤ 100000 * 100000 := Nat.mul_le_mul (by omega) (by omega)
        omega))).mono ?_
      rintro e w4 ⟨v', rfl, hrow, hbl, hgr, hnil⟩
      have H4 := Mp.hid (And.intro hrow hgr)
      clear hrow hbl hgr hnil
      go_wp2
      go_ret
      refine ⟨v', Rs.texts l, rfl, H4.out.1, (Rs.texts_spec l).1, fun n => ?_, Nat.le_trans (Rs.texts_len l) HLL.out, HB.out.bel.grown H4.out.2 HB.out.bel.size (fun k e => Lk.row_lo HB.out.row e)⟩
      rw [(Rs.texts_spec l).2, HB.out.mem n]
      constructor
      · rintro ⟨h1, h2⟩
        refine ⟨h1, ?_⟩
        rcases h2 with h2 | ⟨y, _, h4, h5⟩
        · exact Or.inl h2
        · exact Or.inr ⟨y, h4, h5⟩
      · rintro ⟨h1, h2⟩
        refine ⟨h1, ?_⟩
        rcases h2 with h2 | ⟨y, h4, h5⟩
        · exact Or.inl h2
        · exact Or.inr ⟨y, HL0.out _, h4, h5⟩
    · intro o w3 cnt1 hkey hlo hfo hrg1 hlt hg1 hs1 hen
      have hho : s.hol o = true := by revert hfo; cases s.hol o <;> simp
      have HK := Mp.hid (And.intro hlt hho)
      have HG1 := Mp.hid hg1
      have HRG := Mp.hid hrg
      have HRG1 := Mp.hid hrg1
      obtain ⟨oi, hoi, hwi⟩ := hrg.iter_walk
      have HROW := Mp.hid (HB.out.row.kept hg1 (Or.inr (Lk.walk_ne HB.out.row hoi hwi)))
      have HB3 := Mp.hid (HB.out.bel.grown hg1 HB.out.bel.size (fun k e => by injection e with e; have := HB.out.rlo; omega))
      have HT3 := Mp.hid (hT.out.below HB3.out)
      have HLL : Hid (l.length ≤ 100000000000) := Mp.hid (by
        have h1 := HB.out.len
        have h2 := hN.out
        have h3 : N * N ≤ 100000 * 100000 := Nat.mul_le_mul (by omega) (by omega)
        omega)
      clear hkey hlo hfo hlt hs1 hg1 hrg1 hrg hoi hwi hho
      go_wp2_with fail
      refine (Lk.keysI_any _ _).mono ?_
      rintro e w4 ⟨rfl, rfl⟩
      go_wp2_with fail
      refine (appI_any w3 tag p N s bs bw bq bi sl o HT3 HK.out.2 hN w.heap.size HB3.out.size _ l HROW HLL).mono ?_
      rintro e w5 ⟨v', ss, rfl, hr5, hm5, hl5, hloc5, hg5⟩
      have HN5 := Mp.hid (HB.out.step HG1.out HRG1.out HK.out.1 HK.out.2 hr5 hm5 hl5 hg5)
      clear hr5 hm5 hl5 hloc5 hg5
      go_wp2
      go_roundw
      case rel => exact ⟨l ++ ss, _, cnt1, HN5⟩
      case measure => rw [HN5.out.rg.left_eq, HRG.out.left_eq]; exact HK.out.1

end Go.Proofs.YthaenobciefjiaaDoor
