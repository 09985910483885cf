/- The law LeafHalves. -/
import Derived.Test.YtngflihiailllaaLc7
import Derived.Test.YtngflihiailllaaLc2
import Derived.Deep.CutRange
import Derived.Laws.IdiomStrings
namespace Go.Proofs.Ytngflihiailllaa
open Go.RowKit
set_option maxRecDepth 100000 in
set_option maxHeartbeats 4000000 in
theorem leafHalves_all (a b : Nat) (W : World) (ha : a < 256) (hb : b < 256) : Calls Try.prog 7 #[.int .u8 (a : Int), .int .u8 (b : Int)] W fun e w' => e = .returned (.bool true) ∧ Below W.heap.size W w' := by
  obtain ⟨f, hf⟩ : ∃ f, f = 2 + a % 10 := ⟨_, rfl⟩
  have hf2 : 2 ≤ f := by omega
  have hf7 : f ≤ 11 := by omega
  have hm : Int.tmod (a : Int) 10 = ((a % 10 : Nat) : Int) := by rw [Int.tmod_eq_emod_of_nonneg (by omega)]; rfl
  go_enter Try.func7, Try.ntmps7
  go_wp2_with fail
  have HF : Hid (2 + (a : Int) % 10 = (f : Int)) := Mm.hid (by omega)
  clear hm hf
  rw [HF.out]
  with_reducible refine (new_any f hf2 (by omega) W).mono ?_
  rintro e w2 ⟨rfl, rfl⟩
  have HB2 := Mm.hid (Lf.bel0 W f)
  have HQ2 := Mm.hid (Lf.lq0 W f hf2 (by omega))
  generalize Lf.W0 W f = w2 at HB2 HQ2 ⊢
  generalize Lf.tag0 W.heap.size = t2 at HQ2
  obtain ⟨p, hp⟩ : ∃ p, p = W.heap.size + 2 := ⟨_, rfl⟩
  rw [← hp] at HQ2 ⊢
  clear hp
  go_wp2_with fail
  go_loopw [9] (fun vi wr => ∃ k : Nat, k ≤ b ∧ vi = .int .i64 (k : Int) ∧ Hid (∃ s tag, Lf.Lq W.heap.size wr tag p s k ∧ Lf.Hv s f k ∧ Below W.heap.size W wr)) (fun vi _ => b - (RowKit.intOf vi).toNat)
  case atStart => exact ⟨0, Nat.zero_le _, rfl, Mm.hid ⟨_, _, HQ2.out, Lf.hv0 hf2 (by omega), HB2.out⟩⟩
  case round =>
    clear HB2 HQ2
    obtain ⟨k, hk, rfl, HL⟩ := hrel
    rename World => wr
    by_cases hlt : k < b
    · obtain ⟨s, tag, hq, hv, hbw⟩ := HL.out
      have g2 : (k : Int) < (b : Int) := by omega
      have hk8 : k < 256 := by omega
      obtain ⟨w9, hw9⟩ : ∃ w9, wr.alloc (.cells #[.int .u8 (k : Int)] 5) = w9 := ⟨_, rfl⟩
      have hcv : (convert 65 9 (.slice (some ⟨wr.heap.size, 0, none⟩) 1 1)).run Try.prog (wr.alloc (.cells #[.int .u8 (k : Int)] 5)) = .ok (.string (Lf.chr k)) (wr.alloc (.cells #[.int .u8 (k : Int)] 5)) := by
        have h := run_convert_bytes_back (P := Try.prog) (wr.alloc (.cells #[.int .u8 (k : Int)] 5)) 65 9 5 ⟨wr.heap.size, 0, none⟩ 1 [UInt8.ofNat k] Try.underlying65 Try.underlying5 Try.underlying9 (fun j hj => by
          match j, hj with
          | 0, _ =>
            have e1 : ((UInt8.ofNat k).toNat : Int) = (k : Int) := by rw [UInt8.toNat_ofNat']; omega
            show _ = some (Value.int .u8 ((UInt8.ofNat k).toNat : Int))
            rw [e1]
            exact Mm.cellOf (Mm.newAt wr _ rfl) rfl
          | j + 1, hj => simp at hj)
        exact h
      rw [hw9] at hcv
      have HQ9 : Hid (Lf.Lq W.heap.size w9 tag p s k) := Mm.hid (by rw [← hw9]; exact hq.below ((Below.refl _ _).alloc (Nat.le_refl _) _))
      have HB9 : Hid (Below W.heap.size W w9) := Mm.hid (by rw [← hw9]; exact hbw.alloc hbw.size _)
      have HIN := Mm.hid (insert_q HQ9 (by omega) HB9.out.size (Lf.chr k))
      have HV := Mm.hid hv
      clear hq hbw hv HL
      go_wp2_with fail
      clear hcv hw9
      refine HIN.out.mono ?_
      rintro e w6 ⟨s', l', f', t', er, rfl, hr, tag', hq', hE⟩
      obtain ⟨rfl, hv'⟩ := Lf.hv_ins HV.out (by omega) hr
      have HR : Hid (Lf.Lq W.heap.size w6 tag' p s' (k + 1) ∧ Lf.Hv s' f (k + 1) ∧ Below W.heap.size W w6) := Mm.hid ⟨hq', hv', HB9.out.trans (hE.bel HB9.out.size HQ9.out.bot)⟩
      clear hr hq' hE hv'
      go_wp2_with fail
      exact ⟨⟨k + 1, by omega, by go_num, Mm.hid ⟨_, _, HR.out.1.below ((Below.refl _ _).alloc (Nat.le_refl _) _), HR.out.2.1, HR.out.2.2.alloc HR.out.2.2.size _⟩⟩, by simp [RowKit.intOf]; omega⟩
    · have he : k = b := by omega
      subst he
      obtain ⟨s, tag, hq, hv, hbw⟩ := HL.out
      have HQ := Mm.hid hq
      have HV := Mm.hid hv
      have HB := Mm.hid hbw
      have HAL := Mm.hid (all_q HQ (by omega))
      clear hq hv hbw HL hlt hk
      go_wp2_with fail
      refine HAL.out.mono ?_
      rintro e w4 ⟨v, rfl, hown, hb4⟩
      obtain ⟨q, cq, ev, hi⟩ := hown.nin
      obtain ⟨m, hm⟩ : ∃ m, m = s.pgs.length := ⟨_, rfl⟩
      rw [show ((Lf.nums s.pgs).map (fun n : Nat => (n : Int))).length = m by rw [hm]; simp [Lf.nums]] at ev
      subst ev
      have HI := Mm.hid hi
      have HM := Mm.hid hm
      have HB4 := Mm.hid hb4
      have hm5 : m ≤ 1000 := by have := HQ.out.2.2.1; have := HV.out.last; omega
      clear hi hm hown hb4 HAL
      go_wp2_with fail
      obtain ⟨hf, hhf⟩ : ∃ hf : Nat, hf = (f + 2) / 2 := ⟨_, rfl⟩
      rw [show ((f : Int) + 2) / 2 = (hf : Int) by omega]
      have HHF := Mm.hid hhf
      clear hhf
      go_loopw [15] (fun vi wx => ∃ i : Nat, i ≤ m ∧ vi = .int .i64 (i : Int) ∧ Hid (Below w4.heap.size w4 wx)) (fun vi _ => m - (RowKit.intOf vi).toNat)
      case atStart => exact ⟨0, Nat.zero_le _, rfl, Mm.hid (Below.refl _ _)⟩
      case round =>
        obtain ⟨i, hi, rfl, HI5⟩ := hrel
        rename World => w5
        by_cases hlt : i < m
        · have g1 : (i : Int) < (m : Int) := by omega
          have g0 : (0 : Int) ≤ (i : Int) := by omega
          go_upto_region 17 with fail
          go_cut [85] from 55 to 85 (fun vt wx => vt = .bool false ∧ Hid (Below w4.heap.size w4 wx))
          case first =>
            obtain ⟨P, hP, hn, hks, h1, h2⟩ := HV.out.told.2 i (by rw [← HM.out]; exact hlt)
            obtain ⟨bq, oq, rfl, hbq, hcq⟩ := HI.out i ((i : Int) + 1) (by
              unfold Lf.nums
              rw [List.getElem?_map, List.getElem?_map, hP]
              simp [hn])
            have d0 : w5.cell? ⟨bq, oq + i, none⟩ = some (.int .i64 ((i : Int) + 1)) := (Mm.belAt HI5.out _ hbq).trans hcq
            have HKY := keys_q (Mm.hid ((HQ.out.below HB4.out).below HI5.out)) (by omega) ((i : Int) + 1)
            rw [hks] at HKY
            go_wp2_with fail
            · refine HKY.mono ?_
              rintro e w6 ⟨v, rfl, hown6, hb6⟩
              obtain ⟨qk, ck, evk, _⟩ := hown6.shape
              rw [show (Lf.strs P.ks).length = hf from by rw [HHF.out, ← h1 (by rw [← HM.out]; omega)]; simp [Lf.strs]] at evk
              subst evk
              have HB6 : Hid (Below w4.heap.size w4 w6) := Mm.hid (HI5.out.trans (hb6.mono HI5.out.size))
              clear hown6 hb6
              go_wp2_with fail
              go_meet
              case rel => exact ⟨by first | rfl | simp, HB6⟩
            · go_meet
              case rel => exact ⟨by first | rfl | simp, HI5⟩
          case rest =>
            obtain ⟨h85, HB5⟩ := hcut
            subst h85
            go_wp2_with fail
            exact ⟨⟨i + 1, by omega, by go_num, HB5⟩, by simp [RowKit.intOf]; omega⟩
        · have he : i = m := by omega
          subst he
          obtain ⟨j, rfl⟩ : ∃ j, i = j + 1 := ⟨i - 1, by have := HV.out.told.1; rw [← HM.out] at this; omega⟩
          obtain ⟨P, hP, hn, hks, _, h2⟩ := HV.out.told.2 j (by rw [← HM.out]; omega)
          obtain ⟨bq, oq, rfl, hbq, hcq⟩ := HI.out j ((j : Int) + 1) (by
            unfold Lf.nums
            rw [List.getElem?_map, List.getElem?_map, hP]
            simp [hn])
          have hz := h2 HM.out
          rw [← HHF.out] at hz
          have hzi : (hf : Int) * (j : Int) = ((hf * j : Nat) : Int) := by simp
          obtain ⟨z, hz0⟩ : ∃ z, z = hf * j := ⟨_, rfl⟩
          rw [← hz0] at hz hzi
          have hz5 : z ≤ 255 := by omega
          have HLEN := len_q (Mm.hid ((HQ.out.below HB4.out).below HI5.out))
          rw [HV.out.cnt] at HLEN
          have HKS : Hid (∀ w', Below w5.heap.size w5 w' → Calls Try.prog 28 #[.pointer (some ⟨p, 0, none⟩), .int .i64 ((j : Int) + 1)] w' fun e w'' => ∃ v, e = .returned v ∧ Mm.Own w'' w'.heap.size 9 v (Lf.strs P.ks) ∧ Below w'.heap.size w' w'') := Mm.hid (fun w' hb => by
            have h := keys_q (Mm.hid (((HQ.out.below HB4.out).below HI5.out).below hb)) (by omega) ((j : Int) + 1)
            rw [hks] at h
            exact h)
          have HD : Hid (∀ w', Below w5.heap.size w5 w' → w'.cell? ⟨bq, oq + j, none⟩ = some (.int .i64 ((j : Int) + 1))) := Mm.hid (fun w' hb => (Mm.belAt hb _ (Nat.lt_of_lt_of_le hbq HI5.out.size)).trans ((Mm.belAt HI5.out _ hbq).trans hcq))
          have HBA : Hid (Below W.heap.size W w5) := Mm.hid ((HB.out.trans (HB4.out.mono HB.out.size)).trans (HI5.out.mono (Nat.le_trans HB.out.size HB4.out.size)))
          have HZ := Mm.hid hz
          clear hcq hP hn hks h2 hz hz0 hi hlt
          go_wp2_with fail
          refine HLEN.mono ?_
          rintro e w6 ⟨rfl, hb6⟩
          have HB6 := Mm.hid hb6
          have hd := HD.out _ hb6
          have HKY := HKS.out _ hb6
          clear hb6 HLEN
          go_wp2_with fail
          refine HKY.mono ?_
          rintro e w7 ⟨v, rfl, hown7, hb7⟩
          obtain ⟨qk, ck, evk, _⟩ := hown7.shape
          obtain ⟨kl, hkl⟩ : ∃ kl, kl = P.ks.length := ⟨_, rfl⟩
          rw [Lf.strs_len, ← hkl] at evk
          subst evk
          have HB7 : Hid (Below W.heap.size W w7) := Mm.hid ((HBA.out.trans (HB6.out.mono HBA.out.size)).trans (hb7.mono (Nat.le_trans HBA.out.size HB6.out.size)))
          have hsub : (k : Int) - (z : Int) = (kl : Int) := by have := HZ.out; omega
          clear hown7 hb7 hkl hd HKY
          go_wp2_with fail
          refine (wakes_any _).mono ?_
          rintro e w8 ⟨rfl, hb8⟩
          have HB8 : Hid (Below W.heap.size W w8) := Mm.hid (HB7.out.trans (hb8.mono HB7.out.size))
          clear hb8
          go_wp2_with fail
          go_ret
          exact ⟨rfl, HB8.out⟩
end Go.Proofs.Ytngflihiailllaa
