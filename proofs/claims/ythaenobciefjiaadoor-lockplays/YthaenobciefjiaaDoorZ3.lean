/- The statements' own check of the program walked. -/
import Derived.Test.YthaenobciefjiaaDoorZ2
namespace Go.Proofs.YthaenobciefjiaaDoor
open Go.RowKit Go.Maps Go.ChangeMaps Go.MapKept Go.Sort Go.Shelf

namespace Lk
theorem wf_lit {z : Int} (h1 : -1000 ≤ z) (h2 : z ≤ 1000) : wfI z := ⟨by omega, by omega⟩
theorem T_len : T.length ≤ maxLen := by decide
theorem U_len : U.length ≤ maxLen := by decide
theorem k3_tot : ∀ L : List Bytes, L.Nodup → 6 + 1 + 2 * tot (leaveS k3 1).q L < 90000 := fun L hL => by
  have h := tot_le (q := (leaveS k3 1).q) (n := 2) (fun nm hn => by
    show (if (k3.want 1).map (·.1) = some nm then (k3.q nm).erase 1 else k3.q nm) = []
    have e1 : k3.want 1 = none := rfl
    rw [e1]
    simp only [Option.map_none, reduceCtorEq, if_false]
    show (if nm = T then _ else if nm = T then _ else ([] : List Int)) = []
    rw [if_neg hn, if_neg hn]) (by decide) L hL
  omega
theorem k3_for : ∀ r, k3.want 3 = some r → r.1.length ≤ maxLen := fun r h => by
  have h3 : k3.want 3 = some (T, 3) := rfl
  rw [h3] at h; injection h with h; rw [← h]; exact T_len
end Lk

set_option maxRecDepth 100000 in
set_option maxHeartbeats 2000000 in
theorem wakes6_any (w : World) (hM : Hid (Md.Tab w)) :
    Calls Tryd.prog 11 #[] w fun e w' => e = .returned (.bool true) ∧ Below w.heap.size w w' := by
  go_enter Tryd.func11, Tryd.ntmps11
  go_wp2_with fail
  refine (newO_any w).mono ?_
  rintro e w1 ⟨p, bs, bw, bq, rfl, hO⟩
  have HO1 := Mp.hid hO
  clear hO
  go_wp2_with fail
  refine (takeO_any _ w w1 p 0 Lk.st0 bs bw bq 1 Lk.T 3 HO1 hM (Lk.wf_lit (by omega) (by omega)) Lk.T_len (Mp.hid (by omega))).mono ?_
  rintro e w2 ⟨E, s1, rfl, hR, hO, -⟩
  obtain ⟨rfl, rfl⟩ := Lk.take1 hR
  have HO2 := Mp.hid hO
  clear hO hR HO1
  go_wp2_with fail
  refine (takeO_any _ w w2 p 2 Lk.k1 bs bw bq 2 Lk.T 5 HO2 hM (Lk.wf_lit (by omega) (by omega)) Lk.T_len (Mp.hid (by omega))).mono ?_
  rintro e w3 ⟨E, s1, rfl, hR, hO, -⟩
  obtain ⟨rfl, rfl⟩ := Lk.take2 hR
  have HO3 := Mp.hid hO
  clear hO hR HO2
  go_wp2_with fail
  refine (takeO_any _ w w3 p 4 Lk.k2 bs bw bq 3 Lk.T 3 HO3 hM (Lk.wf_lit (by omega) (by omega)) Lk.T_len (Mp.hid (by omega))).mono ?_
  rintro e w4 ⟨E, s1, rfl, hR, hO, -⟩
  obtain ⟨rfl, rfl⟩ := Lk.take3 hR
  have HO4 := Mp.hid hO
  clear hO hR HO3
  go_wp2_with fail
  refine (forO_any _ w w4 p 6 Lk.k3 bs bw bq 3 HO4 hM (Lk.wf_lit (by omega) (by omega)) (Mp.hid Lk.k3_for) (Mp.hid (by omega))).mono ?_
  rintro e w5 ⟨v, L, rfl, hrow, hup, hmem, -, hb⟩
  obtain rfl := Lk.for3 hup hmem
  have HO5 := Mp.hid (HO4.out.below hb)
  obtain ⟨pf, cf, rfl, hf, hfb⟩ := Lk.row_of hrow
  have HF := Mp.hid hf
  have HFB : Hid (∀ b, pf = some ⟨b, 0, none⟩ → Lk.Fx (fun b => b < w.heap.size) w4 w5 b) := Mp.hid (fun b e => Or.inr (hfb b e))
  clear hrow hup hmem hb HO4 hf hfb
  go_wp2_with fail
  refine (releaseN_any _ w w5 p 6 Lk.k3 bs bw bq 1 HO5 hM (Lk.wf_lit (by omega) (by omega)) (Mp.hid rfl) (Mp.hid Lk.wq1) (Mp.hid Lk.k3_tot)).mono ?_
  rintro e w6 ⟨v, out, s', L, rfl, hR, hU, hm, hrow, hO, hk, hwq, hlen⟩
  obtain rfl := Lk.names1 hU hm
  obtain ⟨rfl, hs⟩ := Lk.serve1 hR
  have HO6 := Mp.hid hO
  obtain ⟨pl, cl, rfl, hf, -⟩ := Lk.row_of hrow
  have HL := Mp.hid hf
  have HF6 := Mp.hid (HF.out.keep (fun b e => hk b (HFB.out b e)))
  have HS := Mp.hid hs
  clear hR hU hm hrow hO hk hwq hlen hf hs HF HFB HO5
  have hB1 : Below w6.heap.size w6 (w6.alloc (.cells #[.int .i64 2] 3)) := (Below.refl _ _).alloc (Nat.le_refl _) _
  have HR1 := Mp.hid (Md.row_new w6 [2] 3)
  have HF7 := Mp.hid (HF6.out.below hB1)
  have HL7 := Mp.hid (HL.out.below hB1)
  have HO7 := Mp.hid (HO6.out.alloc (.cells #[.int .i64 2] 3))
  clear hB1 HF6 HL HO6
  go_wp2_with fail
  refine (keepInts_any [2] [2] pf _ cf 1 _ HF7 HR1 (by simp)).mono ?_
  rintro e w8 ⟨rfl, hb⟩
  have HL8 := Mp.hid ((HL7.out.below hb).below ((Below.refl _ w8).alloc (Nat.le_refl _) (.cells #[.int .i64 2] 3)))
  have HO8 := Mp.hid ((HO7.out.same hb).alloc (.cells #[.int .i64 2] 3))
  have HR2 := Mp.hid (Md.row_new w8 [2] 3)
  clear hb HF7 HL7 HO7 HR1
  go_wp2_with fail
  refine (keepInts_any [2] [2] pl _ cl 1 _ HL8 HR2 (by simp)).mono ?_
  rintro e w9 ⟨rfl, hb⟩
  have HO9 := Mp.hid (HO8.out.same hb)
  clear hb HL8 HO8 HR2
  go_wp2_with fail
  refine (modesO_any _ w w9 p _ _ bs bw bq 2 Lk.T HO9 (Lk.wf_lit (by omega) (by omega)) Lk.T_len).mono ?_
  rw [HS.out]
  rintro e w' ⟨rfl, hq⟩
  obtain rfl := hq.symm
  go_wp2
  go_ret
  exact ⟨rfl, HO9.out.bel⟩

end Go.Proofs.YthaenobciefjiaaDoor
