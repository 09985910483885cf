/- Release walked. -/
import Derived.Test.YthaenobciefjiaaDoorA20
namespace Go.Proofs.YthaenobciefjiaaDoor
open Go.RowKit Go.Maps Go.ChangeMaps Go.MapKept Go.Sort Go.Shelf

set_option maxHeartbeats 400000 in
theorem release_nil (w : World) (x : Int) :
    Calls Tryd.prog 15 #[.pointer none, .int .i64 x] w fun e w' => e = .returned (.slice none 0 0) ∧ w' = w := by
  go_enter Tryd.func15, Tryd.ntmps15
  go_wp2
  go_ret
  exact ⟨rfl, rfl⟩

set_option maxRecDepth 100000 in
set_option maxHeartbeats 4000000 in
theorem release_any (w : World) (tag : Nat → Option Lk.Lb) (p N : Nat) (s : Lk.St) (bs bw bq : Nat) (x : Int) (hM : Hid (Md.Tab w)) (hg : Hid (tag 0 = none))
    (cL : Hid (Calls Tryd.prog 36 #[.pointer (some ⟨p, 0, none⟩), .int .i64 x] w fun e w' => ∃ v L, e = .returned v ∧ Lk.LeaveE w w' tag p N s bs bw bq x v L))
    (hWq : Hid (Lk.Wq (Lk.leaveS s x))) (hN : Hid (∀ L : List Lk.Bytes, L.Nodup → N + 1 + 2 * Lk.tot (Lk.leaveS s x).q L < 90000)) :
    Calls Tryd.prog 15 #[.pointer (some ⟨p, 0, none⟩), .int .i64 x] w fun e w' => ∃ v out s' L, e = .returned v ∧ Lk.RelE w w' tag p N s bs bw bq x v out s' L := by
  go_enter Tryd.func15, Tryd.ntmps15
  go_wp2_with fail
  refine cL.out.mono ?_
  rintro e w1 ⟨vL, L, rfl, tag1, bi1, sl1, hT1, hE1, hrow, hfr, hup, hmem, hlen⟩
  have HT1 := Mp.hid hT1
  have HE1 := Mp.hid hE1
  have HUP := Mp.hid hup
  have HMEM := Mp.hid hmem
  have HND := Mp.hid (Lk.up_nodup hup)
  have HNB := Mp.hid (hN.out L HND.out)
  have hn2 : (L.length : Int) ≤ 100000 := by have := HNB.out; omega
  have HR0 := Mp.hid (Lk.Rl.start hT1 L hWq.out)
  rcases hrow.2 with ⟨rfl, h0⟩ | ⟨g, cap, cur, rfl, hgb, hgh, -⟩
  · have hL : L = [] := List.length_eq_zero_iff.1 h0
    subst hL
    clear hT1 hE1 hrow hfr hup hmem hlen h0 hn2
    go_wp2
    go_loopw [5, 14] (fun vo vi W => vi = .int .i64 0 ∧ vo = .slice none 0 0 ∧ Hid (W = w1)) (fun _ _ _ => 0)
    case atStart => exact ⟨rfl, rfl, Mp.hid rfl⟩
    case round =>
      obtain ⟨rfl, rfl, HW0⟩ := hrel
      go_wp2
      go_ret
      rw [HW0.out]
      exact ⟨_, [], _, [], rfl, tag1, bi1, sl1, .nil _, HUP.out, HMEM.out, HT1.out.mono (by omega), HE1.out, ⟨rfl, Or.inl ⟨rfl, rfl⟩⟩, (fun _ e => nomatch e), Nat.zero_le _, hWq.out⟩
  · have HC : Hid (g < w1.heap.size ∧ tag1 g = none ∧ w.heap.size ≤ g ∧ ∀ k nm, L[k]? = some nm → w1.cell? ⟨g, k, none⟩ = some (Lk.str nm)) := Mp.hid ⟨(Array.getElem?_eq_some_iff.1 hgh).1, hfr g rfl, hgb, fun k nm hk => Lk.row_cellsV hrow k _ (List.getElem?_eq_some_iff.1 hk).1 (by rw [List.getElem?_map, hk]; rfl)⟩
    obtain ⟨n, hn⟩ : ∃ n, n = L.length := ⟨_, rfl⟩
    rw [← hn] at hn2
    have HLL : Hid (∀ nm ∈ L, nm.length ≤ maxLen) := Mp.hid (fun nm hh => ((HMEM.out nm).1 hh).1)
    have HNL := Mp.hid hn
    clear hT1 hE1 hrow hfr hup hmem hlen hgb hgh
    go_wp2
    rw [← HNL.out]
    clear hn
    go_loopw [5, 14] (fun vo vi W => ∃ (k : Nat) (out : List Int) (s' : Lk.St) (tag' : Nat → Option Lk.Lb) (bi' : Int → Nat) (sl' : Lk.Bytes → Value), k ≤ n ∧ vi = .int .i64 (k : Int) ∧ Hid (Lk.Rl w1 W tag1 tag' p (N + 1) (Lk.leaveS s x) s' bs bw bq bi' sl' L k vo out)) (fun _ vi _ => n - (RowKit.intOf vi).toNat)
    case atStart => exact ⟨0, [], _, _, _, _, Nat.zero_le _, rfl, HR0⟩
    case round =>
      obtain ⟨k, out, s', tag', bi', sl', hk, rfl, HK⟩ := hrel
      have HKN := Mp.hid hk
      by_cases hlt : k < n
      · obtain ⟨nm, ho⟩ : ∃ nm, L[k]? = some nm := ⟨_, List.getElem?_eq_getElem (by rw [← HNL.out]; exact hlt)⟩
        have HO := Mp.hid ho
        have hce : wr.cell? ⟨g, k, none⟩ = some (Lk.str nm) := (World.cell?_of_block (a := ⟨g, k, none⟩) (HK.out.ev.block g HC.out.1 HC.out.2.1)).trans (HC.out.2.2.2 k nm ho)
        have hl : nm.length ≤ maxLen := HLL.out nm (List.mem_of_getElem? ho)
        have g1 : (0 : Int) ≤ (k : Int) := by omega
        have g2 : (k : Int) < (n : Int) := by omega
        have HTK := Mp.hid HK.out.tb
        have HMT := Mp.hid (hM.out.ev (HE1.out.trans HK.out.ev) hg.out)
        have HGT := Mp.hid ((HE1.out.trans HK.out.ev).tags _ hM.out.lt hg.out)
        have HQ : Hid (s'.q nm = (Lk.leaveS s x).q nm) := Mp.hid (HK.out.qs nm (by rw [Lk.drop_atB ho]; exact List.mem_cons_self ..))
        have HNK : Hid (N + 1 + 2 * Lk.tot (Lk.leaveS s x).q (L.take k) + 2 * (s'.q nm).length < 90000) := Mp.hid (by
          rw [HQ.out]
          have e1 := Lk.tot_take (q := (Lk.leaveS s x).q) ho
          have e2 := Lk.tot_mono (Lk.leaveS s x).q L (k + 1)
          have e3 := HNB.out
          omega)
        clear ho
        go_wp2_with fail
        refine (serve_any _ tag' p _ s' bs bw bq bi' sl' nm HTK HMT HGT hl (Mp.hid (HK.out.wf.w nm)) (Mp.hid (HK.out.wf.d nm)) HNK).mono ?_
        rintro e w2 ⟨v2, L2, s2, rfl, hSE⟩
        have HSE := Mp.hid hSE
        obtain ⟨tag2, bi2, sl2, -, hT2, hE2, hr2, hf2, hl2⟩ := hSE
        have hrk := Lk.row_keep HK.out.row (fun g hg hlt => hE2.block g hlt (HK.out.fr g hg))
        obtain ⟨v', w3, hap, hrow3, hgr3, hloc3⟩ := Lk.app_row hrk hr2 (by have := HK.out.ln; have := HNK.out; omega) (Nat.le_trans HK.out.ev.size hE2.size)
        have HAP := Mp.hid hap
        obtain ⟨tag3, bi3, sl3, hR3⟩ := HK.out.step HND.out HO.out HSE.out hrow3 hgr3 hloc3
        have HR3 := Mp.hid hR3
        clear hT2 hE2 hr2 hf2 hl2 hrk hap hrow3 hgr3 hloc3 hR3 hce
        go_wp2_with (first | (at_builtin; refine Mp.wpList_app _ rfl _ _ 37 rfl _ v2 v' w3 rfl rfl HAP.out ?_) | go_in)
        go_roundw
        case rel => exact ⟨k + 1, out ++ L2, s2, tag3, bi3, sl3, by omega, by go_num, HR3⟩
        case measure => simp [RowKit.intOf]; omega
      · go_wp2
        go_ret
        have hkn : L.length ≤ k := by rw [← HNL.out]; omega
        have hs := HK.out.rl s' [] (by rw [List.drop_eq_nil_of_le hkn]; exact .nil _)
        rw [List.append_nil] at hs
        have ht : L.take k = L := List.take_of_length_le hkn
        have hT := HK.out.tb
        have hln := HK.out.ln
        rw [ht] at hT hln
        exact ⟨_, out, s', L, rfl, tag', bi', sl', hs, HUP.out, HMEM.out, hT, HE1.out.trans HK.out.ev, Lk.row_base HK.out.row HE1.out.size, HK.out.fr, hln, HK.out.wf⟩

end Go.Proofs.YthaenobciefjiaaDoor
