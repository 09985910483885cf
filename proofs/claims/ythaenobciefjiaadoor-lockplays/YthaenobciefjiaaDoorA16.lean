/- serve walked. -/
import Derived.Test.YthaenobciefjiaaDoorA15
namespace Go.Proofs.YthaenobciefjiaaDoor
open Go.RowKit Go.Maps Go.ChangeMaps Go.MapKept

/-- What serve comes to. -/
def Lk.ServeE (w w' : World) (tag : Nat → Option Lk.Lb) (p N : Nat) (s : Lk.St) (bs bw bq : Nat) (nm : Lk.Bytes) (v : Value) (L : List Int) (s' : Lk.St) : Prop :=
  ∃ tag' bi' sl', Lk.Serve nm (Lk.emptyS s nm) (s.q nm) s' L ∧ Lk.Tb w' tag' p (N + 2 * (s.q nm).length) s' bs bw bq bi' sl' ∧ Lk.Ev tag tag' w w' ∧ w'.ownsRow w.heap.size 3 1 v L.length (L.map (Value.int .i64)) ∧ (∀ g, v.ownBlock = some g → tag' g = none) ∧ L.length ≤ (s.q nm).length

set_option maxRecDepth 100000 in
set_option maxHeartbeats 4000000 in
theorem serve_any (w : World) (tag : Nat → Option Lk.Lb) (p N : Nat) (s : Lk.St) (bs bw bq : Nat) (bi : Int → Nat) (sl : Lk.Bytes → Value) (nm : Lk.Bytes) (hT : Hid (Lk.Tb w tag p N s bs bw bq bi sl)) (hM : Hid (Md.Tab w)) (hg : Hid (tag 0 = none)) (hl : nm.length ≤ maxLen)
    (hW : Hid (∀ h ∈ s.q nm, ∃ m, s.want h = some (nm, m) ∧ 1 ≤ m ∧ m ≤ 8)) (hND : Hid ((s.q nm).Nodup)) (hN : Hid (N + 2 * (s.q nm).length < 90000)) :
    Calls Tryd.prog 37 #[.pointer (some ⟨p, 0, none⟩), Lk.str nm] w fun e w' => ∃ v L s', e = .returned v ∧ Lk.ServeE w w' tag p N s bs bw bq nm v L s' := by
  have c2 := hT.out.c2
  have hQ := hT.out.lookQ hl
  by_cases hq : s.q nm = []
  · rw [if_pos hq] at hQ
    have HQ := Mp.hid hq
    clear hq
    go_enter Tryd.func37, Tryd.ntmps37
    go_wp2_with (first | (at_delete; refine Mp.wpList_drop _ rfl _ _ 59 9 rfl 37 Lk.sK_inj Lk.keyS Tryd.underlying59 bq N _ rfl hT.out.queues (Lk.str nm) nm rfl (Lk.key_s hl) ?_; intro W0 hF0 hM0) | go_in)
    have HT0 := Mp.hid (hT.out.dropQueue hM0 hF0)
    have HE0 : Hid (Lk.Ev tag tag w W0) := Mp.hid (Lk.Ev.turned hM0 hT.out.tq)
    clear hF0 hM0 c2 hQ
    go_loopw [6, 23] (fun vo vi W => vi = .int .i64 0 ∧ vo = .slice none 0 0 ∧ Hid (W = W0)) (fun _ _ _ => 0)
    case atStart => exact ⟨rfl, rfl, Mp.hid rfl⟩
    case round =>
      obtain ⟨rfl, rfl, HW0⟩ := hrel
      go_wp2
      go_ret
      rw [HW0.out]
      exact ⟨_, [], _, rfl, tag, bi, sl, by rw [HQ.out]; exact .nil _, by rw [HQ.out]; exact HT0.out, HE0.out, ⟨rfl, Or.inl ⟨rfl, rfl⟩⟩, (fun _ e => nomatch e), Nat.zero_le _⟩
  · rw [if_neg hq] at hQ
    obtain ⟨hrow, htg⟩ := hT.out.rows nm hq
    have hn1 : 1 ≤ (s.q nm).length := by
      rcases hqq : s.q nm with _ | ⟨a, r⟩
      · exact absurd hqq hq
      · simp
    rcases hrow.2 with ⟨_, h0⟩ | ⟨g, cap, cur, esl, _, hgb, q1, q2, q3, q4⟩
    · omega
    have HC : Hid (g < w.heap.size ∧ tag g = some (.g nm) ∧ ∀ k o, (s.q nm)[k]? = some o → w.cell? ⟨g, k, none⟩ = some (.int .i64 o)) := Mp.hid ⟨(Array.getElem?_eq_some_iff.1 hgb).1, htg g (by rw [esl]; rfl), fun k o hk => by
      have hk1 : k < (s.q nm).length := (List.getElem?_eq_some_iff.1 hk).1
      simp only [Nat.mul_one] at q3 q4
      have e : cur.toList[k]? = some (.int .i64 o) := by
        have := congrArg (fun l => l[k]?) q4
        simp only [List.getElem?_take, if_pos hk1, List.getElem?_map, hk] at this
        exact this
      unfold World.cell?
      simp only [hgb]
      rw [← Array.getElem?_toList]; exact e⟩
    rw [esl] at hQ
    obtain ⟨n, hn⟩ : ∃ n, n = (s.q nm).length := ⟨_, rfl⟩
    rw [← hn] at hQ hn1
    have HNQ := Mp.hid hn
    have hn2 : (n : Int) ≤ 100000 := by have := hN.out; omega
    clear hrow q1 q2 q3 q4 hgb esl hq hn cur htg hn1
    obtain ⟨i0, hi, hz0, hz1, hz2⟩ : ∃ i, Tryd.prog.info? 3 = some i ∧ i.zero = some (.int .i64 0) ∧ i.size = 1 ∧ i.bytes = 8 := ⟨_, Tryd.type3, rfl, rfl, rfl⟩
    go_enter Tryd.func37, Tryd.ntmps37
    go_wp2_with (first | (at_delete; refine Mp.wpList_drop _ rfl _ _ 59 9 rfl 37 Lk.sK_inj Lk.keyS Tryd.underlying59 bq N _ rfl hT.out.queues (Lk.str nm) nm rfl (Lk.key_s hl) ?_; intro W0 hF0 hM0) | go_in)
    have HT0 := Mp.hid ((hT.out.dropQueue hM0 hF0).forget (nm := nm) (by simp))
    have HE0 : Hid (Lk.Ev tag (Lk.forget tag nm) w W0) := Mp.hid ((Lk.Ev.turned hM0 hT.out.tq).forget nm)
    have HC0 : Hid (g < W0.heap.size ∧ W0.heap[g]? = w.heap[g]?) := Mp.hid ⟨Nat.lt_of_lt_of_le HC.out.1 HE0.out.size, (Mp.turned_block hM0).2.1 g (Lk.apart HC.out.2.1 hT.out.tq (by simp))⟩
    have HV0 := Mp.hid (Lk.Sv.start HT0.out (l := s.q nm) hW.out hND.out)
    clear hF0 hM0 c2 hQ
    go_loopw [6, 23] (fun vo vi W => ∃ (k : Nat) (L : List Int) (s' : Lk.St) (tag' : Nat → Option Lk.Lb) (bi' : Int → Nat) (sl' : Lk.Bytes → Value), k ≤ n ∧ vi = .int .i64 (k : Int) ∧ Hid (Lk.Sv W0 W (Lk.forget tag nm) tag' p N (Lk.emptyS s nm) s' bs bw bq bi' sl' nm (s.q nm) k vo L)) (fun _ vi _ => n - (RowKit.intOf vi).toNat)
    case atStart => exact ⟨0, [], _, _, _, _, Nat.zero_le _, rfl, HV0⟩
    case round =>
      obtain ⟨k, L, s', tag', bi', sl', hk, rfl, HK⟩ := hrel
      have HKN := Mp.hid hk
      by_cases hlt : k < n
      · obtain ⟨o, ho⟩ : ∃ o, (s.q nm)[k]? = some o := ⟨_, List.getElem?_eq_getElem (by rw [← HNQ.out]; exact hlt)⟩
        have HO := Mp.hid ho
        obtain ⟨m, hwm, hm1⟩ := HK.out.wt o (by rw [Lk.drop_at ho]; exact List.mem_cons_self ..)
        have HWM := Mp.hid hwm
        have HM1 : Hid (1 ≤ m ∧ m ≤ 8) := Mp.hid hm1
        have hwo : Lk.wfI o := hT.out.qw nm o (List.mem_of_getElem? ho)
        have hce : wr.cell? ⟨g, k, none⟩ = some (.int .i64 o) := by
          have e1 := (HK.out.ev.block g HC0.out.1 (Lk.forget_row HC.out.2.1)).trans HC0.out.2
          exact (World.cell?_of_block (a := ⟨g, k, none⟩) e1).trans (HC.out.2.2 k o ho)
        have g1 : (0 : Int) ≤ (k : Int) := by omega
        have g2 : (k : Int) < (n : Int) := by omega
        have c1 := HK.out.tb.c1
        have hR : (Instr.lookup 58 (.map (some bw)) (.int .i64 o) false).run Tryd.prog wr = .ok (.agg #[Lk.str nm, .int .i64 m]) wr := by
          have h1 := HK.out.tb.lookR hwo
          rw [show Lk.wn s' o = nm by unfold Lk.wn; rw [hwm]; rfl, show Lk.wm s' o = m by unfold Lk.wm; rw [hwm]; rfl] at h1
          exact h1
        have HT1 := Mp.hid (HK.out.tb.alloc (.cells #[Lk.str nm, .int .i64 m] 64))
        have HX1 := Mp.hid (Lk.Bx.start wr nm m)
        have HMT := Mp.hid ((hM.out.ev (HE0.out.trans HK.out.ev) hg.out).below HX1.out.bel)
        have HNB : Hid (N + 2 * k + 2 < 90000 ∧ k < n) := Mp.hid (by have := hN.out; have := HNQ.out; omega)
        have HTOP : Hid (tag' wr.heap.size = none) := Mp.hid (HK.out.tb.top _ (Nat.le_refl _))
        clear ho hwm hm1
        go_wp2_with fail
        refine (barred_any _ tag' p (N + 2 * k) s' bs bw bq bi' sl' o nm m HT1 HMT hwo hl (Mp.hid (by have := HNB.out; omega))).mono ?_
        rintro e w3 ⟨b, rfl, hbar, hb⟩
        have HT3 := Mp.hid (HT1.out.below hb)
        have HX3 : Hid (Lk.Box w3 wr.heap.size nm m) := Mp.hid ((hb.block _ HX1.out.lt).trans HX1.out.box)
        have HE3 : Hid (Lk.Ev tag' tag' wr w3) := Mp.hid (Lk.Ev.below (HX1.out.bel.trans (hb.mono HX1.out.bel.size)))
        have HBAR := Mp.hid hbar
        clear hb hbar HT1 HX1 HMT c1 hR hce
        cases b
        · have c1 := HT3.out.c1
          go_wp2_with (first | (at_delete; refine Mp.wpList_drop _ rfl _ _ 58 3 rfl 64 Lk.iK_inj Lk.keyI Tryd.underlying58 bw _ _ rfl HT3.out.wants (.int .i64 o) o rfl (Lk.key_i hwo) ?_; intro W4 hF4 hM4; have HX4 : Hid (Lk.Box W4 wr.heap.size nm m) := Mp.hid (HX3.out.of ((Mp.turned_block hM4).2.1 _ (fun e => by have h1 := HTOP.out; rw [e, HT3.out.tw] at h1; cases h1))); have b0 := HX4.out.b0; have b1 := HX4.out.b1))
          have HT4 := Mp.hid (HT3.out.dropWant hM4 hF4)
          have HE4 : Hid (Lk.Ev tag' tag' wr W4) := Mp.hid (HE3.out.trans (Lk.Ev.turned hM4 HT3.out.tw))
          clear hF4 hM4 c1
          refine (give_any _ tag' p (N + 2 * k) (Lk.unwantS s' o) bs bw bq bi' sl' o nm m HT4 hwo hl HM1 (Mp.hid (by have := HNB.out; unfold maxLen; omega))).mono ?_
          rintro e w5 ⟨rfl, tag2, bi2, hT5, hE5⟩
          have HT5 : Hid (Lk.Tb w5 tag2 p (N + 2 * k + 2) (Lk.gotS s' o nm m) bs bw bq bi2 sl') := Mp.hid hT5
          have HE5 := Mp.hid (HE4.out.trans hE5)
          clear hT5 hE5 b0 b1
          have HROW := Mp.hid (Lk.row_keep HK.out.row (fun g hg hlt => HE5.out.block g hlt (HK.out.fr g hg)))
          have HLN : Hid (L.length ≤ 100000 ∧ W0.heap.size ≤ w5.heap.size) := Mp.hid ⟨by have := HK.out.ln; have := HNB.out; omega, Nat.le_trans HK.out.ev.size HE5.out.size⟩
          go_wp2_with (first | (at_builtin; refine wpList_append_own_at _ rfl _ _ 37 rfl W0.heap.size 3 i0 (.int .i64 0) 1 8 Tryd.underlying37 hi hz0 hz1 hz2 rfl (by decide) _ _ _ rfl (HROW.out.alloc _) ⟨w5.heap.size, 0, none⟩ 1 1 [.int .i64 o] rfl rfl (cell_one_new _ _ _) (ints_oneCell .i64 [o]) (by have := HLN.out; unfold maxLen; omega) (by have := HLN.out; omega) (by have := HLN.out; simp; omega) ?_; intro v' w6 hown' hgrow hnil hloc) | go_in)
          go_roundw
          case rel => exact ⟨k + 1, L ++ [o], _, tag2, bi2, sl', by omega, by go_num, Mp.hid (HK.out.get HO.out HWM.out (fun hb => nomatch (HBAR.out.2 hb)) HT5.out HE5.out hown' (Lk.alloc_then hgrow) (fun g hg => by
            rcases hloc with e | e
            · exact Or.inl (e.symm.trans hg)
            · rw [e] at hg; injection hg with hg; simp at hg; exact Or.inr (by omega)))⟩
          case measure => simp [RowKit.intOf]; omega
        · obtain ⟨v0, v', w5, w6, hq⟩ := HT3.out.enq nm o hl hwo (by have := HNB.out; omega)
          have HQ := Mp.hid hq
          clear hq
          have l1 := HQ.out.l1
          have l2 := HQ.out.l2
          have hup := HQ.out.up
          have HS4 : Hid (w3.drew.cell? ⟨p, 2, none⟩ = some (.map (some bq))) := Mp.hid HT3.out.drew.c2
          have HS5 : Hid ((w3.alloc (.cells #[.int .i64 o] 3)).drew.cell? ⟨p, 2, none⟩ = some (.map (some bq))) := Mp.hid (HT3.out.alloc _).drew.c2
          have HS6 : Hid (w5.cell? ⟨p, 2, none⟩ = some (.map (some bq))) := Mp.hid HQ.out.c2.1
          have HS7 : Hid (w6.cell? ⟨p, 2, none⟩ = some (.map (some bq))) := Mp.hid HQ.out.c2.2
          go_wp2_with fail
          go_region_held3 (fun w' => w'.cell? ⟨p, 2, none⟩ = some (.map (some bq))) (first | (with_reducible exact HS4.out) | (with_reducible exact HS5.out) | (with_reducible exact HS6.out) | (with_reducible exact HS7.out)) ((refine Mp.step_app rfl _ _ 37 rfl v0 (.slice (some ⟨w3.heap.size, 0, none⟩) 1 1) v' w5 rfl rfl HQ.out.ap ?_))
          all_goals
            clear l1 l2 hup HS4 HS5 HS6 HS7
            obtain ⟨tag2, sl2, hT6, hE6⟩ := HQ.out.fin
            have HT6 := Mp.hid hT6
            have HE6 := Mp.hid (HE3.out.trans hE6)
            clear hT6 hE6
            go_wp2
            go_roundw
            case rel => exact ⟨k + 1, L, _, tag2, bi', sl2, by omega, by go_num, Mp.hid (HK.out.wait HO.out HWM.out (by first | exact HBAR.out.1 trivial | exact HBAR.out.1 rfl) HT6.out HE6.out)⟩
            case measure => simp [RowKit.intOf]; omega
      · go_wp2
        go_ret
        have hkn : (s.q nm).length ≤ k := by rw [← HNQ.out]; omega
        have hke : (s.q nm).length = k := by have := HKN.out; have := HNQ.out; omega
        have hs := HK.out.sv s' [] (by rw [List.drop_eq_nil_of_le hkn]; exact .nil _)
        rw [List.append_nil] at hs
        exact ⟨_, L, s', rfl, tag', bi', sl', hs, by rw [hke]; exact HK.out.tb, HE0.out.trans HK.out.ev, Lk.row_base HK.out.row HE0.out.size, HK.out.fr, by rw [hke]; exact HK.out.ln⟩

end Go.Proofs.YthaenobciefjiaaDoor
