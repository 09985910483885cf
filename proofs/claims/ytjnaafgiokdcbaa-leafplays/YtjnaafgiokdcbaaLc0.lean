/- wakes. -/
import Derived.Test.YtjnaafgiokdcbaaLb9
namespace Go.Proofs.Ytjnaafgiokdcbaa
open Go.RowKit

namespace Lf
theorem InsR.det {s s1 s2 : S} {k : ByteArray} {l1 f1 t1 e1 l2 f2 t2 e2 : Nat} (h1 : InsR s k s1 l1 f1 t1 e1) (h2 : InsR s k s2 l2 f2 t2 e2) : s1 = s2 ∧ l1 = l2 ∧ f1 = f2 ∧ t1 = t2 ∧ e1 = e2 := by
  cases h1 with
  | long a =>
    cases h2 with
    | long _ => exact ⟨rfl, rfl, rfl, rfl, rfl⟩
    | twice _ _ _ b => omega
    | ok _ _ _ b _ => omega
  | twice a1 a2 a3 a4 =>
    cases h2 with
    | long b => omega
    | twice _ _ _ b => exact ⟨rfl, rfl, rfl, rfl, rfl⟩
    | ok b1 b2 b3 b4 _ =>
      obtain ⟨_, e, _⟩ := a1.uniq b1
      rw [e] at a2
      exact absurd (by rw [← (a2.uniq b2).2]; exact a3) b3
  | ok a1 a2 a3 a4 a5 =>
    cases h2 with
    | long b => omega
    | twice b1 b2 b3 b4 =>
      obtain ⟨_, e, _⟩ := a1.uniq b1
      rw [e] at a2
      exact absurd (by rw [(a2.uniq b2).2]; exact b3) a3
    | ok b1 b2 b3 b4 b5 =>
      obtain ⟨e1, e2, e3⟩ := a1.uniq b1
      subst e1; subst e2; subst e3
      obtain ⟨e4, e5⟩ := a2.uniq b2
      subst e4; subst e5
      obtain ⟨_, e6, _⟩ := a5.uniq b5
      subst e6
      exact ⟨rfl, rfl, rfl, rfl, rfl⟩
theorem lt_data (a b : ByteArray) : lt a b = Op.bytesLess a.data.toList b.data.toList := by unfold lt; rw [ByteArray.toList_eq, ByteArray.toList_eq]
theorem sin_two {w : World} {g : Nat} {a b : ByteArray} (h : w.heap[g]? = some (.cells #[.string a, .string b] 9 (0, 0))) : SIn w (some ⟨g, 0, none⟩) [a, b] := fun j y hy => by
  match j, hy with
  | 0, hy => simp at hy; subst hy; exact ⟨g, 0, rfl, Mm.heapLt h, Mm.cellOf h rfl⟩
  | 1, hy => simp at hy; subst hy; exact ⟨g, 0, rfl, Mm.heapLt h, Mm.cellOf h rfl⟩
theorem iin_two {w : World} {g : Nat} {a b : Int} (h : w.heap[g]? = some (.cells #[.int .i64 a, .int .i64 b] 3 (0, 0))) : Mm.IIn w (some ⟨g, 0, none⟩) [a, b] := fun j y hy => by
  match j, hy with
  | 0, hy => simp at hy; subst hy; exact ⟨g, 0, rfl, Mm.heapLt h, Mm.cellOf h rfl⟩
  | 1, hy => simp at hy; subst hy; exact ⟨g, 0, rfl, Mm.heapLt h, Mm.cellOf h rfl⟩
def kA : ByteArray := ⟨#[97]⟩
def kB : ByteArray := ⟨#[98]⟩
def kC : ByteArray := ⟨#[99]⟩
def kBB : ByteArray := ⟨#[98, 98]⟩
def p0 : Pg := ⟨1, ⟨#[]⟩, []⟩
def pA : Pg := ⟨1, ⟨#[]⟩, [kA]⟩
def pB : Pg := ⟨1, ⟨#[]⟩, [kA, kB]⟩
def pC : Pg := ⟨2, kC, [kC]⟩
def sA : S := ⟨2, 1, [pA], 1⟩
def sB : S := ⟨2, 1, [pB], 2⟩
def sC : S := ⟨2, 2, [pB, pC], 3⟩
theorem ltAB : lt kA kB = true := by rw [lt_data]; rfl
theorem ltAC : lt kA kC = true := by rw [lt_data]; rfl
theorem ltBC : lt kB kC = true := by rw [lt_data]; rfl
theorem ltBBC : lt kBB kC = true := by rw [lt_data]; rfl
theorem spl_one {s : S} {P : Pg} (h : s.pgs = [P]) (k : ByteArray) (hb : P.b = ⟨#[]⟩) : Spl s k [] P [] := ⟨h, (fun _ h => nomatch h), by rw [hb]; exact lt_emp k, (fun _ h => nomatch h)⟩
theorem insA : InsR (S0 2) kA sA 1 0 0 0 :=
  InsR.ok (L := []) (P := p0) (R := []) (A := []) (B := []) (L' := []) (P' := pA) (R' := []) (spl_one rfl kA rfl) ⟨rfl, (fun _ h => nomatch h), (fun _ h => nomatch h)⟩ (by simp) (by decide) (spl_one (s := sA) rfl kA rfl)
theorem insB : InsR sA kB sB 1 0 0 0 :=
  InsR.ok (L := []) (P := pA) (R := []) (A := [kA]) (B := []) (L' := []) (P' := pB) (R' := []) (spl_one rfl kB rfl) ⟨rfl, (fun a h => by rw [List.mem_singleton.1 h]; exact ltAB), (fun _ h => nomatch h)⟩ (by simp) (by decide) (spl_one (s := sB) rfl kB rfl)
theorem splC : Spl sC kC [pB] pC [] := ⟨rfl, (fun Q h => by rw [List.mem_singleton.1 h]; exact lt_emp kC), lt_irr _, (fun _ h => nomatch h)⟩
theorem insC : InsR sB kC sC 2 1 2 0 :=
  InsR.ok (L := []) (P := pB) (R := []) (A := [kA, kB]) (B := []) (L' := [pB]) (P' := pC) (R' := []) (spl_one rfl kC rfl) ⟨rfl, (fun a h => by
    rcases List.mem_cons.1 h with e | h
    · rw [e]; exact ltAC
    · rw [List.mem_singleton.1 h]; exact ltBC), (fun _ h => nomatch h)⟩ (by simp) (by decide) splC
theorem splA : Spl sC kA [] pB [pC] := ⟨rfl, (fun _ h => nomatch h), lt_emp kA, (fun Q h => by rw [List.mem_singleton.1 h]; exact ltAC)⟩
theorem splBB : Spl sC kBB [] pB [pC] := ⟨rfl, (fun _ h => nomatch h), lt_emp kBB, (fun Q h => by rw [List.mem_singleton.1 h]; exact ltBBC)⟩
theorem spanKC (hI : Inv sC) : spanK sC kA ⟨#[]⟩ = [kA, kB, kC] := by
  unfold spanK
  rw [if_neg (fun h => h.1 rfl), drop_spl hI splA]
  unfold rngK
  rw [takeW_all (fun j Q hQ => by unfold upTo; simp)]
  unfold keysIn
  have e : [pB, pC].flatMap (fun P => P.ks) = [kA, kB, kC] := rfl
  rw [e, List.filter_eq_self]
  intro k hk
  unfold inR
  have : lt k kA = false := by
    rcases List.mem_cons.1 hk with e | hk
    · rw [e]; exact lt_irr _
    · rcases List.mem_cons.1 hk with e | hk
      · rw [e]; exact lt_as ltAB
      · rw [List.mem_singleton.1 hk]; exact lt_as ltAC
  rw [this]; simp
theorem spanLC (hI : Inv sC) : spanL sC kA ⟨#[]⟩ = [1, 2] := by
  unfold spanL
  rw [if_neg (fun h => h.1 rfl), drop_spl hI splA]
  unfold rngL
  rw [takeW_all (fun j Q hQ => by unfold upTo; simp)]
  rfl
theorem lq0 (w : World) (fan : Nat) (h1 : 2 ≤ fan) (h2 : fan ≤ 64) : Lq w.heap.size (W0 w fan) (tag0 w.heap.size) (w.heap.size + 2) (S0 fan) 0 := ⟨⟨_, _, _, mem0 w fan⟩, inv0 h1 h2, Nat.le_refl _, Nat.le_refl _⟩
end Lf

set_option maxRecDepth 100000 in
set_option maxHeartbeats 4000000 in
theorem wakes_any (w : World) : Calls Try.prog 7 #[] w fun e w' => e = .returned (.bool true) ∧ Below w.heap.size w w' := by
  have HH : Hid (w.heap.size ≤ w.heap.size) := Mm.hid (Nat.le_refl _)
  go_enter Try.func7, Try.ntmps7
  go_wp2_with fail
  refine (new_any 2 (Nat.le_refl _) (by omega) w).mono ?_
  rintro e w1 ⟨rfl, rfl⟩
  have HB1 := Mm.hid (Lf.bel0 w 2)
  have HQ1 := Mm.hid (Lf.lq0 w 2 (Nat.le_refl _) (by omega))
  generalize Lf.W0 w 2 = w1 at HB1 HQ1 ⊢
  generalize Lf.tag0 w.heap.size = t1 at HQ1
  obtain ⟨p, hp⟩ : ∃ p, p = w.heap.size + 2 := ⟨_, rfl⟩
  rw [← hp] at HQ1 ⊢
  clear hp
  go_wp2_with fail
  refine (insert_q HQ1 (by omega) HB1.out.size Lf.kA).mono ?_
  rintro e w2 ⟨s2, l2, f2, m2, r2, rfl, hr, t2, hq, hE⟩
  obtain ⟨rfl, rfl, rfl, rfl, rfl⟩ := hr.det Lf.insA
  have HQ2 := Mm.hid hq
  have HE2 := Mm.hid hE
  have HB2 : Hid (Below w.heap.size w w2) := Mm.hid (HB1.out.trans (hE.bel HB1.out.size HQ1.out.bot))
  clear hr hq hE
  go_wp2_with fail
  refine (insert_q HQ2 (by omega) HB2.out.size Lf.kB).mono ?_
  rintro e w3 ⟨s3, l3, f3, m3, r3, rfl, hr, t3, hq, hE⟩
  obtain ⟨rfl, rfl, rfl, rfl, rfl⟩ := hr.det Lf.insB
  have HQ3 := Mm.hid hq
  have HB3 : Hid (Below w.heap.size w w3) := Mm.hid (HB2.out.trans (hE.bel HB2.out.size HQ2.out.bot))
  clear hr hq hE
  go_wp2_with fail
  refine (insert_q HQ3 (by omega) HB3.out.size Lf.kC).mono ?_
  rintro e w4 ⟨s4, l4, f4, m4, r4, rfl, hr, t4, hq, hE⟩
  obtain ⟨rfl, rfl, rfl, rfl, rfl⟩ := hr.det Lf.insC
  have HB4 : Hid (Below w.heap.size w w4) := Mm.hid (HB3.out.trans (hE.bel HB3.out.size HQ3.out.bot))
  have HQ4 := Mm.hid hq
  clear hr hq hE
  have HB5 : Hid (Below w4.heap.size w4 (w4.alloc (.cells #[.int .i64 1, .int .i64 2] 35))) := Mm.hid ((Below.refl _ w4).alloc (Nat.le_refl _) _)
  have hrg := range_q (Mm.hid (HQ4.out.below HB5.out)) (by omega) Lf.kA ⟨#[]⟩
  rw [Lf.spanKC HQ4.out.2.1, Lf.spanLC HQ4.out.2.1] at hrg
  have HRG := Mm.hid hrg
  clear hrg
  go_wp2_with fail
  refine HRG.out.mono ?_
  rintro e w6 ⟨v1, v2, rfl, hT⟩
  obtain ⟨q1, c1, e1, -, S1⟩ := Lf.own_sin hT.o1
  obtain ⟨q2, c2, e2, I2⟩ := hT.o2.nin
  have e1' : v1 = .slice q1 3 c1 := e1
  have e2' : v2 = .slice q2 2 c2 := e2
  subst e1' e2'
  have HI2 : Hid (Mm.IIn w6 q2 [1, 2]) := Mm.hid I2
  have HB6 : Hid (Below w.heap.size w w6) := Mm.hid (HB4.out.trans ((HB5.out.mono HB4.out.size).trans (hT.bel.mono (Nat.le_trans HB4.out.size (by simp)))))
  have HQ6 := Mm.hid ((HQ4.out.below HB5.out).below hT.bel)
  have hb6 : w6.heap[w4.heap.size]? = some (.cells #[.int .i64 1, .int .i64 2] 35 (0, 0)) := (hT.bel.block _ (by simp)).trans (Mm.newAt w4 _ rfl)
  have d0 : w6.cell? ⟨w4.heap.size, 0, none⟩ = some (.int .i64 1) := Mm.cellOf hb6 rfl
  have d1 : w6.cell? ⟨w4.heap.size, 1, none⟩ = some (.int .i64 2) := Mm.cellOf hb6 rfl
  have HX6 : Hid (w4.heap.size < w6.heap.size) := Mm.hid (Mm.heapLt hb6)
  clear e1 e2 S1 I2 hT hb6
  go_wp2_with fail
  refine (keys_q HQ6 (by omega) 1).mono ?_
  rintro e w7 ⟨v7, rfl, ho7, hb7⟩
  have e7 : Lf.ksOf Lf.sC.pgs 1 = [Lf.kA, Lf.kB] := rfl
  rw [e7] at ho7
  obtain ⟨q7, c7, e8, -, S7⟩ := Lf.own_sin ho7
  have e8' : v7 = .slice q7 2 c7 := e8
  subst e8'
  have HS7 : Hid (Lf.SIn (w7.alloc (.cells #[.string Lf.kA, .string Lf.kB] 9)) q7 [Lf.kA, Lf.kB]) := Mm.hid (S7.below ((Below.refl _ w7).alloc (Nat.le_refl _) _))
  have HT7 : Hid (Lf.SIn (w7.alloc (.cells #[.string Lf.kA, .string Lf.kB] 9)) (some ⟨w7.heap.size, 0, none⟩) [Lf.kA, Lf.kB]) := Mm.hid (Lf.sin_two (Mm.newAt w7 _ rfl))
  have HB7 : Hid (Below w.heap.size w w7) := Mm.hid (HB6.out.trans (hb7.mono HB6.out.size))
  have HBW7 : Hid (Below w6.heap.size w6 w7) := Mm.hid hb7
  have htx := texts_gen [Lf.kA, Lf.kB] [Lf.kA, Lf.kB] q7 (some ⟨w7.heap.size, 0, none⟩) 2 2 c7 2 _ HS7 HT7 (Mm.hid rfl) (Mm.hid rfl) (by decide)
  rw [decide_eq_true (show [Lf.kA, Lf.kB] = [Lf.kA, Lf.kB] from rfl)] at htx
  have HTX := Mm.hid htx
  clear htx
  clear ho7 hb7 e8 S7 e7
  go_wp2_with fail
  refine HTX.out.mono ?_
  rintro e w8 ⟨rfl, hb8⟩
  have HBW8 : Hid (Below w6.heap.size w6 w8) := Mm.hid (HBW7.out.trans (((Below.refl _ w7).alloc (Nat.le_refl _) _ |>.trans (hb8.mono (by simp))).mono HBW7.out.size))
  have HI8 : Hid (Mm.IIn (w8.alloc (.cells #[.int .i64 1, .int .i64 2] 3)) q2 [1, 2]) := Mm.hid ((HI2.out.below HBW8.out).below ((Below.refl _ w8).alloc (Nat.le_refl _) _))
  have HJ8 : Hid (Mm.IIn (w8.alloc (.cells #[.int .i64 1, .int .i64 2] 3)) (some ⟨w8.heap.size, 0, none⟩) [1, 2]) := Mm.hid (Lf.iin_two (Mm.newAt w8 _ rfl))
  have hix := ints_gen [1, 2] [1, 2] q2 (some ⟨w8.heap.size, 0, none⟩) 2 2 c2 2 _ HI8 HJ8 (Mm.hid rfl) (Mm.hid rfl) (by decide)
  rw [decide_eq_true (show ([1, 2] : List Int) = [1, 2] from rfl)] at hix
  have HIX := Mm.hid hix
  clear hix
  clear hb8 d0 d1
  go_wp2_with fail
  refine HIX.out.mono ?_
  rintro e w9 ⟨rfl, hb9⟩
  have HBW9 : Hid (Below w6.heap.size w6 w9) := Mm.hid (HBW8.out.trans (((Below.refl _ w8).alloc (Nat.le_refl _) _ |>.trans (hb9.mono (by simp))).mono HBW8.out.size))
  clear hb9
  have hof := of_q (Mm.hid (HQ6.out.below HBW9.out)) (by omega) Lf.kBB
  rw [Lf.leaf_spl Lf.splBB] at hof
  have HOF := Mm.hid hof
  clear hof
  go_wp2_with fail
  refine HOF.out.mono ?_
  rintro e w10 ⟨rfl, hb10⟩
  have HB10 : Hid (Below w.heap.size w w10) := Mm.hid (HB6.out.trans ((HBW9.out.mono HB6.out.size).trans (hb10.mono (Nat.le_trans HB6.out.size HBW9.out.size))))
  clear hb10
  go_wp2_with fail
  go_ret
  exact ⟨rfl, HB10.out⟩
end Go.Proofs.Ytjnaafgiokdcbaa
