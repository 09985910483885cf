/- The reference's Insert and Remove. -/
import Derived.Test.YtjnaafgiokdcbaaLe0
import Derived.Test.YtjnaafgiokdcbaaLd9
import Derived.Test.YtjnaafgiokdcbaaLe2
import Derived.Test.YtjnaafgiokdcbaaLe3
import Derived.Test.YtjnaafgiokdcbaaLe4
namespace Go.Proofs.Ytjnaafgiokdcbaa
open Go.RowKit
variable {w : World} {base p r c : Nat} {kf : Nat → Value} {s : Lf.S}
theorem refInsert_any (H : Hid (Lf.Rm w base p r c kf s)) (hI : Hid (Lf.Inv s)) (hbase : Hid (base ≤ w.heap.size)) (hn : s.pgs.length ≤ 100000) (hla : s.last ≤ 100000) (k : ByteArray) :
    Calls Try.prog 9 #[.pointer (some ⟨p, 0, none⟩), .string k] w fun e w' => ∃ s' l f t er, e = .returned (.agg #[.int .i64 ((l : Nat) : Int), .int .i64 ((f : Nat) : Int), .int .i64 ((t : Nat) : Int), .int .i64 ((er : Nat) : Int)]) ∧ Lf.InsR s k s' l f t er ∧ Lf.Out w base p r kf s w' s' := by
  rcases Nat.lt_or_ge 1024 k.size with hz | hz
  · refine (refIns_long H (by omega)).mono ?_
    rintro e w' ⟨rfl, ho⟩
    exact ⟨s, 0, 0, 0, 2, rfl, .long hz, ho⟩
  · obtain ⟨L, P, R, hs⟩ := Lf.spl_ex hI.out k
    obtain ⟨A, B, hp⟩ := Lf.kp_ex (hI.out.ks P hs.mem).1 k
    by_cases hb : B.head? = some k
    · refine (refIns_twice H hI hn (Mm.hid hs) (Mm.hid hp) (Mm.hid hb) hz).mono ?_
      rintro e w' ⟨rfl, ho⟩
      exact ⟨s, 0, 0, 0, 62, rfl, .twice hs hp hb hz, ho⟩
    · by_cases hf : (A ++ k :: B).length ≤ s.fan
      · refine (refIns_stay H hI hbase hn (Mm.hid hs) (Mm.hid hp) (Mm.hid hb) hz (Mm.hid hf)).mono ?_
        rintro e w' ⟨s', l, f, t, rfl, h1, h2⟩
        exact ⟨s', l, f, t, 0, rfl, h1, h2⟩
      · refine (refIns_part H hI hbase hn (Mm.hid hs) (Mm.hid hp) (Mm.hid hb) hz (Mm.hid hf) hla).mono ?_
        rintro e w' ⟨s', l, f, t, rfl, h1, h2⟩
        exact ⟨s', l, f, t, 0, rfl, h1, h2⟩
theorem refRemove_any (H : Hid (Lf.Rm w base p r c kf s)) (hI : Hid (Lf.Inv s)) (hbase : Hid (base ≤ w.heap.size)) (hn : s.pgs.length ≤ 100000) (k : ByteArray) :
    Calls Try.prog 11 #[.pointer (some ⟨p, 0, none⟩), .string k] w fun e w' => ∃ s' l f t er, e = .returned (.agg #[.int .i64 ((l : Nat) : Int), .int .i64 ((f : Nat) : Int), .int .i64 ((t : Nat) : Int), .int .i64 ((er : Nat) : Int)]) ∧ Lf.RemR s k s' l f t er ∧ Lf.Out w base p r kf s w' s' := by
  obtain ⟨L, P, R, hs⟩ := Lf.spl_ex hI.out k
  obtain ⟨A, B, hp⟩ := Lf.kp_ex (hI.out.ks P hs.mem).1 k
  by_cases hb : B.head? = some k
  · cases B with
    | nil => cases hb
    | cons b B =>
      simp at hb; subst hb
      by_cases hf : A ++ B ≠ [] ∨ L ++ R = []
      · refine (refRem_stay H hI hbase hn (Mm.hid hs) (Mm.hid hp) (Mm.hid hf)).mono ?_
        rintro e w' ⟨s', l, f, t, rfl, h1, h2⟩
        exact ⟨s', l, f, t, 0, rfl, h1, h2⟩
      · refine (refRem_join H hI hbase hn (Mm.hid hs) (Mm.hid hp) (Mm.hid ⟨Classical.byContradiction (fun h => hf (Or.inl h)), fun h => hf (Or.inr h)⟩)).mono ?_
        rintro e w' ⟨s', l, f, t, rfl, h1, h2⟩
        exact ⟨s', l, f, t, 0, rfl, h1, h2⟩
  · refine (refRem_none H hI hn (Mm.hid hs) (Mm.hid hp) (Mm.hid hb)).mono ?_
    rintro e w' ⟨rfl, ho⟩
    exact ⟨s, 0, 0, 0, 60, rfl, .none hs hp hb, ho⟩
end Go.Proofs.Ytjnaafgiokdcbaa
