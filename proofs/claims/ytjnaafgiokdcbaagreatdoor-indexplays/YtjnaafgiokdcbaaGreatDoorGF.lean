/- Steps that came in, read as plain data. -/
import Derived.Test.YtjnaafgiokdcbaaGreatDoorGE
import Derived.Lib.SmallJoins
import Derived.Deep.Slices
import Derived.Deep.Strs
import Derived.ChangeSlices
import Derived.OpenShut
namespace Go.Proofs.YtjnaafgiokdcbaaGreatDoor
open Go.ChangeShapes Go.WideShapes Go.ChangeAt Go.RowKit

end Go.Proofs.YtjnaafgiokdcbaaGreatDoor

/- fair, Mod, do. -/
namespace Go.Proofs.YtjnaafgiokdcbaaGreatDoor
open Go.RowKit

/-- What fair says. -/
def Lf.FairOk (b : Bool) (n : Nat) : Prop := b = true → n ≤ 200
/-- .. and what fair comes to. -/
def Lf.FairR (n : Nat) (w : World) (e : Ending) (w' : World) : Prop := ∃ b, e = .returned (.bool b) ∧ Lf.FairOk b n ∧ w' = w
theorem Lf.FairOk.no (n : Nat) : Lf.FairOk false n := fun h => by cases h

namespace Lf
/-- What do tells. -/
def DoR (s : S) (kd : Int) (k : ByteArray) (s' : S) (l f t er : Nat) : Prop := (kd = 0 ∧ InsR s k s' l f t er) ∨ (kd ≠ 0 ∧ RemR s k s' l f t er)
theorem do_fan {s : S} {kd : Int} {k : ByteArray} {s' : S} {l f t er : Nat} (h : DoR s kd k s' l f t er) : s'.fan = s.fan := by
  rcases h with ⟨_, h⟩ | ⟨_, h⟩
  · cases h with
    | long _ => rfl
    | twice _ _ _ _ => rfl
    | ok _ _ _ _ _ => exact (ins_last _ _ _ _ _).2.2
  · cases h with
    | none _ _ _ => rfl
    | ok _ _ => exact (rem_last _ _ _ _ _).2.2
end Lf

end Go.Proofs.YtjnaafgiokdcbaaGreatDoor

/- The law LeafOrder. -/
namespace Go.Proofs.YtjnaafgiokdcbaaGreatDoor
open Go.RowKit

namespace Lf
def flat (l : List Pg) : List ByteArray := l.flatMap (fun P => P.ks)
theorem flat_app (a b : List Pg) : flat (a ++ b) = flat a ++ flat b := by simp [flat]
theorem flat_one (P : Pg) : flat [P] = P.ks := by simp [flat]
theorem flat_len : ∀ l : List Pg, (flat l).length = (l.map (fun P => P.ks.length)).sum
  | [] => rfl
  | P :: r => by
    have : flat (P :: r) = P.ks ++ flat r := rfl
    rw [this, List.length_append, flat_len r, List.map_cons, List.sum_cons]
theorem flat_up {s : S} (hI : Inv s) : Up (flat s.pgs) := by
  have hb := hI.bd
  have hk : ∀ P ∈ s.pgs, Up P.ks ∧ ∀ k ∈ P.ks, lt k P.b = false := fun P hP => ⟨(hI.ks P hP).1, fun k hk => ((hI.ks P hP).2.1 k hk).1⟩
  generalize s.pgs = l at hb hk
  induction l with
  | nil => exact List.Pairwise.nil
  | cons P r ih =>
    obtain ⟨b1, b2⟩ := List.pairwise_cons.1 hb
    refine List.pairwise_append.2 ⟨(hk P (by simp)).1, ih b2 (fun Q hQ => hk Q (by simp [hQ])), fun a ha b hb => ?_⟩
    obtain ⟨Q, hQ, hbQ⟩ := List.mem_flatMap.1 hb
    exact lt_le ((b1 Q hQ).2 a ha) ((hk Q (by simp [hQ])).2 b hbQ)
theorem flat_at {l : List Pg} {i j : Nat} {P : Pg} {k : ByteArray} (hP : l[i]? = some P) (hk : P.ks[j]? = some k) : (flat l)[(flat (l.take i)).length + j]? = some k := by
  have hlt := (List.getElem?_eq_some_iff.1 hP).1
  have e : l = l.take i ++ (P :: l.drop (i + 1)) := by
    rw [show P = l[i]'hlt from ((List.getElem?_eq_some_iff.1 hP).2).symm, ← List.drop_eq_getElem_cons hlt, List.take_append_drop]
  have e2 : flat l = flat (l.take i) ++ (P.ks ++ flat (l.drop (i + 1))) := by
    have h2 := congrArg flat e
    rw [flat_app] at h2
    exact h2
  rw [e2, List.getElem?_append_right (Nat.le_add_right _ _), Nat.add_sub_cancel_left, List.getElem?_append_left (List.getElem?_eq_some_iff.1 hk).1]
  exact hk
theorem flat_step {l : List Pg} {i : Nat} {P : Pg} (hP : l[i]? = some P) : (flat (l.take (i + 1))).length = (flat (l.take i)).length + P.ks.length := by
  rw [List.take_add_one, hP]
  show (flat (l.take i ++ [P])).length = _
  rw [flat_app, flat_one, List.length_append]
theorem own_leaf {s : S} (hI : Inv s) {i : Nat} {P : Pg} {k : ByteArray} (hP : s.pgs[i]? = some P) (hk : k ∈ P.ks) : leafOf s k = P := by
  have hlt := (List.getElem?_eq_some_iff.1 hP).1
  have e : s.pgs = s.pgs.take i ++ (P :: s.pgs.drop (i + 1)) := by
    rw [show P = s.pgs[i]'hlt from ((List.getElem?_eq_some_iff.1 hP).2).symm, ← List.drop_eq_getElem_cons hlt, List.take_append_drop]
  have hb := hI.bd
  rw [e] at hb
  obtain ⟨_, _, b3, b4, _⟩ := pw_mid.1 hb
  have hkb := ((hI.ks P (List.mem_of_getElem? hP)).2.1 k hk).1
  exact leaf_spl ⟨e, fun Q hQ => lt_as (lt_le (b3 Q hQ).1 hkb), hkb, fun Q hQ => (b4 Q hQ).2 k hk⟩
theorem keys_of {s : S} (hI : Inv s) {i : Nat} {P : Pg} (hP : s.pgs[i]? = some P) : ksOf s.pgs (P.n : Int) = P.ks := by
  refine find_at (i := i) (fun j Q hj hQ e => ?_) hP rfl
  obtain ⟨p1, p2⟩ := List.getElem?_eq_some_iff.1 hQ
  obtain ⟨p3, p4⟩ := List.getElem?_eq_some_iff.1 hP
  have := List.pairwise_iff_getElem.1 hI.nd j i p1 p3 hj
  rw [p2, p4] at this
  exact this (by omega)
/-- The last key so far. -/
def LastOk (F : List ByteArray) (n : Nat) (last : ByteArray) : Prop := n = 0 ∨ F[n - 1]? = some last
end Lf

end Go.Proofs.YtjnaafgiokdcbaaGreatDoor
