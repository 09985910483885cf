/- Rows of values, plain mathematics: what is sorted stands in one order only. -/
import Derived.Test.YtanljohnmaokeaaR1
namespace Go.Proofs.Ytanljohnmaokeaa
namespace Vl
theorem cmpR_self (a : List V) : cmpR a a = 0 := cmpR_ok.self a
/-- Two sorted lists of the same rows are one. -/
theorem sorted_one : ∀ {a b : List (List V)}, a.Perm b → SortedR a → SortedR b → a = b
  | [], b, hp, _, _ => by rw [List.nil_perm.1 hp]
  | x :: a, [], hp, _, _ => absurd (List.perm_nil.1 hp) (by simp)
  | x :: a, y :: b, hp, ha, hb => by
    obtain ⟨ha1, ha2⟩ := List.pairwise_cons.1 ha
    obtain ⟨hb1, hb2⟩ := List.pairwise_cons.1 hb
    have e : x = y := by
      have hx : x ∈ y :: b := hp.subset (List.mem_cons_self ..)
      have hy : y ∈ x :: a := hp.symm.subset (List.mem_cons_self ..)
      rcases List.mem_cons.1 hx with h | h
      · exact h
      · rcases List.mem_cons.1 hy with h' | h'
        · exact h'.symm
        · have h1 := ha1 y h'
          have h2 := hb1 x h
          have h3 := cmpR_ok.flip x y
          exact cmpR_zero (by omega)
    subst e
    rw [sorted_one ((List.perm_cons x).1 hp) ha2 hb2]
end Vl
end Go.Proofs.Ytanljohnmaokeaa
