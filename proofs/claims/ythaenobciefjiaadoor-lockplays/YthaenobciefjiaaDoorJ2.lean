/- Names and what a statement takes; the reference's list. -/
import Derived.Test.YthaenobciefjiaaDoorJ1
namespace Go.Proofs.YthaenobciefjiaaDoor
open Go.RowKit

namespace Md
def nameS (m : Int) : ByteArray := if m = 1 then ⟨#[97, 99, 99, 101, 115, 115, 95, 115, 104, 97, 114, 101]⟩ else if m = 2 then ⟨#[114, 111, 119, 95, 115, 104, 97, 114, 101]⟩ else if m = 3 then ⟨#[114, 111, 119, 95, 101, 120, 99, 108, 117, 115, 105, 118, 101]⟩ else if m = 4 then ⟨#[115, 104, 97, 114, 101, 95, 117, 112, 100, 97, 116, 101]⟩ else if m = 5 then ⟨#[115, 104, 97, 114, 101]⟩ else if m = 6 then ⟨#[115, 104, 97, 114, 101, 95, 114, 111, 119]⟩ else if m = 7 then ⟨#[101, 120, 99, 108, 117, 115, 105, 118, 101]⟩ else if m = 8 then ⟨#[97, 99, 99, 101, 115, 115, 95, 101, 120, 99, 108, 117, 115, 105, 118, 101]⟩ else ⟨#[]⟩
def ofI (k : Int) : Int := if k = 7 ∨ k = 8 ∨ k = 9 then 1 else if k = 4 ∨ k = 5 ∨ k = 6 then 3 else if k = 17 then 4 else if k = 13 then 5 else if k = 10 ∨ k = 11 ∨ k = 12 ∨ k = 14 ∨ k = 15 ∨ k = 16 then 8 else 0

theorem name_no (m : Int) (h : isB m = false) : nameS m = ⟨#[]⟩ := by
  have hb : ∀ k : Int, 1 ≤ k → k ≤ 8 → m ≠ k := fun k h1 h2 e => by subst e; simp [isB, h1, h2] at h
  simp [nameS, hb]

theorem kinds (k : Int) : k = 4 ∨ k = 5 ∨ k = 6 ∨ k = 7 ∨ k = 8 ∨ k = 9 ∨ k = 10 ∨ k = 11 ∨ k = 12 ∨ k = 13 ∨ k = 14 ∨ k = 15 ∨ k = 16 ∨ k = 17 ∨ (ofI k = 0 ∧ (k == 4) = false ∧ (k == 5) = false ∧ (k == 6) = false ∧ (k == 7) = false ∧ (k == 8) = false ∧ (k == 9) = false ∧ (k == 10) = false ∧ (k == 11) = false ∧ (k == 12) = false ∧ (k == 13) = false ∧ (k == 14) = false ∧ (k == 15) = false ∧ (k == 16) = false ∧ (k == 17) = false) := by
  by_cases h : 4 ≤ k ∧ k ≤ 17
  · omega
  · have e : ∀ j : Int, 4 ≤ j → j ≤ 17 → k ≠ j := fun j h1 h2 => by omega
    have e' : (ofI k = 0 ∧ (k == 4) = false ∧ (k == 5) = false ∧ (k == 6) = false ∧ (k == 7) = false ∧ (k == 8) = false ∧ (k == 9) = false ∧ (k == 10) = false ∧ (k == 11) = false ∧ (k == 12) = false ∧ (k == 13) = false ∧ (k == 14) = false ∧ (k == 15) = false ∧ (k == 16) = false ∧ (k == 17) = false) := by
      simp [ofI, e]
    simp [e']
end Md

end Go.Proofs.YthaenobciefjiaaDoor
