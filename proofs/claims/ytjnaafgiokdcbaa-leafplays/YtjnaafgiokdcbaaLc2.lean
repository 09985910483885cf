/- fair, Mod, do. -/
import Derived.Test.YtjnaafgiokdcbaaLop
namespace Go.Proofs.Ytjnaafgiokdcbaa
open Go.RowKit

/-- What fair says. -/
def Lf.FairOk (b : Bool) (n : Nat) : Prop := b = true → n ≤ 200
/-- .. and what fair comes to. -/
def Lf.FairR (n : Nat) (w : World) (e : Ending) (w' : World) : Prop := ∃ b, e = .returned (.bool b) ∧ Lf.FairOk b n ∧ w' = w
theorem Lf.FairOk.no (n : Nat) : Lf.FairOk false n := fun h => by cases h

set_option maxRecDepth 100000 in
set_option maxHeartbeats 2000000 in
theorem fair_any (a : Option Addr) (l c : Nat) (zs : List Cg.Stp) (W w : World) (hz : Hid (Cg.Stps W a l c zs)) (hb : Hid (Below W.heap.size W w)) (hbig : l ≤ 9223372036854775807) :
    Calls Try.prog 6 #[.slice a l c] w fun e w' => Lf.FairR l w e w' := by
  go_enter Try.func6, Try.ntmps6
  go_wp2_with fail
  go_loopw [3] (fun vi wr => ∃ k : Nat, k ≤ l ∧ vi = .int .i64 (k : Int) ∧ Hid (wr = w)) (fun vi _ => l - (RowKit.intOf vi).toNat)
  case atStart => exact ⟨0, Nat.zero_le _, rfl, Mm.hid rfl⟩
  case round =>
    obtain ⟨k, hk, rfl, HB⟩ := hrel
    have HBe := HB.out
    subst HBe
    by_cases hlt : k < l
    · obtain ⟨x, hx⟩ : ∃ x, zs[k]? = some x := ⟨zs[k]'(by rw [hz.out.len]; exact hlt), List.getElem?_eq_getElem _⟩
      obtain ⟨b, o, rfl, hbl, d0, d1, d2⟩ := hz.out.at_ k x hx
      have e1 : wr.cell? ⟨b, o + k * 3 + 1, none⟩ = some (.string x.key) := (Mm.belAt hb.out _ hbl).trans d1
      have e2 : wr.cell? ⟨b, o + k * 3 + 2, none⟩ = some (.string x.to) := (Mm.belAt hb.out _ hbl).trans d2
      have g1 : (0 : Int) ≤ (k : Int) := by omega
      have g2 : (k : Int) < (l : Int) := by omega
      clear hx d0 d1 d2
      by_cases h1 : (1100 : Int) < (x.key.size : Int)
      · go_wp2_with fail
        go_ret
        exact ⟨false, rfl, Lf.FairOk.no _, rfl⟩
      · by_cases h2 : (1100 : Int) < (x.to.size : Int)
        · go_wp2_with fail
          go_ret
          exact ⟨false, rfl, Lf.FairOk.no _, rfl⟩
        · go_wp2_with fail
          exact ⟨⟨k + 1, by omega, by go_num, by first | trivial | exact Mm.hid rfl⟩, by simp [RowKit.intOf]; omega⟩
    · by_cases h2 : l ≤ 200
      · have h3 : (l : Int) ≤ 200 := by omega
        go_wp2_with fail
        go_ret
        exact ⟨true, rfl, (fun _ => h2 : Lf.FairOk true l), rfl⟩
      · have h3 : ¬ ((l : Int) ≤ 200) := by omega
        go_wp2_with fail
        go_ret
        exact ⟨false, rfl, Lf.FairOk.no _, rfl⟩

namespace Lf
/-- What do tells. -/
def DoR (s : S) (kd : Int) (k : ByteArray) (s' : S) (l f t er : Nat) : Prop := (kd = 0 ∧ InsR s k s' l f t er) ∨ (kd ≠ 0 ∧ RemR s k s' l f t er)
theorem do_fan {s : S} {kd : Int} {k : ByteArray} {s' : S} {l f t er : Nat} (h : DoR s kd k s' l f t er) : s'.fan = s.fan := by
  rcases h with ⟨_, h⟩ | ⟨_, h⟩
  · cases h with
    | long _ => rfl
    | twice _ _ _ _ => rfl
    | ok _ _ _ _ _ => exact (ins_last _ _ _ _ _).2.2
  · cases h with
    | none _ _ _ => rfl
    | ok _ _ => exact (rem_last _ _ _ _ _).2.2
end Lf