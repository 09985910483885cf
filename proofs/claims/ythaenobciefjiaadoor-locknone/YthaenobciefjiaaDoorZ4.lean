/- LockNone: the walk. -/
import Derived.Test.YthaenobciefjiaaDoorZ3
import Derived.Test.YthaenobciefjiaaDoorOpenS
namespace Go.Proofs.YthaenobciefjiaaDoor
open Go.RowKit Go.Maps Go.ChangeMaps Go.MapKept Go.Sort Go.Shelf

set_option maxHeartbeats 400000 in
theorem names_nil (w : World) :
    Calls Tryd.prog 24 #[.pointer none] w fun e w' => e = .returned (.slice none 0 0) ∧ w' = w := by
  go_enter Tryd.func24, Tryd.ntmps24
  go_wp2
  go_ret
  exact ⟨rfl, rfl⟩

set_option maxRecDepth 100000 in
set_option maxHeartbeats 2000000 in
theorem lockNone_walk (x : Lk.Stp) (w : World) (_ : x.Fit) (hM : Md.Tab w) :
    Calls Tryd.prog 8 #[.agg #[.int .i64 x.kd, .int .i64 x.ho, .int .i64 x.md, Lk.str x.nm]] w fun e w' => e = .returned (.bool true) ∧ Below w.heap.size w w' := by
  have hsz : (⟨x.nm.toArray⟩ : ByteArray).size = x.nm.length := by simp [ByteArray.size]
  have HB1 : Hid (Below w.heap.size w (w.alloc (.cells #[.int .i64 x.kd, .int .i64 x.ho, .int .i64 x.md, Lk.str x.nm] 32))) := Mp.hid ((Below.refl _ _).alloc (Nat.le_refl _) _)
  have HM1 := Mp.hid (hM.below HB1.out)
  clear hM
  cases hd : decide ((100 : Int) < (x.nm.length : Int))
  · go_enter Tryd.func8, Tryd.ntmps8
    go_wp2_with (first
      | (go_at_call 17; refine (waits_nil _ _).mono ?_; rintro e w' ⟨rfl, hq⟩; obtain rfl := hq.symm)
      | (go_at_call 12; refine (take_nil _ _ _ _).mono ?_; rintro e w' ⟨rfl, hq⟩; obtain rfl := hq.symm)
      | (go_at_call 15; refine (release_nil _ _).mono ?_; rintro e w' ⟨rfl, hq⟩; obtain rfl := hq.symm)
      | (go_at_call 19; refine (modes_nil _ _ _).mono ?_; rintro e w' ⟨rfl, hq⟩; obtain rfl := hq.symm)
      | (go_at_call 21; refine (for_nil _ _).mono ?_; rintro e w' ⟨rfl, hq⟩; obtain rfl := hq.symm)
      | (go_at_call 24; refine (names_nil _).mono ?_; rintro e w' ⟨rfl, hq⟩; obtain rfl := hq.symm)
      | (go_at_call 11; refine (wakes6_any _ HM1).mono ?_; rintro e w2 ⟨rfl, hb⟩)
      | go_in)
    go_ret
    exact ⟨rfl, Md.btr HB1.out hb⟩
  · go_enter Tryd.func8, Tryd.ntmps8
    go_wp2_with (first
      | (go_at_call 11; refine (wakes6_any _ HM1).mono ?_; rintro e w2 ⟨rfl, hb⟩)
      | go_in)
    go_ret
    exact ⟨rfl, Md.btr HB1.out hb⟩

end Go.Proofs.YthaenobciefjiaaDoor
