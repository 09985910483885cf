/- The law LeafNone. -/
import Derived.Test.YtngflihiailllaaLc0
namespace Go.Proofs.Ytngflihiailllaa
open Go.RowKit

set_option maxRecDepth 100000 in
set_option maxHeartbeats 4000000 in
theorem leafNone_all (k : ByteArray) (w : World) (_ : True) : Calls Try.prog 6 #[.string k] w fun e w' => e = .returned (.bool true) ∧ Below w.heap.size w w' := by
  by_cases hk : 2000 < k.size
  · have g1 : (2000 : Int) < (k.size : Int) := by omega
    clear hk
    go_enter Try.func6, Try.ntmps6
    go_wp2_with fail
    refine (wakes_any w).mono ?_
    rintro e w1 ⟨rfl, hb⟩
    have HB := Mm.hid hb
    clear hb
    go_wp2_with fail
    go_ret
    exact ⟨rfl, HB.out⟩
  · have g1 : ¬ ((2000 : Int) < (k.size : Int)) := by omega
    clear hk
    go_enter Try.func6, Try.ntmps6
    go_wp2_with fail
    refine (insert_nil k w).mono ?_
    rintro e w1 ⟨rfl, hb1⟩
    have HB1 := Mm.hid hb1
    have HX1 : Hid ((w1.alloc (.cells #[.int .i64 0, .int .i64 0] 35)).heap[w1.heap.size]? = some (.cells #[.int .i64 0, .int .i64 0] 35 (0, 0))) := Mm.hid (Mm.newAt w1 _ rfl)
    have HA1 : Hid (Below w.heap.size w (w1.alloc (.cells #[.int .i64 0, .int .i64 0] 35))) := Mm.hid (hb1.alloc hb1.size _)
    have HL1 := Mm.hid hb1.size
    clear hb1
    go_wp2_with fail
    refine (remove_nil k _).mono ?_
    rintro e w2 ⟨rfl, hb2⟩
    have hX2 : w2.heap[w1.heap.size]? = some (.cells #[.int .i64 0, .int .i64 0] 35 (0, 0)) := (hb2.block _ (by simp)).trans HX1.out
    have HB2 : Hid (Below w.heap.size w w2) := Mm.hid (HA1.out.trans (hb2.mono HA1.out.size))
    have HA2 : Hid (Below w.heap.size w (w2.alloc (.cells #[.int .i64 0, .int .i64 0] 35))) := Mm.hid (HB2.out.alloc HB2.out.size _)
    have HY2 : Hid ((w2.alloc (.cells #[.int .i64 0, .int .i64 0] 35)).heap[w2.heap.size]? = some (.cells #[.int .i64 0, .int .i64 0] 35 (0, 0))) := Mm.hid (Mm.newAt w2 _ rfl)
    have HX2 : Hid ((w2.alloc (.cells #[.int .i64 0, .int .i64 0] 35)).heap[w1.heap.size]? = some (.cells #[.int .i64 0, .int .i64 0] 35 (0, 0))) := Mm.hid ((Mm.oldAt _ _ (Mm.heapLt hX2)).trans hX2)
    clear hb2 hX2
    go_wp2_with fail
    refine (range_nil k ⟨#[]⟩ _).mono ?_
    rintro e w3 ⟨rfl, hb3⟩
    have hX3 : w3.heap[w1.heap.size]? = some (.cells #[.int .i64 0, .int .i64 0] 35 (0, 0)) := (hb3.block _ (Mm.heapLt HX2.out)).trans HX2.out
    have hY3 : w3.heap[w2.heap.size]? = some (.cells #[.int .i64 0, .int .i64 0] 35 (0, 0)) := (hb3.block _ (Mm.heapLt HY2.out)).trans HY2.out
    have d1 : w3.cell? ⟨w1.heap.size, 1, none⟩ = some (.int .i64 0) := Mm.cellOf hX3 rfl
    have d2 : w3.cell? ⟨w2.heap.size, 1, none⟩ = some (.int .i64 0) := Mm.cellOf hY3 rfl
    have HB3 : Hid (Below w.heap.size w w3) := Mm.hid (HA2.out.trans (hb3.mono HA2.out.size))
    clear hb3 hX3 hY3
    go_wp2_with fail
    refine (has_nil k _).mono ?_
    rintro e w4 ⟨rfl, hb4⟩
    have HB4 : Hid (Below w.heap.size w w4) := Mm.hid (HB3.out.trans (hb4.mono HB3.out.size))
    clear hb4 d1 d2
    go_wp2_with fail
    refine (of_nil k _).mono ?_
    rintro e w5 ⟨rfl, hb5⟩
    have HB5 : Hid (Below w.heap.size w w5) := Mm.hid (HB4.out.trans (hb5.mono HB4.out.size))
    clear hb5
    go_wp2_with fail
    refine (all_nil _).mono ?_
    rintro e w6 ⟨rfl, hb6⟩
    have HB6 : Hid (Below w.heap.size w w6) := Mm.hid (HB5.out.trans (hb6.mono HB5.out.size))
    clear hb6
    go_wp2_with fail
    refine (keys_nil 1 _).mono ?_
    rintro e w7 ⟨rfl, hb7⟩
    have HB7 : Hid (Below w.heap.size w w7) := Mm.hid (HB6.out.trans (hb7.mono HB6.out.size))
    clear hb7
    go_wp2_with fail
    refine (len_nil _).mono ?_
    rintro e w8 ⟨rfl, hb8⟩
    have HB8 : Hid (Below w.heap.size w w8) := Mm.hid (HB7.out.trans (hb8.mono HB7.out.size))
    clear hb8
    go_wp2_with fail
    refine (wakes_any _).mono ?_
    rintro e w9 ⟨rfl, hb9⟩
    have HB9 : Hid (Below w.heap.size w w9) := Mm.hid (HB8.out.trans (hb9.mono HB8.out.size))
    clear hb9
    go_wp2_with fail
    go_ret
    exact ⟨rfl, HB9.out⟩
end Go.Proofs.Ytngflihiailllaa
