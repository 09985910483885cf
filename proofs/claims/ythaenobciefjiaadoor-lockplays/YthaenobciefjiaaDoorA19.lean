/- Release: what it comes to. -/
import Derived.Test.YthaenobciefjiaaDoorA18
import Derived.Deep.AppendSrc
namespace Go.Proofs.YthaenobciefjiaaDoor
open Go.RowKit Go.Maps Go.ChangeMaps Go.MapKept Go.Sort Go.Shelf

namespace Mp
theorem wpList_app {P : Program} (w : World) {ops : Array Oper} {rest : List Oper} {o : Oper} {a : Act} {Q : Exit → Act → World → Prop}
    (hgd : o.guard = none) (s x : Operand) (t : TypeId) (hop : o.op = Op.call { callee := Callee.builtin Builtin.append, args := #[s, x], argTypes := #[t, t] }) (v xv v' : Value) (w' : World) (hs : a.eval s = v) (hx : a.eval x = xv)
    (hrun : ∀ ty, (Builtin.append_ #[t, t] ty #[v, xv]).run P w = .ok v' w') (hK : wpList P ops Q rest (a.put o.dst v') w') :
    wpList P ops Q (o :: rest) a w := by
  refine wpList_plain hgd fun K' hK' => ?_
  unfold Oper.wp
  simp [execOp, hop, resolve, invoke, builtin, hs, hx, hrun, Result.andThen]
  exact hK' _ _ hK
end Mp

namespace Lk
/-- The cells of a row. -/
theorem row_cells {W : World} {base g cap : Nat} {l : List Int} (h : W.ownsRow base 3 1 (.slice (some ⟨g, 0, none⟩) l.length cap) l.length (l.map (Value.int .i64))) : ∀ k o, l[k]? = some o → W.cell? ⟨g, k, none⟩ = some (.int .i64 o) := fun k o hk => by
  rcases h.2 with ⟨e, _⟩ | ⟨g', cap', cur, esl, _, hgb, q1, q2, q3, q4⟩
  · cases e
  · injection esl with e1 e2 e3
    injection e1 with e1
    injection e1 with e1
    subst e1
    have hk1 : k < l.length := (List.getElem?_eq_some_iff.1 hk).1
    simp only [Nat.mul_one] at q3 q4
    have e : cur.toList[k]? = some (.int .i64 o) := by
      have := congrArg (fun l => l[k]?) q4
      simp only [List.getElem?_take, if_pos hk1, List.getElem?_map, hk] at this
      exact this
    unfold World.cell?
    simp only [hgb]
    rw [← Array.getElem?_toList]; exact e
set_option maxRecDepth 100000 in
/-- append(v, v2...) of rows of one's own. -/
theorem app_row {W : World} {base b2 : Nat} {v v2 : Value} {l l2 : List Int} (h : W.ownsRow base 3 1 v l.length (l.map (Value.int .i64))) (h2 : W.ownsRow b2 3 1 v2 l2.length (l2.map (Value.int .i64))) (hlen : l.length + l2.length < 1000000) (hbase : base ≤ W.heap.size) :
    ∃ v' w', (∀ ty, (Builtin.append_ #[37, 37] ty #[v, v2]).run Tryd.prog W = .ok v' w') ∧ w'.ownsRow base 3 1 v' (l ++ l2).length ((l ++ l2).map (Value.int .i64)) ∧ W.grownBy w' v.ownBlock ∧ ∀ g, v'.ownBlock = some g → v.ownBlock = some g ∨ W.heap.size ≤ g := by
  obtain ⟨i0, hi, hz0, hz1, hz2⟩ : ∃ i, Tryd.prog.info? 3 = some i ∧ i.zero = some (.int .i64 0) ∧ i.size = 1 ∧ i.bytes = 8 := ⟨_, Tryd.type3, rfl, rfl, rfl⟩
  rcases h2.2 with ⟨e, h0⟩ | ⟨g, cap, cur, e, _⟩
  · have hl2 : l2 = [] := List.length_eq_zero_iff.1 h0
    subst hl2
    rw [List.append_nil]
    refine ⟨v, W, fun ty => ?_, h, World.grownBy.refl W _, fun g hg => Or.inl hg⟩
    rw [e]
    rcases h.2 with ⟨e1, _⟩ | ⟨g1, cap1, cur1, e1, _, hg1, q1, q2, q3, q4⟩
    · rw [e1]
      simp [Builtin.append_, run_underlying Tryd.underlying37, sizeOf, typeInfo, hi]
      try rfl
    · rw [e1]
      have := run_append_room_src (P := Tryd.prog) W 37 37 ty 3 i0 Tryd.underlying37 hi g1 0 l.length cap1 (.slice none 0 0) 0 [] (Src.ofNil W (size := i0.size) Tryd.underlying37 0) (by omega) (fun j hj => by simp at hj) (fun j hj => by simp at hj)
      rw [this]
      rfl
  · subst e
    have hc := row_cells h2
    have hcell : ∀ j u, (l2.map (Value.int .i64))[j]? = some u → W.cell? ((⟨g, 0, none⟩ : Addr).add j) = some u := fun j u hu => by
      rw [List.getElem?_map] at hu
      obtain ⟨o, ho, rfl⟩ := Option.map_eq_some_iff.1 hu
      have e : (⟨g, 0, none⟩ : Addr).add j = ⟨g, j, none⟩ := by rw [Addr.add_lit]; simp
      rw [e]; exact hc j o ho
    have hmany := fun ty => run_append_own_at (P := Tryd.prog) W base 37 ty 3 i0 (.int .i64 0) 1 8 Tryd.underlying37 hi hz0 hz1 hz2 rfl (by decide) v _ _ h ⟨g, 0, none⟩ l2.length cap (l2.map (Value.int .i64)) (by simp) hcell (ints_oneCell .i64 l2) (by unfold maxLen; omega) (by omega) hbase
    obtain ⟨v', w5, hr5, hown, hgr, -, hloc⟩ := hmany 37
    refine ⟨v', w5, fun ty => by rw [← hr5]; rfl, by simpa using hown, hgr, fun k hk => ?_⟩
    rcases hloc with e | e
    · exact Or.inl (by rw [← e]; exact hk)
    · rw [e] at hk; injection hk with hk; exact Or.inr (by omega)
end Lk

end Go.Proofs.YthaenobciefjiaaDoor
