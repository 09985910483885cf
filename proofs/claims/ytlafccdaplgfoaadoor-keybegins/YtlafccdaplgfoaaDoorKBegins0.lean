/- KeyBegins: where its arrays lie; its plain facts. -/
import Derived.Test.YtlafccdaplgfoaaDoorS8
namespace Go.Proofs.YtlafccdaplgfoaaDoor
open Go.RowKit
attribute [local go_sem] Fl.run_store_float
namespace Ky
open Vl
/-- Two values in a block. -/
def A8 (w : World) (b : Nat) (u v : V) : Prop :=
  (w.cell? ⟨b, 0, none⟩ = some (.int .i64 u.k) ∧ w.cell? ⟨b, 1, none⟩ = some (.int .i64 u.n) ∧ w.cell? ⟨b, 2, none⟩ = some (.float .f64 u.f) ∧ w.cell? ⟨b, 3, none⟩ = some (.string u.s)) ∧
  (w.cell? ⟨b, 4, none⟩ = some (.int .i64 v.k) ∧ w.cell? ⟨b, 5, none⟩ = some (.int .i64 v.n) ∧ w.cell? ⟨b, 6, none⟩ = some (.float .f64 v.f) ∧ w.cell? ⟨b, 7, none⟩ = some (.string v.s))
/-- Two strings in a block that may be written. -/
def X2 (w : World) (b : Nat) (s t : ByteArray) : Prop :=
  (w.cell? ⟨b, 0, none⟩ = some (.string s) ∧ w.cell? ⟨b, 1, none⟩ = some (.string t)) ∧ w.frozen? ⟨b, 0, none⟩ = false ∧ w.frozen? ⟨b, 1, none⟩ = false
theorem A8.lt {w : World} {b : Nat} {u v : V} (h : A8 w b u v) : b < w.heap.size := World.block_lt_of_cell? _ _ h.1.1
theorem X2.lt {w : World} {b : Nat} {u v : ByteArray} (h : X2 w b u v) : b < w.heap.size := World.block_lt_of_cell? _ _ h.1.1
theorem A8.below {w w1 : World} {b : Nat} {u v : V} (h : A8 w b u v) (hb : Below w.heap.size w w1) : A8 w1 b u v := by
  have hl := h.lt
  obtain ⟨⟨h0, h1, h2, h3⟩, h4, h5, h6, h7⟩ := h
  exact ⟨⟨(atc hb hl).trans h0, (atc hb hl).trans h1, (atc hb hl).trans h2, (atc hb hl).trans h3⟩, (atc hb hl).trans h4, (atc hb hl).trans h5, (atc hb hl).trans h6, (atc hb hl).trans h7⟩
theorem X2.below {w w1 : World} {b : Nat} {u v : ByteArray} (h : X2 w b u v) (hb : Below w.heap.size w w1) : X2 w1 b u v := by
  have hl := h.lt
  obtain ⟨⟨h0, h1⟩, h2, h3⟩ := h
  exact ⟨⟨(atc hb hl).trans h0, (atc hb hl).trans h1⟩, (atf hb hl).trans h2, (atf hb hl).trans h3⟩
theorem A8.set {w : World} {b c o : Nat} {u v : V} (h : A8 w b u v) (hne : c ≠ b) (x : Value) : A8 (w.setCell ⟨c, o, none⟩ x) b u v := by
  have k : ∀ i : Nat, (w.setCell ⟨c, o, none⟩ x).cell? ⟨b, i, none⟩ = w.cell? ⟨b, i, none⟩ := fun i => World.cell?_setCell_other _ _ _ _ (fun e => hne (congrArg Addr.block e))
  obtain ⟨⟨h0, h1, h2, h3⟩, h4, h5, h6, h7⟩ := h
  exact ⟨⟨(k _).trans h0, (k _).trans h1, (k _).trans h2, (k _).trans h3⟩, (k _).trans h4, (k _).trans h5, (k _).trans h6, (k _).trans h7⟩
theorem X2.set {w : World} {b c o : Nat} {u v : ByteArray} (h : X2 w b u v) (hne : c ≠ b) (x : Value) : X2 (w.setCell ⟨c, o, none⟩ x) b u v := by
  have k : ∀ i : Nat, (w.setCell ⟨c, o, none⟩ x).cell? ⟨b, i, none⟩ = w.cell? ⟨b, i, none⟩ := fun i => World.cell?_setCell_other _ _ _ _ (fun e => hne (congrArg Addr.block e))
  obtain ⟨⟨h0, h1⟩, h2, h3⟩ := h
  exact ⟨⟨(k _).trans h0, (k _).trans h1⟩, fz_set.trans h2, fz_set.trans h3⟩
theorem X2.set0 {w : World} {b : Nat} {u v : ByteArray} (h : X2 w b u v) (x : ByteArray) : X2 (w.setCell ⟨b, 0, none⟩ (.string x)) b x v := by
  obtain ⟨⟨h0, h1⟩, h2, h3⟩ := h
  exact ⟨⟨World.cell?_setCell_same _ _ _ h0, (World.cell?_setCell_other _ _ _ _ (fun e => by cases congrArg Addr.off e)).trans h1⟩, fz_set.trans h2, fz_set.trans h3⟩
theorem X2.set1 {w : World} {b : Nat} {u v : ByteArray} (h : X2 w b u v) (x : ByteArray) : X2 (w.setCell ⟨b, 1, none⟩ (.string x)) b u x := by
  obtain ⟨⟨h0, h1⟩, h2, h3⟩ := h
  exact ⟨⟨(World.cell?_setCell_other _ _ _ _ (fun e => by cases congrArg Addr.off e)).trans h0, World.cell?_setCell_same _ _ _ h1⟩, fz_set.trans h2, fz_set.trans h3⟩

/-- Where KeyBegins stands. -/
structure StB (w0 : World) (a c b d : V) (x y u v : ByteArray) (w : World) : Prop where
  p : A8 w w0.heap.size a c
  q : A8 w (w0.heap.size + 1) b d
  x : X2 w (w0.heap.size + 1 + 1) x y
  y : X2 w (w0.heap.size + 1 + 1 + 1) u v
  m : Mx w
  l : Below w0.heap.size w0 w
theorem StB.step {w0 w w1 : World} {a c b d : V} {x y u v : ByteArray} (h : StB w0 a c b d x y u v w) (hb : Below w.heap.size w w1) : StB w0 a c b d x y u v w1 :=
  ⟨h.p.below hb, h.q.below hb, h.x.below hb, h.y.below hb, h.m.below hb, Vl.btr h.l hb⟩
theorem StB.drewN {w0 w : World} {a c b d : V} {x y u v : ByteArray} (h : StB w0 a c b d x y u v w) (n : Nat) : StB w0 a c b d x y u v (w.drewN n) := ⟨h.p, h.q, h.x, h.y, h.m, Vl.bdrewN h.l n⟩
theorem Mx.set {w : World} (h : Mx w) {b o : Nat} (hne : 1 ≠ b) (x : Value) : Mx (w.setCell ⟨b, o, none⟩ x) := by
  obtain ⟨m, hm⟩ := h
  exact ⟨m, (World.cell?_setCell_other _ _ _ _ (fun e => hne (congrArg Addr.block e).symm)).trans hm⟩
theorem StB.set {w0 w : World} {a c b d : V} {x y u v : ByteArray} (h : StB w0 a c b d x y u v w) (hm : Mx w0) (s t : ByteArray) :
    StB w0 a c b d s y t v ((w.setCell ⟨w0.heap.size + 1 + 1, 0, none⟩ (.string s)).setCell ⟨w0.heap.size + 1 + 1 + 1, 0, none⟩ (.string t)) ∧
    StB w0 a c b d x s u t ((w.setCell ⟨w0.heap.size + 1 + 1, 1, none⟩ (.string s)).setCell ⟨w0.heap.size + 1 + 1 + 1, 1, none⟩ (.string t)) := by
  have hl := hm.lt
  exact ⟨⟨(h.p.set (by omega) _).set (by omega) _, (h.q.set (by omega) _).set (by omega) _, (h.x.set0 s).set (by omega) _, (h.y.set (by omega) _).set0 t, (h.m.set (by omega) _).set (by omega) _, (h.l.setCell (by simp; omega) _).setCell (by simp; omega) _⟩,
    ⟨(h.p.set (by omega) _).set (by omega) _, (h.q.set (by omega) _).set (by omega) _, (h.x.set1 s).set (by omega) _, (h.y.set (by omega) _).set1 t, (h.m.set (by omega) _).set (by omega) _, (h.l.setCell (by simp; omega) _).setCell (by simp; omega) _⟩⟩
theorem A8.made (w : World) (u v : V) (t : TypeId) : A8 (w.alloc (.cells #[.int .i64 u.k, .int .i64 u.n, .float .f64 u.f, .string u.s, .int .i64 v.k, .int .i64 v.n, .float .f64 v.f, .string v.s] t)) w.heap.size u v := by
  unfold A8; simp [go_sem]
theorem X2.made (w : World) (t : TypeId) : X2 (w.alloc (.cells #[.string ⟨#[]⟩, .string ⟨#[]⟩] t)) w.heap.size ⟨#[]⟩ ⟨#[]⟩ := by
  unfold X2; simp [go_sem]
theorem A8.made' {w : World} (u v : V) (t : TypeId) {n : Nat} (h : n = w.heap.size) : A8 (w.alloc (.cells #[.int .i64 u.k, .int .i64 u.n, .float .f64 u.f, .string u.s, .int .i64 v.k, .int .i64 v.n, .float .f64 v.f, .string v.s] t)) n u v := by subst h; exact A8.made _ _ _ _
theorem X2.made' {w : World} (t : TypeId) {n : Nat} (h : n = w.heap.size) : X2 (w.alloc (.cells #[.string ⟨#[]⟩, .string ⟨#[]⟩] t)) n ⟨#[]⟩ ⟨#[]⟩ := by subst h; exact X2.made _ _
theorem StB.start (w0 : World) (a c b d : V) (hM : Mx w0) : StB w0 a c b d ⟨#[]⟩ ⟨#[]⟩ ⟨#[]⟩ ⟨#[]⟩ ((((w0.alloc (.cells #[.int .i64 a.k, .int .i64 a.n, .float .f64 a.f, .string a.s, .int .i64 c.k, .int .i64 c.n, .float .f64 c.f, .string c.s] 53)).alloc (.cells #[.int .i64 b.k, .int .i64 b.n, .float .f64 b.f, .string b.s, .int .i64 d.k, .int .i64 d.n, .float .f64 d.f, .string d.s] 53)).alloc (.cells #[.string ⟨#[]⟩, .string ⟨#[]⟩] 54)).alloc (.cells #[.string ⟨#[]⟩, .string ⟨#[]⟩] 54)) := by
  have s : ∀ (w : World) (o : Obj), Below w.heap.size w (w.alloc o) := fun w o => Vl.bal (Below.refl _ _) o
  exact ⟨(((A8.made w0 a c _).below (s _ _)).below (s _ _)).below (s _ _), ((A8.made' b d _ (by simp)).below (s _ _)).below (s _ _), (X2.made' _ (by simp)).below (s _ _), X2.made' _ (by simp), (((hM.below (s _ _)).below (s _ _)).below (s _ _)).below (s _ _), Vl.bal (Vl.bal (Vl.bal (Vl.bal (Below.refl _ _) _) _) _) _⟩

/-- No key begins another one. -/
theorem pre_ne {a b : V} (ha : GoodV a) (hb : GoodV b) (hc : cmpV a b ≠ 0) (_hs : (keyB a).size ≤ (keyB b).size) : cmpS ((keyB b).extract 0 (keyB a).size) (keyB a) ≠ 0 := by
  intro h
  have e := congrArg (fun s : ByteArray => s.data.toList) ((cmpS_eq _ _).1 h)
  simp only [extract_list, List.drop_zero, keyB_list] at e
  have e2 : keyL a ++ (keyL b).drop (keyB a).size = keyL b ++ [] := by rw [List.append_nil, ← e, List.take_append_drop]
  obtain ⟨rfl, _⟩ := key_front ha hb e2
  exact hc (cmpV_self _)
theorem cmpS_both {a b c d : V} (ha : GoodV a) (hb : GoodV b) (hc : GoodV c) (hd : GoodV d) : cmpS (keyB a ++ keyB c) (keyB b ++ keyB d) = if cmpV a b = 0 then cmpV c d else cmpV a b := by
  unfold cmpS
  rw [append_list, append_list, keyB_list, keyB_list, keyB_list, keyB_list, key_cmp ha hb]
  have := cmpS_key hc hd
  unfold cmpS at this
  rw [keyB_list, keyB_list] at this
  rw [this]
theorem keyB_ne {a : V} : cmpS (keyB a) ⟨#[]⟩ ≠ 0 := by
  intro h
  have e := congrArg (fun s : ByteArray => s.data.toList) ((cmpS_eq _ _).1 h)
  exact key_ne_nil a e
end Ky
end Go.Proofs.YtlafccdaplgfoaaDoor
