/- Whatever is taken and released: what stays, plain. -/
import Derived.Test.YthaenobciefjiaaDoorZ8
import Derived.Test.YthaenobciefjiaaDoorA26
namespace Go.Proofs.YthaenobciefjiaaDoor
open Go.RowKit

namespace Lk
variable {s s' : St} {x m E : Int} {nm : Bytes}
/-- What holds of every table. -/
structure Inv (s : St) : Prop where
  wq : Wq s
  wi : ∀ x r, s.want x = some r → x ∈ s.q r.1 ∧ r.1.length ≤ 8
  rg : ∀ x, s.want x ≠ none → 1 ≤ x ∧ x ≤ 200
theorem Inv.one (h : Inv s) {y : Int} {a b : Bytes} (ha : y ∈ s.q a) (hb : y ∈ s.q b) : a = b := by
  obtain ⟨m1, h1, _⟩ := h.wq.w a y ha
  obtain ⟨m2, h2, _⟩ := h.wq.w b y hb
  rw [h1] at h2
  injection h2 with h2
  injection h2
theorem Inv.start : Inv st0 := ⟨⟨(fun _ _ h => nomatch h), fun _ => List.nodup_nil⟩, (fun _ _ h => nomatch h), fun _ h => absurd rfl h⟩
/-- Through a queue: who got something. -/
structure SF (nm : Bytes) (s : St) (l : List Int) (s' : St) (L : List Int) : Prop where
  nd : L.Nodup
  sub : ∀ y ∈ L, y ∈ l
  want : ∀ y, s'.want y = if y ∈ L then none else s.want y
  set : ∀ y n, y ∉ L ∨ n ≠ nm → s'.set y n = s.set y n
  q : ∀ n y, y ∈ s'.q n ↔ (y ∈ s.q n ∨ (n = nm ∧ y ∈ l ∧ y ∉ L))
theorem Serve.sf {l : List Int} {L : List Int} (h : Serve nm s l s' L) : (∀ y ∈ l, ∃ m, s.want y = some (nm, m)) → l.Nodup → SF nm s l s' L := by
  induction h with
  | nil s => exact fun _ _ => ⟨List.nodup_nil, fun _ h => h, fun y => by simp, fun _ _ _ => rfl, fun n y => by simp⟩
  | @wait s x m l s' L hm hb hs ih =>
    intro hl hd
    obtain ⟨h1, h2⟩ := List.nodup_cons.1 hd
    have F := ih (fun y hy => hl y (List.mem_cons_of_mem _ hy)) h2
    have hxL : x ∉ L := fun e => h1 (F.sub x e)
    refine ⟨F.nd, fun y hy => List.mem_cons_of_mem _ (F.sub y hy), F.want, F.set, fun n y => ?_⟩
    rw [F.q n y]
    show (y ∈ (if n = nm then s.q nm ++ [x] else s.q n) ∨ _) ↔ _
    by_cases e : n = nm
    · subst e
      rw [if_pos rfl, List.mem_append, List.mem_singleton]
      by_cases e2 : y = x
      · subst e2; simp [hxL]
      · simp [e2]
    · rw [if_neg e]; simp [e]
  | @get s x m l s' L hm hb hs ih =>
    intro hl hd
    obtain ⟨h1, h2⟩ := List.nodup_cons.1 hd
    have F := ih (fun y hy => by
      obtain ⟨m', h3⟩ := hl y (List.mem_cons_of_mem _ hy)
      refine ⟨m', ?_⟩
      show (if y = x then none else s.want y) = _
      rw [if_neg (fun e => h1 (by rw [← e]; exact hy))]; exact h3) h2
    have hxL : x ∉ L := fun e => h1 (F.sub x e)
    refine ⟨List.nodup_cons.2 ⟨hxL, F.nd⟩, fun y hy => ?_, fun y => ?_, fun y n hy => ?_, fun n y => ?_⟩
    · rcases List.mem_cons.1 hy with e | e
      · rw [e]; exact List.mem_cons_self ..
      · exact List.mem_cons_of_mem _ (F.sub y e)
    · rw [F.want]
      show (if y ∈ L then none else if y = x then none else s.want y) = _
      by_cases e : y = x
      · simp [e]
      · simp [e]
    · have hy' : y ∉ L ∨ n ≠ nm := hy.imp (fun h e => h (List.mem_cons_of_mem _ e)) id
      rw [F.set y n hy']
      show (if y = x ∧ n = nm then _ else s.set y n) = _
      rw [if_neg (fun e => hy.elim (fun h => h (by rw [e.1]; exact List.mem_cons_self ..)) (fun h => h e.2))]
    · rw [F.q n y]
      show (y ∈ s.q n ∨ _) ↔ _
      by_cases e2 : y = x
      · subst e2
        simp [h1]
      · simp [e2]
/-- Through all names. -/
structure RF (s : St) (out : List Int) (s' : St) : Prop where
  nd : out.Nodup
  wt : ∀ y ∈ out, ∃ nm, y ∈ s.q nm
  want : ∀ y, s'.want y = if y ∈ out then none else s.want y
  set : ∀ y n, y ∉ out → s'.set y n = s.set y n
  q : ∀ n y, y ∈ s'.q n ↔ (y ∈ s.q n ∧ y ∉ out)
theorem RF.inv {out : List Int} (h : RF s out s') (hs : Inv s) (hd : ∀ n, (s'.q n).Nodup) : Inv s' := by
  refine ⟨⟨fun n y hy => ?_, hd⟩, fun y r hr => ?_, fun y hy => ?_⟩
  · obtain ⟨h1, h2⟩ := (h.q n y).1 hy
    obtain ⟨m, h3, h4⟩ := hs.wq.w n y h1
    exact ⟨m, by rw [h.want, if_neg h2]; exact h3, h4⟩
  · rw [h.want] at hr
    by_cases e : y ∈ out
    · rw [if_pos e] at hr; cases hr
    · rw [if_neg e] at hr
      obtain ⟨h1, h2⟩ := hs.wi y r hr
      exact ⟨(h.q _ _).2 ⟨h1, e⟩, h2⟩
  · rw [h.want] at hy
    by_cases e : y ∈ out
    · rw [if_pos e] at hy; exact absurd rfl hy
    · rw [if_neg e] at hy; exact hs.rg y hy
theorem Rel.rf {L : List Bytes} {out : List Int} (h : Rel s L s' out) : Inv s → L.Nodup → RF s out s' ∧ Inv s' := by
  induction h with
  | nil s => exact fun hs _ => ⟨⟨List.nodup_nil, (fun _ h => nomatch h), (fun _ => by simp), fun _ _ _ => rfl, (fun _ _ => by simp)⟩, hs⟩
  | @cons s nm r s1 s2 L1 L2 h1 h2 ih =>
    intro hs hd
    obtain ⟨hd1, hd2⟩ := List.nodup_cons.1 hd
    have F := h1.sf (fun y hy => by obtain ⟨m, h3, _⟩ := hs.wq.w nm y hy; exact ⟨m, h3⟩) (hs.wq.d nm)
    have hq1 : ∀ n y, y ∈ s1.q n ↔ (y ∈ s.q n ∧ y ∉ L1) := fun n y => by
      rw [F.q n y]
      show (y ∈ (if n = nm then [] else s.q n) ∨ _) ↔ _
      by_cases e : n = nm
      · subst e; rw [if_pos rfl]; simp
      · rw [if_neg e]
        constructor
        · rintro (h | h)
          · exact ⟨h, fun hl => e (hs.one h (F.sub y hl))⟩
          · exact absurd h.1 e
        · exact fun h => Or.inl h.1
    have R1 : RF s L1 s1 := ⟨F.nd, fun y hy => ⟨nm, F.sub y hy⟩, F.want, fun y n hy => F.set y n (Or.inl hy), hq1⟩
    have hw := h1.wq ⟨fun n y hy => by
        have hy' : y ∈ (if n = nm then [] else s.q n) := hy
        by_cases e : n = nm
        · rw [if_pos e] at hy'; cases hy'
        · rw [if_neg e] at hy'; exact hs.wq.w n y hy', fun n => by
        show (if n = nm then [] else s.q n).Nodup
        by_cases e : n = nm
        · rw [if_pos e]; exact List.nodup_nil
        · rw [if_neg e]; exact hs.wq.d n⟩ (fun y hy => hs.wq.w nm y hy) (hs.wq.d nm) (fun y _ hy => by
        have hy' : y ∈ (if nm = nm then [] else s.q nm) := hy
        rw [if_pos rfl] at hy'; cases hy')
    have I1 := R1.inv hs hw.1.d
    obtain ⟨R2, I2⟩ := ih I1 hd2
    have hdis : ∀ y, y ∈ L1 → y ∉ L2 := fun y hy hy2 => by
      obtain ⟨n, hn⟩ := R2.wt y hy2
      exact ((hq1 n y).1 hn).2 hy
    refine ⟨⟨List.nodup_append.2 ⟨R1.nd, R2.nd, fun a ha b hb e => hdis a ha (by rw [e]; exact hb)⟩, fun y hy => ?_, fun y => ?_, fun y n hy => ?_, fun n y => ?_⟩, I2⟩
    · rcases List.mem_append.1 hy with e | e
      · exact R1.wt y e
      · obtain ⟨n, hn⟩ := R2.wt y e
        exact ⟨n, ((hq1 n y).1 hn).1⟩
    · rw [R2.want, R1.want]
      by_cases e1 : y ∈ L1
      · simp [e1]
      · by_cases e2 : y ∈ L2 <;> simp [e1, e2]
    · rw [List.mem_append, not_or] at hy
      rw [R2.set y n hy.2, R1.set y n hy.1]
    · rw [R2.q, R1.q, List.mem_append, not_or, and_assoc]
theorem leave_want (s : St) (x y : Int) : (leaveS s x).want y = if y = x then none else s.want y := rfl
theorem leave_set (s : St) (x y : Int) (n : Bytes) : (leaveS s x).set y n = if y = x then 0 else s.set y n := rfl
theorem leave_q (hs : Inv s) (x : Int) (n : Bytes) (y : Int) : y ∈ (leaveS s x).q n ↔ (y ∈ s.q n ∧ y ≠ x) := by
  show y ∈ (if (s.want x).map (·.1) = some n then (s.q n).erase x else s.q n) ↔ _
  by_cases e : (s.want x).map (·.1) = some n
  · rw [if_pos e]
    rw [(hs.wq.d n).mem_erase_iff, and_comm]
  · rw [if_neg e]
    constructor
    · intro h
      refine ⟨h, fun e2 => ?_⟩
      subst e2
      obtain ⟨m, h1, _⟩ := hs.wq.w n y h
      exact e (by rw [h1]; rfl)
    · exact fun h => h.1
theorem leave_inv (hs : Inv s) (x : Int) : Inv (leaveS s x) := by
  refine ⟨⟨fun n y hy => ?_, fun n => ?_⟩, fun y r hr => ?_, fun y hy => ?_⟩
  · obtain ⟨h1, h2⟩ := (leave_q hs x n y).1 hy
    obtain ⟨m, h3, h4⟩ := hs.wq.w n y h1
    exact ⟨m, by rw [leave_want, if_neg h2]; exact h3, h4⟩
  · show (if (s.want x).map (·.1) = some n then (s.q n).erase x else s.q n).Nodup
    by_cases e : (s.want x).map (·.1) = some n
    · rw [if_pos e]; exact (hs.wq.d n).erase x
    · rw [if_neg e]; exact hs.wq.d n
  · rw [leave_want] at hr
    by_cases e : y = x
    · rw [if_pos e] at hr; cases hr
    · rw [if_neg e] at hr
      obtain ⟨h1, h2⟩ := hs.wi y r hr
      exact ⟨(leave_q hs x _ y).2 ⟨h1, e⟩, h2⟩
  · rw [leave_want] at hy
    by_cases e : y = x
    · rw [if_pos e] at hy; exact absurd rfl hy
    · rw [if_neg e] at hy; exact hs.rg y hy
theorem ok_iff {x : Int} {nm : Bytes} {m : Int} (h : okArg x nm m = true) : (1 ≤ x ∧ x ≤ 200) ∧ (1 ≤ m ∧ m ≤ 8) ∧ nm.length ≤ 8 := by
  unfold okArg at h
  simp only [Bool.and_eq_true, decide_eq_true_eq] at h
  exact ⟨h.1.1, isB_iff.1 h.1.2, h.2⟩
theorem TakeR.inv (h : TakeR s x nm m E s') (hs : Inv s) : Inv s' := by
  cases h with
  | arg _ => exact hs
  | state _ _ => exact hs
  | has _ _ _ => exact hs
  | gets _ _ _ _ => exact ⟨⟨hs.wq.w, hs.wq.d⟩, hs.wi, hs.rg⟩
  | waits ha hw hb hbar =>
    obtain ⟨h1, h2, h3⟩ := ok_iff ha
    have hxq : ∀ n, x ∉ s.q n := fun n hx => by
      obtain ⟨m', h4, _⟩ := hs.wq.w n x hx
      rw [hw] at h4; cases h4
    have hwn : ∀ y, (waitS s x nm m).want y = if y = x then some (nm, m) else s.want y := fun _ => rfl
    have hqn : ∀ n, (waitS s x nm m).q n = if n = nm then s.q nm ++ [x] else s.q n := fun _ => rfl
    refine ⟨⟨fun n y hy => ?_, fun n => ?_⟩, fun y r hr => ?_, fun y hy => ?_⟩
    · rw [hqn] at hy
      have hy' : y ∈ s.q n ∨ (n = nm ∧ y = x) := by
        by_cases e : n = nm
        · subst e; rw [if_pos rfl, List.mem_append, List.mem_singleton] at hy; exact hy.imp id (fun h => ⟨rfl, h⟩)
        · rw [if_neg e] at hy; exact Or.inl hy
      rcases hy' with hy | ⟨rfl, rfl⟩
      · obtain ⟨m', h4, h5⟩ := hs.wq.w n y hy
        refine ⟨m', ?_, h5⟩
        rw [hwn, if_neg (fun e => hxq n (by rw [← e]; exact hy))]; exact h4
      · exact ⟨m, by rw [hwn, if_pos rfl], h2⟩
    · rw [hqn]
      by_cases e : n = nm
      · rw [if_pos e]
        exact List.nodup_append.2 ⟨hs.wq.d nm, List.nodup_cons.2 ⟨by simp, List.nodup_nil⟩, fun a ha b hb e2 => hxq nm (by rw [← List.mem_singleton.1 hb, ← e2]; exact ha)⟩
      · rw [if_neg e]; exact hs.wq.d n
    · rw [hwn] at hr
      by_cases e : y = x
      · rw [if_pos e] at hr
        injection hr with hr
        subst hr
        exact ⟨by rw [hqn, if_pos rfl, e]; simp, h3⟩
      · rw [if_neg e] at hr
        obtain ⟨h4, h5⟩ := hs.wi y r hr
        refine ⟨?_, h5⟩
        rw [hqn]
        by_cases e2 : r.1 = nm
        · rw [if_pos e2, ← e2]; exact List.mem_append_left _ h4
        · rw [if_neg e2]; exact h4
    · rw [hwn] at hy
      by_cases e : y = x
      · rw [e]; exact h1
      · rw [if_neg e] at hy; exact hs.rg y hy
/-- A list of numbers, each once, of at most n that may be. -/
theorem len_sub {α : Type} [DecidableEq α] : ∀ {l m : List α}, l.Nodup → (∀ x ∈ l, x ∈ m) → l.length ≤ m.length
  | [], _, _, _ => Nat.zero_le _
  | a :: l, m, hd, h => by
    obtain ⟨h1, h2⟩ := List.nodup_cons.1 hd
    have ha := h a (List.mem_cons_self ..)
    have := len_sub (l := l) (m := m.erase a) h2 (fun x hx => by
      have hne : x ≠ a := fun e => h1 (by rw [← e]; exact hx)
      exact (List.mem_erase_of_ne hne).2 (h x (List.mem_cons_of_mem _ hx)))
    rw [List.length_erase_of_mem ha] at this
    have hp : 0 < m.length := List.length_pos_of_mem ha
    simp; omega
theorem Inv.flat (hs : Inv s) : ∀ {L : List Bytes}, L.Nodup → (L.flatMap s.q).Nodup
  | [], _ => List.nodup_nil
  | a :: L, hd => by
    obtain ⟨h1, h2⟩ := List.nodup_cons.1 hd
    rw [List.flatMap_cons]
    refine List.nodup_append.2 ⟨hs.wq.d a, hs.flat h2, fun y hy z hz e => ?_⟩
    subst e
    obtain ⟨b, hb, hz⟩ := List.mem_flatMap.1 hz
    exact h1 (by rw [hs.one hy hz]; exact hb)
theorem Inv.totl (hs : Inv s) {L : List Bytes} (hd : L.Nodup) : Lk.tot s.q L ≤ 200 := by
  have e : Lk.tot s.q L = (L.flatMap s.q).length := by
    unfold Lk.tot
    rw [List.length_flatMap]
  rw [e]
  have := len_sub (m := (List.range 200).map (fun j : Nat => (1 : Int) + (j : Int))) (hs.flat hd) (fun y hy => by
    obtain ⟨n, _, hy⟩ := List.mem_flatMap.1 hy
    obtain ⟨m, hm, _⟩ := hs.wq.w n y hy
    have := hs.rg y (by rw [hm]; exact fun e => nomatch e)
    exact List.mem_map.2 ⟨(y - 1).toNat, List.mem_range.2 (by omega), by omega⟩)
  simpa using this
end Lk

set_option maxHeartbeats 400000 in
/-- Release, of whomever. -/
theorem releaseI_any (F : Nat → Prop) (w W : World) (p N : Nat) (s : Lk.St) (bs bw bq : Nat) (x : Int) (hO : Hid (Lk.Own F w W p N s bs bw bq)) (hM : Hid (Md.Tab w)) (hx : Lk.wfI x) (hI : Hid (Lk.Inv s)) (hN : Hid (N < 89000)) :
    Calls Tryd.prog 15 #[.pointer (some ⟨p, 0, none⟩), .int .i64 x] W fun e w' => ∃ (v : Value) (out : List Int) (s' : Lk.St) (L : List Lk.Bytes), e = .returned v ∧ Lk.Rel (Lk.leaveS s x) L s' out ∧ Rs.Up (· ≤ ·) L ∧ (∀ n, n ∈ L ↔ n.length ≤ maxLen ∧ (s.set x n ≠ 0 ∨ (s.want x).map (·.1) = some n)) ∧ w'.ownsRow W.heap.size 3 1 v out.length (out.map (Value.int .i64)) ∧ Lk.Own F w w' p (N + 401) s' bs bw bq ∧ (∀ b, F b → w'.heap[b]? = W.heap[b]?) ∧ Lk.Inv s' ∧ Lk.RF (Lk.leaveS s x) out s' ∧ out.length ≤ 200 := by
  obtain ⟨tag, bi, sl, hT, ht⟩ := hO.out.tb
  have hMW := hO.out.md hM.out
  have hIl := Lk.leave_inv hI.out x
  have cL : Calls Tryd.prog 36 #[.pointer (some ⟨p, 0, none⟩), .int .i64 x] W fun e w' => ∃ v L, e = .returned v ∧ Lk.LeaveE W w' tag p N s bs bw bq x v L := by
    rcases hw : s.want x with _ | ⟨nm, m⟩
    · exact leave_none W tag p N s bs bw bq bi sl x (Mp.hid hT) hx (Mp.hid hw) (Mp.hid (by have := hN.out; omega))
    · obtain ⟨h1, h2⟩ := hI.out.wi x _ hw
      exact leave_some W tag p N s bs bw bq bi sl x nm m (Mp.hid hT) hx (Mp.hid hw) (Nat.le_trans h2 (by unfold maxLen; omega)) (Mp.hid h1) (Mp.hid (by have := hN.out; omega))
  refine (release_any W tag p N s bs bw bq x (Mp.hid hMW) (Mp.hid (ht _ (hO.out.old _ hM.out.lt))) (Mp.hid cL) (Mp.hid hIl.wq) (Mp.hid (fun L hL => by have := hIl.totl hL; have := hN.out; omega))).mono ?_
  rintro e w' ⟨v, out, s', L, rfl, tag', bi', sl', hR, hU, hm, hT', hE, hrow, hfr, hlen, hwq⟩
  have hLn := Lk.up_nodup hU
  obtain ⟨h1, h2⟩ := hO.out.go ht hT' hE
  obtain ⟨h3, h4⟩ := hR.rf hIl hLn
  have h5 := hIl.totl hLn
  exact ⟨v, out, s', L, rfl, hR, hU, hm, hrow, h1.mono (by omega), h2, h4, h3, by omega⟩

end Go.Proofs.YthaenobciefjiaaDoor
