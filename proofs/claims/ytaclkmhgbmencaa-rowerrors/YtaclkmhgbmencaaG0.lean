/- Columns and the rows that they take: plain. -/
import Derived.Test.YtaclkmhgbmencaaV0
import Derived.Test.YtaclkmhgbmencaaK2
namespace Go.Proofs.Ytaclkmhgbmencaa
namespace Vl

/-- A column's fields. -/
structure Col where
  nm : ByteArray
  k : Int
  nn : Bool
  d : V

/-- The place of the first column of that name, counted from i on; -1: there is none. -/
def findAt (nm : ByteArray) : List Col → Int → Int
  | [], _ => -1
  | c :: l, i => if c.nm = nm then i else findAt nm l (i + 1)
def findN (cs : List Col) (nm : ByteArray) : Int := findAt nm cs 0
theorem findAt_miss {nm : ByteArray} : ∀ (l : List Col) (i : Int), (∀ c ∈ l, c.nm ≠ nm) → findAt nm l i = -1
  | [], _, _ => rfl
  | c :: l, i, h => by
    unfold findAt
    rw [if_neg (h c (List.mem_cons_self ..))]
    exact findAt_miss l (i + 1) (fun d hd => h d (List.mem_cons_of_mem _ hd))
theorem findAt_hit {nm : ByteArray} : ∀ (l : List Col) (i : Int) (k : Nat) (c : Col), l[k]? = some c → c.nm = nm → (∀ (j : Nat) (d : Col), j < k → l[j]? = some d → d.nm ≠ nm) → findAt nm l i = i + k
  | [], _, k, c, h, _, _ => by simp at h
  | d :: l, i, 0, c, h, hn, _ => by
    have : d = c := by simpa using h
    unfold findAt
    rw [this, if_pos hn]; simp
  | d :: l, i, k + 1, c, h, hn, hm => by
    unfold findAt
    rw [if_neg (hm 0 d (by omega) rfl), findAt_hit l (i + 1) k c (by simpa using h) hn (fun j e hj he => hm (j + 1) e (by omega) (by simpa using he))]
    omega
theorem findN_miss {cs : List Col} {nm : ByteArray} (h : ∀ (j : Nat) (d : Col), cs[j]? = some d → d.nm ≠ nm) : findN cs nm = -1 :=
  findAt_miss cs 0 (fun c hc => by obtain ⟨i, hi⟩ := List.getElem?_of_mem hc; exact h i c hi)
theorem findN_hit {cs : List Col} {nm : ByteArray} {k : Nat} {c : Col} (h : cs[k]? = some c) (hn : c.nm = nm) (hm : ∀ (j : Nat) (d : Col), j < k → cs[j]? = some d → d.nm ≠ nm) : findN cs nm = (k : Int) := by
  have := findAt_hit cs 0 k c h hn hm
  unfold findN; omega
theorem findN_bd (cs : List Col) (nm : ByteArray) : -1 ≤ findN cs nm ∧ findN cs nm < cs.length := by
  by_cases h : ∃ (j : Nat) (d : Col), cs[j]? = some d ∧ d.nm = nm
  · obtain ⟨j, d, hj, hd⟩ := h
    obtain ⟨k, c, hk, hc, hm⟩ : ∃ (k : Nat) (c : Col), cs[k]? = some c ∧ c.nm = nm ∧ ∀ (i : Nat) (e : Col), i < k → cs[i]? = some e → e.nm ≠ nm := by
      induction j using Nat.strongRecOn generalizing d with
      | _ j ih =>
        by_cases hx : ∃ (i : Nat) (e : Col), i < j ∧ cs[i]? = some e ∧ e.nm = nm
        · obtain ⟨i, e, hi, he, hn⟩ := hx
          exact ih i hi e he hn
        · exact ⟨j, d, hj, hd, fun i e hi he hn => hx ⟨i, e, hi, he, hn⟩⟩
    rw [findN_hit hk hc hm]
    have := (List.getElem?_eq_some_iff.1 hk).1
    omega
  · rw [findN_miss (fun j d hj hd => h ⟨j, d, hj, hd⟩)]; omega

/-- Is a column good by itself? -/
def colB (c : Col) : Bool := nameB c.nm && decide (1 ≤ c.k) && decide (c.k ≤ 4) && goodB c.d.k c.d.n c.d.f c.d.s && (c.d.k == 0 || c.d.k == c.k)
/-- Are the columns up to k good, each of a name of its own? -/
def upB (cs : List Col) (k : Nat) : Prop := ∀ (j : Nat) (c : Col), j < k → cs[j]? = some c → colB c = true ∧ findN cs c.nm = (j : Int)
def colsB (cs : List Col) : Bool := decide (1 ≤ cs.length) && decide (cs.length ≤ 6) && cs.zipIdx.all fun p => colB p.1 && (findN cs p.1.nm == (p.2 : Int))
theorem colsB_all {cs : List Col} (h1 : 1 ≤ cs.length) (h6 : cs.length ≤ 6) (h : upB cs cs.length) : colsB cs = true := by
  unfold colsB
  rw [decide_eq_true h1, decide_eq_true h6, Bool.true_and, Bool.true_and, List.all_eq_true]
  intro p hp
  obtain ⟨c, j⟩ := p
  have hj := List.mem_zipIdx_iff_getElem?.1 hp
  obtain ⟨q1, q2⟩ := h j c (List.getElem?_eq_some_iff.1 hj).1 hj
  simp only [q1, q2, Bool.true_and, beq_self_eq_true]
theorem colsB_up {cs : List Col} (h : colsB cs = true) : 1 ≤ cs.length ∧ cs.length ≤ 6 ∧ upB cs cs.length := by
  unfold colsB at h
  simp only [Bool.and_eq_true, decide_eq_true_eq, List.all_eq_true] at h
  refine ⟨h.1.1, h.1.2, fun j c _ hc => ?_⟩
  have := h.2 (c, j) (List.mem_zipIdx_iff_getElem?.2 hc)
  simpa using this
theorem colsB_not {cs : List Col} {j : Nat} {c : Col} (hc : cs[j]? = some c) (h : colB c = false ∨ findN cs c.nm ≠ (j : Int)) : colsB cs = false := by
  cases hb : colsB cs
  · rfl
  · obtain ⟨_, _, hu⟩ := colsB_up hb
    obtain ⟨q1, q2⟩ := hu j c (List.getElem?_eq_some_iff.1 hc).1 hc
    rcases h with h | h
    · rw [q1] at h; cases h
    · exact absurd q2 h
theorem colsB_len {cs : List Col} (h : cs.length < 1 ∨ 6 < cs.length) : colsB cs = false := by
  cases hb : colsB cs
  · rfl
  · obtain ⟨h1, h6, _⟩ := colsB_up hb; omega

/-- What is wrong with a value in a column. -/
def takesE (c : Col) (v : V) : Int := if goodB v.k v.n v.f v.s then (if v.k = 0 then (if c.nn then 21 else 0) else if v.k = c.k then 0 else 20) else 11

/-- A row with what lacks behind it. -/
def padL : List Col → List V → List V
  | [], _ => []
  | c :: cs, [] => c.d :: padL cs []
  | _ :: cs, x :: xs => x :: padL cs xs
theorem padL_length : ∀ (cs : List Col) (xs : List V), (padL cs xs).length = cs.length
  | [], _ => rfl
  | c :: cs, [] => by simp [padL, padL_length cs []]
  | c :: cs, x :: xs => by simp [padL, padL_length cs xs]
theorem padL_get : ∀ (cs : List Col) (xs : List V) (i : Nat) (c : Col), cs[i]? = some c → (padL cs xs)[i]? = some ((xs[i]?).getD c.d)
  | [], _, _, _, h => by simp at h
  | d :: cs, [], 0, c, h => by have : d = c := by simpa using h
                               subst this; rfl
  | d :: cs, x :: xs, 0, c, h => rfl
  | d :: cs, [], i + 1, c, h => by
    have := padL_get cs [] i c (by simpa using h)
    simpa [padL] using this
  | d :: cs, x :: xs, i + 1, c, h => by
    have := padL_get cs xs i c (by simpa using h)
    simpa [padL] using this
theorem padL_step {cs : List Col} {xs : List V} {k : Nat} {c : Col} (h : cs[k]? = some c) : (padL cs xs).take (k + 1) = (padL cs xs).take k ++ [(xs[k]?).getD c.d] := by
  have hp := padL_get cs xs k c h
  obtain ⟨hl, he⟩ := List.getElem?_eq_some_iff.1 hp
  rw [List.take_succ_eq_append_getElem hl, he]
theorem padL_all (cs : List Col) (xs : List V) : (padL cs xs).take cs.length = padL cs xs := List.take_of_length_le (by rw [padL_length]; exact Nat.le_refl _)
/-- Padded again it is the same; rows of the same columns that are whole are left alone. -/
theorem padL_whole : ∀ (cs : List Col) (xs : List V), xs.length = cs.length → padL cs xs = xs
  | [], [], _ => rfl
  | [], _ :: _, h => by simp at h
  | _ :: _, [], h => by simp at h
  | c :: cs, x :: xs, h => by simp [padL, padL_whole cs xs (by simpa using h)]

/-- The first error of a row that columns are to take. -/
def errL : List Col → List V → Int
  | c :: cs, x :: xs => if takesE c x = 0 then errL cs xs else takesE c x
  | _, _ => 0
theorem errL_stop : ∀ (cs : List Col) (ys : List V) (k : Nat) (c : Col) (y : V), cs[k]? = some c → ys[k]? = some y → takesE c y ≠ 0 → (∀ (j : Nat) (d : Col) (z : V), j < k → cs[j]? = some d → ys[j]? = some z → takesE d z = 0) → errL cs ys = takesE c y
  | [], _, _, _, _, h, _, _, _ => by simp at h
  | _ :: _, [], _, _, _, _, h, _, _ => by simp at h
  | d :: cs, z :: ys, 0, c, y, h1, h2, h3, _ => by
    have e1 : d = c := by simpa using h1
    have e2 : z = y := by simpa using h2
    subst e1 e2
    unfold errL; rw [if_neg h3]
  | d :: cs, z :: ys, k + 1, c, y, h1, h2, h3, h4 => by
    unfold errL
    rw [if_pos (h4 0 d z (by omega) rfl rfl)]
    exact errL_stop cs ys k c y (by simpa using h1) (by simpa using h2) h3 (fun j e u hj he hu => h4 (j + 1) e u (by omega) (by simpa using he) (by simpa using hu))
theorem errL_none : ∀ (cs : List Col) (ys : List V), (∀ (j : Nat) (d : Col) (z : V), cs[j]? = some d → ys[j]? = some z → takesE d z = 0) → errL cs ys = 0
  | [], ys, _ => by cases ys <;> rfl
  | _ :: _, [], _ => rfl
  | d :: cs, z :: ys, h => by
    unfold errL
    rw [if_pos (h 0 d z rfl rfl)]
    exact errL_none cs ys (fun j e u he hu => h (j + 1) e u (by simpa using he) (by simpa using hu))
theorem errL_zero : ∀ (cs : List Col) (ys : List V), errL cs ys = 0 → ∀ (j : Nat) (d : Col) (z : V), cs[j]? = some d → ys[j]? = some z → takesE d z = 0
  | [], _, _, j, d, z, hd, _ => by simp at hd
  | _ :: _, [], _, j, d, z, _, hz => by simp at hz
  | c :: cs, y :: ys, h, j, d, z, hd, hz => by
    unfold errL at h
    by_cases hc : takesE c y = 0
    · rw [if_pos hc] at h
      cases j with
      | zero =>
        have e1 : c = d := by simpa using hd
        have e2 : y = z := by simpa using hz
        subst e1 e2; exact hc
      | succ j => exact errL_zero cs ys h j d z (by simpa using hd) (by simpa using hz)
    · rw [if_neg hc] at h; exact absurd h hc
/-- What Fill answers. -/
def fillE (cs : List Col) (xs : List V) : Int := if cs.length < xs.length then 22 else errL cs (padL cs xs)
def fillL (cs : List Col) (xs : List V) : List V := if fillE cs xs = 0 then padL cs xs else []
/-- What Add answers. -/
def addE (cs : List Col) (c : Col) : Int := if colsB cs && colB c then (if 0 ≤ findN cs c.nm then 62 else if 6 ≤ cs.length then 3 else if c.nn && c.d.k == 0 then 21 else 0) else 11
def addL (cs : List Col) (c : Col) : List Col := if addE cs c = 0 then cs ++ [c] else []
theorem colsB_one (c : Col) : colsB [c] = colB c := by
  have hf : findN [c] c.nm = 0 := findN_hit (k := 0) (c := c) rfl rfl (fun j d hj => absurd hj (Nat.not_lt_zero j))
  unfold colsB
  simp [hf]
end Vl
end Go.Proofs.Ytaclkmhgbmencaa
