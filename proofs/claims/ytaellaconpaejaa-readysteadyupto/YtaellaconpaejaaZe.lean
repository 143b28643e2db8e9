/- Rows of lists in memory of their own, laid one behind the other. -/
import Derived.Test.YtaellaconpaejaaZd0
set_option linter.unusedVariables false
namespace Go.Proofs.Ytaellaconpaejaa
open Go.RowKit

/-- Lists of numbers, each in memory of its own, one behind the other, from m on up to p. -/
def InnerK (w : World) (m p : Nat) (F : Nat → List Int) (v : Nat → Value) (k : Nat) : Prop := ∃ B : Nat → Nat, (∀ j, j < k → w.ownsRow (B j) 3 1 (v j) (F j).length (ivs (F j)) ∧ ∀ x, (v j).ownBlock = some x → x < B (j + 1)) ∧ (∀ j, j < k → B j ≤ B (j + 1)) ∧ B 0 = m ∧ B k ≤ p

theorem mono_le {B : Nat → Nat} {k : Nat} (h : ∀ j, j < k → B j ≤ B (j + 1)) : ∀ i j, i ≤ j → j ≤ k → B i ≤ B j := by
  intro i j
  induction j with
  | zero => intro h1 _; rw [Nat.le_zero.1 h1]; exact Nat.le_refl _
  | succ j ih =>
    intro h1 h2
    by_cases e : i = j + 1
    · rw [e]; exact Nat.le_refl _
    · exact Nat.le_trans (ih (by omega) (by omega)) (h j (by omega))

theorem InnerK.zero (w : World) (m p : Nat) (F : Nat → List Int) (v : Nat → Value) (h : m ≤ p) : InnerK w m p F v 0 := ⟨fun _ => m, fun j hj => by omega, fun j hj => by omega, rfl, h⟩
theorem InnerK.agree {w w' : World} {m p : Nat} {F : Nat → List Int} {v : Nat → Value} {k : Nat} (h : InnerK w m p F v k) (hk : ∀ x, m ≤ x → x < p → w'.heap[x]? = w.heap[x]?) : InnerK w' m p F v k := by
  obtain ⟨B, h3, h4, h5, h6⟩ := h
  refine ⟨B, fun j hj => ?_, h4, h5, h6⟩
  obtain ⟨o, u⟩ := h3 j hj
  refine ⟨owns_agree o (fun x hx => hk x ?_ ?_), u⟩
  · have := owns_ge o x hx
    have := mono_le h4 0 j (by omega) (by omega)
    omega
  · have := u x hx
    have := mono_le h4 (j + 1) k (by omega) (by omega)
    omega
theorem InnerK.more {w : World} {m p p' : Nat} {F : Nat → List Int} {v : Nat → Value} {k : Nat} (h : InnerK w m p F v k) (hp : p ≤ p') : InnerK w m p' F v k := by
  obtain ⟨B, h3, h4, h5, h6⟩ := h
  exact ⟨B, h3, h4, h5, by omega⟩
theorem InnerK.next {w : World} {m p p' : Nat} {F : Nat → List Int} {v : Nat → Value} {k : Nat} {u : Value} (h : InnerK w m p F v k) (hown : w.ownsRow p 3 1 u (F k).length (ivs (F k))) (hp : p ≤ p') (hu : ∀ x, u.ownBlock = some x → x < p') : InnerK w m p' F (fun j => if j = k then u else v j) (k + 1) := by
  obtain ⟨B, h3, h4, h5, h6⟩ := h
  refine ⟨fun j => if j ≤ k then B j else p', fun j hj => ?_, fun j hj => ?_, by simp [h5], by dsimp only; rw [if_neg (by omega)]; exact Nat.le_refl _⟩
  · by_cases e : j = k
    · subst e
      simp only [if_pos (Nat.le_refl _), if_true, if_neg (show ¬ j + 1 ≤ j by omega)]
      exact ⟨ownsx_mono hown h6, hu⟩
    · simp only [if_neg e, if_pos (show j ≤ k by omega), if_pos (show j + 1 ≤ k by omega)]
      exact h3 j (by omega)
  · by_cases e : j = k
    · subst e
      simp only [if_pos (Nat.le_refl _), if_neg (show ¬ j + 1 ≤ j by omega)]
      omega
    · simp only [if_pos (show j ≤ k by omega), if_pos (show j + 1 ≤ k by omega)]
      exact h4 j (by omega)

/-- Rings: the first k of them are laid. -/
def RingsK (w : World) (g m p : Nat) (L : List (List Int × Int)) (k : Nat) : Prop := ∃ (cs : List Value) (v : Nat → Value), RowAt w g 63 cs ∧ cs.length = L.length * 2 ∧ (∀ j, j < k → cs[j * 2]? = some (v j) ∧ cs[j * 2 + 1]? = some (.int .i64 (L.getD j ([], 0)).2)) ∧ InnerK w m p (fun j => (L.getD j ([], 0)).1) v k
/-- Lists: the first k of them are laid. -/
def ListsK (w : World) (g m p : Nat) (L : List (List Int)) (k : Nat) : Prop := ∃ (cs : List Value) (v : Nat → Value), RowAt w g 42 cs ∧ cs.length = L.length ∧ (∀ j, j < k → cs[j]? = some (v j)) ∧ InnerK w m p (fun j => L.getD j []) v k

theorem RingsK.agree {w w' : World} {g m p : Nat} {L : List (List Int × Int)} {k : Nat} (h : RingsK w g m p L k) (hk : ∀ x, x = g ∨ m ≤ x ∧ x < p → w'.heap[x]? = w.heap[x]?) : RingsK w' g m p L k := by
  obtain ⟨cs, v, h1, h2, h3, h4⟩ := h
  exact ⟨cs, v, (hk g (.inl rfl)).trans h1, h2, h3, h4.agree (fun x a b => hk x (.inr ⟨a, b⟩))⟩
theorem ListsK.agree {w w' : World} {g m p : Nat} {L : List (List Int)} {k : Nat} (h : ListsK w g m p L k) (hk : ∀ x, x = g ∨ m ≤ x ∧ x < p → w'.heap[x]? = w.heap[x]?) : ListsK w' g m p L k := by
  obtain ⟨cs, v, h1, h2, h3, h4⟩ := h
  exact ⟨cs, v, (hk g (.inl rfl)).trans h1, h2, h3, h4.agree (fun x a b => hk x (.inr ⟨a, b⟩))⟩
theorem RingsK.lt {w : World} {g m p : Nat} {L : List (List Int × Int)} {k : Nat} (h : RingsK w g m p L k) : g < w.heap.size := by
  obtain ⟨cs, v, h1, _⟩ := h
  exact (Array.getElem?_eq_some_iff.1 h1).1
theorem ListsK.lt {w : World} {g m p : Nat} {L : List (List Int)} {k : Nat} (h : ListsK w g m p L k) : g < w.heap.size := by
  obtain ⟨cs, v, h1, _⟩ := h
  exact (Array.getElem?_eq_some_iff.1 h1).1
theorem RingsK.keep {w w' : World} {g m p : Nat} {L : List (List Int × Int)} {k : Nat} (h : RingsK w g m p L k) (hp : p ≤ w.heap.size) (hb : Below w.heap.size w w') : RingsK w' g m p L k :=
  h.agree (fun x hx => hb.block x (by have := h.lt; rcases hx with rfl | ⟨_, _⟩ <;> omega))
theorem ListsK.keep {w w' : World} {g m p : Nat} {L : List (List Int)} {k : Nat} (h : ListsK w g m p L k) (hp : p ≤ w.heap.size) (hb : Below w.heap.size w w') : ListsK w' g m p L k :=
  h.agree (fun x hx => hb.block x (by have := h.lt; rcases hx with rfl | ⟨_, _⟩ <;> omega))

theorem rowAt_set1 {w : World} {g : Nat} {t : TypeId} {cs : List Value} (h : RowAt w g t cs) (o : Nat) (u : Value) : RowAt (w.setCell ⟨g, o, none⟩ u) g t (cs.set o u) := by
  have := set_atx (o := o) (v' := u) (show w.heap[g]? = _ from h)
  rw [List.setIfInBounds_toArray] at this
  exact this
theorem heap_set_ne (w : World) (g o : Nat) (u : Value) (k : Nat) (h : k ≠ g) : (w.setCell ⟨g, o, none⟩ u).heap[k]? = w.heap[k]? := Below.heap_setCell _ _ _ k (fun e => h e)

theorem RingsK.next {w w5 : World} {g m p : Nat} {L : List (List Int × Int)} {k : Nat} {u : Value} (h : RingsK w g m p L k) (hg : g < m) (hk : k < L.length) (hp : p ≤ w.heap.size) (hb : Below w.heap.size w w5) (hown : w5.ownsRow p 3 1 u L[k].1.length (ivs L[k].1)) :
    RingsK ((w5.setCell ⟨g, k * 2, none⟩ u).setCell ⟨g, k * 2 + 1, none⟩ (.int .i64 L[k].2)) g m w5.heap.size L (k + 1) := by
  obtain ⟨cs, v, h1, h2, h3, h4⟩ := h.keep hp hb
  have hs := hb.size
  have eK : L.getD k ([], 0) = L[k] := by simp [hk]
  refine ⟨(cs.set (k * 2) u).set (k * 2 + 1) (.int .i64 L[k].2), fun j => if j = k then u else v j, rowAt_set1 (rowAt_set1 h1 _ _) _ _, by simp [h2], fun j hj => ?_, ?_⟩
  · by_cases e : j = k
    · subst e
      rw [eK]
      simp only [if_true]
      exact ⟨by rw [List.getElem?_set_ne (by omega)]; exact List.getElem?_set_self (by omega), List.getElem?_set_self (by rw [List.length_set]; omega)⟩
    · simp only [if_neg e]
      have := h3 j (by omega)
      exact ⟨by rw [List.getElem?_set_ne (by omega), List.getElem?_set_ne (by omega)]; exact this.1, by rw [List.getElem?_set_ne (by omega), List.getElem?_set_ne (by omega)]; exact this.2⟩
  · have hI := h4.next (k := k) (u := u) (p' := w5.heap.size) (by rw [eK]; exact hown) (by omega) (fun x hx => owns_lt hown x hx)
    refine hI.agree (fun x hx1 hx2 => ?_)
    rw [heap_set_ne _ _ _ _ x (by omega), heap_set_ne _ _ _ _ x (by omega)]
theorem ListsK.next {w w5 : World} {g m p : Nat} {L : List (List Int)} {k : Nat} {u : Value} (h : ListsK w g m p L k) (hg : g < m) (hk : k < L.length) (hp : p ≤ w.heap.size) (hb : Below w.heap.size w w5) (hown : w5.ownsRow p 3 1 u L[k].length (ivs L[k])) :
    ListsK (w5.setCell ⟨g, k, none⟩ u) g m w5.heap.size L (k + 1) := by
  obtain ⟨cs, v, h1, h2, h3, h4⟩ := h.keep hp hb
  have hs := hb.size
  have eK : L.getD k [] = L[k] := by simp [hk]
  refine ⟨cs.set k u, fun j => if j = k then u else v j, rowAt_set1 h1 _ _, by simp [h2], fun j hj => ?_, ?_⟩
  · by_cases e : j = k
    · subst e
      simp only [if_true]
      exact List.getElem?_set_self (by omega)
    · simp only [if_neg e]
      rw [List.getElem?_set_ne (by omega)]
      exact h3 j (by omega)
  · have hI := h4.next (k := k) (u := u) (p' := w5.heap.size) (by rw [eK]; exact hown) (by omega) (fun x hx => owns_lt hown x hx)
    refine hI.agree (fun x hx1 hx2 => ?_)
    rw [heap_set_ne _ _ _ _ x (by omega)]

theorem RingsK.rings {w : World} {g m p : Nat} {L : List (List Int × Int)} (h : RingsK w g m p L L.length) : RingsIn w (some ⟨g, 0, none⟩) L := by
  obtain ⟨cs, v, h1, h2, h3, B, h4, _⟩ := h
  intro i hi
  obtain ⟨c0, c1⟩ := h3 i hi
  obtain ⟨o, _⟩ := h4 i hi
  have e : L.getD i ([], 0) = L[i] := by simp [hi]
  simp only [e] at o c1
  obtain ⟨a, c, ev, hc, hm, hI, _⟩ := owns_cells o
  refine ⟨g, 0, a, c, rfl, ?_, ?_, intsIn_of hI, hc, by simp only [maxLen] at hm; omega⟩
  · rw [ev] at c0
    rw [Nat.zero_add]
    exact h1.cell _ _ c0
  · rw [Nat.zero_add]
    exact h1.cell _ _ c1
theorem ListsK.lists {w : World} {g m p : Nat} {L : List (List Int)} (h : ListsK w g m p L L.length) : ListsIn w (some ⟨g, 0, none⟩) L := by
  obtain ⟨cs, v, h1, h2, h3, B, h4, _⟩ := h
  intro i hi
  have c0 := h3 i hi
  obtain ⟨o, _⟩ := h4 i hi
  have e : L.getD i [] = L[i] := by simp [hi]
  simp only [e] at o
  obtain ⟨a, c, ev, hc, hm, hI, _⟩ := owns_cells o
  refine ⟨g, 0, a, c, rfl, ?_, intsIn_of hI, hc, by simp only [maxLen] at hm; omega⟩
  rw [ev] at c0
  rw [Nat.zero_add]
  exact h1.cell _ _ c0

theorem RingsK.start {w : World} {n0 g m : Nat} {L : List (List Int × Int)} (h : w.heap[g]? = some (.cells (madeCells #[.slice none 0 0, .int .i64 0] (L.length * 2)) 63 (0, 0))) : RingsK w g m m L 0 :=
  ⟨(madeCells #[.slice none 0 0, .int .i64 0] (L.length * 2)).toList, fun _ => .slice none 0 0, by simpa [RowAt] using h, by simp [size_madeCells], fun j hj => by omega, InnerK.zero _ _ _ _ _ (Nat.le_refl _)⟩
theorem ListsK.start {w : World} {g m : Nat} {L : List (List Int)} (h : w.heap[g]? = some (.cells (madeCells #[.slice none 0 0] L.length) 42 (0, 0))) : ListsK w g m m L 0 :=
  ⟨(madeCells #[.slice none 0 0] L.length).toList, fun _ => .slice none 0 0, by simpa [RowAt] using h, by simp [size_madeCells], fun j hj => by omega, InnerK.zero _ _ _ _ _ (Nat.le_refl _)⟩

theorem far2 {w : World} {x i b o1 o2 : Nat} {u v1 v2 : Value} (h : w.cell? ⟨x, i, none⟩ = some u) (hne : b ≠ x) : ((w.setCell ⟨b, o1, none⟩ v1).setCell ⟨b, o2, none⟩ v2).cell? ⟨x, i, none⟩ = some u := by
  rw [World.cell?_setCell_far _ _ _ _ hne, World.cell?_setCell_far _ _ _ _ hne]; exact h
theorem far1 {w : World} {x i b o1 : Nat} {u v1 : Value} (h : w.cell? ⟨x, i, none⟩ = some u) (hne : b ≠ x) : (w.setCell ⟨b, o1, none⟩ v1).cell? ⟨x, i, none⟩ = some u := by
  rw [World.cell?_setCell_far _ _ _ _ hne]; exact h
/-- All but one block is as it was. -/
def AgreeBut (g : Nat) (w w' : World) : Prop := w.heap.size ≤ w'.heap.size ∧ ∀ x, x ≠ g → x < w.heap.size → w'.heap[x]? = w.heap[x]?
theorem AgreeBut.refl (g : Nat) (w : World) : AgreeBut g w w := ⟨Nat.le_refl _, fun _ _ _ => rfl⟩
theorem AgreeBut.below {g : Nat} {w w' w'' : World} (h : AgreeBut g w w') (hb : Below w'.heap.size w' w'') : AgreeBut g w w'' :=
  ⟨Nat.le_trans h.1 hb.size, fun x hx hl => (hb.block x (by have := h.1; omega)).trans (h.2 x hx hl)⟩
theorem AgreeBut.set {g : Nat} {w w' : World} (h : AgreeBut g w w') (o : Nat) (u : Value) : AgreeBut g w (w'.setCell ⟨g, o, none⟩ u) :=
  ⟨Nat.le_trans h.1 ((Below.refl 0 w').setCell (p := ⟨g, o, none⟩) (Nat.zero_le _) u).size, fun x hx hl => (heap_set_ne w' g o u x hx).trans (h.2 x hx hl)⟩

theorem RingsK.cellAt {w : World} {g m p : Nat} {L : List (List Int × Int)} {k : Nat} (h : RingsK w g m p L k) (i : Nat) (hi : i < L.length) : (∃ u, w.cell? ⟨g, i * 2, none⟩ = some u) ∧ (∃ u, w.cell? ⟨g, i * 2 + 1, none⟩ = some u) ∧ w.frozen? ⟨g, i * 2, none⟩ = false ∧ w.frozen? ⟨g, i * 2 + 1, none⟩ = false := by
  obtain ⟨cs, v, h1, h2, h3⟩ := h
  exact ⟨⟨_, h1.cell (i * 2) cs[i * 2] (by simp)⟩, ⟨_, h1.cell (i * 2 + 1) cs[i * 2 + 1] (by simp)⟩, h1.frozen _, h1.frozen _⟩
theorem ListsK.cellAt {w : World} {g m p : Nat} {L : List (List Int)} {k : Nat} (h : ListsK w g m p L k) (i : Nat) (hi : i < L.length) : (∃ u, w.cell? ⟨g, i, none⟩ = some u) ∧ w.frozen? ⟨g, i, none⟩ = false := by
  obtain ⟨cs, v, h1, h2, h3⟩ := h
  exact ⟨⟨_, h1.cell i cs[i] (by simp)⟩, h1.frozen _⟩

/-- A domain whose lists all lie in memory of their own, from base on: the rows ahead of m, the rings' lists from m to p, the lists to be sent from p to q. -/
structure DomOwn (base : Nat) (w : World) (A : DMem) (D : Dom) (gI gO m p q : Nat) : Prop where
  j : w.ownsRow base 106 6 (.slice A.aJ D.jobs.length A.cJ) D.jobs.length (fJ D.jobs)
  r : w.ownsRow base 3 1 (.slice A.aR D.rel.length A.cR) D.rel.length (ivs D.rel)
  t : w.ownsRow base 3 1 (.slice A.aT D.tak.length A.cT) D.tak.length (ivs D.tak)
  e : w.ownsRow base 150 4 (.slice A.aE D.evs.length A.cE) D.evs.length (fE D.evs)
  rt : ∀ x, (Value.slice A.aR D.rel.length A.cR).ownBlock = some x → (Value.slice A.aT D.tak.length A.cT).ownBlock ≠ some x
  i : RingsK w gI m p D.ins D.ins.length
  o : ListsK w gO p q D.out D.out.length
  aI : A.aI = some ⟨gI, 0, none⟩
  aO : A.aO = some ⟨gO, 0, none⟩
  cI : A.cI = D.ins.length
  cO : A.cO = D.out.length
  bI : base ≤ gI ∧ gI < m
  bO : base ≤ gO ∧ gO < m
  mp : m ≤ p ∧ p ≤ q ∧ q ≤ w.heap.size
  lt : ∀ x, (Value.slice A.aJ D.jobs.length A.cJ).ownBlock = some x ∨ (Value.slice A.aR D.rel.length A.cR).ownBlock = some x ∨ (Value.slice A.aT D.tak.length A.cT).ownBlock = some x ∨ (Value.slice A.aE D.evs.length A.cE).ownBlock = some x → x < m

theorem owns_ne2 {w : World} {base e sz n g t : Nat} {v : Value} {xs : List Value} {cur : Array Value} {fz : Nat × Nat} (h : w.ownsRow base e sz v n xs) (hr : w.heap[g]? = some (.cells cur t fz)) (hne : e ≠ t) : ∀ k, v.ownBlock = some k → k ≠ g := by
  intro k hk e0
  subst e0
  rcases h.2 with ⟨q, _⟩ | ⟨g', cap, cur', e1, e2, e3, r⟩
  · rw [q] at hk; cases hk
  · rw [e1] at hk
    simp only [Value.ownBlock, Option.some.injEq] at hk
    subst hk
    rw [hr] at e3
    simp at e3
    exact hne e3.2.1.symm
theorem RingsK.more {w : World} {g m p p' : Nat} {L : List (List Int × Int)} {k : Nat} (h : RingsK w g m p L k) (hp : p ≤ p') : RingsK w g m p' L k := by
  obtain ⟨cs, v, h1, h2, h3, h4⟩ := h
  exact ⟨cs, v, h1, h2, h3, h4.more hp⟩
theorem owns_in {w : World} {base e sz n c : Nat} {a : Option Addr} {xs : List Value} (h : w.ownsRow base e sz (.slice a n c) n xs) : CellsIn w a xs ∧ n ≤ c ∧ n ≤ 9223372036854775807 := by
  obtain ⟨a', c', ev, hc, hm, hI, _⟩ := owns_cells h
  cases ev
  exact ⟨hI, hc, by simp only [maxLen] at hm; omega⟩
theorem DomOwn.dom {base : Nat} {w : World} {A : DMem} {D : Dom} {gI gO m p q : Nat} (h : DomOwn base w A D gI gO m p q) (hI : D.ins.length ≤ 9223372036854775807) (hO : D.out.length ≤ 9223372036854775807) : DomIn w A D :=
  ⟨jobsIn_of (owns_in h.j).1, intsIn_of (owns_in h.r).1, by rw [h.aI]; exact h.i.rings, intsIn_of (owns_in h.t).1, by rw [h.aO]; exact h.o.lists, evsIn_of (owns_in h.e).1, (owns_in h.j).2.2, (owns_in h.r).2.2, hI, (owns_in h.t).2.2, hO, (owns_in h.e).2.2⟩
theorem DomOwn.keep {base : Nat} {w w' : World} {A : DMem} {D : Dom} {gI gO m p q : Nat} (h : DomOwn base w A D gI gO m p q) (hb : Below w.heap.size w w') : DomOwn base w' A D gI gO m p q :=
  ⟨owns_below h.j hb, owns_below h.r hb, owns_below h.t hb, owns_below h.e hb, h.rt, h.i.keep (by have := h.mp; omega) hb, h.o.keep (by have := h.mp; omega) hb, h.aI, h.aO, h.cI, h.cO, h.bI, h.bO, ⟨h.mp.1, h.mp.2.1, Nat.le_trans h.mp.2.2 hb.size⟩, h.lt⟩

theorem DomOwn.agree {base : Nat} {w w' : World} {A : DMem} {D : Dom} {gI gO m p q : Nat} (h : DomOwn base w A D gI gO m p q) (hs : w.heap.size ≤ w'.heap.size) (hk : ∀ x, base ≤ x → x < w.heap.size → w'.heap[x]? = w.heap[x]?) : DomOwn base w' A D gI gO m p q := by
  have hm := h.mp
  have hI := h.bI
  have hO := h.bO
  exact ⟨owns_agree h.j (fun x hx => hk x (owns_ge h.j x hx) (owns_lt h.j x hx)), owns_agree h.r (fun x hx => hk x (owns_ge h.r x hx) (owns_lt h.r x hx)), owns_agree h.t (fun x hx => hk x (owns_ge h.t x hx) (owns_lt h.t x hx)), owns_agree h.e (fun x hx => hk x (owns_ge h.e x hx) (owns_lt h.e x hx)), h.rt,
    h.i.agree (fun x hx => hk x (by rcases hx with rfl | ⟨_, _⟩ <;> omega) (by rcases hx with rfl | ⟨_, _⟩ <;> omega)), h.o.agree (fun x hx => hk x (by rcases hx with rfl | ⟨_, _⟩ <;> omega) (by rcases hx with rfl | ⟨_, _⟩ <;> omega)), h.aI, h.aO, h.cI, h.cO, h.bI, h.bO, ⟨hm.1, hm.2.1, by omega⟩, h.lt⟩
theorem DomOwn.base {base base' : Nat} {w : World} {A : DMem} {D : Dom} {gI gO m p q : Nat} (h : DomOwn base w A D gI gO m p q) (hb : base' ≤ base) : DomOwn base' w A D gI gO m p q :=
  ⟨ownsx_mono h.j hb, ownsx_mono h.r hb, ownsx_mono h.t hb, ownsx_mono h.e hb, h.rt, h.i, h.o, h.aI, h.aO, h.cI, h.cO, ⟨Nat.le_trans hb h.bI.1, h.bI.2⟩, ⟨Nat.le_trans hb h.bO.1, h.bO.2⟩, h.mp, h.lt⟩

end Go.Proofs.Ytaellaconpaejaa
