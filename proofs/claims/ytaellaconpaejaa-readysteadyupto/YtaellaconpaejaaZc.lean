/- Walks: a copy of a domain: its first statement. Made by genzc.py. -/
import Derived.Test.YtaellaconpaejaaZb
set_option linter.unusedVariables false
namespace Go.Proofs.Ytaellaconpaejaa
open Go.RowKit

/-- A slice that make made, of things of one cell, of two. -/
def Made1 (n0 : Nat) (w : World) (v : Value) (n : Nat) : Prop := ∃ g, v = .slice (some ⟨g, 0, none⟩) n n ∧ n0 ≤ g ∧ w.heap[g]? = some (.cells (madeCells #[.slice none 0 0] n) 42 (0, 0))
def Made2 (n0 : Nat) (w : World) (v : Value) (n : Nat) : Prop := ∃ g, v = .slice (some ⟨g, 0, none⟩) n n ∧ n0 ≤ g ∧ w.heap[g]? = some (.cells (madeCells #[.slice none 0 0, .int .i64 0] (n * 2)) 63 (0, 0))
/-- A box that holds an empty domain. -/
def Box7 (n0 : Nat) (w : World) (v : Value) : Prop := ∃ g, v = .pointer (some ⟨g, 0, none⟩) ∧ n0 ≤ g ∧ RowAt w g 90 [.slice none 0 0, .slice none 0 0, .int .i64 0, .slice none 0 0, .slice none 0 0, .slice none 0 0, .slice none 0 0]

theorem Made1.keep {n0 : Nat} {w w' : World} {v : Value} {n : Nat} (h : Made1 n0 w v n) (hb : Below w.heap.size w w') : Made1 n0 w' v n := by
  obtain ⟨g, e, h1, h2⟩ := h
  exact ⟨g, e, h1, by rw [hb.block g (Array.getElem?_eq_some_iff.1 h2).1]; exact h2⟩
theorem Made2.keep {n0 : Nat} {w w' : World} {v : Value} {n : Nat} (h : Made2 n0 w v n) (hb : Below w.heap.size w w') : Made2 n0 w' v n := by
  obtain ⟨g, e, h1, h2⟩ := h
  exact ⟨g, e, h1, by rw [hb.block g (Array.getElem?_eq_some_iff.1 h2).1]; exact h2⟩
theorem Box7.keep {n0 : Nat} {w w' : World} {v : Value} (h : Box7 n0 w v) (hb : Below w.heap.size w w') : Box7 n0 w' v := by
  obtain ⟨g, e, h1, h2⟩ := h
  exact ⟨g, e, h1, h2.below hb (Nat.le_refl _)⟩

def upd (x : Nat → Value) (s : Nat) (v : Value) : Nat → Value := fun t => if t = s then v else x t
/-- The slot that an operation of the region writes. -/
def dS : Nat → Nat
  | 0 => 8
  | 1 => 9
  | 2 => 10
  | 3 => 11
  | 4 => 12
  | 5 => 13
  | 6 => 14
  | 7 => 15
  | 8 => 16
  | 9 => 17
  | 10 => 18
  | 11 => 19
  | 12 => 20
  | 13 => 21
  | 14 => 22
  | 15 => 23
  | 16 => 24
  | 17 => 25
  | 18 => 26
  | 19 => 27
  | 20 => 28
  | 21 => 29
  | 22 => 30
  | 23 => 3
  | _ => 99
/-- The operations whose slots a fact speaks of. -/
def dO : Nat → List Nat
  | 14 => [5, 14]
  | 22 => [2, 5, 11, 14, 18, 21, 22]
  | i => [i]
/-- What holds once operation i is done. -/
def FC (D : Dom) (A : DMem) (n0 db : Nat) (i : Nat) (x : Nat → Value) (w : World) : Prop :=
  match i with
  | 0 => x 8 = .pointer (some ⟨db, 0, none⟩)
  | 1 => x 9 = .slice A.aJ D.jobs.length A.cJ
  | 2 => w.ownsRow n0 106 6 (x 10) D.jobs.length (fJ D.jobs)
  | 3 => x 11 = .pointer (some ⟨db, 1, none⟩)
  | 4 => x 12 = .slice A.aR D.rel.length A.cR
  | 5 => w.ownsRow n0 3 1 (x 13) D.rel.length (ivs D.rel)
  | 6 => x 14 = .pointer (some ⟨db, 2, none⟩)
  | 7 => x 15 = .int .i64 D.nxt
  | 8 => x 16 = .pointer (some ⟨db, 3, none⟩)
  | 9 => x 17 = .slice A.aI D.ins.length A.cI
  | 10 => x 18 = .int .i64 D.ins.length
  | 11 => Made2 n0 w (x 19) D.ins.length
  | 12 => x 20 = .pointer (some ⟨db, 4, none⟩)
  | 13 => x 21 = .slice A.aT D.tak.length A.cT
  | 14 => w.ownsRow n0 3 1 (x 22) D.tak.length (ivs D.tak) ∧ ∀ g, (x 13).ownBlock = some g → (x 22).ownBlock ≠ some g
  | 15 => x 23 = .pointer (some ⟨db, 5, none⟩)
  | 16 => x 24 = .slice A.aO D.out.length A.cO
  | 17 => x 25 = .int .i64 D.out.length
  | 18 => Made1 n0 w (x 26) D.out.length
  | 19 => x 27 = .pointer (some ⟨db, 6, none⟩)
  | 20 => x 28 = .slice A.aE D.evs.length A.cE
  | 21 => w.ownsRow n0 150 4 (x 29) D.evs.length (fE D.evs)
  | 22 => x 30 = .agg #[x 10, x 13, .int .i64 D.nxt, x 19, x 22, x 26, x 29]
  | 23 => Box7 n0 w (x 3)
  | _ => True
def AF (D : Dom) (A : DMem) (db rb : Nat) (x : Nat → Value) : Act := { tmps := #[dv D A, .pointer (some ⟨db, 0, none⟩), .pointer (some ⟨rb, 0, none⟩), x 3, undef, undef, undef, undef, x 8, x 9, x 10, x 11, x 12, x 13, x 14, x 15, x 16, x 17, x 18, x 19, x 20, x 21, x 22, x 23, x 24, x 25, x 26, x 27, x 28, x 29, x 30, undef, undef, undef, undef, undef, undef, undef, undef, undef, undef, undef, undef, undef, undef, undef, undef, undef, undef, undef, undef, undef, undef, undef, undef, undef, undef, undef, undef, undef, undef, undef, undef, undef, undef, undef], defers := [] }

theorem fc_keep {D : Dom} {A : DMem} {n0 db : Nat} {x x' : Nat → Value} {w w' : World} (hb : Below w.heap.size w w') (i : Nat) (hx : ∀ j ∈ dO i, x' (dS j) = x (dS j)) (h : FC D A n0 db i x w) : FC D A n0 db i x' w' := by
  match i with
  | 0 => exact (hx 0 (by simp [dO])).trans h
  | 1 => exact (hx 1 (by simp [dO])).trans h
  | 2 => have e : x' 10 = x 10 := hx 2 (by simp [dO]); show World.ownsRow _ _ _ _ (x' 10) _ _; rw [e]; exact owns_below h hb
  | 3 => exact (hx 3 (by simp [dO])).trans h
  | 4 => exact (hx 4 (by simp [dO])).trans h
  | 5 => have e : x' 13 = x 13 := hx 5 (by simp [dO]); show World.ownsRow _ _ _ _ (x' 13) _ _; rw [e]; exact owns_below h hb
  | 6 => exact (hx 6 (by simp [dO])).trans h
  | 7 => exact (hx 7 (by simp [dO])).trans h
  | 8 => exact (hx 8 (by simp [dO])).trans h
  | 9 => exact (hx 9 (by simp [dO])).trans h
  | 10 => exact (hx 10 (by simp [dO])).trans h
  | 11 => have e : x' 19 = x 19 := hx 11 (by simp [dO]); show Made2 _ _ (x' 19) _; rw [e]; exact Made2.keep h hb
  | 12 => exact (hx 12 (by simp [dO])).trans h
  | 13 => exact (hx 13 (by simp [dO])).trans h
  | 14 =>
    have e : x' 22 = x 22 := hx 14 (by simp [dO])
    have e2 : x' 13 = x 13 := hx 5 (by simp [dO])
    show World.ownsRow _ _ _ _ (x' 22) _ _ ∧ ∀ g, (x' 13).ownBlock = some g → (x' 22).ownBlock ≠ some g
    rw [e, e2]
    exact ⟨owns_below h.1 hb, h.2⟩
  | 15 => exact (hx 15 (by simp [dO])).trans h
  | 16 => exact (hx 16 (by simp [dO])).trans h
  | 17 => exact (hx 17 (by simp [dO])).trans h
  | 18 => have e : x' 26 = x 26 := hx 18 (by simp [dO]); show Made1 _ _ (x' 26) _; rw [e]; exact Made1.keep h hb
  | 19 => exact (hx 19 (by simp [dO])).trans h
  | 20 => exact (hx 20 (by simp [dO])).trans h
  | 21 => have e : x' 29 = x 29 := hx 21 (by simp [dO]); show World.ownsRow _ _ _ _ (x' 29) _ _; rw [e]; exact owns_below h hb
  | 22 =>
    have e0 : x' 30 = x 30 := hx 22 (by simp [dO])
    have e1 : x' 10 = x 10 := hx 2 (by simp [dO])
    have e2 : x' 13 = x 13 := hx 5 (by simp [dO])
    have e3 : x' 19 = x 19 := hx 11 (by simp [dO])
    have e4 : x' 22 = x 22 := hx 14 (by simp [dO])
    have e5 : x' 26 = x 26 := hx 18 (by simp [dO])
    have e6 : x' 29 = x 29 := hx 21 (by simp [dO])
    show x' 30 = .agg #[x' 10, x' 13, .int .i64 D.nxt, x' 19, x' 22, x' 26, x' 29]
    rw [e0, e1, e2, e3, e4, e5, e6]
    exact h
  | 23 => have e : x' 3 = x 3 := hx 23 (by simp [dO]); show Box7 _ _ (x' 3); rw [e]; exact Box7.keep h hb
  | n + 24 => trivial

theorem dS_inj : ∀ i, i < 24 → ∀ j, j < 24 → i ≠ j → dS i ≠ dS j := by decide
theorem dO_lt : ∀ i, i < 24 → ∀ j ∈ dO i, j < 24 := by decide

/-- What holds in the midst of the region. -/
structure RP (D : Dom) (A : DMem) (W : World) (db : Nat) (l : Array Bool) (x : Nat → Value) (w : World) : Prop where
  sz : l.size = 25
  b : Below W.heap.size W w
  st : l.getD 24 false = false
  l14 : l.getD 14 false = true → l.getD 5 false = true
  l22 : l.getD 22 false = true → l.getD 2 false = true ∧ l.getD 5 false = true ∧ l.getD 11 false = true ∧ l.getD 14 false = true ∧ l.getD 18 false = true ∧ l.getD 21 false = true
  fc : ∀ i, l.getD i false = true → FC D A W.heap.size db i x w

theorem getD_set_self {l : Array Bool} {i : Nat} (h : i < l.size) : (l.setIfInBounds i true).getD i false = true := by
  simp [Array.getD_eq_getD_getElem?, h]

theorem rp_next {D : Dom} {A : DMem} {W : World} {db : Nat} {l : Array Bool} {x : Nat → Value} {w w' : World} (i : Nat) (v : Value) (h : RP D A W db l x w) (hi : i < 24) (hl : l.getD i false = false) (hb : Below w.heap.size w w')
    (hF : FC D A W.heap.size db i (upd x (dS i) v) w') (h14 : i = 14 → l.getD 5 false = true) (h22 : i = 22 → l.getD 2 false = true ∧ l.getD 5 false = true ∧ l.getD 11 false = true ∧ l.getD 14 false = true ∧ l.getD 18 false = true ∧ l.getD 21 false = true) :
    RP D A W db (l.setIfInBounds i true) (upd x (dS i) v) w' := by
  have up : ∀ {j}, l.getD j false = true → (l.setIfInBounds i true).getD j false = true := fun hj => getD_set_true hj
  have dn : ∀ {j}, j ≠ i → (l.setIfInBounds i true).getD j false = true → l.getD j false = true := fun hne hj => by rw [getD_set_ne false (Ne.symm hne)] at hj; exact hj
  refine ⟨by simpa using h.sz, btrans h.b hb, ?_, ?_, ?_, ?_⟩
  · rw [getD_set_ne false (by omega)]; exact h.st
  · intro hj
    by_cases e : i = 14
    · exact up (h14 e)
    · exact up (h.l14 (dn (Ne.symm e) hj))
  · intro hj
    by_cases e : i = 22
    · obtain ⟨a1, a2, a3, a4, a5, a6⟩ := h22 e
      exact ⟨up a1, up a2, up a3, up a4, up a5, up a6⟩
    · obtain ⟨a1, a2, a3, a4, a5, a6⟩ := h.l22 (dn (Ne.symm e) hj)
      exact ⟨up a1, up a2, up a3, up a4, up a5, up a6⟩
  · intro j hj
    by_cases e : j = i
    · subst e; exact hF
    · have hlj := dn e hj
      have hj25 : j < 25 := by
        rcases Nat.lt_or_ge j 25 with h' | h'
        · exact h'
        · have : l.size ≤ j := by rw [h.sz]; exact h'
          simp [Array.getD_eq_getD_getElem?, Array.getElem?_eq_none this] at hlj
      have hj24 : j ≠ 24 := fun e => by rw [e, h.st] at hlj; cases hlj
      refine fc_keep hb j (fun k hk => ?_) (h.fc j hlj)
      have hk24 := dO_lt j (by omega) k hk
      have hlk : l.getD k false = true := by
        have hcs : j = 14 ∨ j = 22 ∨ (j ≠ 14 ∧ j ≠ 22) := by omega
        rcases hcs with rfl | rfl | ⟨n1, n2⟩
        · simp only [dO, List.mem_cons, List.not_mem_nil, or_false] at hk
          rcases hk with rfl | rfl
          · exact h.l14 hlj
          · exact hlj
        · obtain ⟨a1, a2, a3, a4, a5, a6⟩ := h.l22 hlj
          simp only [dO, List.mem_cons, List.not_mem_nil, or_false] at hk
          rcases hk with rfl | rfl | rfl | rfl | rfl | rfl | rfl <;> assumption
        · have : dO j = [j] := by unfold dO; split <;> simp_all
          rw [this] at hk
          simp at hk
          subst hk
          exact hlj
      have hne : dS k ≠ dS i := dS_inj k hk24 i hi (fun e => by rw [e, hl] at hlk; cases hlk)
      simp [upd, hne]

end Go.Proofs.Ytaellaconpaejaa
