/- What memory holds while the document's access makes its answer, set by set. -/
import Derived.Test.YtaellaconpaejaaRc
import Derived.Test.YtaellaconpaejaaMc
import Derived.Deep.RegionLaw
set_option linter.unusedVariables false
namespace Go.Proofs.Ytaellaconpaejaa
open Go.RowKit

/-- An append of nothing. -/
theorem run_append_zero {P : Program} (w : World) (t ty e : TypeId) (i : TypeInfo) (ht : P.underlying t = some (.slice e)) (hi : P.info? e = some i) (b off n cap : Nat) (ax : Option Addr) (c : Nat) (hroom : n ≤ cap) :
    (Builtin.append_ #[t, t] ty #[.slice (some ⟨b, off, none⟩) n cap, .slice ax 0 c]).run P w = .ok (.slice (some ⟨b, off, none⟩) n cap) w := by
  cases ax <;> simp [Builtin.append_, run_underlying ht, sizeOf, typeInfo, hi, Builtin.lenOf, hroom, Builtin.firstCells, loadCells, loadCellsFrom, storeCells]

theorem step_append_zero {P : Program} {ops : Array Oper} {o : Oper} {a : Act} {w : World} {K : Act → World → Prop} {Q : Exit → Act → World → Prop} {E : Prop}
    (hg : o.guard = none) (s x : Operand) (t : TypeId) (hop : o.op = Op.call { callee := Callee.builtin Builtin.append, args := #[s, x], argTypes := #[t, t] })
    (e : TypeId) (i : TypeInfo) (h1 : P.underlying t = some (.slice e)) (h2 : P.info? e = some i)
    (b off n cap : Nat) (hs : a.eval s = .slice (some ⟨b, off, none⟩) n cap) (ax : Option Addr) (c : Nat) (hx : a.eval x = .slice ax 0 c) (hroom : n ≤ cap)
    (hK : K (a.put o.dst (.slice (some ⟨b, off, none⟩) n cap)) w) :
    if Region.wanted o (yielded ops a.tmps) = true then Oper.wp P o a w K Q else E := by
  have hw : Region.wanted o (yielded ops a.tmps) = true := by simp [Region.wanted, hg]
  rw [if_pos hw]
  have hrun := run_append_zero (P := P) w t o.type e i h1 h2 b off n cap ax c hroom
  unfold Oper.wp
  simp [execOp, hop, resolve, invoke, builtin, hs, hx, hrun, Result.andThen]
  exact hK

/-- What holds at the head of a round: H the heap's size when the call began. -/
structure Mid (w wr : World) (x y : Value) (v : Value) (E : List (List (Int × Bool))) (L : List Value) : Prop where
  bel : Below w.heap.size w wr
  grows : Grows wr (w.heap.size + 1 + 1 + 1) v E L
  r0 : RowAt wr w.heap.size 24 [x]
  r1 : RowAt wr (w.heap.size + 1) 24 [y]
  r2 : RowAt wr (w.heap.size + 1 + 1) 24 [v]
  size : w.heap.size + 1 + 1 + 1 ≤ wr.heap.size
  pos : ∀ ls ∈ E, 0 < ls.length

theorem Mid.vlt {w wr : World} {x y v : Value} {E : List (List (Int × Bool))} {L : List Value} (h : Mid w wr x y v E L) : ∀ q, v.ownBlock = some q → w.heap.size + 1 + 1 + 1 ≤ q ∧ q < wr.heap.size := h.grows.own.lt

theorem Mid.below {w wr w' : World} {x y v : Value} {E : List (List (Int × Bool))} {L : List Value} (h : Mid w wr x y v E L) (hb : Below wr.heap.size wr w') : Mid w w' x y v E L :=
  ⟨btrans h.bel hb, h.grows.below hb, h.r0.below hb (Nat.le_refl _), h.r1.below hb (Nat.le_refl _), h.r2.below hb (Nat.le_refl _), Nat.le_trans h.size hb.size, h.pos⟩

/-- A row that was made since the head of the round grows. -/
theorem Mid.grown {w wr w' w'' : World} {x y v : Value} {E : List (List (Int × Bool))} {L : List Value} {row : Option Nat} (h : Mid w wr x y v E L) (hb : Below wr.heap.size wr w') (hg : w'.grownBy w'' row) (hr : ∀ q, row = some q → wr.heap.size ≤ q) : Mid w w'' x y v E L :=
  h.below (hb.grown hg hb.size hr)

/-- One set more is appended. -/
theorem Mid.append {w w1 w2 : World} {x y v : Value} {E : List (List (Int × Bool))} {L : List Value} (h : Mid w w1 x y v E L) {g1 cap1 g2 cap3 k : Nat} {ls : List (Int × Bool)} (hk : E.length = k)
    (hws : WaysIn w1 (some ⟨g1, 0, none⟩) ls) (hcap : ls.length ≤ cap1) (h3 : ls.length ≤ 3) (hpos : 0 < ls.length) (hg1 : w.heap.size + 1 + 1 + 1 ≤ g1) (hne : some g1 ≠ v.ownBlock)
    (hown2 : w2.ownsRow (w.heap.size + 1 + 1 + 1) 35 1 (.slice (some ⟨g2, 0, none⟩) (k + 1) cap3) (k + 1) (L ++ [.slice (some ⟨g1, 0, none⟩) ls.length cap1]))
    (hgrow2 : (w1.alloc (.cells #[.slice (some ⟨g1, 0, none⟩) ls.length cap1] 35)).grownBy w2 v.ownBlock) (hat2 : v.ownBlock = some g2 ∨ g2 = w1.heap.size + 1) :
    Mid w (w2.setCell ⟨w.heap.size + 1 + 1, 0, none⟩ (.slice (some ⟨g2, 0, none⟩) (k + 1) cap3)) x y (.slice (some ⟨g2, 0, none⟩) (k + 1) cap3) (E ++ [ls]) (L ++ [.slice (some ⟨g1, 0, none⟩) ls.length cap1]) := by
  have q0 : Below w1.heap.size w1 (w1.alloc (.cells #[.slice (some ⟨g1, 0, none⟩) ls.length cap1] 35)) := (Below.refl _ _).alloc (Nat.le_refl _) _
  have q1 := h.below q0
  have hlt1 : g1 < w1.heap.size := by
    obtain ⟨b, o, e, c1, _⟩ := hws 0 hpos
    simp only [Option.some.injEq, Addr.mk.injEq, and_true] at e
    obtain ⟨rfl, rfl⟩ := e
    exact World.block_lt_of_cell? _ _ c1
  subst hk
  have q3 := q1.grows.append (a := some ⟨g1, 0, none⟩) (cap := cap1) (ls := ls) (g := g2) (cap' := cap3) (w1 := w2) (hws.keep q0) hcap h3
    (fun b o e => by simp at e; rw [← e.1]; exact hne) (fun b o e => by simp at e; omega) (fun b o e => by simp at e ⊢; omega)
    (q1.grows.lts h.pos) hown2 hgrow2 (by rcases hat2 with h | h; exact .inl h; right; simp; omega)
  have hn : ∀ q, q < w.heap.size + 1 + 1 + 1 → some q ≠ v.ownBlock := fun q hq e => by have := (h.vlt q e.symm).1; omega
  refine ⟨?_, q3.setOther _ _ (by show w.heap.size + 1 + 1 < _; omega), (q1.r0.grown hgrow2 (hn _ (by omega))).setOther _ _ (by show w.heap.size ≠ w.heap.size + 1 + 1; omega), (q1.r1.grown hgrow2 (hn _ (by omega))).setOther _ _ (by show w.heap.size + 1 ≠ w.heap.size + 1 + 1; omega), (q1.r2.grown hgrow2 (hn _ (by omega))).setCell 0 _, ?_, ?_⟩
  · exact (q1.bel.grown hgrow2 (by have := h.size; simp; omega) (fun q hq => by have := (h.vlt q hq).1; omega)).setCell (by show w.heap.size ≤ w.heap.size + 1 + 1; omega) _
  · have a1 := hgrow2.size
    have a2 := h.size
    simp at a1 ⊢; omega
  · intro l hl
    rcases List.mem_append.1 hl with h' | h'
    · exact h.pos l h'
    · rw [List.mem_singleton.1 h']; exact hpos

theorem Mid.append2 {w w1 w2 : World} {x y v : Value} {E : List (List (Int × Bool))} {L : List Value} (h : Mid w w1 x y v E L) {g1 cap1 g2 cap3 k n : Nat} {ls : List (Int × Bool)} (hk : E.length = k) (hn : ls.length = n)
    (hws : WaysIn w1 (some ⟨g1, 0, none⟩) ls) (hcap : n ≤ cap1) (h3 : n ≤ 3) (hpos : 0 < n) (hg1 : w.heap.size + 1 + 1 + 1 ≤ g1) (hne : some g1 ≠ v.ownBlock)
    (hown2 : w2.ownsRow (w.heap.size + 1 + 1 + 1) 35 1 (.slice (some ⟨g2, 0, none⟩) (k + 1) cap3) (k + 1) (L ++ [.slice (some ⟨g1, 0, none⟩) n cap1]))
    (hgrow2 : (w1.alloc (.cells #[.slice (some ⟨g1, 0, none⟩) n cap1] 35)).grownBy w2 v.ownBlock) (hat2 : v.ownBlock = some g2 ∨ g2 = w1.heap.size + 1) :
    Mid w (w2.setCell ⟨w.heap.size + 1 + 1, 0, none⟩ (.slice (some ⟨g2, 0, none⟩) (k + 1) cap3)) x y (.slice (some ⟨g2, 0, none⟩) (k + 1) cap3) (E ++ [ls]) (L ++ [.slice (some ⟨g1, 0, none⟩) n cap1]) := by
  subst hn
  exact h.append hk hws hcap h3 hpos hg1 hne hown2 hgrow2 hat2

/-- What the append of a set asks of memory. -/
theorem Mid.asks {w w1 : World} {x y v : Value} {E : List (List (Int × Bool))} {L : List Value} (h : Mid w w1 x y v E L) (k : Nat) (hk : E.length = k) (u : Value) :
    (w1.alloc (.cells #[u] 35)).ownsRow (w.heap.size + 1 + 1 + 1) 35 1 v k L ∧ (∀ j q, [u][j]? = some q → (w1.alloc (.cells #[u] 35)).cell? ((⟨w1.heap.size, 0, none⟩ : Addr).add j) = some q) ∧ w.heap.size + 1 + 1 + 1 ≤ (w1.alloc (.cells #[u] 35)).heap.size := by
  subst hk
  refine ⟨h.grows.own.alloc _, RowAt.news (X := [u]) (Y := []) (t := 35) (rowAt_new w1 w1.heap.size [u] 35 rfl), ?_⟩
  have := h.size
  simp; omega

/-- The variable that is stored into. -/
theorem Mid.store {w w1 w2 : World} {x y v : Value} {E : List (List (Int × Bool))} {L : List Value} (h : Mid w w1 x y v E L) {u : Value} (hgrow2 : (w1.alloc (.cells #[u] 35)).grownBy w2 v.ownBlock) : w2.cell? ⟨w.heap.size + 1 + 1, 0, none⟩ = some v ∧ w2.frozen? ⟨w.heap.size + 1 + 1, 0, none⟩ = false := by
  have hn : some (w.heap.size + 1 + 1) ≠ v.ownBlock := fun e => by have := (h.vlt _ e.symm).1; omega
  have := (h.r2.alloc (.cells #[u] 35)).grown hgrow2 hn
  exact ⟨this.cell 0 _ rfl, this.frozen 0⟩

end Go.Proofs.Ytaellaconpaejaa
