/- What holds while the law lays its answers side by side. -/
import Derived.Test.YtaellaconpaejaaVa
set_option linter.unusedVariables false
namespace Go.Proofs.Ytaellaconpaejaa
open Go.RowKit

def Agree (B : Nat) (W W' : World) : Prop := ∀ k, B ≤ k → k < W.heap.size → W'.heap[k]? = W.heap[k]?

/-- Boxes, and pairs that stay pairs as long as nothing but the three boxes behind w4 turns. -/
structure St (w4 W : World) (l : List (Nat × Value)) (ps : List (Value × Value × Int)) : Prop where
  bel : Below w4.heap.size w4 W
  size : w4.heap.size + 3 ≤ W.heap.size
  boxes : Boxes W l
  pairs : ∀ p ∈ ps, ∀ W', Below w4.heap.size w4 W' → Agree (w4.heap.size + 3) W W' → Pair W' p.1 p.2.1 p.2.2

theorem Agree.below {B : Nat} {W W' W'' : World} (h : Agree B W' W'') (hb : Below W.heap.size W W') : Agree B W W'' :=
  fun k h1 h2 => (h k h1 (Nat.lt_of_lt_of_le h2 hb.size)).trans (hb.block k h2)

theorem Agree.put {B b : Nat} {W W'' : World} {u : Value} (h : Agree B (W.setCell ⟨b, 0, none⟩ u) W'') (hb : b < B) : Agree B W W'' :=
  fun k h1 h2 => (h k h1 (by simpa [World.setCell] using h2)).trans (Below.heap_setCell _ _ _ _ (by show k ≠ b; omega))

theorem St.keep {w4 W W' : World} {l : List (Nat × Value)} {ps : List (Value × Value × Int)} (h : St w4 W l ps) (hb : Below W.heap.size W W') : St w4 W' l ps :=
  ⟨btrans h.bel hb, Nat.le_trans h.size hb.size, h.boxes.keep hb, fun p hp W'' h1 h2 => h.pairs p hp W'' h1 (h2.below hb)⟩

theorem St.put {w4 W : World} {l : List (Nat × Value)} {ps : List (Value × Value × Int)} (h : St w4 W l ps) (b : Nat) (v u : Value) (hm : (b, v) ∈ l) (h1 : w4.heap.size ≤ b) (h2 : b < w4.heap.size + 3) (l' : List (Nat × Value)) (hl : ∀ p ∈ l', (p ∈ l ∧ p.1 ≠ b) ∨ p = (b, u)) : St w4 (W.setCell ⟨b, 0, none⟩ u) l' ps :=
  ⟨h.bel.setCell h1 u, by have := h.size; simpa [World.setCell] using this, h.boxes.put b v u hm l' hl, fun p hp W'' k1 k2 => h.pairs p hp W'' k1 (k2.put h2)⟩

theorem St.pair {w4 W : World} {l : List (Nat × Value)} {ps : List (Value × Value × Int)} (h : St w4 W l ps) {xv fv : Value} {e : Int} (hm : (xv, fv, e) ∈ ps) : Pair W xv fv e :=
  h.pairs _ hm W h.bel (fun _ _ _ => rfl)

/-- One pair more: the one of them was there ahead of w4, the other one was made in memory of its own behind W0. -/
theorem St.add {w4 W0 W1 W : World} {l : List (Nat × Value)} {ps : List (Value × Value × Int)} (h : St w4 W l ps) {ax af : Option Addr} {cx cf n : Nat} {D : List (List (Int × Bool))} (hx : CacheIn w4 ax D) (hf : CacheFrom W0.heap.size W1 af D) (hn : D.length = n) (hb : n ≤ 9223372036854775807)
    (h0 : w4.heap.size + 3 ≤ W0.heap.size) (h1 : Agree (w4.heap.size + 3) W1 W) (h2 : W1.heap.size ≤ W.heap.size) : St w4 W l ((.slice ax n cx, .slice af n cf, 0) :: ps) := by
  subst hn
  refine ⟨h.bel, h.size, h.boxes, fun p hp W'' k1 k2 => ?_⟩
  rcases List.mem_cons.1 hp with rfl | hp'
  · refine .inr ⟨rfl, ax, af, cx, cf, D, rfl, rfl, hx.keep k1, hf W'' (fun k q1 q2 => ?_), hb⟩
    exact (k2 k (by omega) (by omega)).trans (h1 k (by omega) q2)
  · exact h.pairs p hp' W'' k1 k2

theorem St.addErr {w4 W : World} {l : List (Nat × Value)} {ps : List (Value × Value × Int)} (h : St w4 W l ps) {e : Int} (he : e ≠ 0) : St w4 W l ((.slice none 0 0, .slice none 0 0, e) :: ps) := by
  refine ⟨h.bel, h.size, h.boxes, fun p hp W'' k1 k2 => ?_⟩
  rcases List.mem_cons.1 hp with rfl | hp'
  · exact .inl ⟨he, rfl, rfl⟩
  · exact h.pairs p hp' W'' k1 k2

theorem agree_put (B b : Nat) (W : World) (u : Value) (hb : b < B) : Agree B W (W.setCell ⟨b, 0, none⟩ u) :=
  fun k h1 _ => Below.heap_setCell _ _ _ _ (by show k ≠ b; omega)

end Go.Proofs.Ytaellaconpaejaa
