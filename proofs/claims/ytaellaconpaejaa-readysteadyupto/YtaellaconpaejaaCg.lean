/- Walks: what the use of a line comes to. -/
import Derived.Test.YtaellaconpaejaaCe
import Derived.Test.YtaellaconpaejaaCf
import Derived.Deep.RegionLaw
import Derived.Deep.RegionHeld3
set_option linter.unusedVariables false
namespace Go.Proofs.Ytaellaconpaejaa
open Go.RowKit

/-- A row of cells that is known whole. -/
def RowAt (w : World) (g : Nat) (t : TypeId) (L : List Value) : Prop := w.heap[g]? = some (.cells L.toArray t (0, 0))

theorem RowAt.cell {w : World} {g : Nat} {t : TypeId} {L : List Value} (h : RowAt w g t L) (i : Nat) (v : Value) (hv : L[i]? = some v) : w.cell? ⟨g, i, none⟩ = some v := by
  simp [World.cell?, show w.heap[g]? = _ from h, hv]

theorem RowAt.frozen {w : World} {g : Nat} {t : TypeId} {L : List Value} (h : RowAt w g t L) (i : Nat) : w.frozen? ⟨g, i, none⟩ = false := by
  simp [World.frozen?, show w.heap[g]? = _ from h]

theorem RowAt.lt {w : World} {g : Nat} {t : TypeId} {L : List Value} (h : RowAt w g t L) : g < w.heap.size := (Array.getElem?_eq_some_iff.1 h).1

theorem RowAt.setCell {w : World} {g : Nat} {t : TypeId} {L : List Value} (h : RowAt w g t L) (i : Nat) (v : Value) : RowAt (w.setCell ⟨g, i, none⟩ v) g t (L.set i v) := by
  have hh : w.heap[g]? = _ := h
  show (w.setCell ⟨g, i, none⟩ v).heap[g]? = _
  simp only [World.setCell, Array.getElem?_modify]
  simp [hh]

theorem RowAt.setOther {w : World} {g : Nat} {t : TypeId} {L : List Value} (h : RowAt w g t L) (a : Addr) (v : Value) (hne : g ≠ a.block) : RowAt (w.setCell a v) g t L := by
  show (w.setCell a v).heap[g]? = _
  rw [Below.heap_setCell _ _ _ _ hne]; exact h

theorem RowAt.alloc {w : World} {g : Nat} {t : TypeId} {L : List Value} (h : RowAt w g t L) (o : Obj) : RowAt (w.alloc o) g t L := by
  show (w.alloc o).heap[g]? = _
  rw [Below.heap_alloc _ _ _ h.lt]; exact h

theorem RowAt.below {w w' : World} {g B : Nat} {t : TypeId} {L : List Value} (h : RowAt w g t L) (hb : Below B w w') (hB : w.heap.size ≤ B) : RowAt w' g t L := by
  show w'.heap[g]? = _
  rw [hb.block g (Nat.lt_of_lt_of_le h.lt hB)]; exact h

theorem rowAt_of_owns {w : World} {base g n cap : Nat} {ls : List (Int × Bool)} (h : w.ownsRow base 119 2 (.slice (some ⟨g, 0, none⟩) n cap) n (flat ls)) :
    ∃ r : List Value, RowAt w g 119 (flat ls ++ r) ∧ (flat ls ++ r).length = cap * 2 ∧ n ≤ cap ∧ cap ≤ maxLen ∧ base ≤ g := by
  obtain ⟨hl, hv⟩ := h
  rcases hv with ⟨e, _⟩ | ⟨g', cap', cur, e, hb, hg, hn, hm, hs, ht⟩
  · simp at e
  · simp only [Value.slice.injEq, Option.some.injEq, Addr.mk.injEq, and_true, true_and] at e
    obtain ⟨rfl, rfl⟩ := e
    refine ⟨cur.toList.drop (n * 2), ?_, ?_, hn, hm, hb⟩
    · show w.heap[g]? = _
      rw [← ht, List.take_append_drop]; simpa using hg
    · rw [← ht, List.take_append_drop]; simpa using hs

theorem owns_of_rowAt {w : World} {base g n cap : Nat} {ls : List (Int × Bool)} {r : List Value} (h : RowAt w g 119 (flat ls ++ r)) (hl : (flat ls ++ r).length = cap * 2) (hn : n ≤ cap) (hm : cap ≤ maxLen) (hb : base ≤ g) (hlen : ls.length = n) :
    w.ownsRow base 119 2 (.slice (some ⟨g, 0, none⟩) n cap) n (flat ls) := by
  have e : (flat ls).length = n * 2 := by rw [flat_len, hlen]
  refine ⟨e, .inr ⟨g, cap, (flat ls ++ r).toArray, rfl, hb, h, hn, hm, by simpa using hl, ?_⟩⟩
  simp [← e]

theorem Try.sz119 : (Try.prog.info? 119).map (·.size) = some 2 := by kernel_rfl

theorem cell_new (w : World) (n i : Nat) (cs : Array Value) (t : TypeId) (h : w.heap.size = n) : (w.alloc (.cells cs t)).cell? ⟨n, i, none⟩ = cs[i]? := by subst h; simp only [World.cell?]; rw [heap_alloc_new]; rfl

theorem grow_below {w w' : World} (g : Nat) (h : Below w.heap.size w w') : w.grownBy w' (some g) := ⟨h.os, h.tape, h.output, h.size, fun k hk _ => h.block k hk⟩
theorem grow_setCell (w : World) (g i : Nat) (v : Value) : w.grownBy (w.setCell ⟨g, i, none⟩ v) (some g) :=
  ⟨rfl, rfl, rfl, by simp [World.setCell], fun k _ hk => Below.heap_setCell _ _ _ _ (by intro e; exact hk (by rw [e]))⟩
theorem grow_drew (w : World) (row : Option Nat) : w.grownBy w.drew row := ⟨rfl, rfl, rfl, Nat.le_refl _, fun _ _ _ => rfl⟩

theorem addZ (g j : Nat) : (⟨g, 0, none⟩ : Addr).add j = ⟨g, j, none⟩ := by unfold Addr.add; split <;> simp_all

theorem RowAt.news {w : World} {g : Nat} {t : TypeId} {X Y : List Value} (h : RowAt w g t (X ++ Y)) : ∀ j v, X[j]? = some v → w.cell? ((⟨g, 0, none⟩ : Addr).add j) = some v := by
  intro j v hv
  rw [addZ]
  refine h.cell j v ?_
  rw [List.getElem?_append_left (List.getElem?_eq_some_iff.1 hv).1]; exact hv

theorem RowAt.ways {w : World} {g : Nat} {ls : List (Int × Bool)} {r : List Value} (h : RowAt w g 119 (flat ls ++ r)) : WaysIn w (some ⟨g, 0, none⟩) ls := by
  intro i hi
  obtain ⟨f1, f2⟩ := flat_at ls i hi
  have e1 : (0 + i * 2) = i * 2 := by omega
  refine ⟨g, 0, rfl, ?_, ?_⟩
  · rw [e1]; refine h.cell _ _ ?_
    rw [List.getElem?_append_left (List.getElem?_eq_some_iff.1 f1).1]; exact f1
  · rw [e1]; refine h.cell _ _ ?_
    rw [List.getElem?_append_left (List.getElem?_eq_some_iff.1 f2).1]; exact f2

end Go.Proofs.Ytaellaconpaejaa
