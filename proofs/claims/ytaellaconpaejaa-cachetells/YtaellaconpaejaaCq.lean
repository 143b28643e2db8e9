/- How a cache that comes in reads: lists of ways. -/
import Derived.Test.YtaellaconpaejaaCp
import Derived.ProofKit
import Derived.OpenShut
import Derived.ShutString
import Derived.ChangeOld
import Derived.Below
import Derived.Deep.Slices
import Derived.Deep.SlicePairs
import Derived.Lib.SmallJoins
set_option linter.unusedVariables false
namespace Go.Proofs.Ytaellaconpaejaa
open Go.ChangeShapes Go.WideShapes Go.ChangeAt Go.RowKit Go.Deep Go.Joins

theorem Try.own : ownKnob Try.prog.godebug = none := by kernel_rfl
theorem Try.laidOut : laidOutB Try.prog = true := by kernel_rfl
theorem Try.cells24 : Try.prog.cellsOf 24 = 1 := by kernel_rfl
theorem Try.cells22 : Try.prog.cellsOf 22 = 1 := by kernel_rfl
theorem Try.cells35 : Try.prog.cellsOf 35 = 1 := by kernel_rfl
theorem Try.cells119 : Try.prog.cellsOf 119 = 2 := by kernel_rfl
theorem Try.cells3 : Try.prog.cellsOf 3 = 1 := by kernel_rfl
theorem Try.cells4 : Try.prog.cellsOf 4 = 1 := by kernel_rfl

theorem addSpot {w : World} {a : Addr} {v : Value} (h : w.cell? (a.add 0) = some v) : ∃ b o, a = ⟨b, o, none⟩ := by
  obtain ⟨b, o, s⟩ := a
  have hs : s = none := by simpa [Addr.add] using World.cell?_spot h
  subst hs
  exact ⟨b, o, rfl⟩

theorem addAt (b o j : Nat) : (⟨b, o, none⟩ : Addr).add j = ⟨b, o + j, none⟩ := by unfold Addr.add; split <;> simp_all

theorem waysIn_of_trod {H : Type} {enc : TypeId × Value → H} {w : World} {fuel : Nat} {v : Value} {x : DataW H × List MemPlace} (h : DataW.trod enc Try.prog w 0 (fun _ => true) true fuel 35 [v] = some x) :
    ∃ (a : Option Addr) (ls : List (Int × Bool)) (cap : Nat), v = .slice a ls.length cap ∧ WaysIn w a ls ∧ ls.length ≤ cap ∧ ls.length ≤ 9223372036854775807 := by
  rcases open_slice_pairs Try.underlying35 Try.underlying119 Try.cells119 rfl rfl Try.cells3 Try.cells4 h with ⟨hcs, _⟩ | ⟨a, len, cap, m, n, V0, V1, D0, D1, P0, P1, hcs, _, hl, hm, hmm, _, hx⟩
  · simp only [List.cons.injEq, and_true] at hcs
    subst hcs
    exact ⟨none, [], 0, rfl, fun i hi => absurd hi (by simp), by simp, by simp⟩
  · simp only [List.cons.injEq, and_true] at hcs
    subst hcs
    have hlm : len ≤ m := by rw [hmm]; simp; exact hl
    have each : ∀ i, i < len → ∃ q : Int × Bool, w.cell? (a.add (i * 2)) = some (.int .i64 q.1) ∧ w.cell? (a.add (i * 2 + 1)) = some (.bool q.2) := by
      intro i hi
      obtain ⟨c0, c1, t0, t1⟩ := hx i (by omega)
      obtain ⟨n0, e0, _, _⟩ := DataW.trod_int Try.underlying3 t0
      obtain ⟨b0, e1, _⟩ := DataW.trod_bool Try.underlying4 t1
      simp only [List.cons.injEq, and_true] at e0 e1
      exact ⟨(n0, b0), by rw [c0, e0], by rw [c1, e1]⟩
    obtain ⟨q, hq⟩ := choose_lt each
    refine ⟨some a, (List.range len).map q, cap, by simp, fun i hi => ?_, by simpa using hl, by unfold maxLen at hm; simp; omega⟩
    have hi' : i < len := by simpa using hi
    obtain ⟨b, o, rfl⟩ := addSpot (hq 0 (by omega)).1
    obtain ⟨h1, h2⟩ := hq i hi'
    rw [addAt] at h1 h2
    exact ⟨b, o, rfl, by simpa using h1, by simpa [Nat.add_assoc] using h2⟩

theorem cacheIn_of_trod {H : Type} {enc : TypeId × Value → H} {w : World} {fuel : Nat} {v : Value} {x : DataW H × List MemPlace} (h : DataW.trod enc Try.prog w 0 (fun _ => true) true fuel 22 [v] = some x) :
    ∃ (a : Option Addr) (C : List (List (Int × Bool))) (cap : Nat), v = .slice a C.length cap ∧ CacheIn w a C ∧ C.length ≤ 9223372036854775807 := by
  rcases open_slice1 Try.underlying22 Try.cells35 h with ⟨hcs, _⟩ | ⟨a, len, cap, m, n, V, D, Pl, hcs, _, hl, hm, hmm, _, hx⟩
  · simp only [List.cons.injEq, and_true] at hcs
    subst hcs
    exact ⟨none, [], 0, rfl, fun i hi => absurd hi (by simp), by simp⟩
  · simp only [List.cons.injEq, and_true] at hcs
    subst hcs
    have hlm : len ≤ m := by rw [hmm]; simp; exact hl
    have each : ∀ i, i < len → ∃ ls : List (Int × Bool), ∃ a' cap', w.cell? (a.add i) = some (.slice a' ls.length cap') ∧ WaysIn w a' ls ∧ ls.length ≤ cap' ∧ ls.length ≤ 9223372036854775807 := by
      intro i hi
      obtain ⟨c0, t0⟩ := hx i (by omega)
      obtain ⟨a', ls, cap', e, h1, h2, h3⟩ := waysIn_of_trod t0
      exact ⟨ls, a', cap', by rw [c0, e], h1, h2, h3⟩
    obtain ⟨q, hq⟩ := choose_lt each
    refine ⟨some a, (List.range len).map q, cap, by simp, fun i hi => ?_, by unfold maxLen at hm; simp; omega⟩
    have hi' : i < len := by simpa using hi
    obtain ⟨_, _, h0, _⟩ := hq 0 (by omega)
    obtain ⟨b, o, rfl⟩ := addSpot h0
    obtain ⟨a', cap', h1, h2, h3, h4⟩ := hq i hi'
    rw [addAt] at h1
    exact ⟨b, o, a', cap', rfl, by simpa using h1, by simpa using h2, by simpa using h3, by simpa using h4⟩

theorem array1 {α : Type} {cs : Array α} (h : cs.size = 1) : ∃ c0, cs = #[c0] := by
  obtain ⟨l⟩ := cs
  match l, h with
  | [c0], _ => exact ⟨c0, rfl⟩

/-- A struct of one field of one cell, by value. -/
theorem open_agg1 {H : Type} {enc : TypeId × Value → H} {P : Program} {w : World} {base : Nat} {spare : Nat → Bool} {held : Bool} {r : Reach} {b0 : Nat} {t : TypeId} {f0 : Field} {v : Value} {d : DataW H} {p : List MemPlace} (hs : P.underlying t = some (.struct #[f0])) (ho : f0.offset = 0) (hc : P.cellsOf f0.type = 1) (hC : P.cellsOf t = 1)
    (hv : Value.okWide P w r b0 t v) (h : DataW.Trod enc P w base spare held t v d p) :
    ∃ (v0 : Value) (y0 : DataW H × List MemPlace) (n : Nat), v = .agg #[v0] ∧ DataW.trod enc P w base spare held n f0.type [v0] = some y0 := by
  obtain ⟨cs, rfl, hsz⟩ := okWide_struct hs hv
  obtain ⟨c0, rfl⟩ := array1 (hsz.trans hC)
  obtain ⟨fuel, hf⟩ := h
  obtain ⟨xs, n, _, _, _, hlen, hff⟩ := DataW.trod_struct hs hf
  match xs, hlen with
  | [y0], _ =>
    have h0 := hff 0 f0 rfl
    simp [Value.cells, ho, hc] at h0
    exact ⟨c0, y0, n, rfl, h0⟩

set_option maxRecDepth 100000 in
/-- A cache by value. -/
theorem open_cache {H : Type} {enc : TypeId × Value → H} {w : World} {b0 : Nat} {v : Value} {d : DataW H} {p : List MemPlace} (hv : Value.okWide Try.prog w .any b0 24 v) (h : DataW.Trod enc Try.prog w 0 (fun _ => true) true 24 v d p) :
    ∃ (a : Option Addr) (C : List (List (Int × Bool))) (cap : Nat), v = .agg #[.slice a C.length cap] ∧ CacheIn w a C ∧ C.length ≤ 9223372036854775807 := by
  obtain ⟨v0, y0, n, rfl, h0⟩ := open_agg1 Try.underlying24 rfl Try.cells22 Try.cells24 hv h
  obtain ⟨a, C, cap, rfl, h1, h2⟩ := cacheIn_of_trod h0
  exact ⟨a, C, cap, rfl, h1, h2⟩

end Go.Proofs.Ytaellaconpaejaa
