/- How rings and lists of numbers that come in read, and how long a list may be. -/
import Derived.Test.YtaellaconpaejaaSd
import Derived.SizedLaws
set_option linter.unusedVariables false
namespace Go.Proofs.Ytaellaconpaejaa
open Go.ChangeShapes Go.WideShapes Go.ChangeAt Go.RowKit Go.Deep Go.Joins

theorem Try.cells63 : Try.prog.cellsOf 63 = 2 := by kernel_rfl
theorem Try.bytes3 : Try.prog.bytesOf 3 = 8 := by kernel_rfl

set_option maxRecDepth 100000 in
theorem intsx_of_trod {H : Type} {enc : TypeId × Value → H} {w : World} {fuel : Nat} {v : Value} {x : DataW H × List MemPlace} (h : DataW.trod enc Try.prog w 0 (fun _ => true) true fuel 42 [v] = some x) :
    ∃ (a : Option Addr) (ls : List Int) (cap : Nat), v = .slice a ls.length cap ∧ IntsIn w a ls ∧ ls.length ≤ cap ∧ ls.length ≤ 9223372036854775807 ∧ (ls = [] ∨ ∃ el sp, x.1 = .slice el sp ∧ el.length = ls.length) := by
  rcases open_slice Try.underlying42 h with ⟨hcs, _⟩ | ⟨a, len, cap, m, n, D, Pl, hcs, _, hl, hm, hmm, hxx, hx⟩
  · simp only [List.cons.injEq, and_true] at hcs
    subst hcs
    exact ⟨none, [], 0, rfl, fun i hi => absurd hi (by simp), by simp, by simp, .inl rfl⟩
  · simp only [List.cons.injEq, and_true] at hcs
    subst hcs
    have hlm : len ≤ m := by rw [hmm]; simp; exact hl
    have each : ∀ i, i < len → ∃ q : Int, w.cell? (a.add (i * 1)) = some (.int .i64 q) := by
      intro i hi
      obtain ⟨cs', h1, h2⟩ := hx i (by omega)
      rw [Try.cells3] at h1
      obtain ⟨_, hlen, hcell⟩ := World.cells?_some h1
      match cs', hlen with
      | [v0], _ =>
        obtain ⟨n0, e0, _, _⟩ := DataW.trod_int Try.underlying3 h2
        simp only [List.cons.injEq, and_true] at e0
        have g0 := hcell 0 (by omega)
        rw [add_add] at g0
        subst e0
        exact ⟨n0, by simpa using g0⟩
    obtain ⟨q, hq⟩ := choose_lt each
    refine ⟨some a, (List.range len).map q, cap, by simp, fun i hi => ?_, by simpa using hl, by unfold maxLen at hm; simp; omega, .inr ⟨_, _, by rw [hxx], by simp⟩⟩
    have hi' : i < len := by simpa using hi
    obtain ⟨b, o, rfl⟩ := addSpot (by have := (hq 0 (by omega)); simpa using this)
    obtain h1 := hq i hi'
    rw [addAt] at h1
    exact ⟨b, o, rfl, by simpa [Nat.add_assoc] using h1⟩

set_option maxRecDepth 100000 in
/-- A list of numbers by value. -/
theorem open_intsx {H : Type} {enc : TypeId × Value → H} {w : World} {b0 : Nat} {v : Value} {d : DataW H} {p : List MemPlace} (hv : Value.okWide Try.prog w .any b0 42 v) (h : DataW.Trod enc Try.prog w 0 (fun _ => true) true 42 v d p) :
    ∃ (a : Option Addr) (ls : List Int) (cap : Nat), v = .slice a ls.length cap ∧ IntsIn w a ls ∧ ls.length ≤ cap ∧ ls.length ≤ 9223372036854775807 ∧ (ls = [] ∨ ∃ el sp, d = .slice el sp ∧ el.length = ls.length) := by
  obtain ⟨fuel, hf⟩ := h
  have hone : (Value.cells v).toList = [v] := by
    obtain ⟨a, n, c, rfl⟩ := okWide_slice Try.underlying42 hv
    rfl
  rw [hone] at hf
  exact intsx_of_trod hf

theorem array2 {α : Type} {cs : Array α} (h : cs.size = 2) : ∃ c0 c1, cs = #[c0, c1] := by
  obtain ⟨l⟩ := cs
  match l, h with
  | [c0, c1], _ => exact ⟨c0, c1, rfl⟩

set_option maxRecDepth 100000 in
/-- A ring by value. -/
theorem open_ring {H : Type} {enc : TypeId × Value → H} {w : World} {b0 : Nat} {v : Value} {d : DataW H} {p : List MemPlace} (hv : Value.okWide Try.prog w .any b0 63 v) (h : DataW.Trod enc Try.prog w 0 (fun _ => true) true 63 v d p) :
    ∃ (a : Option Addr) (V : List Int) (cap : Nat) (lost : Int), v = .agg #[.slice a V.length cap, .int .i64 lost] ∧ IntsIn w a V ∧ V.length ≤ cap ∧ V.length ≤ 9223372036854775807 := by
  obtain ⟨cs, rfl, hsz⟩ := okWide_struct Try.underlying63 hv
  obtain ⟨v0, v1, rfl⟩ := array2 (hsz.trans Try.cells63)
  obtain ⟨fuel, hf⟩ := h
  obtain ⟨xs, n, _, _, _, hlen, hff⟩ := DataW.trod_struct Try.underlying63 hf
  match xs, hlen with
  | [y0, y1], _ =>
    have g0 := hff 0 _ rfl
    have g1 := hff 1 _ rfl
    simp [Value.cells, Try.cells3, Try.cells42] at g0 g1
    obtain ⟨a, V, cap, rfl, i0, k0, l0, _⟩ := intsx_of_trod g0
    obtain ⟨n1, e1, _, _⟩ := DataW.trod_int Try.underlying3 g1
    simp only [List.cons.injEq, and_true] at e1
    subst e1
    exact ⟨a, V, cap, n1, rfl, i0, k0, l0⟩

end Go.Proofs.Ytaellaconpaejaa
