/- How a domain that comes in reads: jobs, numbers, rings, lists, events. -/
import Derived.Test.YtaellaconpaejaaYa
import Derived.Test.YtaellaconpaejaaXk
set_option linter.unusedVariables false
namespace Go.Proofs.Ytaellaconpaejaa
open Go.ChangeShapes Go.WideShapes Go.ChangeAt Go.RowKit Go.Deep Go.Joins

theorem Try.cells106 : Try.prog.cellsOf 106 = 6 := by kernel_rfl
theorem Try.cells150 : Try.prog.cellsOf 150 = 4 := by kernel_rfl
theorem Try.cells90 : Try.prog.cellsOf 90 = 7 := by kernel_rfl
theorem Try.cells4 : Try.prog.cellsOf 4 = 1 := by kernel_rfl
theorem Try.cells42y : Try.prog.cellsOf 42 = 1 := by kernel_rfl
theorem Try.cells86 : Try.prog.cellsOf 86 = 1 := by kernel_rfl
theorem Try.cells87 : Try.prog.cellsOf 87 = 1 := by kernel_rfl
theorem Try.cells83 : Try.prog.cellsOf 83 = 1 := by kernel_rfl
theorem Try.cells88 : Try.prog.cellsOf 88 = 1 := by kernel_rfl

set_option maxRecDepth 100000 in
theorem jobsIn_of_trod {H : Type} {enc : TypeId × Value → H} {w : World} {fuel : Nat} {v : Value} {x : DataW H × List MemPlace} (h : DataW.trod enc Try.prog w 0 (fun _ => true) true fuel 86 [v] = some x) :
    ∃ (a : Option Addr) (ls : List JobT) (cap : Nat), v = .slice a ls.length cap ∧ JobsIn w a ls ∧ ls.length ≤ cap ∧ ls.length ≤ 9223372036854775807 := by
  rcases open_slice Try.underlying86 h with ⟨hcs, _⟩ | ⟨a, len, cap, m, n, D, Pl, hcs, _, hl, hm, hmm, _, hx⟩
  · simp only [List.cons.injEq, and_true] at hcs
    subst hcs
    exact ⟨none, [], 0, rfl, fun i hi => absurd hi (by simp), by simp, by simp⟩
  · simp only [List.cons.injEq, and_true] at hcs
    subst hcs
    have hlm : len ≤ m := by rw [hmm]; simp; exact hl
    have each : ∀ i, i < len → ∃ q : JobT, w.cell? (a.add (i * 6)) = some (.int .i64 q.1) ∧ w.cell? (a.add (i * 6 + 1)) = some (.int .i64 q.2.1) ∧ w.cell? (a.add (i * 6 + 2)) = some (.int .i64 q.2.2.1) ∧ w.cell? (a.add (i * 6 + 3)) = some (.int .i64 q.2.2.2.1) ∧ w.cell? (a.add (i * 6 + 4)) = some (.bool q.2.2.2.2.1) ∧ w.cell? (a.add (i * 6 + 5)) = some (.bool q.2.2.2.2.2) := by
      intro i hi
      obtain ⟨cs', h1, h2⟩ := hx i (by omega)
      rw [Try.cells106] at h1
      obtain ⟨_, hlen, hcell⟩ := World.cells?_some h1
      obtain ⟨xs, k, hk, hxy, _, hxl, hf⟩ := DataW.trod_struct Try.underlying106 h2
      match xs, hxl, cs', hlen with
      | [y0, y1, y2, y3, y4, y5], _, [v0, v1, v2, v3, v4, v5], _ =>
        have g0 := hf 0 _ rfl
        have g1 := hf 1 _ rfl
        have g2 := hf 2 _ rfl
        have g3 := hf 3 _ rfl
        have g4 := hf 4 _ rfl
        have g5 := hf 5 _ rfl
        simp [Try.cells3, Try.cells4] at g0 g1 g2 g3 g4 g5
        obtain ⟨n0, e0, _, _⟩ := DataW.trod_int Try.underlying3 g0
        obtain ⟨n1, e1, _, _⟩ := DataW.trod_int Try.underlying3 g1
        obtain ⟨n2, e2, _, _⟩ := DataW.trod_int Try.underlying3 g2
        obtain ⟨n3, e3, _, _⟩ := DataW.trod_int Try.underlying3 g3
        obtain ⟨n4, e4, _⟩ := DataW.trod_bool Try.underlying4 g4
        obtain ⟨n5, e5, _⟩ := DataW.trod_bool Try.underlying4 g5
        have c0 := hcell 0 (by omega)
        have c1 := hcell 1 (by omega)
        have c2 := hcell 2 (by omega)
        have c3 := hcell 3 (by omega)
        have c4 := hcell 4 (by omega)
        have c5 := hcell 5 (by omega)
        rw [add_add] at c0 c1 c2 c3 c4 c5
        simp only [List.cons.injEq, and_true] at e0 e1 e2 e3 e4 e5
        subst e0 e1 e2 e3 e4 e5
        exact ⟨(n0, n1, n2, n3, n4, n5), by simpa using c0, by simpa using c1, by simpa using c2, by simpa using c3, by simpa using c4, by simpa using c5⟩
    obtain ⟨q, hq⟩ := choose_lt each
    refine ⟨some a, (List.range len).map q, cap, by simp, fun i hi => ?_, by simpa using hl, by unfold maxLen at hm; simp; omega⟩
    have hi' : i < len := by simpa using hi
    obtain ⟨b, o, rfl⟩ := addSpot (by have := (hq 0 (by omega)).1; simpa using this)
    obtain ⟨h1, h2, h3, h4, h5, h6⟩ := hq i hi'
    rw [addAt] at h1 h2 h3 h4 h5 h6
    exact ⟨b, o, rfl, by simpa [Nat.add_assoc] using h1, by simpa [Nat.add_assoc] using h2, by simpa [Nat.add_assoc] using h3, by simpa [Nat.add_assoc] using h4, by simpa [Nat.add_assoc] using h5, by simpa [Nat.add_assoc] using h6⟩

set_option maxRecDepth 100000 in
theorem evsIn_of_trod {H : Type} {enc : TypeId × Value → H} {w : World} {fuel : Nat} {v : Value} {x : DataW H × List MemPlace} (h : DataW.trod enc Try.prog w 0 (fun _ => true) true fuel 88 [v] = some x) :
    ∃ (a : Option Addr) (ls : List EvT) (cap : Nat), v = .slice a ls.length cap ∧ EvsIn w a ls ∧ ls.length ≤ cap ∧ ls.length ≤ 9223372036854775807 := by
  rcases open_slice Try.underlying88 h with ⟨hcs, _⟩ | ⟨a, len, cap, m, n, D, Pl, hcs, _, hl, hm, hmm, _, hx⟩
  · simp only [List.cons.injEq, and_true] at hcs
    subst hcs
    exact ⟨none, [], 0, rfl, fun i hi => absurd hi (by simp), by simp, by simp⟩
  · simp only [List.cons.injEq, and_true] at hcs
    subst hcs
    have hlm : len ≤ m := by rw [hmm]; simp; exact hl
    have each : ∀ i, i < len → ∃ q : EvT, w.cell? (a.add (i * 4)) = some (.int .i64 q.1) ∧ w.cell? (a.add (i * 4 + 1)) = some (.int .i64 q.2.1) ∧ w.cell? (a.add (i * 4 + 2)) = some (.int .i64 q.2.2.1) ∧ w.cell? (a.add (i * 4 + 3)) = some (.int .i64 q.2.2.2) := by
      intro i hi
      obtain ⟨cs', h1, h2⟩ := hx i (by omega)
      rw [Try.cells150] at h1
      obtain ⟨_, hlen, hcell⟩ := World.cells?_some h1
      obtain ⟨xs, k, hk, hxy, _, hxl, hf⟩ := DataW.trod_struct Try.underlying150 h2
      match xs, hxl, cs', hlen with
      | [y0, y1, y2, y3], _, [v0, v1, v2, v3], _ =>
        have g0 := hf 0 _ rfl
        have g1 := hf 1 _ rfl
        have g2 := hf 2 _ rfl
        have g3 := hf 3 _ rfl
        simp [Try.cells3] at g0 g1 g2 g3
        obtain ⟨n0, e0, _, _⟩ := DataW.trod_int Try.underlying3 g0
        obtain ⟨n1, e1, _, _⟩ := DataW.trod_int Try.underlying3 g1
        obtain ⟨n2, e2, _, _⟩ := DataW.trod_int Try.underlying3 g2
        obtain ⟨n3, e3, _, _⟩ := DataW.trod_int Try.underlying3 g3
        have c0 := hcell 0 (by omega)
        have c1 := hcell 1 (by omega)
        have c2 := hcell 2 (by omega)
        have c3 := hcell 3 (by omega)
        rw [add_add] at c0 c1 c2 c3
        simp only [List.cons.injEq, and_true] at e0 e1 e2 e3
        subst e0 e1 e2 e3
        exact ⟨(n0, n1, n2, n3), by simpa using c0, by simpa using c1, by simpa using c2, by simpa using c3⟩
    obtain ⟨q, hq⟩ := choose_lt each
    refine ⟨some a, (List.range len).map q, cap, by simp, fun i hi => ?_, by simpa using hl, by unfold maxLen at hm; simp; omega⟩
    have hi' : i < len := by simpa using hi
    obtain ⟨b, o, rfl⟩ := addSpot (by have := (hq 0 (by omega)).1; simpa using this)
    obtain ⟨h1, h2, h3, h4⟩ := hq i hi'
    rw [addAt] at h1 h2 h3 h4
    exact ⟨b, o, rfl, by simpa [Nat.add_assoc] using h1, by simpa [Nat.add_assoc] using h2, by simpa [Nat.add_assoc] using h3, by simpa [Nat.add_assoc] using h4⟩

set_option maxRecDepth 100000 in
theorem ringsIn_of_trod {H : Type} {enc : TypeId × Value → H} {w : World} {fuel : Nat} {v : Value} {x : DataW H × List MemPlace} (h : DataW.trod enc Try.prog w 0 (fun _ => true) true fuel 87 [v] = some x) :
    ∃ (a : Option Addr) (ls : List (List Int × Int)) (cap : Nat), v = .slice a ls.length cap ∧ RingsIn w a ls ∧ ls.length ≤ cap ∧ ls.length ≤ 9223372036854775807 := by
  rcases open_slice Try.underlying87 h with ⟨hcs, _⟩ | ⟨a, len, cap, m, n, D, Pl, hcs, _, hl, hm, hmm, _, hx⟩
  · simp only [List.cons.injEq, and_true] at hcs
    subst hcs
    exact ⟨none, [], 0, rfl, fun i hi => absurd hi (by simp), by simp, by simp⟩
  · simp only [List.cons.injEq, and_true] at hcs
    subst hcs
    have hlm : len ≤ m := by rw [hmm]; simp; exact hl
    have each : ∀ i, i < len → ∃ q : (List Int × Int) × Option Addr × Nat, w.cell? (a.add (i * 2)) = some (.slice q.2.1 q.1.1.length q.2.2) ∧ w.cell? (a.add (i * 2 + 1)) = some (.int .i64 q.1.2) ∧ IntsIn w q.2.1 q.1.1 ∧ q.1.1.length ≤ q.2.2 ∧ q.1.1.length ≤ 9223372036854775807 := by
      intro i hi
      obtain ⟨cs', h1, h2⟩ := hx i (by omega)
      rw [Try.cells63] at h1
      obtain ⟨_, hlen, hcell⟩ := World.cells?_some h1
      obtain ⟨xs, k, hk, hxy, _, hxl, hf⟩ := DataW.trod_struct Try.underlying63 h2
      match xs, hxl, cs', hlen with
      | [y0, y1], _, [v0, v1], _ =>
        have g0 := hf 0 _ rfl
        have g1 := hf 1 _ rfl
        simp [Try.cells3, Try.cells42y] at g0 g1
        obtain ⟨a0, ls, c, rfl, hin, hc, hlm, _⟩ := intsx_of_trod g0
        obtain ⟨n1, e1, _, _⟩ := DataW.trod_int Try.underlying3 g1
        have c0 := hcell 0 (by omega)
        have c1 := hcell 1 (by omega)
        rw [add_add] at c0 c1
        simp only [List.cons.injEq, and_true] at e1
        subst e1
        exact ⟨((ls, n1), a0, c), by simpa using c0, by simpa using c1, hin, hc, hlm⟩
    obtain ⟨q, hq⟩ := choose_lt each
    refine ⟨some a, (List.range len).map fun i => (q i).1, cap, by simp, fun i hi => ?_, by simpa using hl, by unfold maxLen at hm; simp; omega⟩
    have hi' : i < len := by simpa using hi
    obtain ⟨b, o, rfl⟩ := addSpot (by have := (hq 0 (by omega)).1; simpa using this)
    obtain ⟨h1, h2, h3, h4, h5⟩ := hq i hi'
    rw [addAt] at h1 h2
    exact ⟨b, o, (q i).2.1, (q i).2.2, rfl, by simpa [Nat.add_assoc] using h1, by simpa [Nat.add_assoc] using h2, by simpa using h3, by simpa using h4, by simpa using h5⟩

set_option maxRecDepth 100000 in
theorem listsIn_of_trod {H : Type} {enc : TypeId × Value → H} {w : World} {fuel : Nat} {v : Value} {x : DataW H × List MemPlace} (h : DataW.trod enc Try.prog w 0 (fun _ => true) true fuel 83 [v] = some x) :
    ∃ (a : Option Addr) (ls : List (List Int)) (cap : Nat), v = .slice a ls.length cap ∧ ListsIn w a ls ∧ ls.length ≤ cap ∧ ls.length ≤ 9223372036854775807 := by
  rcases open_slice1 Try.underlying83 Try.cells42y h with ⟨hcs, _⟩ | ⟨a, len, cap, m, n, V, D, Pl, hcs, _, hl, hm, hmm, _, hx⟩
  · simp only [List.cons.injEq, and_true] at hcs
    subst hcs
    exact ⟨none, [], 0, rfl, fun i hi => absurd hi (by simp), by simp, by simp⟩
  · simp only [List.cons.injEq, and_true] at hcs
    subst hcs
    have hlm : len ≤ m := by rw [hmm]; simp; exact hl
    have each : ∀ i, i < len → ∃ q : List Int × Option Addr × Nat, w.cell? (a.add i) = some (.slice q.2.1 q.1.length q.2.2) ∧ IntsIn w q.2.1 q.1 ∧ q.1.length ≤ q.2.2 ∧ q.1.length ≤ 9223372036854775807 := by
      intro i hi
      obtain ⟨h1, h2⟩ := hx i (by omega)
      obtain ⟨a', ls, cap', e, hin, hc, hlm, _⟩ := intsx_of_trod h2
      exact ⟨(ls, a', cap'), by rw [h1, e], hin, hc, hlm⟩
    obtain ⟨q, hq⟩ := choose_lt each
    refine ⟨some a, (List.range len).map fun i => (q i).1, cap, by simp, fun i hi => ?_, by simpa using hl, by unfold maxLen at hm; simp; omega⟩
    have hi' : i < len := by simpa using hi
    obtain ⟨b, o, rfl⟩ := addSpot (by have := (hq 0 (by omega)).1; simpa using this)
    obtain ⟨h1, h2, h3, h4⟩ := hq i hi'
    rw [addAt] at h1
    exact ⟨b, o, (q i).2.1, (q i).2.2, rfl, by simpa using h1, by simpa using h2, by simpa using h3, by simpa using h4⟩

theorem array7 {α : Type} {cs : Array α} (h : cs.size = 7) : ∃ c0 c1 c2 c3 c4 c5 c6, cs = #[c0, c1, c2, c3, c4, c5, c6] := by
  obtain ⟨l⟩ := cs
  match l, h with
  | [c0, c1, c2, c3, c4, c5, c6], _ => exact ⟨c0, c1, c2, c3, c4, c5, c6, rfl⟩

set_option maxRecDepth 100000 in
/-- A domain by value. -/
theorem open_dom {H : Type} {enc : TypeId × Value → H} {w : World} {b0 : Nat} {v : Value} {d : DataW H} {p : List MemPlace} (hv : Value.okWide Try.prog w .any b0 90 v) (h : DataW.Trod enc Try.prog w 0 (fun _ => true) true 90 v d p) :
    ∃ (D : Dom) (A : DMem), v = dv D A ∧ DomIn w A D := by
  obtain ⟨cs, rfl, hsz⟩ := okWide_struct Try.underlying90 hv
  obtain ⟨v0, v1, v2, v3, v4, v5, v6, rfl⟩ := array7 (hsz.trans Try.cells90)
  obtain ⟨fuel, hf⟩ := h
  obtain ⟨xs, n, _, _, _, hlen, hff⟩ := DataW.trod_struct Try.underlying90 hf
  match xs, hlen with
  | [y0, y1, y2, y3, y4, y5, y6], _ =>
    have g0 := hff 0 _ rfl
    have g1 := hff 1 _ rfl
    have g2 := hff 2 _ rfl
    have g3 := hff 3 _ rfl
    have g4 := hff 4 _ rfl
    have g5 := hff 5 _ rfl
    have g6 := hff 6 _ rfl
    simp [Value.cells, Try.cells3, Try.cells42y, Try.cells86, Try.cells87, Try.cells83, Try.cells88] at g0 g1 g2 g3 g4 g5 g6
    obtain ⟨aJ, J, cJ, rfl, i0, k0, l0⟩ := jobsIn_of_trod g0
    obtain ⟨aR, R, cR, rfl, i1, k1, l1, _⟩ := intsx_of_trod g1
    obtain ⟨n2, e2, _, _⟩ := DataW.trod_int Try.underlying3 g2
    obtain ⟨aI, I, cI, rfl, i3, k3, l3⟩ := ringsIn_of_trod g3
    obtain ⟨aT, U, cT, rfl, i4, k4, l4, _⟩ := intsx_of_trod g4
    obtain ⟨aO, O, cO, rfl, i5, k5, l5⟩ := listsIn_of_trod g5
    obtain ⟨aE, E, cE, rfl, i6, k6, l6⟩ := evsIn_of_trod g6
    simp only [List.cons.injEq, and_true] at e2
    subst e2
    exact ⟨⟨J, R, n2, I, U, O, E⟩, ⟨aJ, aR, aI, aT, aO, aE, cJ, cR, cI, cT, cO, cE⟩, rfl, ⟨i0, i1, i3, i4, i5, i6, l0, l1, l3, l4, l5, l6⟩⟩

end Go.Proofs.Ytaellaconpaejaa
