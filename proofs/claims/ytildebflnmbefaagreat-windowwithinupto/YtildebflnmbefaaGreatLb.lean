/- How rings and lists of numbers that come in read, and how long a list may be. How a domain that comes in reads: jobs, numbers, rings, lists, events. How a cache that comes in reads: lists of ways. How actions and times that come in read; how many events a domain has. -/
import Derived.Test.YtildebflnmbefaaGreatKz
import Derived.SizedLaws
import Derived.Test.YtildebflnmbefaaGreatKe
import Derived.Test.YtildebflnmbefaaGreatKn
import Derived.ProofKit
import Derived.OpenShut
import Derived.ShutString
import Derived.ChangeOld
import Derived.Below
import Derived.Deep.Slices
import Derived.Deep.SlicePairs
import Derived.Lib.SmallJoins
import Derived.Test.YtildebflnmbefaaGreatRows
set_option linter.unusedVariables false
namespace Go.Proofs.YtildebflnmbefaaGreat
open Go.ChangeShapes Go.WideShapes Go.ChangeAt Go.RowKit Go.Deep Go.Joins

theorem Tryz.cells83 : Tryz.prog.cellsOf 83 = 2 := by kernel_rfl
theorem Tryz.bytes3 : Tryz.prog.bytesOf 3 = 8 := by kernel_rfl

set_option maxRecDepth 100000 in
theorem intsx_of_trod {H : Type} {enc : TypeId × Value → H} {w : World} {fuel : Nat} {v : Value} {x : DataW H × List MemPlace} (h : DataW.trod enc Tryz.prog w 0 (fun _ => true) true fuel 23 [v] = some x) :
    ∃ (a : Option Addr) (ls : List Int) (cap : Nat), v = .slice a ls.length cap ∧ IntsIn w a ls ∧ ls.length ≤ cap ∧ ls.length ≤ 9223372036854775807 ∧ (ls = [] ∨ ∃ el sp, x.1 = .slice el sp ∧ el.length = ls.length) := by
  rcases open_slice Tryz.underlying23 h with ⟨hcs, _⟩ | ⟨a, len, cap, m, n, D, Pl, hcs, _, hl, hm, hmm, hxx, hx⟩
  · simp only [List.cons.injEq, and_true] at hcs
    subst hcs
    exact ⟨none, [], 0, rfl, fun i hi => absurd hi (by simp), by simp, by simp, .inl rfl⟩
  · simp only [List.cons.injEq, and_true] at hcs
    subst hcs
    have hlm : len ≤ m := by rw [hmm]; simp; exact hl
    have each : ∀ i, i < len → ∃ q : Int, w.cell? (a.add (i * 1)) = some (.int .i64 q) := by
      intro i hi
      obtain ⟨cs', h1, h2⟩ := hx i (by omega)
      rw [Tryz.cells3] at h1
      obtain ⟨_, hlen, hcell⟩ := World.cells?_some h1
      match cs', hlen with
      | [v0], _ =>
        obtain ⟨n0, e0, _, _⟩ := DataW.trod_int Tryz.underlying3 h2
        simp only [List.cons.injEq, and_true] at e0
        have g0 := hcell 0 (by omega)
        rw [add_add] at g0
        subst e0
        exact ⟨n0, by simpa using g0⟩
    obtain ⟨q, hq⟩ := choose_lt each
    refine ⟨some a, (List.range len).map q, cap, by simp, fun i hi => ?_, by simpa using hl, by unfold maxLen at hm; simp; omega, .inr ⟨_, _, by rw [hxx], by simp⟩⟩
    have hi' : i < len := by simpa using hi
    obtain ⟨b, o, rfl⟩ := addSpot (by have := (hq 0 (by omega)); simpa using this)
    obtain h1 := hq i hi'
    rw [addAt] at h1
    exact ⟨b, o, rfl, by simpa [Nat.add_assoc] using h1⟩

set_option maxRecDepth 100000 in
/-- A list of numbers by value. -/
theorem open_intsx {H : Type} {enc : TypeId × Value → H} {w : World} {b0 : Nat} {v : Value} {d : DataW H} {p : List MemPlace} (hv : Value.okWide Tryz.prog w .any b0 23 v) (h : DataW.Trod enc Tryz.prog w 0 (fun _ => true) true 23 v d p) :
    ∃ (a : Option Addr) (ls : List Int) (cap : Nat), v = .slice a ls.length cap ∧ IntsIn w a ls ∧ ls.length ≤ cap ∧ ls.length ≤ 9223372036854775807 ∧ (ls = [] ∨ ∃ el sp, d = .slice el sp ∧ el.length = ls.length) := by
  obtain ⟨fuel, hf⟩ := h
  have hone : (Value.cells v).toList = [v] := by
    obtain ⟨a, n, c, rfl⟩ := okWide_slice Tryz.underlying23 hv
    rfl
  rw [hone] at hf
  exact intsx_of_trod hf

theorem array2 {α : Type} {cs : Array α} (h : cs.size = 2) : ∃ c0 c1, cs = #[c0, c1] := by
  obtain ⟨l⟩ := cs
  match l, h with
  | [c0, c1], _ => exact ⟨c0, c1, rfl⟩

set_option maxRecDepth 100000 in
/-- A ring by value. -/
theorem open_ring {H : Type} {enc : TypeId × Value → H} {w : World} {b0 : Nat} {v : Value} {d : DataW H} {p : List MemPlace} (hv : Value.okWide Tryz.prog w .any b0 83 v) (h : DataW.Trod enc Tryz.prog w 0 (fun _ => true) true 83 v d p) :
    ∃ (a : Option Addr) (V : List Int) (cap : Nat) (lost : Int), v = .agg #[.slice a V.length cap, .int .i64 lost] ∧ IntsIn w a V ∧ V.length ≤ cap ∧ V.length ≤ 9223372036854775807 := by
  obtain ⟨cs, rfl, hsz⟩ := okWide_struct Tryz.underlying83 hv
  obtain ⟨v0, v1, rfl⟩ := array2 (hsz.trans Tryz.cells83)
  obtain ⟨fuel, hf⟩ := h
  obtain ⟨xs, n, _, _, _, hlen, hff⟩ := DataW.trod_struct Tryz.underlying83 hf
  match xs, hlen with
  | [y0, y1], _ =>
    have g0 := hff 0 _ rfl
    have g1 := hff 1 _ rfl
    simp [Value.cells, Tryz.cells3, Tryz.cells23] at g0 g1
    obtain ⟨a, V, cap, rfl, i0, k0, l0, _⟩ := intsx_of_trod g0
    obtain ⟨n1, e1, _, _⟩ := DataW.trod_int Tryz.underlying3 g1
    simp only [List.cons.injEq, and_true] at e1
    subst e1
    exact ⟨a, V, cap, n1, rfl, i0, k0, l0⟩

end Go.Proofs.YtildebflnmbefaaGreat

namespace Go.Proofs.YtildebflnmbefaaGreat
open Go.ChangeShapes Go.WideShapes Go.ChangeAt Go.RowKit Go.Deep Go.Joins

theorem Tryz.cells79 : Tryz.prog.cellsOf 79 = 6 := by kernel_rfl
theorem Tryz.cells45 : Tryz.prog.cellsOf 45 = 4 := by kernel_rfl
theorem Tryz.cells33 : Tryz.prog.cellsOf 33 = 7 := by kernel_rfl
theorem Tryz.cells4 : Tryz.prog.cellsOf 4 = 1 := by kernel_rfl
theorem Tryz.cells23y : Tryz.prog.cellsOf 23 = 1 := by kernel_rfl
theorem Tryz.cells28 : Tryz.prog.cellsOf 28 = 1 := by kernel_rfl
theorem Tryz.cells29 : Tryz.prog.cellsOf 29 = 1 := by kernel_rfl
theorem Tryz.cells30 : Tryz.prog.cellsOf 30 = 1 := by kernel_rfl
theorem Tryz.cells31 : Tryz.prog.cellsOf 31 = 1 := by kernel_rfl

set_option maxRecDepth 100000 in
theorem jobsIn_of_trod {H : Type} {enc : TypeId × Value → H} {w : World} {fuel : Nat} {v : Value} {x : DataW H × List MemPlace} (h : DataW.trod enc Tryz.prog w 0 (fun _ => true) true fuel 28 [v] = some x) :
    ∃ (a : Option Addr) (ls : List JobT) (cap : Nat), v = .slice a ls.length cap ∧ JobsIn w a ls ∧ ls.length ≤ cap ∧ ls.length ≤ 9223372036854775807 := by
  rcases open_slice Tryz.underlying28 h with ⟨hcs, _⟩ | ⟨a, len, cap, m, n, D, Pl, hcs, _, hl, hm, hmm, _, hx⟩
  · simp only [List.cons.injEq, and_true] at hcs
    subst hcs
    exact ⟨none, [], 0, rfl, fun i hi => absurd hi (by simp), by simp, by simp⟩
  · simp only [List.cons.injEq, and_true] at hcs
    subst hcs
    have hlm : len ≤ m := by rw [hmm]; simp; exact hl
    have each : ∀ i, i < len → ∃ q : JobT, w.cell? (a.add (i * 6)) = some (.int .i64 q.1) ∧ w.cell? (a.add (i * 6 + 1)) = some (.int .i64 q.2.1) ∧ w.cell? (a.add (i * 6 + 2)) = some (.int .i64 q.2.2.1) ∧ w.cell? (a.add (i * 6 + 3)) = some (.int .i64 q.2.2.2.1) ∧ w.cell? (a.add (i * 6 + 4)) = some (.bool q.2.2.2.2.1) ∧ w.cell? (a.add (i * 6 + 5)) = some (.bool q.2.2.2.2.2) := by
      intro i hi
      obtain ⟨cs', h1, h2⟩ := hx i (by omega)
      rw [Tryz.cells79] at h1
      obtain ⟨_, hlen, hcell⟩ := World.cells?_some h1
      obtain ⟨xs, k, hk, hxy, _, hxl, hf⟩ := DataW.trod_struct Tryz.underlying79 h2
      match xs, hxl, cs', hlen with
      | [y0, y1, y2, y3, y4, y5], _, [v0, v1, v2, v3, v4, v5], _ =>
        have g0 := hf 0 _ rfl
        have g1 := hf 1 _ rfl
        have g2 := hf 2 _ rfl
        have g3 := hf 3 _ rfl
        have g4 := hf 4 _ rfl
        have g5 := hf 5 _ rfl
        simp [Tryz.cells3, Tryz.cells4] at g0 g1 g2 g3 g4 g5
        obtain ⟨n0, e0, _, _⟩ := DataW.trod_int Tryz.underlying3 g0
        obtain ⟨n1, e1, _, _⟩ := DataW.trod_int Tryz.underlying3 g1
        obtain ⟨n2, e2, _, _⟩ := DataW.trod_int Tryz.underlying3 g2
        obtain ⟨n3, e3, _, _⟩ := DataW.trod_int Tryz.underlying3 g3
        obtain ⟨n4, e4, _⟩ := DataW.trod_bool Tryz.underlying4 g4
        obtain ⟨n5, e5, _⟩ := DataW.trod_bool Tryz.underlying4 g5
        have c0 := hcell 0 (by omega)
        have c1 := hcell 1 (by omega)
        have c2 := hcell 2 (by omega)
        have c3 := hcell 3 (by omega)
        have c4 := hcell 4 (by omega)
        have c5 := hcell 5 (by omega)
        rw [add_add] at c0 c1 c2 c3 c4 c5
        simp only [List.cons.injEq, and_true] at e0 e1 e2 e3 e4 e5
        subst e0 e1 e2 e3 e4 e5
        exact ⟨(n0, n1, n2, n3, n4, n5), by simpa using c0, by simpa using c1, by simpa using c2, by simpa using c3, by simpa using c4, by simpa using c5⟩
    obtain ⟨q, hq⟩ := choose_lt each
    refine ⟨some a, (List.range len).map q, cap, by simp, fun i hi => ?_, by simpa using hl, by unfold maxLen at hm; simp; omega⟩
    have hi' : i < len := by simpa using hi
    obtain ⟨b, o, rfl⟩ := addSpot (by have := (hq 0 (by omega)).1; simpa using this)
    obtain ⟨h1, h2, h3, h4, h5, h6⟩ := hq i hi'
    rw [addAt] at h1 h2 h3 h4 h5 h6
    exact ⟨b, o, rfl, by simpa [Nat.add_assoc] using h1, by simpa [Nat.add_assoc] using h2, by simpa [Nat.add_assoc] using h3, by simpa [Nat.add_assoc] using h4, by simpa [Nat.add_assoc] using h5, by simpa [Nat.add_assoc] using h6⟩

set_option maxRecDepth 100000 in
theorem evsIn_of_trod {H : Type} {enc : TypeId × Value → H} {w : World} {fuel : Nat} {v : Value} {x : DataW H × List MemPlace} (h : DataW.trod enc Tryz.prog w 0 (fun _ => true) true fuel 31 [v] = some x) :
    ∃ (a : Option Addr) (ls : List EvT) (cap : Nat), v = .slice a ls.length cap ∧ EvsIn w a ls ∧ ls.length ≤ cap ∧ ls.length ≤ 9223372036854775807 := by
  rcases open_slice Tryz.underlying31 h with ⟨hcs, _⟩ | ⟨a, len, cap, m, n, D, Pl, hcs, _, hl, hm, hmm, _, hx⟩
  · simp only [List.cons.injEq, and_true] at hcs
    subst hcs
    exact ⟨none, [], 0, rfl, fun i hi => absurd hi (by simp), by simp, by simp⟩
  · simp only [List.cons.injEq, and_true] at hcs
    subst hcs
    have hlm : len ≤ m := by rw [hmm]; simp; exact hl
    have each : ∀ i, i < len → ∃ q : EvT, w.cell? (a.add (i * 4)) = some (.int .i64 q.1) ∧ w.cell? (a.add (i * 4 + 1)) = some (.int .i64 q.2.1) ∧ w.cell? (a.add (i * 4 + 2)) = some (.int .i64 q.2.2.1) ∧ w.cell? (a.add (i * 4 + 3)) = some (.int .i64 q.2.2.2) := by
      intro i hi
      obtain ⟨cs', h1, h2⟩ := hx i (by omega)
      rw [Tryz.cells45] at h1
      obtain ⟨_, hlen, hcell⟩ := World.cells?_some h1
      obtain ⟨xs, k, hk, hxy, _, hxl, hf⟩ := DataW.trod_struct Tryz.underlying45 h2
      match xs, hxl, cs', hlen with
      | [y0, y1, y2, y3], _, [v0, v1, v2, v3], _ =>
        have g0 := hf 0 _ rfl
        have g1 := hf 1 _ rfl
        have g2 := hf 2 _ rfl
        have g3 := hf 3 _ rfl
        simp [Tryz.cells3] at g0 g1 g2 g3
        obtain ⟨n0, e0, _, _⟩ := DataW.trod_int Tryz.underlying3 g0
        obtain ⟨n1, e1, _, _⟩ := DataW.trod_int Tryz.underlying3 g1
        obtain ⟨n2, e2, _, _⟩ := DataW.trod_int Tryz.underlying3 g2
        obtain ⟨n3, e3, _, _⟩ := DataW.trod_int Tryz.underlying3 g3
        have c0 := hcell 0 (by omega)
        have c1 := hcell 1 (by omega)
        have c2 := hcell 2 (by omega)
        have c3 := hcell 3 (by omega)
        rw [add_add] at c0 c1 c2 c3
        simp only [List.cons.injEq, and_true] at e0 e1 e2 e3
        subst e0 e1 e2 e3
        exact ⟨(n0, n1, n2, n3), by simpa using c0, by simpa using c1, by simpa using c2, by simpa using c3⟩
    obtain ⟨q, hq⟩ := choose_lt each
    refine ⟨some a, (List.range len).map q, cap, by simp, fun i hi => ?_, by simpa using hl, by unfold maxLen at hm; simp; omega⟩
    have hi' : i < len := by simpa using hi
    obtain ⟨b, o, rfl⟩ := addSpot (by have := (hq 0 (by omega)).1; simpa using this)
    obtain ⟨h1, h2, h3, h4⟩ := hq i hi'
    rw [addAt] at h1 h2 h3 h4
    exact ⟨b, o, rfl, by simpa [Nat.add_assoc] using h1, by simpa [Nat.add_assoc] using h2, by simpa [Nat.add_assoc] using h3, by simpa [Nat.add_assoc] using h4⟩

set_option maxRecDepth 100000 in
theorem ringsIn_of_trod {H : Type} {enc : TypeId × Value → H} {w : World} {fuel : Nat} {v : Value} {x : DataW H × List MemPlace} (h : DataW.trod enc Tryz.prog w 0 (fun _ => true) true fuel 29 [v] = some x) :
    ∃ (a : Option Addr) (ls : List (List Int × Int)) (cap : Nat), v = .slice a ls.length cap ∧ RingsIn w a ls ∧ ls.length ≤ cap ∧ ls.length ≤ 9223372036854775807 := by
  rcases open_slice Tryz.underlying29 h with ⟨hcs, _⟩ | ⟨a, len, cap, m, n, D, Pl, hcs, _, hl, hm, hmm, _, hx⟩
  · simp only [List.cons.injEq, and_true] at hcs
    subst hcs
    exact ⟨none, [], 0, rfl, fun i hi => absurd hi (by simp), by simp, by simp⟩
  · simp only [List.cons.injEq, and_true] at hcs
    subst hcs
    have hlm : len ≤ m := by rw [hmm]; simp; exact hl
    have each : ∀ i, i < len → ∃ q : (List Int × Int) × Option Addr × Nat, w.cell? (a.add (i * 2)) = some (.slice q.2.1 q.1.1.length q.2.2) ∧ w.cell? (a.add (i * 2 + 1)) = some (.int .i64 q.1.2) ∧ IntsIn w q.2.1 q.1.1 ∧ q.1.1.length ≤ q.2.2 ∧ q.1.1.length ≤ 9223372036854775807 := by
      intro i hi
      obtain ⟨cs', h1, h2⟩ := hx i (by omega)
      rw [Tryz.cells83] at h1
      obtain ⟨_, hlen, hcell⟩ := World.cells?_some h1
      obtain ⟨xs, k, hk, hxy, _, hxl, hf⟩ := DataW.trod_struct Tryz.underlying83 h2
      match xs, hxl, cs', hlen with
      | [y0, y1], _, [v0, v1], _ =>
        have g0 := hf 0 _ rfl
        have g1 := hf 1 _ rfl
        simp [Tryz.cells3, Tryz.cells23y] at g0 g1
        obtain ⟨a0, ls, c, rfl, hin, hc, hlm, _⟩ := intsx_of_trod g0
        obtain ⟨n1, e1, _, _⟩ := DataW.trod_int Tryz.underlying3 g1
        have c0 := hcell 0 (by omega)
        have c1 := hcell 1 (by omega)
        rw [add_add] at c0 c1
        simp only [List.cons.injEq, and_true] at e1
        subst e1
        exact ⟨((ls, n1), a0, c), by simpa using c0, by simpa using c1, hin, hc, hlm⟩
    obtain ⟨q, hq⟩ := choose_lt each
    refine ⟨some a, (List.range len).map fun i => (q i).1, cap, by simp, fun i hi => ?_, by simpa using hl, by unfold maxLen at hm; simp; omega⟩
    have hi' : i < len := by simpa using hi
    obtain ⟨b, o, rfl⟩ := addSpot (by have := (hq 0 (by omega)).1; simpa using this)
    obtain ⟨h1, h2, h3, h4, h5⟩ := hq i hi'
    rw [addAt] at h1 h2
    exact ⟨b, o, (q i).2.1, (q i).2.2, rfl, by simpa [Nat.add_assoc] using h1, by simpa [Nat.add_assoc] using h2, by simpa using h3, by simpa using h4, by simpa using h5⟩

set_option maxRecDepth 100000 in
theorem listsIn_of_trod {H : Type} {enc : TypeId × Value → H} {w : World} {fuel : Nat} {v : Value} {x : DataW H × List MemPlace} (h : DataW.trod enc Tryz.prog w 0 (fun _ => true) true fuel 30 [v] = some x) :
    ∃ (a : Option Addr) (ls : List (List Int)) (cap : Nat), v = .slice a ls.length cap ∧ ListsIn w a ls ∧ ls.length ≤ cap ∧ ls.length ≤ 9223372036854775807 := by
  rcases open_slice1 Tryz.underlying30 Tryz.cells23y h with ⟨hcs, _⟩ | ⟨a, len, cap, m, n, V, D, Pl, hcs, _, hl, hm, hmm, _, hx⟩
  · simp only [List.cons.injEq, and_true] at hcs
    subst hcs
    exact ⟨none, [], 0, rfl, fun i hi => absurd hi (by simp), by simp, by simp⟩
  · simp only [List.cons.injEq, and_true] at hcs
    subst hcs
    have hlm : len ≤ m := by rw [hmm]; simp; exact hl
    have each : ∀ i, i < len → ∃ q : List Int × Option Addr × Nat, w.cell? (a.add i) = some (.slice q.2.1 q.1.length q.2.2) ∧ IntsIn w q.2.1 q.1 ∧ q.1.length ≤ q.2.2 ∧ q.1.length ≤ 9223372036854775807 := by
      intro i hi
      obtain ⟨h1, h2⟩ := hx i (by omega)
      obtain ⟨a', ls, cap', e, hin, hc, hlm, _⟩ := intsx_of_trod h2
      exact ⟨(ls, a', cap'), by rw [h1, e], hin, hc, hlm⟩
    obtain ⟨q, hq⟩ := choose_lt each
    refine ⟨some a, (List.range len).map fun i => (q i).1, cap, by simp, fun i hi => ?_, by simpa using hl, by unfold maxLen at hm; simp; omega⟩
    have hi' : i < len := by simpa using hi
    obtain ⟨b, o, rfl⟩ := addSpot (by have := (hq 0 (by omega)).1; simpa using this)
    obtain ⟨h1, h2, h3, h4⟩ := hq i hi'
    rw [addAt] at h1
    exact ⟨b, o, (q i).2.1, (q i).2.2, rfl, by simpa using h1, by simpa using h2, by simpa using h3, by simpa using h4⟩

theorem array7 {α : Type} {cs : Array α} (h : cs.size = 7) : ∃ c0 c1 c2 c3 c4 c5 c6, cs = #[c0, c1, c2, c3, c4, c5, c6] := by
  obtain ⟨l⟩ := cs
  match l, h with
  | [c0, c1, c2, c3, c4, c5, c6], _ => exact ⟨c0, c1, c2, c3, c4, c5, c6, rfl⟩

set_option maxRecDepth 100000 in
/-- A domain by value. -/
theorem open_dom {H : Type} {enc : TypeId × Value → H} {w : World} {b0 : Nat} {v : Value} {d : DataW H} {p : List MemPlace} (hv : Value.okWide Tryz.prog w .any b0 33 v) (h : DataW.Trod enc Tryz.prog w 0 (fun _ => true) true 33 v d p) :
    ∃ (D : Dom) (A : DMem), v = dv D A ∧ DomIn w A D := by
  obtain ⟨cs, rfl, hsz⟩ := okWide_struct Tryz.underlying33 hv
  obtain ⟨v0, v1, v2, v3, v4, v5, v6, rfl⟩ := array7 (hsz.trans Tryz.cells33)
  obtain ⟨fuel, hf⟩ := h
  obtain ⟨xs, n, _, _, _, hlen, hff⟩ := DataW.trod_struct Tryz.underlying33 hf
  match xs, hlen with
  | [y0, y1, y2, y3, y4, y5, y6], _ =>
    have g0 := hff 0 _ rfl
    have g1 := hff 1 _ rfl
    have g2 := hff 2 _ rfl
    have g3 := hff 3 _ rfl
    have g4 := hff 4 _ rfl
    have g5 := hff 5 _ rfl
    have g6 := hff 6 _ rfl
    simp [Value.cells, Tryz.cells3, Tryz.cells23y, Tryz.cells28, Tryz.cells29, Tryz.cells30, Tryz.cells31] at g0 g1 g2 g3 g4 g5 g6
    obtain ⟨aJ, J, cJ, rfl, i0, k0, l0⟩ := jobsIn_of_trod g0
    obtain ⟨aR, R, cR, rfl, i1, k1, l1, _⟩ := intsx_of_trod g1
    obtain ⟨n2, e2, _, _⟩ := DataW.trod_int Tryz.underlying3 g2
    obtain ⟨aI, I, cI, rfl, i3, k3, l3⟩ := ringsIn_of_trod g3
    obtain ⟨aT, U, cT, rfl, i4, k4, l4, _⟩ := intsx_of_trod g4
    obtain ⟨aO, O, cO, rfl, i5, k5, l5⟩ := listsIn_of_trod g5
    obtain ⟨aE, E, cE, rfl, i6, k6, l6⟩ := evsIn_of_trod g6
    simp only [List.cons.injEq, and_true] at e2
    subst e2
    exact ⟨⟨J, R, n2, I, U, O, E⟩, ⟨aJ, aR, aI, aT, aO, aE, cJ, cR, cI, cT, cO, cE⟩, rfl, ⟨i0, i1, i3, i4, i5, i6, l0, l1, l3, l4, l5, l6⟩⟩

end Go.Proofs.YtildebflnmbefaaGreat

namespace Go.Proofs.YtildebflnmbefaaGreat
open Go.ChangeShapes Go.WideShapes Go.ChangeAt Go.RowKit Go.Deep Go.Joins

theorem Tryz.cells36 : Tryz.prog.cellsOf 36 = 1 := by kernel_rfl
theorem Tryz.cells34 : Tryz.prog.cellsOf 34 = 1 := by kernel_rfl
theorem Tryz.cells84 : Tryz.prog.cellsOf 84 = 1 := by kernel_rfl
theorem Tryz.cells87 : Tryz.prog.cellsOf 87 = 2 := by kernel_rfl
theorem waysIn_of_trod {H : Type} {enc : TypeId × Value → H} {w : World} {fuel : Nat} {v : Value} {x : DataW H × List MemPlace} (h : DataW.trod enc Tryz.prog w 0 (fun _ => true) true fuel 84 [v] = some x) :
    ∃ (a : Option Addr) (ls : List (Int × Bool)) (cap : Nat), v = .slice a ls.length cap ∧ WaysIn w a ls ∧ ls.length ≤ cap ∧ ls.length ≤ 9223372036854775807 := by
  rcases open_slice_pairs Tryz.underlying84 Tryz.underlying87 Tryz.cells87 rfl rfl Tryz.cells3 Tryz.cells4 h with ⟨hcs, _⟩ | ⟨a, len, cap, m, n, V0, V1, D0, D1, P0, P1, hcs, _, hl, hm, hmm, _, hx⟩
  · simp only [List.cons.injEq, and_true] at hcs
    subst hcs
    exact ⟨none, [], 0, rfl, fun i hi => absurd hi (by simp), by simp, by simp⟩
  · simp only [List.cons.injEq, and_true] at hcs
    subst hcs
    have hlm : len ≤ m := by rw [hmm]; simp; exact hl
    have each : ∀ i, i < len → ∃ q : Int × Bool, w.cell? (a.add (i * 2)) = some (.int .i64 q.1) ∧ w.cell? (a.add (i * 2 + 1)) = some (.bool q.2) := by
      intro i hi
      obtain ⟨c0, c1, t0, t1⟩ := hx i (by omega)
      obtain ⟨n0, e0, _, _⟩ := DataW.trod_int Tryz.underlying3 t0
      obtain ⟨b0, e1, _⟩ := DataW.trod_bool Tryz.underlying4 t1
      simp only [List.cons.injEq, and_true] at e0 e1
      exact ⟨(n0, b0), by rw [c0, e0], by rw [c1, e1]⟩
    obtain ⟨q, hq⟩ := choose_lt each
    refine ⟨some a, (List.range len).map q, cap, by simp, fun i hi => ?_, by simpa using hl, by unfold maxLen at hm; simp; omega⟩
    have hi' : i < len := by simpa using hi
    obtain ⟨b, o, rfl⟩ := addSpot (hq 0 (by omega)).1
    obtain ⟨h1, h2⟩ := hq i hi'
    rw [addAt] at h1 h2
    exact ⟨b, o, rfl, by simpa using h1, by simpa [Nat.add_assoc] using h2⟩

theorem cacheIn_of_trod {H : Type} {enc : TypeId × Value → H} {w : World} {fuel : Nat} {v : Value} {x : DataW H × List MemPlace} (h : DataW.trod enc Tryz.prog w 0 (fun _ => true) true fuel 34 [v] = some x) :
    ∃ (a : Option Addr) (C : List (List (Int × Bool))) (cap : Nat), v = .slice a C.length cap ∧ CacheIn w a C ∧ C.length ≤ 9223372036854775807 := by
  rcases open_slice1 Tryz.underlying34 Tryz.cells84 h with ⟨hcs, _⟩ | ⟨a, len, cap, m, n, V, D, Pl, hcs, _, hl, hm, hmm, _, hx⟩
  · simp only [List.cons.injEq, and_true] at hcs
    subst hcs
    exact ⟨none, [], 0, rfl, fun i hi => absurd hi (by simp), by simp⟩
  · simp only [List.cons.injEq, and_true] at hcs
    subst hcs
    have hlm : len ≤ m := by rw [hmm]; simp; exact hl
    have each : ∀ i, i < len → ∃ ls : List (Int × Bool), ∃ a' cap', w.cell? (a.add i) = some (.slice a' ls.length cap') ∧ WaysIn w a' ls ∧ ls.length ≤ cap' ∧ ls.length ≤ 9223372036854775807 := by
      intro i hi
      obtain ⟨c0, t0⟩ := hx i (by omega)
      obtain ⟨a', ls, cap', e, h1, h2, h3⟩ := waysIn_of_trod t0
      exact ⟨ls, a', cap', by rw [c0, e], h1, h2, h3⟩
    obtain ⟨q, hq⟩ := choose_lt each
    refine ⟨some a, (List.range len).map q, cap, by simp, fun i hi => ?_, by unfold maxLen at hm; simp; omega⟩
    have hi' : i < len := by simpa using hi
    obtain ⟨_, _, h0, _⟩ := hq 0 (by omega)
    obtain ⟨b, o, rfl⟩ := addSpot h0
    obtain ⟨a', cap', h1, h2, h3, h4⟩ := hq i hi'
    rw [addAt] at h1
    exact ⟨b, o, a', cap', rfl, by simpa using h1, by simpa using h2, by simpa using h3, by simpa using h4⟩

theorem array1 {α : Type} {cs : Array α} (h : cs.size = 1) : ∃ c0, cs = #[c0] := by
  obtain ⟨l⟩ := cs
  match l, h with
  | [c0], _ => exact ⟨c0, rfl⟩

/-- A struct of one field of one cell, by value. -/
theorem open_agg1 {H : Type} {enc : TypeId × Value → H} {P : Program} {w : World} {base : Nat} {spare : Nat → Bool} {held : Bool} {r : Reach} {b0 : Nat} {t : TypeId} {f0 : Field} {v : Value} {d : DataW H} {p : List MemPlace} (hs : P.underlying t = some (.struct #[f0])) (ho : f0.offset = 0) (hc : P.cellsOf f0.type = 1) (hC : P.cellsOf t = 1)
    (hv : Value.okWide P w r b0 t v) (h : DataW.Trod enc P w base spare held t v d p) :
    ∃ (v0 : Value) (y0 : DataW H × List MemPlace) (n : Nat), v = .agg #[v0] ∧ DataW.trod enc P w base spare held n f0.type [v0] = some y0 := by
  obtain ⟨cs, rfl, hsz⟩ := okWide_struct hs hv
  obtain ⟨c0, rfl⟩ := array1 (hsz.trans hC)
  obtain ⟨fuel, hf⟩ := h
  obtain ⟨xs, n, _, _, _, hlen, hff⟩ := DataW.trod_struct hs hf
  match xs, hlen with
  | [y0], _ =>
    have h0 := hff 0 f0 rfl
    simp [Value.cells, ho, hc] at h0
    exact ⟨c0, y0, n, rfl, h0⟩

set_option maxRecDepth 100000 in
/-- A cache by value. -/
theorem open_cache {H : Type} {enc : TypeId × Value → H} {w : World} {b0 : Nat} {v : Value} {d : DataW H} {p : List MemPlace} (hv : Value.okWide Tryz.prog w .any b0 36 v) (h : DataW.Trod enc Tryz.prog w 0 (fun _ => true) true 36 v d p) :
    ∃ (a : Option Addr) (C : List (List (Int × Bool))) (cap : Nat), v = .agg #[.slice a C.length cap] ∧ CacheIn w a C ∧ C.length ≤ 9223372036854775807 := by
  obtain ⟨v0, y0, n, rfl, h0⟩ := open_agg1 Tryz.underlying36 rfl Tryz.cells34 Tryz.cells36 hv h
  obtain ⟨a, C, cap, rfl, h1, h2⟩ := cacheIn_of_trod h0
  exact ⟨a, C, cap, rfl, h1, h2⟩

end Go.Proofs.YtildebflnmbefaaGreat

namespace Go.Proofs.YtildebflnmbefaaGreat
open Go.ChangeShapes Go.WideShapes Go.ChangeAt Go.RowKit Go.Deep Go.Joins

theorem Tryz.cells53w : Tryz.prog.cellsOf 53 = 3 := by kernel_rfl
theorem Tryz.cells39 : Tryz.prog.cellsOf 39 = 2 := by kernel_rfl
set_option maxRecDepth 100000 in
theorem actsIn_of_trod {H : Type} {enc : TypeId × Value → H} {w : World} {fuel : Nat} {v : Value} {x : DataW H × List MemPlace} (h : DataW.trod enc Tryz.prog w 0 (fun _ => true) true fuel 37 [v] = some x) :
    ∃ (a : Option Addr) (ls : List (Int × Int × Int)) (cap : Nat), v = .slice a ls.length cap ∧ ChansIn w a ls ∧ ls.length ≤ cap ∧ ls.length ≤ 9223372036854775807 := by
  rcases open_slice Tryz.underlying37 h with ⟨hcs, _⟩ | ⟨a, len, cap, m, n, D, Pl, hcs, _, hl, hm, hmm, _, hx⟩
  · simp only [List.cons.injEq, and_true] at hcs
    subst hcs
    exact ⟨none, [], 0, rfl, fun i hi => absurd hi (by simp), by simp, by simp⟩
  · simp only [List.cons.injEq, and_true] at hcs
    subst hcs
    have hlm : len ≤ m := by rw [hmm]; simp; exact hl
    have each : ∀ i, i < len → ∃ q : (Int × Int × Int), w.cell? (a.add (i * 3)) = some (.int .i64 q.1) ∧ w.cell? (a.add (i * 3 + 1)) = some (.int .i64 q.2.1) ∧ w.cell? (a.add (i * 3 + 2)) = some (.int .i64 q.2.2) := by
      intro i hi
      obtain ⟨cs', h1, h2⟩ := hx i (by omega)
      rw [Tryz.cells53w] at h1
      obtain ⟨_, hlen, hcell⟩ := World.cells?_some h1
      obtain ⟨xs, k, hk, hxy, _, hxl, hf⟩ := DataW.trod_struct Tryz.underlying53 h2
      match xs, hxl, cs', hlen with
      | [y0, y1, y2], _, [v0, v1, v2], _ =>
        have g0 := hf 0 _ rfl
        have g1 := hf 1 _ rfl
        have g2 := hf 2 _ rfl
        simp [Tryz.cells3] at g0 g1 g2
        obtain ⟨n0, e0, _, _⟩ := DataW.trod_int Tryz.underlying3 g0
        have c0 := hcell 0 (by omega)
        rw [add_add] at c0
        obtain ⟨n1, e1, _, _⟩ := DataW.trod_int Tryz.underlying3 g1
        have c1 := hcell 1 (by omega)
        rw [add_add] at c1
        obtain ⟨n2, e2, _, _⟩ := DataW.trod_int Tryz.underlying3 g2
        have c2 := hcell 2 (by omega)
        rw [add_add] at c2
        simp only [List.cons.injEq, and_true] at e0 e1 e2
        subst e0 e1 e2
        exact ⟨(n0, n1, n2), by simpa using c0, by simpa using c1, by simpa using c2⟩
    obtain ⟨q, hq⟩ := choose_lt each
    refine ⟨some a, (List.range len).map q, cap, by simp, fun i hi => ?_, by simpa using hl, by unfold maxLen at hm; simp; omega⟩
    have hi' : i < len := by simpa using hi
    obtain ⟨b, o, rfl⟩ := addSpot (by have := (hq 0 (by omega)).1; simpa using this)
    obtain ⟨h1, h2, h3⟩ := hq i hi'
    rw [addAt] at h1 h2 h3
    exact ⟨b, o, rfl, by simpa [Nat.add_assoc] using h1, by simpa [Nat.add_assoc] using h2, by simpa [Nat.add_assoc] using h3⟩


set_option maxRecDepth 100000 in
/-- A list of actions by value. -/
theorem open_acts {H : Type} {enc : TypeId × Value → H} {w : World} {b0 : Nat} {v : Value} {d : DataW H} {p : List MemPlace} (hv : Value.okWide Tryz.prog w .any b0 37 v) (h : DataW.Trod enc Tryz.prog w 0 (fun _ => true) true 37 v d p) :
    ∃ (a : Option Addr) (ls : List (Int × Int × Int)) (cap : Nat), v = .slice a ls.length cap ∧ ChansIn w a ls ∧ ls.length ≤ 9223372036854775807 := by
  obtain ⟨fuel, hf⟩ := h
  have hone : (Value.cells v).toList = [v] := by
    obtain ⟨a, n, c, rfl⟩ := okWide_slice Tryz.underlying37 hv
    rfl
  rw [hone] at hf
  obtain ⟨a, ls, cap, h1, h2, _, h4⟩ := actsIn_of_trod hf
  exact ⟨a, ls, cap, h1, h2, h4⟩

set_option maxRecDepth 100000 in
/-- Two times by value. -/
theorem open_times {H : Type} {enc : TypeId × Value → H} {w : World} {b0 : Nat} {v : Value} {d : DataW H} {p : List MemPlace} (hv : Value.okWide Tryz.prog w .any b0 39 v) (h : DataW.Trod enc Tryz.prog w 0 (fun _ => true) true 39 v d p) :
    ∃ (f t : Int), v = .agg #[.int .i64 f, .int .i64 t] := by
  obtain ⟨cs, rfl, hsz⟩ := okWide_struct Tryz.underlying39 hv
  obtain ⟨v0, v1, rfl⟩ := array2 (hsz.trans Tryz.cells39)
  obtain ⟨fuel, hf⟩ := h
  obtain ⟨xs, n, _, _, _, hlen, hff⟩ := DataW.trod_struct Tryz.underlying39 hf
  match xs, hlen with
  | [y0, y1], _ =>
    have g0 := hff 0 _ rfl
    have g1 := hff 1 _ rfl
    simp [Value.cells, Tryz.cells3] at g0 g1
    obtain ⟨n0, e0, _, _⟩ := DataW.trod_int Tryz.underlying3 g0
    obtain ⟨n1, e1, _, _⟩ := DataW.trod_int Tryz.underlying3 g1
    simp only [List.cons.injEq, and_true] at e0 e1
    subst e0 e1
    exact ⟨n0, n1, rfl⟩

/-- How many events a domain has, of those that are read. -/
theorem evs_small {H : Type} {enc : TypeId × Value → H} {w : World} {D : Dom} {A : DMem} {d : DataW H} {p : List MemPlace} (h : DataW.Trod enc Tryz.prog w 0 (fun _ => true) true 33 (dv D A) d p) : D.evs.length ≤ Rows.uptoBulk d := by
  obtain ⟨fuel, hf⟩ := h
  obtain ⟨xs, n, _, hx, _, hlen, hff⟩ := DataW.trod_struct Tryz.underlying33 hf
  match xs, hlen with
  | [y0, y1, y2, y3, y4, y5, y6], _ =>
    have g6 := hff 6 _ rfl
    simp [Value.cells, Tryz.cells31] at g6
    simp only [Prod.mk.injEq, List.map_cons, List.map_nil] at hx
    obtain ⟨rfl, _⟩ := hx
    rcases open_slice Tryz.underlying31 g6 with ⟨hcs, _⟩ | ⟨a, len, cap, m, n, DD, Pl, hcs, _, hl, hm, hmm, hx6, _⟩
    · simp only [List.cons.injEq, and_true, Value.slice.injEq] at hcs
      omega
    · simp only [List.cons.injEq, and_true, Value.slice.injEq] at hcs
      have hb : ∀ l : List (DataW H), l.length ≤ Rows.uptoBulkAll l := fun l => by
        induction l with
        | nil => simp [Rows.uptoBulkAll]
        | cons x r ih =>
          have : 1 ≤ Rows.uptoBulk x := by
            cases x with
            | lit l => cases l <;> simp [Rows.uptoBulk]
            | nil => simp [Rows.uptoBulk]
            | ptr d => simp [Rows.uptoBulk]
            | slice elems spare => simp [Rows.uptoBulk]
            | agg parts => simp [Rows.uptoBulk]
            | iface t d => simp [Rows.uptoBulk]
            | map entries => simp [Rows.uptoBulk]
            | held h => simp [Rows.uptoBulk]
          simp only [Rows.uptoBulkAll, List.length_cons]
          omega
      have e6 : y6.1 = .slice ((List.range len).map DD) ((List.range (m - len)).map fun j => DD (len + j)) := by rw [hx6]
      have h6 := hb ((List.range len).map DD)
      rw [List.length_map, List.length_range] at h6
      simp only [Rows.uptoBulk, Rows.uptoBulkAll, e6]
      omega


end Go.Proofs.YtildebflnmbefaaGreat
