/- How lists of lists of numbers that come in read, and how long they may be. -/
import Derived.Test.YtcdglnbkpklefaaXk
import Derived.Test.YtcdglnbkpklefaaXm
set_option linter.unusedVariables false
namespace Go.Proofs.Ytcdglnbkpklefaa
open Go.ChangeShapes Go.WideShapes Go.ChangeAt Go.RowKit Go.Deep Go.Joins

theorem Try.cells42x : Try.prog.cellsOf 42 = 1 := by kernel_rfl
theorem Try.bytes42 : Try.prog.bytesOf 42 = 24 := by kernel_rfl
theorem reach_is : reachBytes = 140737488351232 := rfl

theorem weightsAll_mem {H : Type} {P : Program} {e : TypeId} {d : DataW H} {n : Nat} : ∀ {ds : List (DataW H)}, d ∈ ds → n ∈ d.weights P e → n ∈ DataW.weightsAll P e ds
  | d0 :: r, hd, hn => by
    simp only [DataW.weightsAll, List.mem_append]
    rcases List.mem_cons.1 hd with rfl | h
    · exact .inl hn
    · exact .inr (weightsAll_mem h hn)

theorem i64_wf {n : Int} (h : (Lit.int .i64 n).wf = true) : -9223372036854775808 ≤ n ∧ n ≤ 9223372036854775807 := by
  simp only [Lit.wf, Bool.and_eq_true, decide_eq_true_eq] at h
  exact h

set_option maxRecDepth 100000 in
theorem getsIn_of_trod {H : Type} {enc : TypeId × Value → H} {w : World} {fuel : Nat} {v : Value} {x : DataW H × List MemPlace} (h : DataW.trod enc Try.prog w 0 (fun _ => true) true fuel 42 [v] = some x) :
    ∃ (a : Option Addr) (ls : List Int) (cap : Nat), v = .slice a ls.length cap ∧ IntsIn w a ls ∧ ls.length ≤ 9223372036854775807 ∧ ∀ y ∈ ls, -9223372036854775808 ≤ y ∧ y ≤ 9223372036854775807 := by
  rcases open_slice Try.underlying42 h with ⟨hcs, _⟩ | ⟨a, len, cap, m, n, D, Pl, hcs, _, hl, hm, hmm, hxx, hx⟩
  · simp only [List.cons.injEq, and_true] at hcs
    subst hcs
    exact ⟨none, [], 0, rfl, fun i hi => absurd hi (by simp), by simp, fun y hy => absurd hy (by simp)⟩
  · simp only [List.cons.injEq, and_true] at hcs
    subst hcs
    have hlm : len ≤ m := by rw [hmm]; simp; exact hl
    have each : ∀ i, i < len → ∃ q : Int, w.cell? (a.add (i * 1)) = some (.int .i64 q) ∧ -9223372036854775808 ≤ q ∧ q ≤ 9223372036854775807 := by
      intro i hi
      obtain ⟨cs', h1, h2⟩ := hx i (by omega)
      rw [Try.cells3] at h1
      obtain ⟨_, hlen, hcell⟩ := World.cells?_some h1
      match cs', hlen with
      | [v0], _ =>
        obtain ⟨n0, e0, _, hwf⟩ := DataW.trod_int Try.underlying3 h2
        simp only [List.cons.injEq, and_true] at e0
        have g0 := hcell 0 (by omega)
        rw [add_add] at g0
        subst e0
        exact ⟨n0, by simpa using g0, i64_wf hwf⟩
    obtain ⟨q, hq⟩ := choose_lt each
    refine ⟨some a, (List.range len).map q, cap, by simp, fun i hi => ?_, by unfold maxLen at hm; simp; omega, fun y hy => ?_⟩
    · have hi' : i < len := by simpa using hi
      obtain ⟨b, o, rfl⟩ := addSpot (by have := (hq 0 (by omega)).1; simpa using this)
      have h1 := (hq i hi').1
      rw [addAt] at h1
      exact ⟨b, o, rfl, by simpa [Nat.add_assoc] using h1⟩
    · simp only [List.mem_map, List.mem_range] at hy
      obtain ⟨i, hi, rfl⟩ := hy
      exact (hq i hi).2

set_option maxRecDepth 100000 in
/-- A list of numbers by value, each within its kind. -/
theorem open_gets {H : Type} {enc : TypeId × Value → H} {w : World} {b0 : Nat} {v : Value} {d : DataW H} {p : List MemPlace} (hv : Value.okWide Try.prog w .any b0 42 v) (h : DataW.Trod enc Try.prog w 0 (fun _ => true) true 42 v d p) :
    ∃ (a : Option Addr) (ls : List Int) (cap : Nat), v = .slice a ls.length cap ∧ IntsIn w a ls ∧ ls.length ≤ 9223372036854775807 ∧ ∀ y ∈ ls, -9223372036854775808 ≤ y ∧ y ≤ 9223372036854775807 := by
  obtain ⟨fuel, hf⟩ := h
  have hone : (Value.cells v).toList = [v] := by
    obtain ⟨a, n, c, rfl⟩ := okWide_slice Try.underlying42 hv
    rfl
  rw [hone] at hf
  exact getsIn_of_trod hf

set_option maxRecDepth 100000 in
/-- A list of lists of numbers by value. -/
theorem open_lists {H : Type} {enc : TypeId × Value → H} {w : World} {b0 : Nat} {v : Value} {d : DataW H} {p : List MemPlace} (hv : Value.okWide Try.prog w .any b0 83 v) (h : DataW.Trod enc Try.prog w 0 (fun _ => true) true 83 v d p) (hs : ∀ n ∈ d.weights Try.prog 83, n ≤ reachBytes) :
    ∃ (p : Option Addr) (LL : List (List Int)) (cp : Nat), v = .slice p LL.length cp ∧ LLIn w p LL ∧ LL.length * 24 ≤ 140737488351232 := by
  obtain ⟨fuel, hf⟩ := h
  have hone : (Value.cells v).toList = [v] := by
    obtain ⟨a, n, c, rfl⟩ := okWide_slice Try.underlying83 hv
    rfl
  rw [hone] at hf
  rcases open_slice1 Try.underlying83 Try.cells42x hf with ⟨hcs, _⟩ | ⟨a, len, cap, m, n, V, D, Pl, hcs, _, hl, hm, hmm, hxx, hx⟩
  · simp only [List.cons.injEq, and_true] at hcs
    subst hcs
    exact ⟨none, [], 0, rfl, fun i hi => absurd hi (by simp), by simp⟩
  · simp only [List.cons.injEq, and_true] at hcs
    subst hcs
    simp only [Prod.mk.injEq] at hxx
    obtain ⟨rfl, _⟩ := hxx
    have hlm : len ≤ m := by rw [hmm]; simp; exact hl
    have hw : DataW.weights Try.prog 83 (DataW.slice ((List.range len).map D) ((List.range (m - len)).map fun j => D (len + j))) = (((List.range len).map D).length + ((List.range (m - len)).map fun j => D (len + j)).length) * Try.prog.bytesOf 42 :: (DataW.weightsAll Try.prog 42 ((List.range len).map D) ++ DataW.weightsAll Try.prog 42 ((List.range (m - len)).map fun j => D (len + j))) := by
      simp [DataW.weights, Try.underlying83]
    rw [hw] at hs
    have hN : len * 24 ≤ 140737488351232 := by
      have := hs _ (List.mem_cons_self ..)
      rw [Try.bytes42, reach_is] at this
      simp at this
      omega
    have each : ∀ i, i < len → ∃ q : List Int × Option Addr × Nat, w.cell? (a.add i) = some (.slice q.2.1 q.1.length q.2.2) ∧ IntsIn w q.2.1 q.1 ∧ q.1.length ≤ q.2.2 ∧ q.1.length ≤ 140737488355328 := by
      intro i hi
      obtain ⟨h1, h2⟩ := hx i (by omega)
      obtain ⟨a', ls, cap', e, hin, hc, _, hd⟩ := intsx_of_trod h2
      refine ⟨(ls, a', cap'), by rw [h1, e], hin, hc, ?_⟩
      rcases hd with rfl | ⟨el, sp, e2, he⟩
      · simp
      · have hmem : D i ∈ (List.range len).map D := List.mem_map.2 ⟨i, List.mem_range.2 hi, rfl⟩
        have hwm : (el.length + sp.length) * Try.prog.bytesOf 3 ∈ (D i).weights Try.prog 42 := by
          rw [show D i = DataW.slice el sp from e2]
          simp [DataW.weights, Try.underlying42]
        have := hs _ (List.mem_cons_of_mem _ (List.mem_append_left _ (weightsAll_mem hmem hwm)))
        rw [Try.bytes3, reach_is] at this
        simp only
        omega
    obtain ⟨q, hq⟩ := choose_lt each
    refine ⟨some a, (List.range len).map fun i => (q i).1, cap, by simp, fun i hi => ?_, by simpa using hN⟩
    have hi' : i < len := by simpa using hi
    obtain ⟨b, o, rfl⟩ := addSpot (by have := (hq 0 (by omega)).1; simpa using this)
    obtain ⟨h1, h2, h3, h4⟩ := hq i hi'
    rw [addAt] at h1
    refine ⟨b, o, (q i).2.1, (q i).2.2, rfl, by simpa using h1, by simpa using h2, by simpa using h3, by simpa using h4⟩

end Go.Proofs.Ytcdglnbkpklefaa
