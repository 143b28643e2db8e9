/- A config of one domain, with one task. Walks of the document's answer: the check of a config. How a config that comes in reads: numbers and lists. Walks: how long slots are, when they begin. -/
import Derived.Test.YtildebflnmbefaaGreatKd
import Derived.Test.YtildebflnmbefaaGreatKa
import Derived.BigQuiet
import Derived.ProofKit
import Derived.OpenShut
import Derived.ShutString
import Derived.ChangeOld
import Derived.Below
import Derived.Deep.Slices
import Derived.Deep.SlicePairs
import Derived.Lib.SmallJoins
set_option linter.unusedVariables false
namespace Go.Proofs.YtildebflnmbefaaGreat
open Go.RowKit

/-- A config of one domain, with one task. -/
def oneC : Conf := ⟨1, 1, 1, 10, 4, [(0, 100)], [], [], [(0, 50, 40, 30)]⟩

theorem one_ck : ckC oneC = 0 := by decide

end Go.Proofs.YtildebflnmbefaaGreat

namespace Go.Proofs.YtildebflnmbefaaGreat
open Go.RowKit

end Go.Proofs.YtildebflnmbefaaGreat

namespace Go.Proofs.YtildebflnmbefaaGreat
open Go.ChangeShapes Go.WideShapes Go.ChangeAt Go.RowKit Go.Deep Go.Joins

theorem Tryz.own : ownKnob Tryz.prog.godebug = none := by kernel_rfl
theorem Tryz.laidOut : laidOutB Tryz.prog = true := by kernel_rfl
theorem Tryz.cells3 : Tryz.prog.cellsOf 3 = 1 := by kernel_rfl
theorem Tryz.cells27 : Tryz.prog.cellsOf 27 = 9 := by kernel_rfl
theorem Tryz.cells22 : Tryz.prog.cellsOf 22 = 1 := by kernel_rfl
theorem Tryz.cells23 : Tryz.prog.cellsOf 23 = 1 := by kernel_rfl
theorem Tryz.cells24 : Tryz.prog.cellsOf 24 = 1 := by kernel_rfl
theorem Tryz.cells25 : Tryz.prog.cellsOf 25 = 1 := by kernel_rfl
theorem Tryz.cells67 : Tryz.prog.cellsOf 67 = 2 := by kernel_rfl
theorem Tryz.cells117 : Tryz.prog.cellsOf 117 = 3 := by kernel_rfl
theorem Tryz.cells69 : Tryz.prog.cellsOf 69 = 4 := by kernel_rfl

theorem addSpot {w : World} {a : Addr} {v : Value} (h : w.cell? (a.add 0) = some v) : ∃ b o, a = ⟨b, o, none⟩ := by
  obtain ⟨b, o, s⟩ := a
  have hs : s = none := by simpa [Addr.add] using World.cell?_spot h
  subst hs
  exact ⟨b, o, rfl⟩

theorem addAt (b o j : Nat) : (⟨b, o, none⟩ : Addr).add j = ⟨b, o + j, none⟩ := by unfold Addr.add; split <;> simp_all

set_option maxRecDepth 100000 in
theorem intsIn_of_trod {H : Type} {enc : TypeId × Value → H} {w : World} {fuel : Nat} {v : Value} {x : DataW H × List MemPlace} (h : DataW.trod enc Tryz.prog w 0 (fun _ => true) true fuel 23 [v] = some x) :
    ∃ (a : Option Addr) (ls : List Int) (cap : Nat), v = .slice a ls.length cap ∧ IntsIn w a ls ∧ ls.length ≤ cap ∧ ls.length ≤ 9223372036854775807 := by
  rcases open_slice Tryz.underlying23 h with ⟨hcs, _⟩ | ⟨a, len, cap, m, n, D, Pl, hcs, _, hl, hm, hmm, _, hx⟩
  · simp only [List.cons.injEq, and_true] at hcs
    subst hcs
    exact ⟨none, [], 0, rfl, fun i hi => absurd hi (by simp), by simp, by simp⟩
  · simp only [List.cons.injEq, and_true] at hcs
    subst hcs
    have hlm : len ≤ m := by rw [hmm]; simp; exact hl
    have each : ∀ i, i < len → ∃ q : Int, w.cell? (a.add (i * 1)) = some (.int .i64 q) := by
      intro i hi
      obtain ⟨cs', h1, h2⟩ := hx i (by omega)
      rw [Tryz.cells3] at h1
      obtain ⟨_, hlen, hcell⟩ := World.cells?_some h1
      match cs', hlen with
      | [v0], _ =>
        obtain ⟨n0, e0, _, _⟩ := DataW.trod_int Tryz.underlying3 h2
        simp only [List.cons.injEq, and_true] at e0
        have g0 := hcell 0 (by omega)
        rw [add_add] at g0
        subst e0
        exact ⟨n0, by simpa using g0⟩
    obtain ⟨q, hq⟩ := choose_lt each
    refine ⟨some a, (List.range len).map q, cap, by simp, fun i hi => ?_, by simpa using hl, by unfold maxLen at hm; simp; omega⟩
    have hi' : i < len := by simpa using hi
    obtain ⟨b, o, rfl⟩ := addSpot (by have := (hq 0 (by omega)); simpa using this)
    obtain h1 := hq i hi'
    rw [addAt] at h1
    exact ⟨b, o, rfl, by simpa [Nat.add_assoc] using h1⟩

set_option maxRecDepth 100000 in
theorem slotsIn_of_trod {H : Type} {enc : TypeId × Value → H} {w : World} {fuel : Nat} {v : Value} {x : DataW H × List MemPlace} (h : DataW.trod enc Tryz.prog w 0 (fun _ => true) true fuel 22 [v] = some x) :
    ∃ (a : Option Addr) (ls : List (Int × Int)) (cap : Nat), v = .slice a ls.length cap ∧ SlotsIn w a ls ∧ ls.length ≤ cap ∧ ls.length ≤ 9223372036854775807 := by
  rcases open_slice Tryz.underlying22 h with ⟨hcs, _⟩ | ⟨a, len, cap, m, n, D, Pl, hcs, _, hl, hm, hmm, _, hx⟩
  · simp only [List.cons.injEq, and_true] at hcs
    subst hcs
    exact ⟨none, [], 0, rfl, fun i hi => absurd hi (by simp), by simp, by simp⟩
  · simp only [List.cons.injEq, and_true] at hcs
    subst hcs
    have hlm : len ≤ m := by rw [hmm]; simp; exact hl
    have each : ∀ i, i < len → ∃ q : (Int × Int), w.cell? (a.add (i * 2)) = some (.int .i64 q.1) ∧ w.cell? (a.add (i * 2 + 1)) = some (.int .i64 q.2) := by
      intro i hi
      obtain ⟨cs', h1, h2⟩ := hx i (by omega)
      rw [Tryz.cells67] at h1
      obtain ⟨_, hlen, hcell⟩ := World.cells?_some h1
      obtain ⟨xs, k, hk, hxy, _, hxl, hf⟩ := DataW.trod_struct Tryz.underlying67 h2
      match xs, hxl, cs', hlen with
      | [y0, y1], _, [v0, v1], _ =>
        have g0 := hf 0 _ rfl
        have g1 := hf 1 _ rfl
        simp [Tryz.cells3] at g0 g1
        obtain ⟨n0, e0, _, _⟩ := DataW.trod_int Tryz.underlying3 g0
        have c0 := hcell 0 (by omega)
        rw [add_add] at c0
        obtain ⟨n1, e1, _, _⟩ := DataW.trod_int Tryz.underlying3 g1
        have c1 := hcell 1 (by omega)
        rw [add_add] at c1
        simp only [List.cons.injEq, and_true] at e0 e1
        subst e0 e1
        exact ⟨(n0, n1), by simpa using c0, by simpa using c1⟩
    obtain ⟨q, hq⟩ := choose_lt each
    refine ⟨some a, (List.range len).map q, cap, by simp, fun i hi => ?_, by simpa using hl, by unfold maxLen at hm; simp; omega⟩
    have hi' : i < len := by simpa using hi
    obtain ⟨b, o, rfl⟩ := addSpot (by have := (hq 0 (by omega)).1; simpa using this)
    obtain ⟨h1, h2⟩ := hq i hi'
    rw [addAt] at h1 h2
    exact ⟨b, o, rfl, by simpa [Nat.add_assoc] using h1, by simpa [Nat.add_assoc] using h2⟩

set_option maxRecDepth 100000 in
theorem chansIn_of_trod {H : Type} {enc : TypeId × Value → H} {w : World} {fuel : Nat} {v : Value} {x : DataW H × List MemPlace} (h : DataW.trod enc Tryz.prog w 0 (fun _ => true) true fuel 24 [v] = some x) :
    ∃ (a : Option Addr) (ls : List (Int × Int × Int)) (cap : Nat), v = .slice a ls.length cap ∧ ChansIn w a ls ∧ ls.length ≤ cap ∧ ls.length ≤ 9223372036854775807 := by
  rcases open_slice Tryz.underlying24 h with ⟨hcs, _⟩ | ⟨a, len, cap, m, n, D, Pl, hcs, _, hl, hm, hmm, _, hx⟩
  · simp only [List.cons.injEq, and_true] at hcs
    subst hcs
    exact ⟨none, [], 0, rfl, fun i hi => absurd hi (by simp), by simp, by simp⟩
  · simp only [List.cons.injEq, and_true] at hcs
    subst hcs
    have hlm : len ≤ m := by rw [hmm]; simp; exact hl
    have each : ∀ i, i < len → ∃ q : (Int × Int × Int), w.cell? (a.add (i * 3)) = some (.int .i64 q.1) ∧ w.cell? (a.add (i * 3 + 1)) = some (.int .i64 q.2.1) ∧ w.cell? (a.add (i * 3 + 2)) = some (.int .i64 q.2.2) := by
      intro i hi
      obtain ⟨cs', h1, h2⟩ := hx i (by omega)
      rw [Tryz.cells117] at h1
      obtain ⟨_, hlen, hcell⟩ := World.cells?_some h1
      obtain ⟨xs, k, hk, hxy, _, hxl, hf⟩ := DataW.trod_struct Tryz.underlying117 h2
      match xs, hxl, cs', hlen with
      | [y0, y1, y2], _, [v0, v1, v2], _ =>
        have g0 := hf 0 _ rfl
        have g1 := hf 1 _ rfl
        have g2 := hf 2 _ rfl
        simp [Tryz.cells3] at g0 g1 g2
        obtain ⟨n0, e0, _, _⟩ := DataW.trod_int Tryz.underlying3 g0
        have c0 := hcell 0 (by omega)
        rw [add_add] at c0
        obtain ⟨n1, e1, _, _⟩ := DataW.trod_int Tryz.underlying3 g1
        have c1 := hcell 1 (by omega)
        rw [add_add] at c1
        obtain ⟨n2, e2, _, _⟩ := DataW.trod_int Tryz.underlying3 g2
        have c2 := hcell 2 (by omega)
        rw [add_add] at c2
        simp only [List.cons.injEq, and_true] at e0 e1 e2
        subst e0 e1 e2
        exact ⟨(n0, n1, n2), by simpa using c0, by simpa using c1, by simpa using c2⟩
    obtain ⟨q, hq⟩ := choose_lt each
    refine ⟨some a, (List.range len).map q, cap, by simp, fun i hi => ?_, by simpa using hl, by unfold maxLen at hm; simp; omega⟩
    have hi' : i < len := by simpa using hi
    obtain ⟨b, o, rfl⟩ := addSpot (by have := (hq 0 (by omega)).1; simpa using this)
    obtain ⟨h1, h2, h3⟩ := hq i hi'
    rw [addAt] at h1 h2 h3
    exact ⟨b, o, rfl, by simpa [Nat.add_assoc] using h1, by simpa [Nat.add_assoc] using h2, by simpa [Nat.add_assoc] using h3⟩

set_option maxRecDepth 100000 in
theorem tasksIn_of_trod {H : Type} {enc : TypeId × Value → H} {w : World} {fuel : Nat} {v : Value} {x : DataW H × List MemPlace} (h : DataW.trod enc Tryz.prog w 0 (fun _ => true) true fuel 25 [v] = some x) :
    ∃ (a : Option Addr) (ls : List (Int × Int × Int × Int)) (cap : Nat), v = .slice a ls.length cap ∧ TasksIn w a ls ∧ ls.length ≤ cap ∧ ls.length ≤ 9223372036854775807 := by
  rcases open_slice Tryz.underlying25 h with ⟨hcs, _⟩ | ⟨a, len, cap, m, n, D, Pl, hcs, _, hl, hm, hmm, _, hx⟩
  · simp only [List.cons.injEq, and_true] at hcs
    subst hcs
    exact ⟨none, [], 0, rfl, fun i hi => absurd hi (by simp), by simp, by simp⟩
  · simp only [List.cons.injEq, and_true] at hcs
    subst hcs
    have hlm : len ≤ m := by rw [hmm]; simp; exact hl
    have each : ∀ i, i < len → ∃ q : (Int × Int × Int × Int), w.cell? (a.add (i * 4)) = some (.int .i64 q.1) ∧ w.cell? (a.add (i * 4 + 1)) = some (.int .i64 q.2.1) ∧ w.cell? (a.add (i * 4 + 2)) = some (.int .i64 q.2.2.1) ∧ w.cell? (a.add (i * 4 + 3)) = some (.int .i64 q.2.2.2) := by
      intro i hi
      obtain ⟨cs', h1, h2⟩ := hx i (by omega)
      rw [Tryz.cells69] at h1
      obtain ⟨_, hlen, hcell⟩ := World.cells?_some h1
      obtain ⟨xs, k, hk, hxy, _, hxl, hf⟩ := DataW.trod_struct Tryz.underlying69 h2
      match xs, hxl, cs', hlen with
      | [y0, y1, y2, y3], _, [v0, v1, v2, v3], _ =>
        have g0 := hf 0 _ rfl
        have g1 := hf 1 _ rfl
        have g2 := hf 2 _ rfl
        have g3 := hf 3 _ rfl
        simp [Tryz.cells3] at g0 g1 g2 g3
        obtain ⟨n0, e0, _, _⟩ := DataW.trod_int Tryz.underlying3 g0
        have c0 := hcell 0 (by omega)
        rw [add_add] at c0
        obtain ⟨n1, e1, _, _⟩ := DataW.trod_int Tryz.underlying3 g1
        have c1 := hcell 1 (by omega)
        rw [add_add] at c1
        obtain ⟨n2, e2, _, _⟩ := DataW.trod_int Tryz.underlying3 g2
        have c2 := hcell 2 (by omega)
        rw [add_add] at c2
        obtain ⟨n3, e3, _, _⟩ := DataW.trod_int Tryz.underlying3 g3
        have c3 := hcell 3 (by omega)
        rw [add_add] at c3
        simp only [List.cons.injEq, and_true] at e0 e1 e2 e3
        subst e0 e1 e2 e3
        exact ⟨(n0, n1, n2, n3), by simpa using c0, by simpa using c1, by simpa using c2, by simpa using c3⟩
    obtain ⟨q, hq⟩ := choose_lt each
    refine ⟨some a, (List.range len).map q, cap, by simp, fun i hi => ?_, by simpa using hl, by unfold maxLen at hm; simp; omega⟩
    have hi' : i < len := by simpa using hi
    obtain ⟨b, o, rfl⟩ := addSpot (by have := (hq 0 (by omega)).1; simpa using this)
    obtain ⟨h1, h2, h3, h4⟩ := hq i hi'
    rw [addAt] at h1 h2 h3 h4
    exact ⟨b, o, rfl, by simpa [Nat.add_assoc] using h1, by simpa [Nat.add_assoc] using h2, by simpa [Nat.add_assoc] using h3, by simpa [Nat.add_assoc] using h4⟩

theorem array9 {α : Type} {cs : Array α} (h : cs.size = 9) : ∃ c0 c1 c2 c3 c4 c5 c6 c7 c8, cs = #[c0, c1, c2, c3, c4, c5, c6, c7, c8] := by
  obtain ⟨l⟩ := cs
  match l, h with
  | [c0, c1, c2, c3, c4, c5, c6, c7, c8], _ => exact ⟨c0, c1, c2, c3, c4, c5, c6, c7, c8, rfl⟩

set_option maxRecDepth 100000 in
/-- A config by value. -/
theorem open_conf {H : Type} {enc : TypeId × Value → H} {w : World} {b0 : Nat} {v : Value} {d : DataW H} {p : List MemPlace} (hv : Value.okWide Tryz.prog w .any b0 27 v) (h : DataW.Trod enc Tryz.prog w 0 (fun _ => true) true 27 v d p) :
    ∃ (C : Conf) (A : Mem), v = cv C A ∧ ConfIn w A C := by
  obtain ⟨cs, rfl, hsz⟩ := okWide_struct Tryz.underlying27 hv
  obtain ⟨v0, v1, v2, v3, v4, v5, v6, v7, v8, rfl⟩ := array9 (hsz.trans Tryz.cells27)
  obtain ⟨fuel, hf⟩ := h
  obtain ⟨xs, n, _, _, _, hlen, hff⟩ := DataW.trod_struct Tryz.underlying27 hf
  match xs, hlen with
  | [y0, y1, y2, y3, y4, y5, y6, y7, y8], _ =>
    have g0 := hff 0 _ rfl
    have g1 := hff 1 _ rfl
    have g2 := hff 2 _ rfl
    have g3 := hff 3 _ rfl
    have g4 := hff 4 _ rfl
    have g5 := hff 5 _ rfl
    have g6 := hff 6 _ rfl
    have g7 := hff 7 _ rfl
    have g8 := hff 8 _ rfl
    simp [Value.cells, Tryz.cells3, Tryz.cells22, Tryz.cells23, Tryz.cells24, Tryz.cells25] at g0 g1 g2 g3 g4 g5 g6 g7 g8
    obtain ⟨n0, e0, _, _⟩ := DataW.trod_int Tryz.underlying3 g0
    obtain ⟨n1, e1, _, _⟩ := DataW.trod_int Tryz.underlying3 g1
    obtain ⟨n2, e2, _, _⟩ := DataW.trod_int Tryz.underlying3 g2
    obtain ⟨n3, e3, _, _⟩ := DataW.trod_int Tryz.underlying3 g3
    obtain ⟨n4, e4, _, _⟩ := DataW.trod_int Tryz.underlying3 g4
    simp only [List.cons.injEq, and_true] at e0 e1 e2 e3 e4
    subst e0 e1 e2 e3 e4
    obtain ⟨a5, sl, c5, rfl, i5, k5, l5⟩ := slotsIn_of_trod g5
    obtain ⟨a6, ow, c6, rfl, i6, k6, l6⟩ := intsIn_of_trod g6
    obtain ⟨a7, ch, c7, rfl, i7, k7, l7⟩ := chansIn_of_trod g7
    obtain ⟨a8, ta, c8, rfl, i8, k8, l8⟩ := tasksIn_of_trod g8
    exact ⟨⟨n0, n1, n2, n3, n4, sl, ow, ch, ta⟩, ⟨a5, a6, a7, a8, c5, c6, c7, c8⟩, rfl, ⟨i5, i6, i7, i8, l5, l6, l7, l8, k7⟩⟩

end Go.Proofs.YtildebflnmbefaaGreat

namespace Go.Proofs.YtildebflnmbefaaGreat
open Go.RowKit

/-- How long slots are together. -/
def sumS (l : List (Int × Int)) : Int := (l.map (·.2)).sum
theorem sumS_take (l : List (Int × Int)) (k : Nat) (h : k < l.length) : sumS (l.take (k + 1)) = sumS (l.take k) + l[k].2 := by
  rw [List.take_add_one, List.getElem?_eq_getElem h]
  simp only [sumS, List.map_append, List.sum_append, Option.toList, List.map_cons, List.map_nil, List.sum_cons, List.sum_nil]
  omega
def SmallS (l : List (Int × Int)) : Prop := l.length ≤ 6 ∧ ∀ i (h : i < l.length), 0 ≤ l[i].2 ∧ l[i].2 ≤ 1000
theorem sumS_bound {l : List (Int × Int)} (h : SmallS l) : ∀ k, k ≤ l.length → 0 ≤ sumS (l.take k) ∧ sumS (l.take k) ≤ 1000 * k := by
  intro k
  induction k with
  | zero => intro _; simp [sumS]
  | succ k ih =>
    intro hk
    have h1 := ih (by omega)
    have h2 := h.2 k (by omega)
    rw [sumS_take l k (by omega)]
    omega

theorem small_of {C : Conf} (h : ckC C = 0) : SmallS C.sl ∧ 1 ≤ C.sl.length := by
  obtain ⟨_, _, h2, h3, _⟩ := ck_ok h
  have hl : 1 ≤ C.sl.length ∧ C.sl.length ≤ 6 := by
    unfold ckCnt at h2
    split at h2
    · rename_i hx; simp [inR] at hx; omega
    · omega
  refine ⟨⟨hl.2, fun i hi => ?_⟩, hl.1⟩
  have := fe_eq_zero h3 i hi
  simp only [getD_of _ _ hi, ckSl] at this
  split at this
  · split at this
    · rename_i hx; simp [inR] at hx; omega
    · omega
  · omega

theorem SmallS.take {l : List (Int × Int)} (h : SmallS l) (k : Nat) : SmallS (l.take k) := by
  refine ⟨by rw [List.length_take]; have := h.1; omega, fun i hi => ?_⟩
  have hi' : i < l.length := by rw [List.length_take] at hi; omega
  rw [List.getElem_take]
  exact h.2 i hi'
theorem SlotsIn.take {w : World} {a : Option Addr} {l : List (Int × Int)} (h : SlotsIn w a l) (k : Nat) : SlotsIn w a (l.take k) := by
  intro i hi
  have hi' : i < l.length := by rw [List.length_take] at hi; omega
  simp only [List.getElem_take]
  exact h i hi'

/-- What is wrong with a slot's number. -/
def ckSlot (C : Conf) (s : Int) : Int := if ckC C = 0 then (if inR s 0 ((C.sl.length : Int) - 1) then 0 else 5) else ckC C

/-- Length's answer. -/
def lenV (C : Conf) : Value := .tuple #[.int .i64 (if ckC C = 0 then sumS C.sl else 0), .int .i64 (ckC C)]
/-- What is wrong with a round and a slot. -/
def ckRS (C : Conf) (r s : Int) : Int := if ckC C = 0 then (if inR r 0 8 then (if inR s 0 ((C.sl.length : Int) - 1) then 0 else 5) else 3) else ckC C
/-- When a slot of a round begins. -/
def startI (C : Conf) (r s : Int) : Int := r * sumS C.sl + sumS (C.sl.take s.toNat)
def startV (C : Conf) (r s : Int) : Value := .tuple #[.int .i64 (if ckRS C r s = 0 then startI C r s else 0), .int .i64 (ckRS C r s)]

theorem start_wrap {l : List (Int × Int)} (h : SmallS l) (r : Int) (h0 : 0 ≤ r) (h8 : r ≤ 8) (k : Nat) (hk : k ≤ l.length) : wrap64 (r * sumS l) = r * sumS l ∧ wrap64 (r * sumS l + sumS (l.take k)) = r * sumS l + sumS (l.take k) ∧ 0 ≤ r * sumS l ∧ r * sumS l ≤ 48000 ∧ 0 ≤ sumS (l.take k) ∧ sumS (l.take k) ≤ 6000 := by
  have h1 := sumS_bound h l.length (Nat.le_refl _)
  rw [List.take_length] at h1
  have h2 := sumS_bound h k hk
  have h6 := h.1
  have h3 : 0 ≤ r * sumS l := Int.mul_nonneg h0 h1.1
  have h4 : r * sumS l ≤ 8 * sumS l := Int.mul_le_mul_of_nonneg_right h8 h1.1
  refine ⟨?_, ?_, h3, by omega, h2.1, by omega⟩ <;> (unfold wrap64; omega)

end Go.Proofs.YtildebflnmbefaaGreat
