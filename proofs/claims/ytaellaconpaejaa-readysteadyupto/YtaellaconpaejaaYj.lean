/- Walks: when a job comes, when it must be done, which is ahead. -/
import Derived.Test.YtaellaconpaejaaYh
set_option linter.unusedVariables false
namespace Go.Proofs.Ytaellaconpaejaa
open Go.RowKit

def tk (C : Conf) (i : Nat) : Int × Int × Int × Int := C.ta.getD i (0, 0, 0, 0)
/-- When the next job of task k comes. -/
def comesAt (C : Conf) (D : Dom) (k : Nat) : Int := wrap64 ((tk C k).2.1 * D.rel.getD k 0)
/-- When a job must be done. -/
def dueAt (C : Conf) (j : JobT) : Int := wrap64 (j.2.2.1 + (tk C j.1.toNat).2.2.2)

set_option maxRecDepth 100000 in
set_option maxHeartbeats 1000000 in
theorem deadline_any (kb : Nat) (D : Dom) (A : DMem) (C : Conf) (B : Mem) (dn : Int) (j : JobT) (w : World) (hK : KeepIn w kb D A C B dn) (h0 : 0 ≤ j.1) (h1 : j.1 < C.ta.length) :
    Calls Try.prog 137 #[.pointer (some ⟨kb, 0, none⟩), jv j] w fun e w' => e = .returned (.int .i64 (dueAt C j)) ∧ Below w.heap.size w w' := by
  obtain ⟨j0, j1, j2, j3, j4, j5⟩ := j
  dsimp only [jv] at *
  have q1 := below_new w (.cells #[.int .i64 j0, .int .i64 j1, .int .i64 j2, .int .i64 j3, .bool j4, .bool j5] 106)
  have hK1 := hK.keep q1
  have HB := hid q1
  obtain ⟨k, rfl⟩ : ∃ k : Nat, j0 = k := ⟨j0.toNat, by omega⟩
  have hlt : k < C.ta.length := by omega
  have c := hK1.row.cell 15 _ rfl
  obtain ⟨b, o, e, p0, p1, p2, p3⟩ := hK1.con.ta k hlt
  rw [e] at c
  have HE : Hid (dueAt C ((k : Int), j1, j2, j3, j4, j5) = wrap64 (j2 + C.ta[k].2.2.2)) := hid (by simp [dueAt, tk, hlt])
  clear q1 hK hK1 p0 p1 p2 e
  generalize C.ta[k].2.2.2 = z at *
  go_enter Try.func137, Try.ntmps137
  go_wp2
  go_quiet (fail)
  go_wp2
  go_ret
  exact ⟨ret_int HE.out.symm, below_drewN HB.out _⟩

set_option maxRecDepth 100000 in
set_option maxHeartbeats 1000000 in
theorem comes_any (kb : Nat) (D : Dom) (A : DMem) (C : Conf) (B : Mem) (dn : Int) (k : Nat) (w : World) (hK : KeepIn w kb D A C B dn) (hlt : k < C.ta.length) (hlr : k < D.rel.length) :
    Calls Try.prog 99 #[.pointer (some ⟨kb, 0, none⟩), .int .i64 (k : Int)] w fun e w' => e = .returned (.int .i64 (comesAt C D k)) ∧ Below w.heap.size w w' := by
  have c := hK.row.cell 15 _ rfl
  have c1 := hK.row.cell 1 _ rfl
  obtain ⟨b, o, e, p0, p1, p2, p3⟩ := hK.con.ta k hlt
  obtain ⟨b', o', e', p⟩ := hK.dom.rel k hlr
  rw [e] at c
  rw [e'] at c1
  have h1 : (k : Int) < C.ta.length := by omega
  have h2 : (k : Int) < D.rel.length := by omega
  have h0 : (0 : Int) ≤ k := by omega
  have HE : Hid (comesAt C D k = wrap64 (C.ta[k].2.1 * D.rel[k])) := hid (by simp [comesAt, tk, hlt, hlr])
  clear hK p0 p2 p3 e e'
  generalize C.ta[k].2.1 = z at *
  generalize D.rel[k] = y at *
  go_enter Try.func99, Try.ntmps99
  go_wp2
  go_quiet (fail)
  go_wp2
  go_ret
  exact ⟨ret_int HE.out.symm, below_drewN (Below.refl _ _) _⟩

/-- cmp.Compare of two numbers. -/
def cmpI (a b : Int) : Int := if a < b then -1 else if a = b then 0 else 1
set_option maxHeartbeats 1000000 in
theorem compare_any (a b : Int) (w : World) :
    Calls Try.prog 166 #[.int .i64 a, .int .i64 b] w fun e w' => e = .returned (.int .i64 (cmpI a b)) ∧ Below w.heap.size w w' := by
  go_enter Try.func166, Try.ntmps166
  go_wp2
  all_goals
    go_ret
    exact ⟨ret_int (by unfold cmpI; (repeat' split) <;> omega), Below.refl _ _⟩

/-- cmp.Or of three. -/
def orI (a b c : Int) : Int := if a ≠ 0 then a else if b ≠ 0 then b else c
set_option maxHeartbeats 1000000 in
theorem or_any (a b c : Int) (bb : Nat) (w : World) (h : RowAt w bb 3 [.int .i64 a, .int .i64 b, .int .i64 c]) :
    Calls Try.prog 165 #[.slice (some ⟨bb, 0, none⟩) 3 3] w fun e w' => e = .returned (.int .i64 (orI a b c)) ∧ Below w.heap.size w w' := by
  have c0 := h.cell 0 _ rfl
  have c1 := h.cell 1 _ rfl
  have c2 := h.cell 2 _ rfl
  clear h
  go_enter Try.func165, Try.ntmps165
  go_wp2
  go_loopw [8] (fun i wr => ∃ k : Nat, k ≤ 3 ∧ i = .int .i64 k ∧ wr = w ∧ (0 < k → a = 0) ∧ (1 < k → b = 0) ∧ (2 < k → c = 0)) (fun i _ => 3 - (intOf i).toNat)
  case atStart => exact ⟨0, Nat.zero_le _, rfl, rfl, by omega, by omega, by omega⟩
  case round =>
    obtain ⟨k, hk, rfl, rfl, n0, n1, n2⟩ := hrel
    have N0 := hid n0
    have N1 := hid n1
    have N2 := hid n2
    clear n0 n1 n2
    have hcs : k = 0 ∨ k = 1 ∨ k = 2 ∨ k = 3 := by omega
    rcases hcs with rfl | rfl | rfl | rfl
    · by_cases hx : a = 0
      · have HX := hid hx
        have hx' : (a != 0) = false := by simp [hx]
        clear hx
        go_wp2
        go_roundw
        case rel => exact ⟨1, by omega, by go_num, trivial, fun _ => HX.out, fun h => absurd h (by omega), fun h => absurd h (by omega)⟩
        case measure => simp [intOf]
      · have HX := hid hx
        have hx' : (a != 0) = true := by simp [hx]
        clear hx
        go_wp2
        go_ret
        exact ⟨ret_int (by unfold orI; have h0 := N0.out; have h1 := N1.out; have hx := HX.out; (repeat' split) <;> omega), Below.refl _ _⟩
    · by_cases hx : b = 0
      · have HX := hid hx
        have hx' : (b != 0) = false := by simp [hx]
        clear hx
        go_wp2
        go_roundw
        case rel => exact ⟨2, by omega, by go_num, trivial, fun h => N0.out (by omega), fun _ => HX.out, fun h => absurd h (by omega)⟩
        case measure => simp [intOf]
      · have HX := hid hx
        have hx' : (b != 0) = true := by simp [hx]
        clear hx
        go_wp2
        go_ret
        exact ⟨ret_int (by unfold orI; have h0 := N0.out; have h1 := N1.out; have hx := HX.out; (repeat' split) <;> omega), Below.refl _ _⟩
    · by_cases hx : c = 0
      · have HX := hid hx
        have hx' : (c != 0) = false := by simp [hx]
        clear hx
        go_wp2
        go_roundw
        case rel => exact ⟨3, by omega, by go_num, trivial, fun h => N0.out (by omega), fun h => N1.out (by omega), fun _ => HX.out⟩
        case measure => simp [intOf]
      · have HX := hid hx
        have hx' : (c != 0) = true := by simp [hx]
        clear hx
        go_wp2
        go_ret
        exact ⟨ret_int (by unfold orI; have h0 := N0.out; have h1 := N1.out; have hx := HX.out; (repeat' split) <;> omega), Below.refl _ _⟩
    · go_wp2
      go_ret
      exact ⟨ret_int (by unfold orI; have h0 := N0.out; have h1 := N1.out; have h2 := N2.out; (repeat' split) <;> omega), Below.refl _ _⟩

/-- Which of two jobs is ahead: what it must be done by, its task, its number. -/
def aheadB (C : Conf) (x y : JobT) : Bool := decide (orI (cmpI (dueAt C x) (dueAt C y)) (cmpI x.1 y.1) (cmpI x.2.1 y.2.1) < 0)

end Go.Proofs.Ytaellaconpaejaa
