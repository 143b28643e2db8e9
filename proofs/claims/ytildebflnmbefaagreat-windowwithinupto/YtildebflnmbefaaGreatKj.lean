/- Walks: when a job comes, when it must be done, which is ahead. Walks: which job is ahead. Walks: the first job, that no other one is ahead of. -/
import Derived.Test.YtildebflnmbefaaGreatKi
set_option linter.unusedVariables false
namespace Go.Proofs.YtildebflnmbefaaGreat
open Go.RowKit

def tk (C : Conf) (i : Nat) : Int × Int × Int × Int := C.ta.getD i (0, 0, 0, 0)
/-- When the next job of task k comes. -/
def comesAt (C : Conf) (D : Dom) (k : Nat) : Int := wrap64 ((tk C k).2.1 * D.rel.getD k 0)
/-- When a job must be done. -/
def dueAt (C : Conf) (j : JobT) : Int := wrap64 (j.2.2.1 + (tk C j.1.toNat).2.2.2)

set_option maxRecDepth 100000 in
set_option maxHeartbeats 1000000 in
theorem deadline_any (kb : Nat) (D : Dom) (A : DMem) (C : Conf) (B : Mem) (dn : Int) (j : JobT) (w : World) (hK : KeepIn w kb D A C B dn) (h0 : 0 ≤ j.1) (h1 : j.1 < C.ta.length) :
    Calls Tryz.prog 92 #[.pointer (some ⟨kb, 0, none⟩), jv j] w fun e w' => e = .returned (.int .i64 (dueAt C j)) ∧ Below w.heap.size w w' := by
  obtain ⟨j0, j1, j2, j3, j4, j5⟩ := j
  dsimp only [jv] at *
  have q1 := below_new w (.cells #[.int .i64 j0, .int .i64 j1, .int .i64 j2, .int .i64 j3, .bool j4, .bool j5] 79)
  have hK1 := hK.keep q1
  have HB := hid q1
  obtain ⟨k, rfl⟩ : ∃ k : Nat, j0 = k := ⟨j0.toNat, by omega⟩
  have hlt : k < C.ta.length := by omega
  have c := hK1.row.cell 15 _ rfl
  obtain ⟨b, o, e, p0, p1, p2, p3⟩ := hK1.con.ta k hlt
  rw [e] at c
  have HE : Hid (dueAt C ((k : Int), j1, j2, j3, j4, j5) = wrap64 (j2 + C.ta[k].2.2.2)) := hid (by simp [dueAt, tk, hlt])
  clear q1 hK hK1 p0 p1 p2 e
  generalize C.ta[k].2.2.2 = z at *
  go_enter Tryz.func92, Tryz.ntmps92
  go_wp2
  go_quiet (fail)
  go_wp2
  go_ret
  exact ⟨ret_int HE.out.symm, below_drewN HB.out _⟩

set_option maxRecDepth 100000 in
set_option maxHeartbeats 1000000 in
theorem comes_any (kb : Nat) (D : Dom) (A : DMem) (C : Conf) (B : Mem) (dn : Int) (k : Nat) (w : World) (hK : KeepIn w kb D A C B dn) (hlt : k < C.ta.length) (hlr : k < D.rel.length) :
    Calls Tryz.prog 67 #[.pointer (some ⟨kb, 0, none⟩), .int .i64 (k : Int)] w fun e w' => e = .returned (.int .i64 (comesAt C D k)) ∧ Below w.heap.size w w' := by
  have c := hK.row.cell 15 _ rfl
  have c1 := hK.row.cell 1 _ rfl
  obtain ⟨b, o, e, p0, p1, p2, p3⟩ := hK.con.ta k hlt
  obtain ⟨b', o', e', p⟩ := hK.dom.rel k hlr
  rw [e] at c
  rw [e'] at c1
  have h1 : (k : Int) < C.ta.length := by omega
  have h2 : (k : Int) < D.rel.length := by omega
  have h0 : (0 : Int) ≤ k := by omega
  have HE : Hid (comesAt C D k = wrap64 (C.ta[k].2.1 * D.rel[k])) := hid (by simp [comesAt, tk, hlt, hlr])
  clear hK p0 p2 p3 e e'
  generalize C.ta[k].2.1 = z at *
  generalize D.rel[k] = y at *
  go_enter Tryz.func67, Tryz.ntmps67
  go_wp2
  go_quiet (fail)
  go_wp2
  go_ret
  exact ⟨ret_int HE.out.symm, below_drewN (Below.refl _ _) _⟩

/-- cmp.Compare of two numbers. -/
def cmpI (a b : Int) : Int := if a < b then -1 else if a = b then 0 else 1
set_option maxHeartbeats 1000000 in
theorem compare_any (a b : Int) (w : World) :
    Calls Tryz.prog 104 #[.int .i64 a, .int .i64 b] w fun e w' => e = .returned (.int .i64 (cmpI a b)) ∧ Below w.heap.size w w' := by
  go_enter Tryz.func104, Tryz.ntmps104
  go_wp2
  all_goals
    go_ret
    exact ⟨ret_int (by unfold cmpI; (repeat' split) <;> omega), Below.refl _ _⟩

/-- cmp.Or of three. -/
def orI (a b c : Int) : Int := if a ≠ 0 then a else if b ≠ 0 then b else c
set_option maxHeartbeats 1000000 in
theorem or_any (a b c : Int) (bb : Nat) (w : World) (h : RowAt w bb 3 [.int .i64 a, .int .i64 b, .int .i64 c]) :
    Calls Tryz.prog 103 #[.slice (some ⟨bb, 0, none⟩) 3 3] w fun e w' => e = .returned (.int .i64 (orI a b c)) ∧ Below w.heap.size w w' := by
  have c0 := h.cell 0 _ rfl
  have c1 := h.cell 1 _ rfl
  have c2 := h.cell 2 _ rfl
  clear h
  go_enter Tryz.func103, Tryz.ntmps103
  go_wp2
  go_loopw [8] (fun i wr => ∃ k : Nat, k ≤ 3 ∧ i = .int .i64 k ∧ wr = w ∧ (0 < k → a = 0) ∧ (1 < k → b = 0) ∧ (2 < k → c = 0)) (fun i _ => 3 - (intOf i).toNat)
  case atStart => exact ⟨0, Nat.zero_le _, rfl, rfl, by omega, by omega, by omega⟩
  case round =>
    obtain ⟨k, hk, rfl, rfl, n0, n1, n2⟩ := hrel
    have N0 := hid n0
    have N1 := hid n1
    have N2 := hid n2
    clear n0 n1 n2
    have hcs : k = 0 ∨ k = 1 ∨ k = 2 ∨ k = 3 := by omega
    rcases hcs with rfl | rfl | rfl | rfl
    · by_cases hx : a = 0
      · have HX := hid hx
        have hx' : (a != 0) = false := by simp [hx]
        clear hx
        go_wp2
        go_roundw
        case rel => exact ⟨1, by omega, by go_num, trivial, fun _ => HX.out, fun h => absurd h (by omega), fun h => absurd h (by omega)⟩
        case measure => simp [intOf]
      · have HX := hid hx
        have hx' : (a != 0) = true := by simp [hx]
        clear hx
        go_wp2
        go_ret
        exact ⟨ret_int (by unfold orI; have h0 := N0.out; have h1 := N1.out; have hx := HX.out; (repeat' split) <;> omega), Below.refl _ _⟩
    · by_cases hx : b = 0
      · have HX := hid hx
        have hx' : (b != 0) = false := by simp [hx]
        clear hx
        go_wp2
        go_roundw
        case rel => exact ⟨2, by omega, by go_num, trivial, fun h => N0.out (by omega), fun _ => HX.out, fun h => absurd h (by omega)⟩
        case measure => simp [intOf]
      · have HX := hid hx
        have hx' : (b != 0) = true := by simp [hx]
        clear hx
        go_wp2
        go_ret
        exact ⟨ret_int (by unfold orI; have h0 := N0.out; have h1 := N1.out; have hx := HX.out; (repeat' split) <;> omega), Below.refl _ _⟩
    · by_cases hx : c = 0
      · have HX := hid hx
        have hx' : (c != 0) = false := by simp [hx]
        clear hx
        go_wp2
        go_roundw
        case rel => exact ⟨3, by omega, by go_num, trivial, fun h => N0.out (by omega), fun h => N1.out (by omega), fun _ => HX.out⟩
        case measure => simp [intOf]
      · have HX := hid hx
        have hx' : (c != 0) = true := by simp [hx]
        clear hx
        go_wp2
        go_ret
        exact ⟨ret_int (by unfold orI; have h0 := N0.out; have h1 := N1.out; have hx := HX.out; (repeat' split) <;> omega), Below.refl _ _⟩
    · go_wp2
      go_ret
      exact ⟨ret_int (by unfold orI; have h0 := N0.out; have h1 := N1.out; have h2 := N2.out; (repeat' split) <;> omega), Below.refl _ _⟩

/-- Which of two jobs is ahead: what it must be done by, its task, its number. -/
def aheadB (C : Conf) (x y : JobT) : Bool := decide (orI (cmpI (dueAt C x) (dueAt C y)) (cmpI x.1 y.1) (cmpI x.2.1 y.2.1) < 0)

end Go.Proofs.YtildebflnmbefaaGreat

namespace Go.Proofs.YtildebflnmbefaaGreat
open Go.RowKit

set_option maxRecDepth 100000 in
set_option maxHeartbeats 4000000 in
theorem ahead_any (kb : Nat) (D : Dom) (A : DMem) (C : Conf) (B : Mem) (dn : Int) (x y : JobT) (w : World) (hK : KeepIn w kb D A C B dn) (hx0 : 0 ≤ x.1) (hx1 : x.1 < C.ta.length) (hy0 : 0 ≤ y.1) (hy1 : y.1 < C.ta.length) :
    Calls Tryz.prog 102 #[.pointer (some ⟨kb, 0, none⟩), jv x, jv y] w fun e w' => e = .returned (.bool (aheadB C x y)) ∧ Below w.heap.size w w' := by
  obtain ⟨x0, x1, x2, x3, x4, x5⟩ := x
  obtain ⟨y0, y1, y2, y3, y4, y5⟩ := y
  dsimp only at *
  have q1 := below_new w (.cells #[.int .i64 x0, .int .i64 x1, .int .i64 x2, .int .i64 x3, .bool x4, .bool x5] 79)
  have q2 := below_new (w.alloc (.cells #[.int .i64 x0, .int .i64 x1, .int .i64 x2, .int .i64 x3, .bool x4, .bool x5] 79)) (.cells #[.int .i64 y0, .int .i64 y1, .int .i64 y2, .int .i64 y3, .bool y4, .bool y5] 79)
  have HK := hid ((hK.keep q1).keep q2)
  have HB := hid (btrans q1 q2)
  have HX := hid ((rowAt_new2 w w.heap.size [.int .i64 x0, .int .i64 x1, .int .i64 x2, .int .i64 x3, .bool x4, .bool x5] 79 rfl).below q2 (Nat.le_refl _))
  have HY := hid (rowAt_new2 (w.alloc (.cells #[.int .i64 x0, .int .i64 x1, .int .i64 x2, .int .i64 x3, .bool x4, .bool x5] 79)) (w.heap.size + 1) [.int .i64 y0, .int .i64 y1, .int .i64 y2, .int .i64 y3, .bool y4, .bool y5] 79 (by simp))
  have HE : Hid (aheadB C (x0, x1, x2, x3, x4, x5) (y0, y1, y2, y3, y4, y5) = decide (orI (cmpI (dueAt C (x0, x1, x2, x3, x4, x5)) (dueAt C (y0, y1, y2, y3, y4, y5))) (cmpI x0 y0) (cmpI x1 y1) < 0)) := hid rfl
  clear q1 q2 hK
  dsimp only [jv] at *
  go_enter Tryz.func102, Tryz.ntmps102
  go_wp2_with fail
  generalize hW : World.alloc (World.alloc w _) _ = W at *
  clear hW
  have CX : Hid (∀ wx, Below W.heap.size W wx → Calls Tryz.prog 92 #[.pointer (some ⟨kb, 0, none⟩), .agg #[.int .i64 x0, .int .i64 x1, .int .i64 x2, .int .i64 x3, .bool x4, .bool x5]] wx fun e w' => e = .returned (.int .i64 (dueAt C (x0, x1, x2, x3, x4, x5))) ∧ Below wx.heap.size wx w') := hid fun wx h => deadline_any kb D A C B dn (x0, x1, x2, x3, x4, x5) wx (HK.out.keep h) hx0 hx1
  have CY : Hid (∀ wx, Below W.heap.size W wx → Calls Tryz.prog 92 #[.pointer (some ⟨kb, 0, none⟩), .agg #[.int .i64 y0, .int .i64 y1, .int .i64 y2, .int .i64 y3, .bool y4, .bool y5]] wx fun e w' => e = .returned (.int .i64 (dueAt C (y0, y1, y2, y3, y4, y5))) ∧ Below wx.heap.size wx w') := hid fun wx h => deadline_any kb D A C B dn (y0, y1, y2, y3, y4, y5) wx (HK.out.keep h) hy0 hy1
  generalize dueAt C (x0, x1, x2, x3, x4, x5) = dx at *
  generalize dueAt C (y0, y1, y2, y3, y4, y5) = dy at *
  have HS : Hid (∀ w', Below W.heap.size W w' → w'.cell? ⟨w.heap.size, 0, none⟩ = some (.int .i64 x0) ∧ w'.cell? ⟨w.heap.size, 1, none⟩ = some (.int .i64 x1) ∧ w'.cell? ⟨w.heap.size, 2, none⟩ = some (.int .i64 x2) ∧ w'.cell? ⟨w.heap.size, 3, none⟩ = some (.int .i64 x3) ∧ w'.cell? ⟨w.heap.size, 4, none⟩ = some (.bool x4) ∧ w'.cell? ⟨w.heap.size, 5, none⟩ = some (.bool x5) ∧ w'.cell? ⟨w.heap.size + 1, 0, none⟩ = some (.int .i64 y0) ∧ w'.cell? ⟨w.heap.size + 1, 1, none⟩ = some (.int .i64 y1) ∧ w'.cell? ⟨w.heap.size + 1, 2, none⟩ = some (.int .i64 y2) ∧ w'.cell? ⟨w.heap.size + 1, 3, none⟩ = some (.int .i64 y3) ∧ w'.cell? ⟨w.heap.size + 1, 4, none⟩ = some (.bool y4) ∧ w'.cell? ⟨w.heap.size + 1, 5, none⟩ = some (.bool y5)) := hid fun w' h => ⟨bkeep h (HX.out.cell 0 _ rfl) (Nat.le_refl _), bkeep h (HX.out.cell 1 _ rfl) (Nat.le_refl _), bkeep h (HX.out.cell 2 _ rfl) (Nat.le_refl _), bkeep h (HX.out.cell 3 _ rfl) (Nat.le_refl _), bkeep h (HX.out.cell 4 _ rfl) (Nat.le_refl _), bkeep h (HX.out.cell 5 _ rfl) (Nat.le_refl _), bkeep h (HY.out.cell 0 _ rfl) (Nat.le_refl _), bkeep h (HY.out.cell 1 _ rfl) (Nat.le_refl _), bkeep h (HY.out.cell 2 _ rfl) (Nat.le_refl _), bkeep h (HY.out.cell 3 _ rfl) (Nat.le_refl _), bkeep h (HY.out.cell 4 _ rfl) (Nat.le_refl _), bkeep h (HY.out.cell 5 _ rfl) (Nat.le_refl _)⟩
  have hB : Below W.heap.size W W.drew := (Below.refl _ _).drew
  clear HK HX HY hx0 hx1 hy0 hy1
  go_region_held3 (fun w' => w'.cell? ⟨w.heap.size, 0, none⟩ = some (.int .i64 x0) ∧ w'.cell? ⟨w.heap.size, 1, none⟩ = some (.int .i64 x1) ∧ w'.cell? ⟨w.heap.size, 2, none⟩ = some (.int .i64 x2) ∧ w'.cell? ⟨w.heap.size, 3, none⟩ = some (.int .i64 x3) ∧ w'.cell? ⟨w.heap.size, 4, none⟩ = some (.bool x4) ∧ w'.cell? ⟨w.heap.size, 5, none⟩ = some (.bool x5) ∧ w'.cell? ⟨w.heap.size + 1, 0, none⟩ = some (.int .i64 y0) ∧ w'.cell? ⟨w.heap.size + 1, 1, none⟩ = some (.int .i64 y1) ∧ w'.cell? ⟨w.heap.size + 1, 2, none⟩ = some (.int .i64 y2) ∧ w'.cell? ⟨w.heap.size + 1, 3, none⟩ = some (.int .i64 y3) ∧ w'.cell? ⟨w.heap.size + 1, 4, none⟩ = some (.bool y4) ∧ w'.cell? ⟨w.heap.size + 1, 5, none⟩ = some (.bool y5))
    (first | exact HS.out _ hB | exact HS.out _ (hB.alloc hB.size _) | go_keep)
    (first
      | (go_at_call 92; with_reducible refine Calls.mono (CX.out _ hB) ?_; rintro e w3 ⟨rfl, hb3⟩; have hB := btrans hB hb3)
      | (go_at_call 92; with_reducible refine Calls.mono (CY.out _ hB) ?_; rintro e w3 ⟨rfl, hb3⟩; have hB := btrans hB hb3)
      | (go_at_call 104; refine (compare_any _ _ _).mono ?_; rintro e w3 ⟨rfl, hb3⟩; have hB := btrans hB hb3)
      | (go_at_call 103; refine Calls.mono (or_any _ _ _ _ _ (by exact rowAt_new2 _ _ [_, _, _] 3 rfl)) ?_; rintro e w3 ⟨rfl, hb3⟩; have hB := btrans (hB.alloc hB.size _) hb3))
  have HF := hid hB
  clear hB HS CX CY
  go_wp2
  go_ret
  exact ⟨ret_bool HE.out.symm, btrans HB.out HF.out⟩

end Go.Proofs.YtildebflnmbefaaGreat

namespace Go.Proofs.YtildebflnmbefaaGreat
open Go.RowKit

/-- The number of the first one for which p holds, or -1. -/
def idxP {α : Type} (p : α → Bool) (l : List α) : Int :=
  match l.findIdx? p with
  | some k => k
  | none => -1
theorem idxP_at {α : Type} (p : α → Bool) (l : List α) (k : Nat) (h : k < l.length) (he : p l[k] = true) (hno : ∀ j (hj : j < l.length), j < k → p l[j] = false) : idxP p l = k := by
  have : l.findIdx? p = some k := List.findIdx?_eq_some_iff_getElem.2 ⟨h, he, fun j hj => by simp [hno j (by omega) hj]⟩
  simp [idxP, this]
theorem idxP_none {α : Type} (p : α → Bool) (l : List α) (hno : ∀ j (hj : j < l.length), p l[j] = false) : idxP p l = -1 := by
  have : l.findIdx? p = none := List.findIdx?_eq_none_iff.2 fun x hx => by
    obtain ⟨j, hj, rfl⟩ := List.getElem_of_mem hx
    exact hno j hj
  simp [idxP, this]
theorem idxP_any {α : Type} (p : α → Bool) (l : List α) : 0 ≤ idxP p l ↔ l.any p = true := by
  unfold idxP
  cases h : l.findIdx? p with
  | none => simp [List.findIdx?_eq_none_iff] at h; simp; exact h
  | some k =>
    obtain ⟨hk, he, _⟩ := List.findIdx?_eq_some_iff_getElem.1 h
    simp only [List.any_eq_true]
    exact ⟨fun _ => ⟨_, List.getElem_mem hk, he⟩, fun _ => by omega⟩

/-- Is another one ahead? -/
def anyA (C : Conf) (J : List JobT) (y : JobT) : Bool := J.any fun x => aheadB C x y
/-- Which job is picked. -/
def pickI (C : Conf) (J : List JobT) : Int := idxP (fun y => !anyA C J y) J

def TasksOk (C : Conf) (J : List JobT) : Prop := ∀ i (h : i < J.length), 0 ≤ J[i].1 ∧ J[i].1 < C.ta.length

set_option maxRecDepth 100000 in
set_option maxHeartbeats 1000000 in
theorem first11_any (kb cb jb : Nat) (D : Dom) (A : DMem) (C : Conf) (B : Mem) (dn : Int) (x y : JobT) (w : World) (hK : KeepIn w kb D A C B dn) (hc : w.cell? ⟨cb, 0, none⟩ = some (.pointer (some ⟨kb, 0, none⟩))) (hy : RowAt w jb 79 [.int .i64 y.1, .int .i64 y.2.1, .int .i64 y.2.2.1, .int .i64 y.2.2.2.1, .bool y.2.2.2.2.1, .bool y.2.2.2.2.2])
    (hx0 : 0 ≤ x.1) (hx1 : x.1 < C.ta.length) (hy0 : 0 ≤ y.1) (hy1 : y.1 < C.ta.length) :
    Calls Tryz.prog 101 #[jv x, .pointer (some ⟨cb, 0, none⟩), .pointer (some ⟨jb, 0, none⟩)] w fun e w' => e = .returned (.bool (aheadB C x y)) ∧ Below w.heap.size w w' := by
  obtain ⟨x0, x1, x2, x3, x4, x5⟩ := x
  obtain ⟨y0, y1, y2, y3, y4, y5⟩ := y
  dsimp only [jv] at *
  have q1 := below_new w (.cells #[.int .i64 x0, .int .i64 x1, .int .i64 x2, .int .i64 x3, .bool x4, .bool x5] 79)
  have HK := hid (hK.keep q1)
  have HB := hid q1
  have hc1 := bkeep q1 hc (Nat.le_refl _)
  have hy1' := hy.below q1 (Nat.le_refl _)
  have d0 := hy1'.cell 0 _ rfl
  have d1 := hy1'.cell 1 _ rfl
  have d2 := hy1'.cell 2 _ rfl
  have d3 := hy1'.cell 3 _ rfl
  have d4 := hy1'.cell 4 _ rfl
  have d5 := hy1'.cell 5 _ rfl
  clear hc hy hy1' q1 hK
  go_enter Tryz.func101, Tryz.ntmps101
  go_wp2_with fail
  refine (ahead_any kb D A C B dn (x0, x1, x2, x3, x4, x5) (y0, y1, y2, y3, y4, y5) _ HK.out hx0 hx1 hy0 hy1).mono ?_
  rintro e w1 ⟨rfl, hb1⟩
  generalize hq : aheadB C (x0, x1, x2, x3, x4, x5) (y0, y1, y2, y3, y4, y5) = q at *
  have HQ := hid hq
  clear hq
  go_wp2
  go_ret
  exact ⟨ret_bool HQ.out.symm, btrans HB.out hb1⟩

set_option maxRecDepth 100000 in
set_option maxHeartbeats 1000000 in
theorem index128_131 (kb cb jb : Nat) (D : Dom) (A : DMem) (C : Conf) (B : Mem) (dn : Int) (y : JobT) (w : World) (hK : KeepIn w kb D A C B dn) (hc : w.cell? ⟨cb, 0, none⟩ = some (.pointer (some ⟨kb, 0, none⟩))) (hy : RowAt w jb 79 [.int .i64 y.1, .int .i64 y.2.1, .int .i64 y.2.2.1, .int .i64 y.2.2.2.1, .bool y.2.2.2.2.1, .bool y.2.2.2.2.2])
    (hJ : TasksOk C D.jobs) (hy0 : 0 ≤ y.1) (hy1 : y.1 < C.ta.length) :
    Calls Tryz.prog 98 #[.slice A.aJ D.jobs.length A.cJ, .func (.func 101) #[] #[.pointer (some ⟨cb, 0, none⟩), .pointer (some ⟨jb, 0, none⟩)]] w fun e w' => e = .returned (.int .i64 (idxP (fun x => aheadB C x y) D.jobs)) ∧ Below w.heap.size w w' := by
  have HK := hid hK
  have HC := hid hc
  have HY := hid hy
  have hl := hK.dom.lJ
  have hw := hK.dom.jobs
  clear hK hc hy
  go_enter Tryz.func98, Tryz.ntmps98
  go_wp2
  go_loopw [8] (fun i wr => ∃ k : Nat, k ≤ D.jobs.length ∧ i = .int .i64 k ∧ Below w.heap.size w wr ∧ ∀ j (hj : j < D.jobs.length), j < k → aheadB C D.jobs[j] y = false) (fun i _ => D.jobs.length - (intOf i).toNat)
  case atStart => exact ⟨0, Nat.zero_le _, rfl, Below.refl _ _, by omega⟩
  case round =>
    obtain ⟨k, hk, rfl, hbl, hno⟩ := hrel
    have Hno := hid hno
    clear hno
    by_cases hlt : k < D.jobs.length
    · obtain ⟨b', o', e', c0, c1, c2, c3, c4, c5⟩ := hw k hlt
      have hj := hJ k hlt
      rw [e']
      replace c0 := bkeep hbl c0 (Nat.le_refl _)
      replace c1 := bkeep hbl c1 (Nat.le_refl _)
      replace c2 := bkeep hbl c2 (Nat.le_refl _)
      replace c3 := bkeep hbl c3 (Nat.le_refl _)
      replace c4 := bkeep hbl c4 (Nat.le_refl _)
      replace c5 := bkeep hbl c5 (Nat.le_refl _)
      go_wp2_with fail
      refine (first11_any kb cb jb D A C B dn D.jobs[k] y _ (HK.out.keep hbl) (bkeep hbl HC.out (Nat.le_refl _)) (HY.out.below hbl (Nat.le_refl _)) hj.1 hj.2 hy0 hy1).mono ?_
      rintro e w' ⟨rfl, hb2⟩
      cases hx : aheadB C D.jobs[k] y with
      | true =>
        have HX := hid (idxP_at (fun x => aheadB C x y) D.jobs k hlt hx Hno.out)
        clear hx
        go_wp2
        go_ret
        exact ⟨ret_int HX.out.symm, btrans hbl hb2⟩
      | false =>
        have HX := hid hx
        clear hx
        go_wp2
        go_roundw
        case rel =>
          refine ⟨k + 1, by omega, by go_num, btrans hbl hb2, fun j hj hlt2 => ?_⟩
          by_cases e : j = k
          · subst e; exact HX.out
          · exact Hno.out j hj (by omega)
        case measure => simp [intOf]; omega
    · go_wp2
      go_ret
      exact ⟨ret_int (idxP_none _ _ (fun j hj => Hno.out j hj (by omega))).symm, hbl⟩

set_option maxRecDepth 100000 in
set_option maxHeartbeats 1000000 in
theorem contains130_any (kb cb jb : Nat) (D : Dom) (A : DMem) (C : Conf) (B : Mem) (dn : Int) (y : JobT) (w : World) (hK : KeepIn w kb D A C B dn) (hc : w.cell? ⟨cb, 0, none⟩ = some (.pointer (some ⟨kb, 0, none⟩))) (hy : RowAt w jb 79 [.int .i64 y.1, .int .i64 y.2.1, .int .i64 y.2.2.1, .int .i64 y.2.2.2.1, .bool y.2.2.2.2.1, .bool y.2.2.2.2.2])
    (hJ : TasksOk C D.jobs) (hy0 : 0 ≤ y.1) (hy1 : y.1 < C.ta.length) :
    Calls Tryz.prog 100 #[.slice A.aJ D.jobs.length A.cJ, .func (.func 101) #[] #[.pointer (some ⟨cb, 0, none⟩), .pointer (some ⟨jb, 0, none⟩)]] w fun e w' => e = .returned (.bool (anyA C D.jobs y)) ∧ Below w.heap.size w w' := by
  have HK := hid hK
  have HC := hid hc
  have HY := hid hy
  clear hK hc hy
  go_enter Tryz.func100, Tryz.ntmps100
  go_wp2_with fail
  refine (index128_131 kb cb jb D A C B dn y _ HK.out HC.out HY.out hJ hy0 hy1).mono ?_
  rintro e w' ⟨rfl, hb⟩
  have HR := hid (idxP_any (fun x => aheadB C x y) D.jobs)
  generalize idxP (fun x => aheadB C x y) D.jobs = r at *
  go_wp2
  go_ret
  exact ⟨ret_bool (by rw [Bool.eq_iff_iff]; simpa [anyA] using HR.out), hb⟩

set_option maxRecDepth 100000 in
set_option maxHeartbeats 1000000 in
theorem first1_any (kb cb : Nat) (D : Dom) (A : DMem) (C : Conf) (B : Mem) (dn : Int) (y : JobT) (w : World) (hK : KeepIn w kb D A C B dn) (hc : w.cell? ⟨cb, 0, none⟩ = some (.pointer (some ⟨kb, 0, none⟩)))
    (hJ : TasksOk C D.jobs) (hy0 : 0 ≤ y.1) (hy1 : y.1 < C.ta.length) :
    Calls Tryz.prog 99 #[jv y, .pointer (some ⟨cb, 0, none⟩)] w fun e w' => e = .returned (.bool (!anyA C D.jobs y)) ∧ Below w.heap.size w w' := by
  obtain ⟨y0, y1, y2, y3, y4, y5⟩ := y
  dsimp only [jv] at *
  have q1 := below_new w (.cells #[.int .i64 y0, .int .i64 y1, .int .i64 y2, .int .i64 y3, .bool y4, .bool y5] 79)
  have hK1 := hK.keep q1
  have HK := hid hK1
  have HB := hid q1
  have HY := hid (rowAt_new2 w w.heap.size [.int .i64 y0, .int .i64 y1, .int .i64 y2, .int .i64 y3, .bool y4, .bool y5] 79 rfl)
  have hc1 := bkeep q1 hc (Nat.le_refl _)
  have c0 := hK1.row.cell 0 _ rfl
  have HC1 := hid hc1
  have hmf : ∀ (fn : Fn) (first cap : Array Value) (w : World), (Instr.makeFunc fn first cap).run Tryz.prog w = .ok (.func fn first cap) w := fun _ _ _ _ => rfl
  clear hc q1 hK hK1
  go_enter Tryz.func99, Tryz.ntmps99
  go_wp2_with fail
  refine (contains130_any kb cb w.heap.size D A C B dn (y0, y1, y2, y3, y4, y5) _ HK.out HC1.out HY.out hJ hy0 hy1).mono ?_
  rintro e w1 ⟨rfl, hb1⟩
  generalize hq : anyA C D.jobs (y0, y1, y2, y3, y4, y5) = q at *
  have HQ := hid hq
  clear hq
  go_wp2
  go_ret
  exact ⟨ret_bool (by rw [HQ.out]), btrans HB.out hb1⟩

set_option maxRecDepth 100000 in
set_option maxHeartbeats 1000000 in
theorem index128_129 (kb cb : Nat) (D : Dom) (A : DMem) (C : Conf) (B : Mem) (dn : Int) (w : World) (hK : KeepIn w kb D A C B dn) (hc : w.cell? ⟨cb, 0, none⟩ = some (.pointer (some ⟨kb, 0, none⟩))) (hJ : TasksOk C D.jobs) :
    Calls Tryz.prog 98 #[.slice A.aJ D.jobs.length A.cJ, .func (.func 99) #[] #[.pointer (some ⟨cb, 0, none⟩)]] w fun e w' => e = .returned (.int .i64 (pickI C D.jobs)) ∧ Below w.heap.size w w' := by
  have HK := hid hK
  have HC := hid hc
  have hl := hK.dom.lJ
  have hw := hK.dom.jobs
  clear hK hc
  go_enter Tryz.func98, Tryz.ntmps98
  go_wp2
  go_loopw [8] (fun i wr => ∃ k : Nat, k ≤ D.jobs.length ∧ i = .int .i64 k ∧ Below w.heap.size w wr ∧ ∀ j (hj : j < D.jobs.length), j < k → (!anyA C D.jobs D.jobs[j]) = false) (fun i _ => D.jobs.length - (intOf i).toNat)
  case atStart => exact ⟨0, Nat.zero_le _, rfl, Below.refl _ _, by omega⟩
  case round =>
    obtain ⟨k, hk, rfl, hbl, hno⟩ := hrel
    have Hno := hid hno
    clear hno
    by_cases hlt : k < D.jobs.length
    · obtain ⟨b', o', e', c0, c1, c2, c3, c4, c5⟩ := hw k hlt
      have hj := hJ k hlt
      rw [e']
      replace c0 := bkeep hbl c0 (Nat.le_refl _)
      replace c1 := bkeep hbl c1 (Nat.le_refl _)
      replace c2 := bkeep hbl c2 (Nat.le_refl _)
      replace c3 := bkeep hbl c3 (Nat.le_refl _)
      replace c4 := bkeep hbl c4 (Nat.le_refl _)
      replace c5 := bkeep hbl c5 (Nat.le_refl _)
      go_wp2_with fail
      refine (first1_any kb cb D A C B dn D.jobs[k] _ (HK.out.keep hbl) (bkeep hbl HC.out (Nat.le_refl _)) hJ hj.1 hj.2).mono ?_
      rintro e w' ⟨rfl, hb2⟩
      cases hx : !anyA C D.jobs D.jobs[k] with
      | true =>
        have HX := hid (idxP_at (fun y => !anyA C D.jobs y) D.jobs k hlt hx Hno.out)
        clear hx
        go_wp2
        go_ret
        exact ⟨ret_int HX.out.symm, btrans hbl hb2⟩
      | false =>
        have HX := hid hx
        clear hx
        go_wp2
        go_roundw
        case rel =>
          refine ⟨k + 1, by omega, by go_num, btrans hbl hb2, fun j hj hlt2 => ?_⟩
          by_cases e : j = k
          · subst e; exact HX.out
          · exact Hno.out j hj (by omega)
        case measure => simp [intOf]; omega
    · go_wp2
      go_ret
      exact ⟨ret_int (idxP_none (fun y => !anyA C D.jobs y) _ (fun j hj => Hno.out j hj (by omega))).symm, hbl⟩

set_option maxRecDepth 100000 in
set_option maxHeartbeats 1000000 in
theorem first_any (kb : Nat) (D : Dom) (A : DMem) (C : Conf) (B : Mem) (dn : Int) (w : World) (hK : KeepIn w kb D A C B dn) (hJ : TasksOk C D.jobs) :
    Calls Tryz.prog 93 #[.pointer (some ⟨kb, 0, none⟩)] w fun e w' => e = .returned (.int .i64 (pickI C D.jobs)) ∧ Below w.heap.size w w' := by
  have q1 := below_new w (.cells #[.pointer (some ⟨kb, 0, none⟩)] 112)
  have hK1 := hK.keep q1
  have HK := hid hK1
  have HB := hid q1
  have HC := hid ((rowAt_new2 w w.heap.size [.pointer (some ⟨kb, 0, none⟩)] 112 rfl).cell 0 _ rfl)
  have c0 := hK1.row.cell 0 _ rfl
  have hmf : ∀ (fn : Fn) (first cap : Array Value) (w : World), (Instr.makeFunc fn first cap).run Tryz.prog w = .ok (.func fn first cap) w := fun _ _ _ _ => rfl
  clear q1 hK hK1
  go_enter Tryz.func93, Tryz.ntmps93
  go_wp2_with fail
  refine (index128_129 kb w.heap.size D A C B dn _ HK.out HC.out hJ).mono ?_
  rintro e w1 ⟨rfl, hb1⟩
  generalize hq : pickI C D.jobs = q at *
  have HQ := hid hq
  clear hq
  go_wp2
  go_ret
  exact ⟨ret_int HQ.out.symm, btrans HB.out hb1⟩

end Go.Proofs.YtildebflnmbefaaGreat
