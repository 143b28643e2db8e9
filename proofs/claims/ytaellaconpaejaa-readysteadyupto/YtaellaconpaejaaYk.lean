/- Walks: which job is ahead. -/
import Derived.Test.YtaellaconpaejaaYj
set_option linter.unusedVariables false
namespace Go.Proofs.Ytaellaconpaejaa
open Go.RowKit

set_option maxRecDepth 100000 in
set_option maxHeartbeats 4000000 in
theorem ahead_any (kb : Nat) (D : Dom) (A : DMem) (C : Conf) (B : Mem) (dn : Int) (x y : JobT) (w : World) (hK : KeepIn w kb D A C B dn) (hx0 : 0 ≤ x.1) (hx1 : x.1 < C.ta.length) (hy0 : 0 ≤ y.1) (hy1 : y.1 < C.ta.length) :
    Calls Try.prog 142 #[.pointer (some ⟨kb, 0, none⟩), jv x, jv y] w fun e w' => e = .returned (.bool (aheadB C x y)) ∧ Below w.heap.size w w' := by
  obtain ⟨x0, x1, x2, x3, x4, x5⟩ := x
  obtain ⟨y0, y1, y2, y3, y4, y5⟩ := y
  dsimp only at *
  have q1 := below_new w (.cells #[.int .i64 x0, .int .i64 x1, .int .i64 x2, .int .i64 x3, .bool x4, .bool x5] 106)
  have q2 := below_new (w.alloc (.cells #[.int .i64 x0, .int .i64 x1, .int .i64 x2, .int .i64 x3, .bool x4, .bool x5] 106)) (.cells #[.int .i64 y0, .int .i64 y1, .int .i64 y2, .int .i64 y3, .bool y4, .bool y5] 106)
  have HK := hid ((hK.keep q1).keep q2)
  have HB := hid (btrans q1 q2)
  have HX := hid ((rowAt_new2 w w.heap.size [.int .i64 x0, .int .i64 x1, .int .i64 x2, .int .i64 x3, .bool x4, .bool x5] 106 rfl).below q2 (Nat.le_refl _))
  have HY := hid (rowAt_new2 (w.alloc (.cells #[.int .i64 x0, .int .i64 x1, .int .i64 x2, .int .i64 x3, .bool x4, .bool x5] 106)) (w.heap.size + 1) [.int .i64 y0, .int .i64 y1, .int .i64 y2, .int .i64 y3, .bool y4, .bool y5] 106 (by simp))
  have HE : Hid (aheadB C (x0, x1, x2, x3, x4, x5) (y0, y1, y2, y3, y4, y5) = decide (orI (cmpI (dueAt C (x0, x1, x2, x3, x4, x5)) (dueAt C (y0, y1, y2, y3, y4, y5))) (cmpI x0 y0) (cmpI x1 y1) < 0)) := hid rfl
  clear q1 q2 hK
  dsimp only [jv] at *
  go_enter Try.func142, Try.ntmps142
  go_wp2_with fail
  generalize hW : World.alloc (World.alloc w _) _ = W at *
  clear hW
  have CX : Hid (∀ wx, Below W.heap.size W wx → Calls Try.prog 137 #[.pointer (some ⟨kb, 0, none⟩), .agg #[.int .i64 x0, .int .i64 x1, .int .i64 x2, .int .i64 x3, .bool x4, .bool x5]] wx fun e w' => e = .returned (.int .i64 (dueAt C (x0, x1, x2, x3, x4, x5))) ∧ Below wx.heap.size wx w') := hid fun wx h => deadline_any kb D A C B dn (x0, x1, x2, x3, x4, x5) wx (HK.out.keep h) hx0 hx1
  have CY : Hid (∀ wx, Below W.heap.size W wx → Calls Try.prog 137 #[.pointer (some ⟨kb, 0, none⟩), .agg #[.int .i64 y0, .int .i64 y1, .int .i64 y2, .int .i64 y3, .bool y4, .bool y5]] wx fun e w' => e = .returned (.int .i64 (dueAt C (y0, y1, y2, y3, y4, y5))) ∧ Below wx.heap.size wx w') := hid fun wx h => deadline_any kb D A C B dn (y0, y1, y2, y3, y4, y5) wx (HK.out.keep h) hy0 hy1
  generalize dueAt C (x0, x1, x2, x3, x4, x5) = dx at *
  generalize dueAt C (y0, y1, y2, y3, y4, y5) = dy at *
  have HS : Hid (∀ w', Below W.heap.size W w' → w'.cell? ⟨w.heap.size, 0, none⟩ = some (.int .i64 x0) ∧ w'.cell? ⟨w.heap.size, 1, none⟩ = some (.int .i64 x1) ∧ w'.cell? ⟨w.heap.size, 2, none⟩ = some (.int .i64 x2) ∧ w'.cell? ⟨w.heap.size, 3, none⟩ = some (.int .i64 x3) ∧ w'.cell? ⟨w.heap.size, 4, none⟩ = some (.bool x4) ∧ w'.cell? ⟨w.heap.size, 5, none⟩ = some (.bool x5) ∧ w'.cell? ⟨w.heap.size + 1, 0, none⟩ = some (.int .i64 y0) ∧ w'.cell? ⟨w.heap.size + 1, 1, none⟩ = some (.int .i64 y1) ∧ w'.cell? ⟨w.heap.size + 1, 2, none⟩ = some (.int .i64 y2) ∧ w'.cell? ⟨w.heap.size + 1, 3, none⟩ = some (.int .i64 y3) ∧ w'.cell? ⟨w.heap.size + 1, 4, none⟩ = some (.bool y4) ∧ w'.cell? ⟨w.heap.size + 1, 5, none⟩ = some (.bool y5)) := hid fun w' h => ⟨bkeep h (HX.out.cell 0 _ rfl) (Nat.le_refl _), bkeep h (HX.out.cell 1 _ rfl) (Nat.le_refl _), bkeep h (HX.out.cell 2 _ rfl) (Nat.le_refl _), bkeep h (HX.out.cell 3 _ rfl) (Nat.le_refl _), bkeep h (HX.out.cell 4 _ rfl) (Nat.le_refl _), bkeep h (HX.out.cell 5 _ rfl) (Nat.le_refl _), bkeep h (HY.out.cell 0 _ rfl) (Nat.le_refl _), bkeep h (HY.out.cell 1 _ rfl) (Nat.le_refl _), bkeep h (HY.out.cell 2 _ rfl) (Nat.le_refl _), bkeep h (HY.out.cell 3 _ rfl) (Nat.le_refl _), bkeep h (HY.out.cell 4 _ rfl) (Nat.le_refl _), bkeep h (HY.out.cell 5 _ rfl) (Nat.le_refl _)⟩
  have hB : Below W.heap.size W W.drew := (Below.refl _ _).drew
  clear HK HX HY hx0 hx1 hy0 hy1
  go_region_held3 (fun w' => w'.cell? ⟨w.heap.size, 0, none⟩ = some (.int .i64 x0) ∧ w'.cell? ⟨w.heap.size, 1, none⟩ = some (.int .i64 x1) ∧ w'.cell? ⟨w.heap.size, 2, none⟩ = some (.int .i64 x2) ∧ w'.cell? ⟨w.heap.size, 3, none⟩ = some (.int .i64 x3) ∧ w'.cell? ⟨w.heap.size, 4, none⟩ = some (.bool x4) ∧ w'.cell? ⟨w.heap.size, 5, none⟩ = some (.bool x5) ∧ w'.cell? ⟨w.heap.size + 1, 0, none⟩ = some (.int .i64 y0) ∧ w'.cell? ⟨w.heap.size + 1, 1, none⟩ = some (.int .i64 y1) ∧ w'.cell? ⟨w.heap.size + 1, 2, none⟩ = some (.int .i64 y2) ∧ w'.cell? ⟨w.heap.size + 1, 3, none⟩ = some (.int .i64 y3) ∧ w'.cell? ⟨w.heap.size + 1, 4, none⟩ = some (.bool y4) ∧ w'.cell? ⟨w.heap.size + 1, 5, none⟩ = some (.bool y5))
    (first | exact HS.out _ hB | exact HS.out _ (hB.alloc hB.size _) | go_keep)
    (first
      | (go_at_call 137; with_reducible refine Calls.mono (CX.out _ hB) ?_; rintro e w3 ⟨rfl, hb3⟩; have hB := btrans hB hb3)
      | (go_at_call 137; with_reducible refine Calls.mono (CY.out _ hB) ?_; rintro e w3 ⟨rfl, hb3⟩; have hB := btrans hB hb3)
      | (go_at_call 166; refine (compare_any _ _ _).mono ?_; rintro e w3 ⟨rfl, hb3⟩; have hB := btrans hB hb3)
      | (go_at_call 165; refine Calls.mono (or_any _ _ _ _ _ (by exact rowAt_new2 _ _ [_, _, _] 3 rfl)) ?_; rintro e w3 ⟨rfl, hb3⟩; have hB := btrans (hB.alloc hB.size _) hb3))
  have HF := hid hB
  clear hB HS CX CY
  go_wp2
  go_ret
  exact ⟨ret_bool HE.out.symm, btrans HB.out HF.out⟩

end Go.Proofs.Ytaellaconpaejaa
