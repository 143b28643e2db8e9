/- Walks: what the use of a line in a set of 1 comes to. Walks: what the use of a line in a set of 2 comes to. Walks: what the use of a line in a set of 2 comes to. -/
import Derived.Test.YtildebflnmbefaaGreatKc
set_option linter.unusedVariables false
namespace Go.Proofs.YtildebflnmbefaaGreat
open Go.RowKit

set_option maxRecDepth 100000 in
set_option maxHeartbeats 1000000 in
theorem use1_miss (g cap : Nat) (a1 ln : Int) (a2 wr : Bool) (r : List Value) (w : World) (hcap : 1 ≤ cap) (hm : cap ≤ maxLen) (hr : RowAt w g 87 (flat [(a1, a2)] ++ r))
    (hx : idx ln [(a1, a2)] = -1) :
    Calls Tryz.prog 34 #[.slice (some ⟨g, 0, none⟩) 1 cap, .int .i64 ln, .bool wr] w fun e w' => e = .returned (.int .i64 (10 + wb a2)) ∧ RowAt w' g 87 (flat [(ln, wr)] ++ r) ∧ w.grownBy w' (some g) := by
  have hg := hr.lt
  have hw := hr.ways
  have hcap' : (1 : Int) ≤ (cap : Int) := by omega
  have hcap0 : (0 : Int) ≤ (cap : Int) := by omega
  unfold maxLen at hm
  go_enter Tryz.func34, Tryz.ntmps34
  go_wp2_with fail
  refine (find_any (some ⟨g, 0, none⟩) _ cap ln _ hw (by simp)).mono ?_
  rintro e w1 ⟨rfl, hb1⟩
  rw [hx]
  have hr1 := hr.below hb1 (Nat.le_refl _)
  have c4 := hr1.cell 0 _ rfl
  have c5 := hr1.cell 1 _ rfl
  go_wp2_with fail
  refine (writeBack_any _ _ _).mono ?_
  rintro e w2 ⟨rfl, hb2⟩
  have hb02 := btrans hb1 hb2
  have hr2 := hr1.below hb2 (Nat.le_refl _)
  have d0 := hr2.cell 0 _ rfl
  have d1 := hr2.cell 1 _ rfl
  have hf : ∀ i, w2.frozen? ⟨g, i, none⟩ = false := fun i => hr2.frozen i
  have hg2 : g < w2.heap.size := hr2.lt
  have hq1 := (wb_le a2).1
  have hq2 := (wb_le a2).2
  generalize hq0 : wb a2 = q at *
  have Hq := hid hq0
  clear hq0
  clear hx hw hr hr1 c4 c5 hb1 hb2
  go_wp2_with fail
  have Hr3 := hid (((hr2.setCell 0 (.int .i64 ln)).setCell 1 (.bool false)).alloc (.cells #[.int .i64 ln, .bool wr] 87))
  have Hg3 := hid ((((grow_below g hb02).trans (grow_setCell _ g 0 (.int .i64 ln))).trans (grow_setCell _ g 1 (.bool false))).trans (World.grownBy_alloc _ (.cells #[.int .i64 ln, .bool wr] 87) _))
  have hL : ((flat [(a1, a2)] ++ r).set 0 (.int .i64 ln)).set 1 (.bool false) = flat [(ln, false)] ++ r := rfl
  rw [hL] at Hr3
  clear hL
  have Hsrc : Hid (RowAt _ g 87 (flat ([] : List (Int × Bool)) ++ (flat [(ln, false)] ++ r))) := Hr3
  go_region_law (refine step_copyz (by rfl) (.tmp 40) (.tmp 43) 84 84 (by rfl) 87 2 Tryz.underlying84 Tryz.sz87 _ _ _ _ _ _ (by rfl) (by rfl) g 2 (flat [(ln, false)] ++ r) 87 (by exact Hr3.out) (flat ([] : List (Int × Bool))) (by rfl) (by omega) (fun h0 => ⟨absurd h0 (by simp [flat]), _, by rfl, by exact Hsrc.out.news⟩) (by simp [flat] <;> omega) (flat_mem _) 0 (by rfl) ?_; intro w4 hg4 hgr hsz)
  have hne : some w2.heap.size ≠ some g := by simp; omega
  have e0 : w4.cell? ⟨w2.heap.size, 0, none⟩ = some (.int .i64 ln) := hgr.cell (by show (World.alloc _ _).cell? _ = _; rw [cell_new _ _ _ _ _ (by simp)]; rfl) hne
  have e1 : w4.cell? ⟨w2.heap.size, 1, none⟩ = some (.bool wr) := hgr.cell (by show (World.alloc _ _).cell? _ = _; rw [cell_new _ _ _ _ _ (by simp)]; rfl) hne
  have hr4 : RowAt w4 g 87 (flat [(ln, false)] ++ r) := hg4.out
  have f0 := hr4.cell 0 _ rfl
  have f1 := hr4.cell 1 _ rfl
  have hf4 : ∀ i, w4.frozen? ⟨g, i, none⟩ = false := fun i => hr4.frozen i
  have Hr5 := hid ((hr4.setCell 0 (.int .i64 ln)).setCell 1 (.bool wr))
  have Hg5 := hid ((((Hg3.out.trans (grow_drew _ _)).trans hgr).trans (grow_setCell _ g 0 (.int .i64 ln))).trans (grow_setCell _ g 1 (.bool wr)))
  clear hr4 hgr hg4 Hr3 Hg3 Hsrc hr2 d0 d1 hf hb02
  go_wp2
  all_goals go_ret
  all_goals exact ⟨ret_int (by rw [← Hq.out]), Hr5.out, Hg5.out⟩
  
set_option maxRecDepth 100000 in
set_option maxHeartbeats 1000000 in
theorem use1_0t (g cap : Nat) (a1 ln : Int) ( wr : Bool) (r : List Value) (w : World) (hcap : 1 ≤ cap) (hm : cap ≤ maxLen) (hr : RowAt w g 87 (flat [(a1, true)] ++ r))
    (hx : idx ln [(a1, true)] = 0) :
    Calls Tryz.prog 34 #[.slice (some ⟨g, 0, none⟩) 1 cap, .int .i64 ln, .bool wr] w fun e w' => e = .returned (.int .i64 1) ∧ RowAt w' g 87 (flat [(a1, true)] ++ r) ∧ w.grownBy w' (some g) := by
  have hg := hr.lt
  have hw := hr.ways
  have hcap' : (1 : Int) ≤ (cap : Int) := by omega
  have hcap0 : (0 : Int) ≤ (cap : Int) := by omega
  unfold maxLen at hm
  go_enter Tryz.func34, Tryz.ntmps34
  go_wp2_with fail
  refine (find_any (some ⟨g, 0, none⟩) _ cap ln _ hw (by simp)).mono ?_
  rintro e w1 ⟨rfl, hb1⟩
  rw [hx]
  have hr1 := hr.below hb1 (Nat.le_refl _)
  obtain ⟨w2, hw2⟩ : ∃ w2, w2 = w1 := ⟨_, rfl⟩
  subst hw2
  have hb02 := hb1
  have hr2 := hr1
  have d0 := hr2.cell 0 _ rfl
  have d1 := hr2.cell 1 _ rfl
  have hf : ∀ i, w2.frozen? ⟨g, i, none⟩ = false := fun i => hr2.frozen i
  have hg2 : g < w2.heap.size := hr2.lt
  clear hx hw hr hr1 hb1
  go_wp2_with fail
  have Hr3 := hid (hr2.alloc (.cells #[.int .i64 a1, .bool true] 87))
  have Hg3 := hid ((grow_below g hb02).trans (World.grownBy_alloc _ (.cells #[.int .i64 a1, .bool true] 87) _))
  have Hsrc : Hid (RowAt _ g 87 (flat ([] : List (Int × Bool)) ++ (flat [(a1, true)] ++ r))) := Hr3
  go_region_law (refine step_copyz (by rfl) (.tmp 40) (.tmp 43) 84 84 (by rfl) 87 2 Tryz.underlying84 Tryz.sz87 _ _ _ _ _ _ (by rfl) (by rfl) g 2 (flat [(a1, true)] ++ r) 87 (by exact Hr3.out) (flat ([] : List (Int × Bool))) (by rfl) (by omega) (fun h0 => ⟨absurd h0 (by simp [flat]), _, by rfl, by exact Hsrc.out.news⟩) (by simp [flat] <;> omega) (flat_mem _) 0 (by rfl) ?_; intro w4 hg4 hgr hsz)
  have hne : some w2.heap.size ≠ some g := by simp; omega
  have e0 : w4.cell? ⟨w2.heap.size, 0, none⟩ = some (.int .i64 a1) := hgr.cell (by show (World.alloc _ _).cell? _ = _; rw [cell_new _ _ _ _ _ (by simp)]; rfl) hne
  have e1 : w4.cell? ⟨w2.heap.size, 1, none⟩ = some (.bool true) := hgr.cell (by show (World.alloc _ _).cell? _ = _; rw [cell_new _ _ _ _ _ (by simp)]; rfl) hne
  have hr4 : RowAt w4 g 87 (flat [(a1, true)] ++ r) := hg4.out
  have f0 := hr4.cell 0 _ rfl
  have f1 := hr4.cell 1 _ rfl
  have hf4 : ∀ i, w4.frozen? ⟨g, i, none⟩ = false := fun i => hr4.frozen i
  have Hr5 := hid ((hr4.setCell 0 (.int .i64 a1)).setCell 1 (.bool true))
  have Hg5 := hid ((((Hg3.out.trans (grow_drew _ _)).trans hgr).trans (grow_setCell _ g 0 (.int .i64 a1))).trans (grow_setCell _ g 1 (.bool true)))
  clear hr4 hgr hg4 Hr3 Hg3 Hsrc hr2 d0 d1 hf hb02
  go_wp2
  all_goals go_ret
  all_goals exact ⟨rfl, Hr5.out, Hg5.out⟩
  
set_option maxRecDepth 100000 in
set_option maxHeartbeats 1000000 in
theorem use1_0f (g cap : Nat) (a1 ln : Int) ( wr : Bool) (r : List Value) (w : World) (hcap : 1 ≤ cap) (hm : cap ≤ maxLen) (hr : RowAt w g 87 (flat [(a1, false)] ++ r))
    (hx : idx ln [(a1, false)] = 0) :
    Calls Tryz.prog 34 #[.slice (some ⟨g, 0, none⟩) 1 cap, .int .i64 ln, .bool wr] w fun e w' => e = .returned (.int .i64 1) ∧ RowAt w' g 87 (flat [(a1, wr)] ++ r) ∧ w.grownBy w' (some g) := by
  have hg := hr.lt
  have hw := hr.ways
  have hcap' : (1 : Int) ≤ (cap : Int) := by omega
  have hcap0 : (0 : Int) ≤ (cap : Int) := by omega
  unfold maxLen at hm
  go_enter Tryz.func34, Tryz.ntmps34
  go_wp2_with fail
  refine (find_any (some ⟨g, 0, none⟩) _ cap ln _ hw (by simp)).mono ?_
  rintro e w1 ⟨rfl, hb1⟩
  rw [hx]
  have hr1 := hr.below hb1 (Nat.le_refl _)
  obtain ⟨w2, hw2⟩ : ∃ w2, w2 = w1 := ⟨_, rfl⟩
  subst hw2
  have hb02 := hb1
  have hr2 := hr1
  have d0 := hr2.cell 0 _ rfl
  have d1 := hr2.cell 1 _ rfl
  have hf : ∀ i, w2.frozen? ⟨g, i, none⟩ = false := fun i => hr2.frozen i
  have hg2 : g < w2.heap.size := hr2.lt
  clear hx hw hr hr1 hb1
  go_wp2_with fail
  have Hr3 := hid (hr2.alloc (.cells #[.int .i64 a1, .bool wr] 87))
  have Hg3 := hid ((grow_below g hb02).trans (World.grownBy_alloc _ (.cells #[.int .i64 a1, .bool wr] 87) _))
  have Hsrc : Hid (RowAt _ g 87 (flat ([] : List (Int × Bool)) ++ (flat [(a1, false)] ++ r))) := Hr3
  go_region_law (refine step_copyz (by rfl) (.tmp 40) (.tmp 43) 84 84 (by rfl) 87 2 Tryz.underlying84 Tryz.sz87 _ _ _ _ _ _ (by rfl) (by rfl) g 2 (flat [(a1, false)] ++ r) 87 (by exact Hr3.out) (flat ([] : List (Int × Bool))) (by rfl) (by omega) (fun h0 => ⟨absurd h0 (by simp [flat]), _, by rfl, by exact Hsrc.out.news⟩) (by simp [flat] <;> omega) (flat_mem _) 0 (by rfl) ?_; intro w4 hg4 hgr hsz)
  have hne : some w2.heap.size ≠ some g := by simp; omega
  have e0 : w4.cell? ⟨w2.heap.size, 0, none⟩ = some (.int .i64 a1) := hgr.cell (by show (World.alloc _ _).cell? _ = _; rw [cell_new _ _ _ _ _ (by simp)]; rfl) hne
  have e1 : w4.cell? ⟨w2.heap.size, 1, none⟩ = some (.bool wr) := hgr.cell (by show (World.alloc _ _).cell? _ = _; rw [cell_new _ _ _ _ _ (by simp)]; rfl) hne
  have hr4 : RowAt w4 g 87 (flat [(a1, false)] ++ r) := hg4.out
  have f0 := hr4.cell 0 _ rfl
  have f1 := hr4.cell 1 _ rfl
  have hf4 : ∀ i, w4.frozen? ⟨g, i, none⟩ = false := fun i => hr4.frozen i
  have Hr5 := hid ((hr4.setCell 0 (.int .i64 a1)).setCell 1 (.bool wr))
  have Hg5 := hid ((((Hg3.out.trans (grow_drew _ _)).trans hgr).trans (grow_setCell _ g 0 (.int .i64 a1))).trans (grow_setCell _ g 1 (.bool wr)))
  clear hr4 hgr hg4 Hr3 Hg3 Hsrc hr2 d0 d1 hf hb02
  go_wp2
  all_goals go_ret
  all_goals exact ⟨rfl, Hr5.out, Hg5.out⟩
  
end Go.Proofs.YtildebflnmbefaaGreat

namespace Go.Proofs.YtildebflnmbefaaGreat
open Go.RowKit

set_option maxRecDepth 100000 in
set_option maxHeartbeats 1000000 in
theorem use2_miss (g cap : Nat) (a1 b1 ln : Int) (a2 b2 wr : Bool) (r : List Value) (w : World) (hcap : 2 ≤ cap) (hm : cap ≤ maxLen) (hr : RowAt w g 87 (flat [(a1, a2), (b1, b2)] ++ r))
    (hx : idx ln [(a1, a2), (b1, b2)] = -1) :
    Calls Tryz.prog 34 #[.slice (some ⟨g, 0, none⟩) 2 cap, .int .i64 ln, .bool wr] w fun e w' => e = .returned (.int .i64 (10 + wb b2)) ∧ RowAt w' g 87 (flat [(ln, wr), (a1, a2)] ++ r) ∧ w.grownBy w' (some g) := by
  have hg := hr.lt
  have hw := hr.ways
  have hcap' : (2 : Int) ≤ (cap : Int) := by omega
  have hcap1 : (1 : Int) ≤ (cap : Int) := by omega
  have hcap0 : (0 : Int) ≤ (cap : Int) := by omega
  have hne1 : ¬ cap = 1 := by omega
  unfold maxLen at hm
  go_enter Tryz.func34, Tryz.ntmps34
  go_wp2_with fail
  refine (find_any (some ⟨g, 0, none⟩) _ cap ln _ hw (by simp)).mono ?_
  rintro e w1 ⟨rfl, hb1⟩
  rw [hx]
  have hr1 := hr.below hb1 (Nat.le_refl _)
  have c4 := hr1.cell 2 _ rfl
  have c5 := hr1.cell 3 _ rfl
  go_wp2_with fail
  refine (writeBack_any _ _ _).mono ?_
  rintro e w2 ⟨rfl, hb2⟩
  have hb02 := btrans hb1 hb2
  have hr2 := hr1.below hb2 (Nat.le_refl _)
  have d0 := hr2.cell 0 _ rfl
  have d1 := hr2.cell 1 _ rfl
  have d2 := hr2.cell 2 _ rfl
  have d3 := hr2.cell 3 _ rfl
  have hf : ∀ i, w2.frozen? ⟨g, i, none⟩ = false := fun i => hr2.frozen i
  have hg2 : g < w2.heap.size := hr2.lt
  have hq1 := (wb_le b2).1
  have hq2 := (wb_le b2).2
  generalize hq0 : wb b2 = q at *
  have Hq := hid hq0
  clear hq0
  clear hx hw hr hr1 c4 c5 hb1 hb2
  go_wp2_with fail
  have Hr3 := hid (((hr2.setCell 2 (.int .i64 ln)).setCell 3 (.bool false)).alloc (.cells #[.int .i64 ln, .bool wr] 87))
  have Hg3 := hid ((((grow_below g hb02).trans (grow_setCell _ g 2 (.int .i64 ln))).trans (grow_setCell _ g 3 (.bool false))).trans (World.grownBy_alloc _ (.cells #[.int .i64 ln, .bool wr] 87) _))
  have hL : ((flat [(a1, a2), (b1, b2)] ++ r).set 2 (.int .i64 ln)).set 3 (.bool false) = flat [(a1, a2), (ln, false)] ++ r := rfl
  rw [hL] at Hr3
  clear hL
  have Hsrc : Hid (RowAt _ g 87 (flat [(a1, a2)] ++ (flat [(ln, false)] ++ r))) := Hr3
  go_region_law (refine step_copyz (by rfl) (.tmp 40) (.tmp 43) 84 84 (by rfl) 87 2 Tryz.underlying84 Tryz.sz87 _ _ _ _ _ _ (by rfl) (by rfl) g 2 (flat [(a1, a2), (ln, false)] ++ r) 87 (by exact Hr3.out) (flat [(a1, a2)]) (by rfl) (by omega) (fun h0 => ⟨by rfl, _, by rfl, by exact Hsrc.out.news⟩) (by simp [flat] <;> omega) (flat_mem _) 1 (by rfl) ?_; intro w4 hg4 hgr hsz)
  have hne : some w2.heap.size ≠ some g := by simp; omega
  have e0 : w4.cell? ⟨w2.heap.size, 0, none⟩ = some (.int .i64 ln) := hgr.cell (by show (World.alloc _ _).cell? _ = _; rw [cell_new _ _ _ _ _ (by simp)]; rfl) hne
  have e1 : w4.cell? ⟨w2.heap.size, 1, none⟩ = some (.bool wr) := hgr.cell (by show (World.alloc _ _).cell? _ = _; rw [cell_new _ _ _ _ _ (by simp)]; rfl) hne
  have hr4 : RowAt w4 g 87 (flat [(a1, a2), (a1, a2)] ++ r) := hg4.out
  have f0 := hr4.cell 0 _ rfl
  have f1 := hr4.cell 1 _ rfl
  have hf4 : ∀ i, w4.frozen? ⟨g, i, none⟩ = false := fun i => hr4.frozen i
  have Hr5 := hid ((hr4.setCell 0 (.int .i64 ln)).setCell 1 (.bool wr))
  have Hg5 := hid ((((Hg3.out.trans (grow_drew _ _)).trans hgr).trans (grow_setCell _ g 0 (.int .i64 ln))).trans (grow_setCell _ g 1 (.bool wr)))
  clear hr4 hgr hg4 Hr3 Hg3 Hsrc hr2 d0 d1 d2 d3 hf hb02
  go_wp2
  all_goals go_ret
  all_goals exact ⟨ret_int (by rw [← Hq.out]), Hr5.out, Hg5.out⟩
  
set_option maxRecDepth 100000 in
set_option maxHeartbeats 1000000 in
theorem use2_0t (g cap : Nat) (a1 b1 ln : Int) (b2 wr : Bool) (r : List Value) (w : World) (hcap : 2 ≤ cap) (hm : cap ≤ maxLen) (hr : RowAt w g 87 (flat [(a1, true), (b1, b2)] ++ r))
    (hx : idx ln [(a1, true), (b1, b2)] = 0) :
    Calls Tryz.prog 34 #[.slice (some ⟨g, 0, none⟩) 2 cap, .int .i64 ln, .bool wr] w fun e w' => e = .returned (.int .i64 1) ∧ RowAt w' g 87 (flat [(a1, true), (b1, b2)] ++ r) ∧ w.grownBy w' (some g) := by
  have hg := hr.lt
  have hw := hr.ways
  have hcap' : (2 : Int) ≤ (cap : Int) := by omega
  have hcap1 : (1 : Int) ≤ (cap : Int) := by omega
  have hcap0 : (0 : Int) ≤ (cap : Int) := by omega
  have hne1 : ¬ cap = 1 := by omega
  unfold maxLen at hm
  go_enter Tryz.func34, Tryz.ntmps34
  go_wp2_with fail
  refine (find_any (some ⟨g, 0, none⟩) _ cap ln _ hw (by simp)).mono ?_
  rintro e w1 ⟨rfl, hb1⟩
  rw [hx]
  have hr1 := hr.below hb1 (Nat.le_refl _)
  obtain ⟨w2, hw2⟩ : ∃ w2, w2 = w1 := ⟨_, rfl⟩
  subst hw2
  have hb02 := hb1
  have hr2 := hr1
  have d0 := hr2.cell 0 _ rfl
  have d1 := hr2.cell 1 _ rfl
  have d2 := hr2.cell 2 _ rfl
  have d3 := hr2.cell 3 _ rfl
  have hf : ∀ i, w2.frozen? ⟨g, i, none⟩ = false := fun i => hr2.frozen i
  have hg2 : g < w2.heap.size := hr2.lt
  clear hx hw hr hr1 hb1
  go_wp2_with fail
  have Hr3 := hid (hr2.alloc (.cells #[.int .i64 a1, .bool true] 87))
  have Hg3 := hid ((grow_below g hb02).trans (World.grownBy_alloc _ (.cells #[.int .i64 a1, .bool true] 87) _))
  have Hsrc : Hid (RowAt _ g 87 (flat ([] : List (Int × Bool)) ++ (flat [(a1, true), (b1, b2)] ++ r))) := Hr3
  go_region_law (refine step_copyz (by rfl) (.tmp 40) (.tmp 43) 84 84 (by rfl) 87 2 Tryz.underlying84 Tryz.sz87 _ _ _ _ _ _ (by rfl) (by rfl) g 2 (flat [(a1, true), (b1, b2)] ++ r) 87 (by exact Hr3.out) (flat ([] : List (Int × Bool))) (by rfl) (by omega) (fun h0 => ⟨absurd h0 (by simp [flat]), _, by rfl, by exact Hsrc.out.news⟩) (by simp [flat] <;> omega) (flat_mem _) 0 (by rfl) ?_; intro w4 hg4 hgr hsz)
  have hne : some w2.heap.size ≠ some g := by simp; omega
  have e0 : w4.cell? ⟨w2.heap.size, 0, none⟩ = some (.int .i64 a1) := hgr.cell (by show (World.alloc _ _).cell? _ = _; rw [cell_new _ _ _ _ _ (by simp)]; rfl) hne
  have e1 : w4.cell? ⟨w2.heap.size, 1, none⟩ = some (.bool true) := hgr.cell (by show (World.alloc _ _).cell? _ = _; rw [cell_new _ _ _ _ _ (by simp)]; rfl) hne
  have hr4 : RowAt w4 g 87 (flat [(a1, true), (b1, b2)] ++ r) := hg4.out
  have f0 := hr4.cell 0 _ rfl
  have f1 := hr4.cell 1 _ rfl
  have hf4 : ∀ i, w4.frozen? ⟨g, i, none⟩ = false := fun i => hr4.frozen i
  have Hr5 := hid ((hr4.setCell 0 (.int .i64 a1)).setCell 1 (.bool true))
  have Hg5 := hid ((((Hg3.out.trans (grow_drew _ _)).trans hgr).trans (grow_setCell _ g 0 (.int .i64 a1))).trans (grow_setCell _ g 1 (.bool true)))
  clear hr4 hgr hg4 Hr3 Hg3 Hsrc hr2 d0 d1 d2 d3 hf hb02
  go_wp2
  all_goals go_ret
  all_goals exact ⟨rfl, Hr5.out, Hg5.out⟩
  
set_option maxRecDepth 100000 in
set_option maxHeartbeats 1000000 in
theorem use2_0f (g cap : Nat) (a1 b1 ln : Int) (b2 wr : Bool) (r : List Value) (w : World) (hcap : 2 ≤ cap) (hm : cap ≤ maxLen) (hr : RowAt w g 87 (flat [(a1, false), (b1, b2)] ++ r))
    (hx : idx ln [(a1, false), (b1, b2)] = 0) :
    Calls Tryz.prog 34 #[.slice (some ⟨g, 0, none⟩) 2 cap, .int .i64 ln, .bool wr] w fun e w' => e = .returned (.int .i64 1) ∧ RowAt w' g 87 (flat [(a1, wr), (b1, b2)] ++ r) ∧ w.grownBy w' (some g) := by
  have hg := hr.lt
  have hw := hr.ways
  have hcap' : (2 : Int) ≤ (cap : Int) := by omega
  have hcap1 : (1 : Int) ≤ (cap : Int) := by omega
  have hcap0 : (0 : Int) ≤ (cap : Int) := by omega
  have hne1 : ¬ cap = 1 := by omega
  unfold maxLen at hm
  go_enter Tryz.func34, Tryz.ntmps34
  go_wp2_with fail
  refine (find_any (some ⟨g, 0, none⟩) _ cap ln _ hw (by simp)).mono ?_
  rintro e w1 ⟨rfl, hb1⟩
  rw [hx]
  have hr1 := hr.below hb1 (Nat.le_refl _)
  obtain ⟨w2, hw2⟩ : ∃ w2, w2 = w1 := ⟨_, rfl⟩
  subst hw2
  have hb02 := hb1
  have hr2 := hr1
  have d0 := hr2.cell 0 _ rfl
  have d1 := hr2.cell 1 _ rfl
  have d2 := hr2.cell 2 _ rfl
  have d3 := hr2.cell 3 _ rfl
  have hf : ∀ i, w2.frozen? ⟨g, i, none⟩ = false := fun i => hr2.frozen i
  have hg2 : g < w2.heap.size := hr2.lt
  clear hx hw hr hr1 hb1
  go_wp2_with fail
  have Hr3 := hid (hr2.alloc (.cells #[.int .i64 a1, .bool wr] 87))
  have Hg3 := hid ((grow_below g hb02).trans (World.grownBy_alloc _ (.cells #[.int .i64 a1, .bool wr] 87) _))
  have Hsrc : Hid (RowAt _ g 87 (flat ([] : List (Int × Bool)) ++ (flat [(a1, false), (b1, b2)] ++ r))) := Hr3
  go_region_law (refine step_copyz (by rfl) (.tmp 40) (.tmp 43) 84 84 (by rfl) 87 2 Tryz.underlying84 Tryz.sz87 _ _ _ _ _ _ (by rfl) (by rfl) g 2 (flat [(a1, false), (b1, b2)] ++ r) 87 (by exact Hr3.out) (flat ([] : List (Int × Bool))) (by rfl) (by omega) (fun h0 => ⟨absurd h0 (by simp [flat]), _, by rfl, by exact Hsrc.out.news⟩) (by simp [flat] <;> omega) (flat_mem _) 0 (by rfl) ?_; intro w4 hg4 hgr hsz)
  have hne : some w2.heap.size ≠ some g := by simp; omega
  have e0 : w4.cell? ⟨w2.heap.size, 0, none⟩ = some (.int .i64 a1) := hgr.cell (by show (World.alloc _ _).cell? _ = _; rw [cell_new _ _ _ _ _ (by simp)]; rfl) hne
  have e1 : w4.cell? ⟨w2.heap.size, 1, none⟩ = some (.bool wr) := hgr.cell (by show (World.alloc _ _).cell? _ = _; rw [cell_new _ _ _ _ _ (by simp)]; rfl) hne
  have hr4 : RowAt w4 g 87 (flat [(a1, false), (b1, b2)] ++ r) := hg4.out
  have f0 := hr4.cell 0 _ rfl
  have f1 := hr4.cell 1 _ rfl
  have hf4 : ∀ i, w4.frozen? ⟨g, i, none⟩ = false := fun i => hr4.frozen i
  have Hr5 := hid ((hr4.setCell 0 (.int .i64 a1)).setCell 1 (.bool wr))
  have Hg5 := hid ((((Hg3.out.trans (grow_drew _ _)).trans hgr).trans (grow_setCell _ g 0 (.int .i64 a1))).trans (grow_setCell _ g 1 (.bool wr)))
  clear hr4 hgr hg4 Hr3 Hg3 Hsrc hr2 d0 d1 d2 d3 hf hb02
  go_wp2
  all_goals go_ret
  all_goals exact ⟨rfl, Hr5.out, Hg5.out⟩
  
end Go.Proofs.YtildebflnmbefaaGreat

namespace Go.Proofs.YtildebflnmbefaaGreat
open Go.RowKit

set_option maxRecDepth 100000 in
set_option maxHeartbeats 1000000 in
theorem use2_1t (g cap : Nat) (a1 b1 ln : Int) (a2 wr : Bool) (r : List Value) (w : World) (hcap : 2 ≤ cap) (hm : cap ≤ maxLen) (hr : RowAt w g 87 (flat [(a1, a2), (b1, true)] ++ r))
    (hx : idx ln [(a1, a2), (b1, true)] = 1) :
    Calls Tryz.prog 34 #[.slice (some ⟨g, 0, none⟩) 2 cap, .int .i64 ln, .bool wr] w fun e w' => e = .returned (.int .i64 1) ∧ RowAt w' g 87 (flat [(b1, true), (a1, a2)] ++ r) ∧ w.grownBy w' (some g) := by
  have hg := hr.lt
  have hw := hr.ways
  have hcap' : (2 : Int) ≤ (cap : Int) := by omega
  have hcap1 : (1 : Int) ≤ (cap : Int) := by omega
  have hcap0 : (0 : Int) ≤ (cap : Int) := by omega
  have hne1 : ¬ cap = 1 := by omega
  unfold maxLen at hm
  go_enter Tryz.func34, Tryz.ntmps34
  go_wp2_with fail
  refine (find_any (some ⟨g, 0, none⟩) _ cap ln _ hw (by simp)).mono ?_
  rintro e w1 ⟨rfl, hb1⟩
  rw [hx]
  have hr1 := hr.below hb1 (Nat.le_refl _)
  obtain ⟨w2, hw2⟩ : ∃ w2, w2 = w1 := ⟨_, rfl⟩
  subst hw2
  have hb02 := hb1
  have hr2 := hr1
  have d0 := hr2.cell 0 _ rfl
  have d1 := hr2.cell 1 _ rfl
  have d2 := hr2.cell 2 _ rfl
  have d3 := hr2.cell 3 _ rfl
  have hf : ∀ i, w2.frozen? ⟨g, i, none⟩ = false := fun i => hr2.frozen i
  have hg2 : g < w2.heap.size := hr2.lt
  clear hx hw hr hr1 hb1
  go_wp2_with fail
  have Hr3 := hid (hr2.alloc (.cells #[.int .i64 b1, .bool true] 87))
  have Hg3 := hid ((grow_below g hb02).trans (World.grownBy_alloc _ (.cells #[.int .i64 b1, .bool true] 87) _))
  have Hsrc : Hid (RowAt _ g 87 (flat [(a1, a2)] ++ (flat [(b1, true)] ++ r))) := Hr3
  go_region_law (refine step_copyz (by rfl) (.tmp 40) (.tmp 43) 84 84 (by rfl) 87 2 Tryz.underlying84 Tryz.sz87 _ _ _ _ _ _ (by rfl) (by rfl) g 2 (flat [(a1, a2), (b1, true)] ++ r) 87 (by exact Hr3.out) (flat [(a1, a2)]) (by rfl) (by omega) (fun h0 => ⟨by rfl, _, by rfl, by exact Hsrc.out.news⟩) (by simp [flat] <;> omega) (flat_mem _) 1 (by rfl) ?_; intro w4 hg4 hgr hsz)
  have hne : some w2.heap.size ≠ some g := by simp; omega
  have e0 : w4.cell? ⟨w2.heap.size, 0, none⟩ = some (.int .i64 b1) := hgr.cell (by show (World.alloc _ _).cell? _ = _; rw [cell_new _ _ _ _ _ (by simp)]; rfl) hne
  have e1 : w4.cell? ⟨w2.heap.size, 1, none⟩ = some (.bool true) := hgr.cell (by show (World.alloc _ _).cell? _ = _; rw [cell_new _ _ _ _ _ (by simp)]; rfl) hne
  have hr4 : RowAt w4 g 87 (flat [(a1, a2), (a1, a2)] ++ r) := hg4.out
  have f0 := hr4.cell 0 _ rfl
  have f1 := hr4.cell 1 _ rfl
  have hf4 : ∀ i, w4.frozen? ⟨g, i, none⟩ = false := fun i => hr4.frozen i
  have Hr5 := hid ((hr4.setCell 0 (.int .i64 b1)).setCell 1 (.bool true))
  have Hg5 := hid ((((Hg3.out.trans (grow_drew _ _)).trans hgr).trans (grow_setCell _ g 0 (.int .i64 b1))).trans (grow_setCell _ g 1 (.bool true)))
  clear hr4 hgr hg4 Hr3 Hg3 Hsrc hr2 d0 d1 d2 d3 hf hb02
  go_wp2
  all_goals go_ret
  all_goals exact ⟨rfl, Hr5.out, Hg5.out⟩
  
set_option maxRecDepth 100000 in
set_option maxHeartbeats 1000000 in
theorem use2_1f (g cap : Nat) (a1 b1 ln : Int) (a2 wr : Bool) (r : List Value) (w : World) (hcap : 2 ≤ cap) (hm : cap ≤ maxLen) (hr : RowAt w g 87 (flat [(a1, a2), (b1, false)] ++ r))
    (hx : idx ln [(a1, a2), (b1, false)] = 1) :
    Calls Tryz.prog 34 #[.slice (some ⟨g, 0, none⟩) 2 cap, .int .i64 ln, .bool wr] w fun e w' => e = .returned (.int .i64 1) ∧ RowAt w' g 87 (flat [(b1, wr), (a1, a2)] ++ r) ∧ w.grownBy w' (some g) := by
  have hg := hr.lt
  have hw := hr.ways
  have hcap' : (2 : Int) ≤ (cap : Int) := by omega
  have hcap1 : (1 : Int) ≤ (cap : Int) := by omega
  have hcap0 : (0 : Int) ≤ (cap : Int) := by omega
  have hne1 : ¬ cap = 1 := by omega
  unfold maxLen at hm
  go_enter Tryz.func34, Tryz.ntmps34
  go_wp2_with fail
  refine (find_any (some ⟨g, 0, none⟩) _ cap ln _ hw (by simp)).mono ?_
  rintro e w1 ⟨rfl, hb1⟩
  rw [hx]
  have hr1 := hr.below hb1 (Nat.le_refl _)
  obtain ⟨w2, hw2⟩ : ∃ w2, w2 = w1 := ⟨_, rfl⟩
  subst hw2
  have hb02 := hb1
  have hr2 := hr1
  have d0 := hr2.cell 0 _ rfl
  have d1 := hr2.cell 1 _ rfl
  have d2 := hr2.cell 2 _ rfl
  have d3 := hr2.cell 3 _ rfl
  have hf : ∀ i, w2.frozen? ⟨g, i, none⟩ = false := fun i => hr2.frozen i
  have hg2 : g < w2.heap.size := hr2.lt
  clear hx hw hr hr1 hb1
  go_wp2_with fail
  have Hr3 := hid (hr2.alloc (.cells #[.int .i64 b1, .bool wr] 87))
  have Hg3 := hid ((grow_below g hb02).trans (World.grownBy_alloc _ (.cells #[.int .i64 b1, .bool wr] 87) _))
  have Hsrc : Hid (RowAt _ g 87 (flat [(a1, a2)] ++ (flat [(b1, false)] ++ r))) := Hr3
  go_region_law (refine step_copyz (by rfl) (.tmp 40) (.tmp 43) 84 84 (by rfl) 87 2 Tryz.underlying84 Tryz.sz87 _ _ _ _ _ _ (by rfl) (by rfl) g 2 (flat [(a1, a2), (b1, false)] ++ r) 87 (by exact Hr3.out) (flat [(a1, a2)]) (by rfl) (by omega) (fun h0 => ⟨by rfl, _, by rfl, by exact Hsrc.out.news⟩) (by simp [flat] <;> omega) (flat_mem _) 1 (by rfl) ?_; intro w4 hg4 hgr hsz)
  have hne : some w2.heap.size ≠ some g := by simp; omega
  have e0 : w4.cell? ⟨w2.heap.size, 0, none⟩ = some (.int .i64 b1) := hgr.cell (by show (World.alloc _ _).cell? _ = _; rw [cell_new _ _ _ _ _ (by simp)]; rfl) hne
  have e1 : w4.cell? ⟨w2.heap.size, 1, none⟩ = some (.bool wr) := hgr.cell (by show (World.alloc _ _).cell? _ = _; rw [cell_new _ _ _ _ _ (by simp)]; rfl) hne
  have hr4 : RowAt w4 g 87 (flat [(a1, a2), (a1, a2)] ++ r) := hg4.out
  have f0 := hr4.cell 0 _ rfl
  have f1 := hr4.cell 1 _ rfl
  have hf4 : ∀ i, w4.frozen? ⟨g, i, none⟩ = false := fun i => hr4.frozen i
  have Hr5 := hid ((hr4.setCell 0 (.int .i64 b1)).setCell 1 (.bool wr))
  have Hg5 := hid ((((Hg3.out.trans (grow_drew _ _)).trans hgr).trans (grow_setCell _ g 0 (.int .i64 b1))).trans (grow_setCell _ g 1 (.bool wr)))
  clear hr4 hgr hg4 Hr3 Hg3 Hsrc hr2 d0 d1 d2 d3 hf hb02
  go_wp2
  all_goals go_ret
  all_goals exact ⟨rfl, Hr5.out, Hg5.out⟩
  
end Go.Proofs.YtildebflnmbefaaGreat
