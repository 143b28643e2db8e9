/- Walks: what must be of caches in any case. -/
import Derived.Test.YtaellaconpaejaaCn
set_option linter.unusedVariables false
namespace Go.Proofs.Ytaellaconpaejaa
open Go.RowKit

theorem begun1 (g : Nat) (w : World) (h : OwnC w g [[(0, false)]] 1) :
    Calls Try.prog 15 #[.agg #[.slice (some ⟨g, 0, none⟩) 1 1], .int .i64 5, .bool true] w fun e w' => ∃ g', e = .returned (.tuple #[.agg #[.slice (some ⟨g', 0, none⟩) 1 1], .int .i64 10, .int .i64 0]) ∧ OwnC w' g' [[(5, true)]] 1 ∧ w.heap.size ≤ g' ∧ Below w.heap.size w w' := by
  refine (access_ok (some ⟨g, 0, none⟩) [[(0, false)]] 1 5 true 0 w (cacheIn_of_own h (by decide) (by decide)) (by decide) (by decide) (by decide) (by decide) (by decide)).mono ?_
  rintro e w' ⟨g', h1, h2, h3, h4⟩
  exact ⟨g', h1, h2, h3, h4⟩

theorem begun2 (g : Nat) (w : World) (h : OwnC w g [[(5, true)]] 1) :
    Calls Try.prog 15 #[.agg #[.slice (some ⟨g, 0, none⟩) 1 1], .int .i64 5, .bool false] w fun e w' => ∃ g', e = .returned (.tuple #[.agg #[.slice (some ⟨g', 0, none⟩) 1 1], .int .i64 1, .int .i64 0]) ∧ Below w.heap.size w w' := by
  refine (access_ok (some ⟨g, 0, none⟩) [[(5, true)]] 1 5 false 0 w (cacheIn_of_own h (by decide) (by decide)) (by decide) (by decide) (by decide) (by decide) (by decide)).mono ?_
  rintro e w' ⟨g', h1, h2, _, h4⟩
  exact ⟨g', h1, h4⟩

theorem begun3 (g : Nat) (w : World) (h : OwnC w g [[(5, true)]] 1) :
    Calls Try.prog 16 #[.agg #[.slice (some ⟨g, 0, none⟩) 1 1]] w fun e w' => ∃ g', e = .returned (.tuple #[.agg #[.slice (some ⟨g', 0, none⟩) 1 1], .int .i64 7, .int .i64 0]) ∧ Below w.heap.size w w' := by
  refine (flush_ok (some ⟨g, 0, none⟩) [[(5, true)]] 1 w (cacheIn_of_own h (by decide) (by decide)) (by decide) (by decide) 1 (by decide)).mono ?_
  rintro e w' ⟨g', h1, h2, _, h4⟩
  exact ⟨g', h1, h4⟩

theorem begun4 (g : Nat) (w : World) (h : OwnC w g [[(5, true)]] 1) :
    Calls Try.prog 23 #[.agg #[.slice (some ⟨g, 0, none⟩) 1 1]] w fun e w' => e = .returned (.int .i64 0) ∧ Below w.heap.size w w' :=
  check_any (some ⟨g, 0, none⟩) [[(5, true)]] 1 w (cacheIn_of_own h (by decide) (by decide)) (by decide)

set_option maxRecDepth 100000 in
set_option maxHeartbeats 1000000 in
theorem begun_any (w : World) : Calls Try.prog 21 #[] w fun e w' => e = .returned (.bool true) ∧ Below w.heap.size w w' := by
  go_enter Try.func21, Try.ntmps21
  go_wp2_with fail
  refine (new_ok 1 1 _ (by omega) (by omega) (by omega) (by omega)).mono ?_
  rintro e w1 ⟨g1, rfl, hO1, _, hb1⟩
  have q1 : Below w1.heap.size w1 (w1.alloc (.cells #[.slice (some ⟨g1, 0, none⟩) 1 1] 24)) := (Below.refl _ _).alloc (Nat.le_refl _) _
  have H1 := hid (hO1.below q1)
  have hr1 : RowAt (w1.alloc (.cells #[.slice (some ⟨g1, 0, none⟩) 1 1] 24)) w1.heap.size 24 [.slice (some ⟨g1, 0, none⟩) 1 1] := rowAt_new w1 _ [.slice (some ⟨g1, 0, none⟩) 1 1] 24 rfl
  have hb1' := btrans hb1 q1
  clear hO1 q1
  go_wp2_with fail
  refine (begun1 g1 _ H1.out).mono ?_
  rintro e w2 ⟨g2, rfl, hO2, hg2, hb2⟩
  have hr2 := hr1.below hb2 (Nat.le_refl _)
  have hc2 := hr2.cell 0 _ rfl
  have hf2 := hr2.frozen 0
  have H3 := hid (hO2.setOther ⟨w1.heap.size, 0, none⟩ (.slice (some ⟨g2, 0, none⟩) 1 1) (by show w1.heap.size < g2; simp at hg2; omega))
  have hr3 := hr2.setCell 0 (.slice (some ⟨g2, 0, none⟩) 1 1)
  have hb3 := (btrans hb1' hb2).setCell (p := ⟨w1.heap.size, 0, none⟩) hb1.size (.slice (some ⟨g2, 0, none⟩) 1 1)
  have Hr3 := hid hr3
  have Hb3 := hid hb3
  clear hO2 hr1 hr3 hb3 H1
  go_wp2_with fail
  refine (begun2 g2 _ H3.out).mono ?_
  rintro e w4 ⟨g4, rfl, hb4⟩
  have hb4' : Below (w2.setCell ⟨w1.heap.size, 0, none⟩ (.slice (some ⟨g2, 0, none⟩) 1 1)).heap.size (w2.setCell ⟨w1.heap.size, 0, none⟩ (.slice (some ⟨g2, 0, none⟩) 1 1)) (w4.alloc (.cells #[.slice (some ⟨g4, 0, none⟩) 1 1] 24)) := hb4.alloc hb4.size _
  have hr5 := Hr3.out.below hb4' (Nat.le_refl _)
  have hc5 := hr5.cell 0 _ rfl
  have H5 := hid (H3.out.below hb4')
  have Hb5 := hid (btrans Hb3.out hb4')
  have Hr5 := hid hr5
  clear hr2 hc2 hf2 H3 Hr3 Hb3 hb4' hr5
  go_wp2_with fail
  refine (begun3 g2 _ H5.out).mono ?_
  rintro e w6 ⟨g6, rfl, hb6⟩
  have hb6' : Below (w4.alloc (.cells #[.slice (some ⟨g4, 0, none⟩) 1 1] 24)).heap.size (w4.alloc (.cells #[.slice (some ⟨g4, 0, none⟩) 1 1] 24)) (w6.alloc (.cells #[.slice (some ⟨g6, 0, none⟩) 1 1] 24)) := hb6.alloc hb6.size _
  have hr7 := Hr5.out.below hb6' (Nat.le_refl _)
  have hc7 := hr7.cell 0 _ rfl
  have H7 := hid (H5.out.below hb6')
  have Hb7 := hid (btrans Hb5.out hb6')
  clear H5 Hb5 Hr5 hr7 hc5
  go_wp2_with fail
  refine (begun4 g2 _ H7.out).mono ?_
  rintro e w8 ⟨rfl, hb8⟩
  go_wp2
  go_ret
  exact ⟨rfl, btrans Hb7.out hb8⟩

end Go.Proofs.Ytaellaconpaejaa
