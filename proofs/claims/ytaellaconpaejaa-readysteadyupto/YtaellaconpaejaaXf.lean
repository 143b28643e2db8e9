/- Walks: what Commit comes to. -/
import Derived.Test.YtaellaconpaejaaXe
set_option linter.unusedVariables false
namespace Go.Proofs.Ytaellaconpaejaa
open Go.RowKit

/-- What Commit answers: the error, what waits, how many are lost. -/
def comE (V : List Int) (lost size : Int) (L : List Int) : Int := if ckR V lost size = 0 then (if allR L 0 255 then 0 else 3) else ckR V lost size
def comRV (V : List Int) (lost size : Int) (L : List Int) : List Int := if comE V lost size L = 0 then comV V L (roomR V size) L.length else []
def comRL (V : List Int) (lost size : Int) (L : List Int) : Int := if comE V lost size L = 0 then comL lost (roomR V size) L.length else 0

theorem IntsIn.takex {w : World} {a : Option Addr} {ls : List Int} (h : IntsIn w a ls) (k : Nat) : IntsIn w a (ls.take k) := by
  intro i hi
  have : i < ls.length := by simp at hi; omega
  obtain ⟨b, o, e, h1⟩ := h i this
  exact ⟨b, o, e, by simpa using h1⟩

set_option maxRecDepth 100000 in
set_option maxHeartbeats 1000000 in
theorem commit_bad (a : Option Addr) (V : List Int) (cap : Nat) (lost size : Int) (p : Option Addr) (L : List Int) (c : Nat) (w : World) (hw : IntsIn w a V) (hl : V.length ≤ 9223372036854775807) (hL : IntsIn w p L) (hm : L.length ≤ 9223372036854775807) (h0 : ckR V lost size ≠ 0) :
    Calls Try.prog 34 #[.agg #[.slice a V.length cap, .int .i64 lost], .int .i64 size, .slice p L.length c] w fun e w' => e = .returned (.tuple #[.agg #[.slice none 0 0, .int .i64 0], .int .i64 (ckR V lost size)]) ∧ Below w.heap.size w w' := by
  have q1 := below_new w (.cells #[.slice a V.length cap, .int .i64 lost] 63)
  have q2 := below_new (w.alloc (.cells #[.slice a V.length cap, .int .i64 lost] 63)) (.cells #[.slice none 0 0, .int .i64 0] 63)
  have HB := hid (btrans q1 q2)
  have HW := hid (hw.keep (btrans q1 q2))
  have HL := hid (hL.keep (btrans q1 q2))
  have R2 : Hid (RowAt ((w.alloc (.cells #[.slice a V.length cap, .int .i64 lost] 63)).alloc (.cells #[.slice none 0 0, .int .i64 0] 63)) w.heap.size 63 [.slice a V.length cap, .int .i64 lost]) := hid ((rowAt_new2 w _ [.slice a V.length cap, .int .i64 lost] 63 rfl).alloc _)
  have R4 : Hid (RowAt ((w.alloc (.cells #[.slice a V.length cap, .int .i64 lost] 63)).alloc (.cells #[.slice none 0 0, .int .i64 0] 63)) (w.heap.size + 1) 63 [.slice none 0 0, .int .i64 0]) := hid (rowAt_new2 _ _ [.slice none 0 0, .int .i64 0] 63 (by simp))
  clear q1 q2 hw hL
  go_enter Try.func34, Try.ntmps34
  go_wp2_with fail
  refine (ringCheck_any a V cap lost size _ HW.out hl).mono ?_
  rintro e w2 ⟨rfl, hb2⟩
  have R3 := hid (R2.out.below hb2 (Nat.le_refl _))
  have R5 := hid (R4.out.below hb2 (Nat.le_refl _))
  have B5 := hid (btrans HB.out hb2)
  have W5 := hid (HW.out.keep hb2)
  have L5 := hid (HL.out.keep hb2)
  clear hb2 HB HW HL R2 R4
  have hx : (ckR V lost size != 0) = true := by simp [h0]
  have x0 := R5.out.cell 0 _ rfl
  have y0 := R5.out.frozen 0
  have x1 := R5.out.cell 1 _ rfl
  have y1 := R5.out.frozen 1
  clear h0
  generalize hq : ckR V lost size = q at *
  have HQ := hid hq
  clear hq
  have R6 := hid ((R5.out.setCell 0 (.slice none 0 0)).setCell 1 (.int .i64 0))
  have B6 := hid ((B5.out.setCell (p := ⟨w.heap.size + 1, 0, none⟩) (by show w.heap.size ≤ w.heap.size + 1; omega) (.slice none 0 0)).setCell (p := ⟨w.heap.size + 1, 1, none⟩) (by show w.heap.size ≤ w.heap.size + 1; omega) (.int .i64 0))
  clear R5 B5
  go_wp2
  have d0 := R6.out.cell 0 _ rfl
  have d1 := R6.out.cell 1 _ rfl
  exact bodyPost_ret (v := .tuple #[.agg #[.slice none 0 0, .int .i64 0], .int .i64 q]) (by simp [results, Try.results34, go_sem, d0, d1]) rfl ⟨by rw [HQ.out], B6.out⟩

set_option maxRecDepth 100000 in
set_option maxHeartbeats 1000000 in
theorem commit_wrong (a : Option Addr) (V : List Int) (cap : Nat) (lost size : Int) (p : Option Addr) (L : List Int) (c : Nat) (w : World) (hw : IntsIn w a V) (hl : V.length ≤ 9223372036854775807) (hL : IntsIn w p L) (hm : L.length ≤ 9223372036854775807) (h0 : ckR V lost size = 0) (h1 : allR L 0 255 = false) :
    Calls Try.prog 34 #[.agg #[.slice a V.length cap, .int .i64 lost], .int .i64 size, .slice p L.length c] w fun e w' => e = .returned (.tuple #[.agg #[.slice none 0 0, .int .i64 0], .int .i64 3]) ∧ Below w.heap.size w w' := by
  have q1 := below_new w (.cells #[.slice a V.length cap, .int .i64 lost] 63)
  have q2 := below_new (w.alloc (.cells #[.slice a V.length cap, .int .i64 lost] 63)) (.cells #[.slice none 0 0, .int .i64 0] 63)
  have HB := hid (btrans q1 q2)
  have HW := hid (hw.keep (btrans q1 q2))
  have HL := hid (hL.keep (btrans q1 q2))
  have R2 : Hid (RowAt ((w.alloc (.cells #[.slice a V.length cap, .int .i64 lost] 63)).alloc (.cells #[.slice none 0 0, .int .i64 0] 63)) w.heap.size 63 [.slice a V.length cap, .int .i64 lost]) := hid ((rowAt_new2 w _ [.slice a V.length cap, .int .i64 lost] 63 rfl).alloc _)
  have R4 : Hid (RowAt ((w.alloc (.cells #[.slice a V.length cap, .int .i64 lost] 63)).alloc (.cells #[.slice none 0 0, .int .i64 0] 63)) (w.heap.size + 1) 63 [.slice none 0 0, .int .i64 0]) := hid (rowAt_new2 _ _ [.slice none 0 0, .int .i64 0] 63 (by simp))
  clear q1 q2 hw hL
  go_enter Try.func34, Try.ntmps34
  go_wp2_with fail
  refine (ringCheck_any a V cap lost size _ HW.out hl).mono ?_
  rintro e w2 ⟨rfl, hb2⟩
  have R3 := hid (R2.out.below hb2 (Nat.le_refl _))
  have R5 := hid (R4.out.below hb2 (Nat.le_refl _))
  have B5 := hid (btrans HB.out hb2)
  have W5 := hid (HW.out.keep hb2)
  have L5 := hid (HL.out.keep hb2)
  clear hb2 HB HW HL R2 R4
  rw [h0]
  have H1 := hid h1
  clear h0 h1
  go_wp2_with fail
  refine (all_any 0 255 p L c _ L5.out hm).mono ?_
  rintro e w3 ⟨rfl, hb3⟩
  rw [H1.out]
  have hB3 := hid hb3
  replace R5 := hid (R5.out.below hb3 (Nat.le_refl _))
  replace B5 := hid (btrans B5.out hb3)
  clear hb3 R3 W5 L5
  have x0 := R5.out.cell 0 _ rfl
  have y0 := R5.out.frozen 0
  have x1 := R5.out.cell 1 _ rfl
  have y1 := R5.out.frozen 1
  have R6 := hid ((R5.out.setCell 0 (.slice none 0 0)).setCell 1 (.int .i64 0))
  have B6 := hid ((B5.out.setCell (p := ⟨w.heap.size + 1, 0, none⟩) (by show w.heap.size ≤ w.heap.size + 1; omega) (.slice none 0 0)).setCell (p := ⟨w.heap.size + 1, 1, none⟩) (by show w.heap.size ≤ w.heap.size + 1; omega) (.int .i64 0))
  clear R5 B5
  go_wp2
  have d0 := R6.out.cell 0 _ rfl
  have d1 := R6.out.cell 1 _ rfl
  exact bodyPost_ret (v := .tuple #[.agg #[.slice none 0 0, .int .i64 0], .int .i64 3]) (by simp [results, Try.results34, go_sem, d0, d1]) rfl ⟨rfl, B6.out⟩

set_option maxRecDepth 100000 in
set_option maxHeartbeats 2000000 in
theorem commit_ok (a : Option Addr) (V : List Int) (cap : Nat) (lost size : Int) (p : Option Addr) (L : List Int) (c : Nat) (w : World) (hw : IntsIn w a V) (hl : V.length ≤ 9223372036854775807) (hL : IntsIn w p L) (hm : L.length ≤ 140737488355328) (hcp : L.length ≤ c) (h0 : ckR V lost size = 0) (h1 : allR L 0 255 = true) (R : Nat) (hR : size = ((V.length + R : Nat) : Int)) :
    Calls Try.prog 34 #[.agg #[.slice a V.length cap, .int .i64 lost], .int .i64 size, .slice p L.length c] w fun e w' => ∃ v, e = .returned (.tuple #[.agg #[v, .int .i64 (comL lost R L.length)], .int .i64 0]) ∧ w'.ownsRow w.heap.size 3 1 v (comV V L R L.length).length (ivs (comV V L R L.length)) ∧ Below w.heap.size w w' := by
  have HR0 := hid hR
  clear hR
  have hk := ckR_ok h0
  obtain ⟨⟨hs1, hs4⟩, hvs, -, hlo, hlo2⟩ := hk
  have HCL : Hid (comL lost R L.length = min (lost + ((L.length : Int) - min (R : Int) (L.length : Int))) 100000) := hid (by unfold comL; omega)
  have HCV : Hid (comV V L R L.length = V ++ L.take (min R L.length)) := hid (by unfold comV; rw [Nat.min_comm])
  have q1 := below_new w (.cells #[.slice a V.length cap, .int .i64 lost] 63)
  have q2 := below_new (w.alloc (.cells #[.slice a V.length cap, .int .i64 lost] 63)) (.cells #[.slice none 0 0, .int .i64 0] 63)
  have HB := hid (btrans q1 q2)
  have HW := hid (hw.keep (btrans q1 q2))
  have HL := hid (hL.keep (btrans q1 q2))
  have R2 : Hid (RowAt ((w.alloc (.cells #[.slice a V.length cap, .int .i64 lost] 63)).alloc (.cells #[.slice none 0 0, .int .i64 0] 63)) w.heap.size 63 [.slice a V.length cap, .int .i64 lost]) := hid ((rowAt_new2 w _ [.slice a V.length cap, .int .i64 lost] 63 rfl).alloc _)
  have R4 : Hid (RowAt ((w.alloc (.cells #[.slice a V.length cap, .int .i64 lost] 63)).alloc (.cells #[.slice none 0 0, .int .i64 0] 63)) (w.heap.size + 1) 63 [.slice none 0 0, .int .i64 0]) := hid (rowAt_new2 _ _ [.slice none 0 0, .int .i64 0] 63 (by simp))
  clear q1 q2 hw hL
  go_enter Try.func34, Try.ntmps34
  go_wp2_with fail
  refine (ringCheck_any a V cap lost size _ HW.out hl).mono ?_
  rintro e w2 ⟨rfl, hb2⟩
  have R3 := hid (R2.out.below hb2 (Nat.le_refl _))
  have R5 := hid (R4.out.below hb2 (Nat.le_refl _))
  have B5 := hid (btrans HB.out hb2)
  have W5 := hid (HW.out.keep hb2)
  have L5 := hid (HL.out.keep hb2)
  clear hb2 HB HW HL R2 R4
  rw [h0]
  have H1 := hid h1
  clear h0 h1
  go_wp2_with fail
  refine (all_any 0 255 p L c _ L5.out (by omega)).mono ?_
  rintro e w3 ⟨rfl, hb3⟩
  rw [H1.out]
  replace R3 := hid (R3.out.below hb3 (Nat.le_refl _))
  replace R5 := hid (R5.out.below hb3 (Nat.le_refl _))
  replace B5 := hid (btrans B5.out hb3)
  replace W5 := hid (W5.out.keep hb3)
  replace L5 := hid (L5.out.keep hb3)
  clear hb3
  have z0 := R3.out.cell 0 _ rfl
  have z1 := R3.out.cell 1 _ rfl
  have hR4 : V.length + R ≤ 4 := by have := HR0.out; omega
  have e1 : size - (V.length : Int) = (R : Int) := by have := HR0.out; omega
  have hsz3 : w.heap.size ≤ w3.heap.size := B5.out.size
  have hlt5 := R5.out.lt
  have hne : ¬ w.heap.size + 1 = w.heap.size := by omega
  have HS : Hid (∀ w', Below w3.heap.size w3 w' → w'.cell? ⟨w.heap.size, 0, none⟩ = some (.slice a V.length cap) ∧ w'.cell? ⟨w.heap.size, 1, none⟩ = some (.int .i64 lost)) := hid fun w' hb => ⟨bkeep hb z0 (Nat.le_refl _), bkeep hb z1 (Nat.le_refl _)⟩
  have HR : Hid (∀ w', Below w3.heap.size w3 w' → RowAt w' (w.heap.size + 1) 63 [.slice none 0 0, .int .i64 0]) := hid fun w' hb => R5.out.below hb (Nat.le_refl _)
  have hA : ∀ n : Nat, Below w3.heap.size w3 (w3.alloc (.cells #[.slice a V.length cap, .slice p n c] 42)).drew := fun n => (below_new _ _).drew
  clear R3
  by_cases hle : R ≤ L.length
  · have hle1 : size - (V.length : Int) ≤ (L.length : Int) := by omega
    have hle2 : (R : Int) ≤ (L.length : Int) := by omega
    by_cases hsum : lost + ((L.length : Int) - (R : Int)) ≤ 100000
    · have HT : Hid ((L.take R).length = R) := hid (by simp; try omega)
      have HCLc : Hid (comL lost R L.length = lost + ((L.length : Int) - (R : Int))) := hid (by unfold comL; omega)
      have HCVc : Hid (comV V L R L.length = V ++ L.take R) := hid (by unfold comV; rw [show min L.length R = R by omega]; try simp)
      have hn0 : (0 : Int) ≤ ((R : Nat) : Int) := by omega
      have hnc : ((R : Nat) : Int) ≤ (c : Int) := by omega
      have hw1 : IntKind.i64.wrap (lost + ((L.length : Int) - (R : Int))) = lost + ((L.length : Int) - (R : Int)) := by rw [IntKind.wrap_i64]; omega
      go_wp2_with fail
      go_region_held3 (fun w' => w'.cell? ⟨w.heap.size, 0, none⟩ = some (.slice a V.length cap) ∧ w'.cell? ⟨w.heap.size, 1, none⟩ = some (.int .i64 lost))
        (first | exact HS.out _ hB4 | exact HS.out _ (hA _) | go_keep)
        (first
          | (go_at_call 92; refine (concat86_any w3.heap.size a p V (L.take R) cap c _ (W5.out.keep (hA R)) ((L5.out.keep (hA R)).takex R) (by rw [HT.out]; omega) (by simp) (by rw [HT.out]; simp)).mono ?_; rintro e w4 ⟨v, rfl, hown4, hb4⟩; have hB4 := btrans (hA R) hb4; have u0 := (HR.out _ hB4).cell 0 _ rfl; have u1 := (HR.out _ hB4).cell 1 _ rfl; have f0 := (HR.out _ hB4).frozen 0; have f1 := (HR.out _ hB4).frozen 1; have HO4 := hid hown4; obtain ⟨a4, k4, rfl, -, -, -, -, -⟩ := ints_own hown4; clear hown4))
      all_goals
        have HE : Hid ((V ++ L.take R).length = V.length + R) := hid (by rw [List.length_append, HT.out])
        have HO5 : Hid (w4.ownsRow (w3.heap.size + 1) 3 1 (.slice a4 (V.length + R) k4) (V.length + R) (ivs (V ++ L.take R))) := by
          have q := HO4.out
          rw [HE.out] at q
          exact hid (by simpa using q)
        have R6 := hid (((HR.out _ hB4).setCell 0 (.slice a4 (V.length + R) k4)).setCell 1 (.int .i64 (lost + ((L.length : Int) - (R : Int)))))
        have B6 := hid (((btrans B5.out hB4).setCell (p := ⟨w.heap.size + 1, 0, none⟩) (by show w.heap.size ≤ w.heap.size + 1; omega) (.slice a4 (V.length + R) k4)).setCell (p := ⟨w.heap.size + 1, 1, none⟩) (by show w.heap.size ≤ w.heap.size + 1; omega) (.int .i64 (lost + ((L.length : Int) - (R : Int)))))
        have O6 := hid (ownsx_mono (ownsx_set (ownsx_set HO5.out 0 (.slice a4 (V.length + R) k4) (b := w.heap.size + 1) (by omega)) 1 (.int .i64 (lost + ((L.length : Int) - (R : Int)))) (b := w.heap.size + 1) (by omega)) (base' := w.heap.size) (by omega))
        clear HO4 HO5 HR HS u0 u1 f0 f1 hB4 hb4
        go_wp2
        have d0 := R6.out.cell 0 _ rfl
        have d1 := R6.out.cell 1 _ rfl
        refine bodyPost_ret (v := .tuple #[.agg #[.slice a4 (V.length + R) k4, .int .i64 (lost + ((L.length : Int) - (R : Int)))], .int .i64 0]) (by simp [results, Try.results34, go_sem, d0, d1]) rfl ⟨_, by rw [HCLc.out], ?_, B6.out⟩
        rw [HCVc.out, HE.out]
        exact O6.out
    · have HT : Hid ((L.take R).length = R) := hid (by simp; try omega)
      have HCLc : Hid (comL lost R L.length = 100000) := hid (by unfold comL; omega)
      have HCVc : Hid (comV V L R L.length = V ++ L.take R) := hid (by unfold comV; rw [show min L.length R = R by omega]; try simp)
      have hn0 : (0 : Int) ≤ ((R : Nat) : Int) := by omega
      have hnc : ((R : Nat) : Int) ≤ (c : Int) := by omega
      have hw1 : IntKind.i64.wrap (lost + ((L.length : Int) - (R : Int))) = lost + ((L.length : Int) - (R : Int)) := by rw [IntKind.wrap_i64]; omega
      go_wp2_with fail
      go_region_held3 (fun w' => w'.cell? ⟨w.heap.size, 0, none⟩ = some (.slice a V.length cap) ∧ w'.cell? ⟨w.heap.size, 1, none⟩ = some (.int .i64 lost))
        (first | exact HS.out _ hB4 | exact HS.out _ (hA _) | go_keep)
        (first
          | (go_at_call 92; refine (concat86_any w3.heap.size a p V (L.take R) cap c _ (W5.out.keep (hA R)) ((L5.out.keep (hA R)).takex R) (by rw [HT.out]; omega) (by simp) (by rw [HT.out]; simp)).mono ?_; rintro e w4 ⟨v, rfl, hown4, hb4⟩; have hB4 := btrans (hA R) hb4; have u0 := (HR.out _ hB4).cell 0 _ rfl; have u1 := (HR.out _ hB4).cell 1 _ rfl; have f0 := (HR.out _ hB4).frozen 0; have f1 := (HR.out _ hB4).frozen 1; have HO4 := hid hown4; obtain ⟨a4, k4, rfl, -, -, -, -, -⟩ := ints_own hown4; clear hown4))
      all_goals
        have HE : Hid ((V ++ L.take R).length = V.length + R) := hid (by rw [List.length_append, HT.out])
        have HO5 : Hid (w4.ownsRow (w3.heap.size + 1) 3 1 (.slice a4 (V.length + R) k4) (V.length + R) (ivs (V ++ L.take R))) := by
          have q := HO4.out
          rw [HE.out] at q
          exact hid (by simpa using q)
        have R6 := hid (((HR.out _ hB4).setCell 0 (.slice a4 (V.length + R) k4)).setCell 1 (.int .i64 (100000)))
        have B6 := hid (((btrans B5.out hB4).setCell (p := ⟨w.heap.size + 1, 0, none⟩) (by show w.heap.size ≤ w.heap.size + 1; omega) (.slice a4 (V.length + R) k4)).setCell (p := ⟨w.heap.size + 1, 1, none⟩) (by show w.heap.size ≤ w.heap.size + 1; omega) (.int .i64 (100000)))
        have O6 := hid (ownsx_mono (ownsx_set (ownsx_set HO5.out 0 (.slice a4 (V.length + R) k4) (b := w.heap.size + 1) (by omega)) 1 (.int .i64 (100000)) (b := w.heap.size + 1) (by omega)) (base' := w.heap.size) (by omega))
        clear HO4 HO5 HR HS u0 u1 f0 f1 hB4 hb4
        go_wp2
        have d0 := R6.out.cell 0 _ rfl
        have d1 := R6.out.cell 1 _ rfl
        refine bodyPost_ret (v := .tuple #[.agg #[.slice a4 (V.length + R) k4, .int .i64 (100000)], .int .i64 0]) (by simp [results, Try.results34, go_sem, d0, d1]) rfl ⟨_, by rw [HCLc.out], ?_, B6.out⟩
        rw [HCVc.out, HE.out]
        exact O6.out
  · have hle1 : ¬ size - (V.length : Int) ≤ (L.length : Int) := by omega
    have hle2 : (L.length : Int) < size - (V.length : Int) := by omega
    have HT : Hid ((L).length = L.length) := hid (by simp; try omega)
    have HCLc : Hid (comL lost R L.length = lost) := hid (by unfold comL; omega)
    have HCVc : Hid (comV V L R L.length = V ++ L) := hid (by unfold comV; rw [show min L.length R = L.length by omega]; try simp)
    have hn0 : (0 : Int) ≤ ((L.length : Nat) : Int) := by omega
    have hnc : ((L.length : Nat) : Int) ≤ (c : Int) := by omega
    have hw1 : IntKind.i64.wrap lost = lost := by rw [IntKind.wrap_i64]; omega
    have hw2 : IntKind.i64.wrap (lost + 0) = lost := by rw [IntKind.wrap_i64]; omega
    clear HT
    go_wp2_with fail
    go_region_held3 (fun w' => w'.cell? ⟨w.heap.size, 0, none⟩ = some (.slice a V.length cap) ∧ w'.cell? ⟨w.heap.size, 1, none⟩ = some (.int .i64 lost))
      (first | exact HS.out _ hB4 | exact HS.out _ (hA _) | go_keep)
      (first
        | (go_at_call 92; refine (concat86_any w3.heap.size a p V (L) cap c _ (W5.out.keep (hA L.length)) (L5.out.keep (hA L.length)) (by omega) (by simp) (by simp)).mono ?_; rintro e w4 ⟨v, rfl, hown4, hb4⟩; have hB4 := btrans (hA L.length) hb4; have u0 := (HR.out _ hB4).cell 0 _ rfl; have u1 := (HR.out _ hB4).cell 1 _ rfl; have f0 := (HR.out _ hB4).frozen 0; have f1 := (HR.out _ hB4).frozen 1; have HO4 := hid hown4; obtain ⟨a4, k4, rfl, -, -, -, -, -⟩ := ints_own hown4; clear hown4))
    all_goals
      have HE : Hid ((V ++ L).length = V.length + L.length) := hid (by rw [List.length_append])
      have HO5 : Hid (w4.ownsRow (w3.heap.size + 1) 3 1 (.slice a4 (V.length + L.length) k4) (V.length + L.length) (ivs (V ++ L))) := by
        have q := HO4.out
        rw [HE.out] at q
        exact hid (by simpa using q)
      have R6 := hid (((HR.out _ hB4).setCell 0 (.slice a4 (V.length + L.length) k4)).setCell 1 (.int .i64 (lost)))
      have B6 := hid (((btrans B5.out hB4).setCell (p := ⟨w.heap.size + 1, 0, none⟩) (by show w.heap.size ≤ w.heap.size + 1; omega) (.slice a4 (V.length + L.length) k4)).setCell (p := ⟨w.heap.size + 1, 1, none⟩) (by show w.heap.size ≤ w.heap.size + 1; omega) (.int .i64 (lost)))
      have O6 := hid (ownsx_mono (ownsx_set (ownsx_set HO5.out 0 (.slice a4 (V.length + L.length) k4) (b := w.heap.size + 1) (by omega)) 1 (.int .i64 (lost)) (b := w.heap.size + 1) (by omega)) (base' := w.heap.size) (by omega))
      clear HO4 HO5 HR HS u0 u1 f0 f1 hB4 hb4
      go_wp2
      have d0 := R6.out.cell 0 _ rfl
      have d1 := R6.out.cell 1 _ rfl
      refine bodyPost_ret (v := .tuple #[.agg #[.slice a4 (V.length + L.length) k4, .int .i64 (lost)], .int .i64 0]) (by simp [results, Try.results34, go_sem, d0, d1]) rfl ⟨_, by rw [HCLc.out], ?_, B6.out⟩
      rw [HCVc.out, HE.out]
      exact O6.out

/-- What Commit comes to. -/
theorem commit_any (a : Option Addr) (V : List Int) (cap : Nat) (lost size : Int) (p : Option Addr) (L : List Int) (c : Nat) (w : World) (hw : IntsIn w a V) (hl : V.length ≤ 9223372036854775807) (hL : IntsIn w p L) (hm : L.length ≤ 140737488355328) (hcp : L.length ≤ c) :
    Calls Try.prog 34 #[.agg #[.slice a V.length cap, .int .i64 lost], .int .i64 size, .slice p L.length c] w fun e w' => ∃ v, e = .returned (.tuple #[.agg #[v, .int .i64 (comRL V lost size L)], .int .i64 (comE V lost size L)]) ∧ w'.ownsRow w.heap.size 3 1 v (comRV V lost size L).length (ivs (comRV V lost size L)) ∧ Below w.heap.size w w' := by
  by_cases h0 : ckR V lost size = 0
  · cases h1 : allR L 0 255 with
    | true =>
      have hk := ckR_ok h0
      have hE : comE V lost size L = 0 := by simp [comE, h0, h1]
      refine (commit_ok a V cap lost size p L c w hw hl hL hm hcp h0 h1 (roomR V size) (by unfold roomR; omega)).mono ?_
      rintro e w' ⟨v, rfl, ho, hb⟩
      exact ⟨v, by rw [hE]; simp only [comRL, hE, if_true], by simp only [comRV, hE, if_true]; exact ho, hb⟩
    | false =>
      have hE : comE V lost size L = 3 := by simp [comE, h0, h1]
      refine (commit_wrong a V cap lost size p L c w hw hl hL (by omega) h0 h1).mono ?_
      rintro e w' ⟨rfl, hb⟩
      exact ⟨.slice none 0 0, by simp [comRL, hE], by simp [comRV, hE, ivs]; exact World.ownsRow_nil _ _ _ _, hb⟩
  · have hE : comE V lost size L = ckR V lost size := by simp [comE, h0]
    refine (commit_bad a V cap lost size p L c w hw hl hL (by omega) h0).mono ?_
    rintro e w' ⟨rfl, hb⟩
    exact ⟨.slice none 0 0, by simp [comRL, hE, h0], by simp [comRV, hE, h0, ivs]; exact World.ownsRow_nil _ _ _ _, hb⟩

end Go.Proofs.Ytaellaconpaejaa
