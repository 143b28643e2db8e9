/- Walks: what must be in any case, of turns. -/
import Derived.Test.YtaellaconpaejaaEe
import Derived.Deep.DeepCutAuto
set_option linter.unusedVariables false
namespace Go.Proofs.Ytaellaconpaejaa
open Go.RowKit

set_option maxRecDepth 100000 in
set_option maxHeartbeats 1000000 in
theorem oneV5_any (w : World) : Calls Try.prog 79 #[] w fun e w' => ∃ A, e = .returned (cv oneC A) ∧ ConfIn w' A oneC ∧ oneC.sl.length ≤ A.c5 ∧ Below w.heap.size w w' := by
  go_enter Try.func79, Try.ntmps79
  go_wp2
  have R1 : RowAt (((w.alloc (.cells #[.int .i64 1, .int .i64 1, .int .i64 1, .int .i64 10, .int .i64 4, .slice (some ⟨w.heap.size + 1, 0, none⟩) 1 1, .slice none 0 0, .slice none 0 0, .slice (some ⟨w.heap.size + 1 + 1, 0, none⟩) 1 1] 46)).alloc (.cells #[.int .i64 0, .int .i64 100] 114)).alloc (.cells #[.int .i64 0, .int .i64 50, .int .i64 40, .int .i64 30] 108)) (w.heap.size + 1) 114 [.int .i64 0, .int .i64 100] := (rowAt_new2 _ _ [.int .i64 0, .int .i64 100] 114 (by simp)).alloc _
  have R2 : RowAt (((w.alloc (.cells #[.int .i64 1, .int .i64 1, .int .i64 1, .int .i64 10, .int .i64 4, .slice (some ⟨w.heap.size + 1, 0, none⟩) 1 1, .slice none 0 0, .slice none 0 0, .slice (some ⟨w.heap.size + 1 + 1, 0, none⟩) 1 1] 46)).alloc (.cells #[.int .i64 0, .int .i64 100] 114)).alloc (.cells #[.int .i64 0, .int .i64 50, .int .i64 40, .int .i64 30] 108)) (w.heap.size + 1 + 1) 108 [.int .i64 0, .int .i64 50, .int .i64 40, .int .i64 30] := rowAt_new2 _ _ [.int .i64 0, .int .i64 50, .int .i64 40, .int .i64 30] 108 (by simp)
  refine bodyPost_ret (v := cv oneC ⟨some ⟨w.heap.size + 1, 0, none⟩, none, none, some ⟨w.heap.size + 1 + 1, 0, none⟩, 1, 0, 0, 1⟩) (by simp [results, Try.results79, go_sem, oneC]) rfl ⟨_, rfl, ?_, by simp [oneC], (((Below.refl _ _).alloc (Nat.le_refl _) _).alloc (by simp) _).alloc (by simp; omega) _⟩
  refine ⟨fun i hi => ?_, fun i hi => absurd hi (by simp [oneC]), fun i hi => absurd hi (by simp [oneC]), fun i hi => ?_, by simp [oneC], by simp [oneC], by simp [oneC], by simp [oneC], by simp [oneC]⟩
  · obtain rfl : i = 0 := by simp [oneC] at hi; exact hi
    exact ⟨_, _, rfl, R1.cell 0 _ rfl, R1.cell 1 _ rfl⟩
  · obtain rfl : i = 0 := by simp [oneC] at hi; exact hi
    exact ⟨_, _, rfl, R2.cell 0 _ rfl, R2.cell 1 _ rfl, R2.cell 2 _ rfl, R2.cell 3 _ rfl⟩

theorem one_new : ckD oneC 0 (newD oneC) = 0 := by decide
theorem one_open : ckD oneC 0 (openD (newD oneC) 100 0) = 0 := by decide
theorem one_len : lenV oneC = .tuple #[.int .i64 100, .int .i64 0] := by
  simp only [lenV, one_ck, if_true]
  rfl
theorem one_start : startV oneC 2 0 = .tuple #[.int .i64 200, .int .i64 0] := by
  have h : ckRS oneC 2 0 = 0 := by decide
  simp only [startV, h, if_true]
  rfl

theorem open_one (A8 : Mem) (jJ jR jI jT jO jE : Option Addr) (kJ kR kI kT kO kE : Nat) (w : World) (hC : ConfIn w A8 oneC) (hD : DomIn w ⟨jJ, jR, jI, jT, jO, jE, kJ, kR, kI, kT, kO, kE⟩ (newD oneC)) :
    Calls Try.prog 112 #[cv oneC A8, .slice none 0 0, .int .i64 0, .agg #[.slice jJ 0 kJ, .slice jR 1 kR, .int .i64 0, .slice jI 0 kI, .slice jT 0 kT, .slice jO 0 kO, .slice jE 0 kE], .int .i64 0, .int .i64 100] w fun e w' => ∃ jJ jR jI jT jO jE kJ kR kI kT kO kE, e = .returned (.tuple #[.agg #[.slice jJ 0 kJ, .slice jR 1 kR, .int .i64 0, .slice jI 0 kI, .slice jT 0 kT, .slice jO 0 kO, .slice jE 1 kE], .int .i64 0]) ∧ (∀ wx : World, (∀ x, w.heap.size ≤ x → wx.heap[x]? = w'.heap[x]?) → DomIn wx ⟨jJ, jR, jI, jT, jO, jE, kJ, kR, kI, kT, kO, kE⟩ (openD (newD oneC) 100 0)) ∧ Below w.heap.size w w' := by
  have h := open_nil oneC A8 (newD oneC) ⟨jJ, jR, jI, jT, jO, jE, kJ, kR, kI, kT, kO, kE⟩ 0 0 100 w hC hD one_ck (by decide) one_new (by decide) (by decide) (by decide) rfl (by decide) (by decide) (by decide) (by decide) (by decide)
  refine h.mono ?_
  rintro e w' ⟨A', rfl, hD', hb⟩
  obtain ⟨jJ, jR, jI, jT, jO, jE, kJ, kR, kI, kT, kO, kE⟩ := A'
  exact ⟨jJ, jR, jI, jT, jO, jE, kJ, kR, kI, kT, kO, kE, rfl, hD', hb⟩
theorem close_one' (A8 : Mem) (jJ jR jI jT jO jE : Option Addr) (kJ kR kI kT kO kE lb : Nat) (w : World) (hC : ConfIn w A8 oneC) (hD : DomIn w ⟨jJ, jR, jI, jT, jO, jE, kJ, kR, kI, kT, kO, kE⟩ (openD (newD oneC) 100 0)) (hr : RowAt w lb 90 [.slice jJ 0 kJ, .slice jR 1 kR, .int .i64 0, .slice jI 0 kI, .slice jT 0 kT, .slice jO 0 kO, .slice jE 1 kE]) :
    Calls Try.prog 113 #[cv oneC A8, .slice (some ⟨lb, 0, none⟩) 1 1, .int .i64 0] w fun e w' => ∃ g, e = .returned (.tuple #[.slice (some ⟨g, 0, none⟩) 1 1, .int .i64 0]) ∧ Below w.heap.size w w' :=
  close_one oneC A8 (openD (newD oneC) 100 0) ⟨jJ, jR, jI, jT, jO, jE, kJ, kR, kI, kT, kO, kE⟩ lb 1 w hC hD hr one_ck rfl rfl one_open (by decide) (by decide) (by decide) (by decide) (by decide)

set_option maxRecDepth 100000 in
set_option maxHeartbeats 2000000 in
theorem turnBegun_any (w : World) : Calls Try.prog 67 #[] w fun e w' => e = .returned (.bool true) ∧ Below w.heap.size w w' := by
  go_enter Try.func67, Try.ntmps67
  go_wp2_with fail
  refine (oneV5_any _).mono ?_
  rintro e w1 ⟨A1, rfl, hC1, hk1, hb1⟩
  have HC1 := hid hC1
  clear hC1
  go_wp2_with fail
  refine (length_any oneC A1 _ HC1.out).mono ?_
  rintro e w2 ⟨rfl, hb2⟩
  rw [one_len]
  have HB2 := hid (btrans hb1 hb2)
  clear hb1 hb2 HC1 hk1
  go_wp2_with fail
  refine (oneV5_any _).mono ?_
  rintro e w3 ⟨A3, rfl, hC3, hk3, hb3⟩
  have HC3 := hid hC3
  have HK3 := hid hk3
  clear hC3 hk3
  go_wp2_with fail
  refine (start_any oneC A3 2 0 _ HC3.out HK3.out).mono ?_
  rintro e w4 ⟨rfl, hb4⟩
  rw [one_start]
  have HB4 := hid (btrans HB2.out (btrans hb3 hb4))
  clear hb3 hb4 HC3 HK3 HB2
  go_wp2_with fail
  refine (oneV5_any _).mono ?_
  rintro e w5 ⟨A5, rfl, hC5, hk5, hb5⟩
  have HC5 := hid hC5
  clear hC5 hk5
  go_wp2_with fail
  refine (newD_any oneC A5 0 _ HC5.out one_ck (by decide)).mono ?_
  rintro e w6 ⟨A6, rfl, hD6, hb6⟩
  have HB6 := hid (btrans HB4.out (btrans hb5 hb6))
  have HD6 := hid hD6
  clear hb5 hb6 HC5 HB4 hD6
  obtain ⟨jJ, jR, jI, jT, jO, jE, kJ, kR, kI, kT, kO, kE⟩ := A6
  have q7 := below_new w6 (.cells #[.slice jJ 0 kJ, .slice jR 1 kR, .int .i64 0, .slice jI 0 kI, .slice jT 0 kT, .slice jO 0 kO, .slice jE 0 kE] 90)
  have HD7 := hid (HD6.out.keep q7)
  have HR7 := hid (rowAt_new2 w6 w6.heap.size [.slice jJ 0 kJ, .slice jR 1 kR, .int .i64 0, .slice jI 0 kI, .slice jT 0 kT, .slice jO 0 kO, .slice jE 0 kE] 90 rfl)
  have HB7 := hid (btrans HB6.out q7)
  clear q7 HD6
  simp only [dv, dl, newD, oneC, List.length_nil, List.length_replicate, List.length_cons, Nat.zero_add]
  go_wp2
  generalize World.alloc w6 _ = w7 at *
  have d0 := HR7.out.cell 0 _ rfl
  have d1 := HR7.out.cell 1 _ rfl
  have d2 := HR7.out.cell 2 _ rfl
  have d3 := HR7.out.cell 3 _ rfl
  have d4 := HR7.out.cell 4 _ rfl
  have d5 := HR7.out.cell 5 _ rfl
  have d6 := HR7.out.cell 6 _ rfl
  go_cut [7] (fun o wx => ∃ xJ xR xI xT xO xE mJ mR mI mT mO mE, o = .int .i64 0 ∧ RowAt wx w6.heap.size 90 [.slice xJ 0 mJ, .slice xR 1 mR, .int .i64 0, .slice xI 0 mI, .slice xT 0 mT, .slice xO 0 mO, .slice xE 1 mE] ∧ DomIn wx ⟨xJ, xR, xI, xT, xO, xE, mJ, mR, mI, mT, mO, mE⟩ (openD (newD oneC) 100 0) ∧ Below w.heap.size w wx)
  case first =>
    go_region_with (first
      | (go_at_call 79; refine (oneV5_any _).mono ?_; rintro e w8 ⟨A8, rfl, hC8, hk8, hb8⟩; have HC8 := hid hC8; have r8 := HR7.out.below (btrans (Below.refl _ _).drew hb8) (Nat.le_refl _); have f0 := r8.cell 0 _ rfl; have f1 := r8.cell 1 _ rfl; have f2 := r8.cell 2 _ rfl; have f3 := r8.cell 3 _ rfl; have f4 := r8.cell 4 _ rfl; have f5 := r8.cell 5 _ rfl; have f6 := r8.cell 6 _ rfl; clear hC8 r8)
      | (go_at_call 112; refine (open_one A8 jJ jR jI jT jO jE kJ kR kI kT kO kE _ HC8.out (HD7.out.keep (btrans (Below.refl _ _).drew hb8))).mono ?_; rintro e w9 ⟨xJ, xR, xI, xT, xO, xE, mJ, mR, mI, mT, mO, mE, rfl, hD9, hb9⟩; have HD9 := hid hD9; have r9 := HR7.out.below (btrans (Below.refl _ _).drew (btrans hb8 hb9)) (Nat.le_refl _); have HR9 := hid r9; have y0 := r9.cell 0 _ rfl; have y1 := r9.cell 1 _ rfl; have y2 := r9.cell 2 _ rfl; have y3 := r9.cell 3 _ rfl; have y4 := r9.cell 4 _ rfl; have y5 := r9.cell 5 _ rfl; have y6 := r9.cell 6 _ rfl; have z0 := r9.frozen 0; have z1 := r9.frozen 1; have z2 := r9.frozen 2; have z3 := r9.frozen 3; have z4 := r9.frozen 4; have z5 := r9.frozen 5; have z6 := r9.frozen 6; clear hD9 r9))
    all_goals
      have HRF : RowAt (w9.setCells w6.heap.size 0 [.slice xJ 0 mJ, .slice xR 1 mR, .int .i64 0, .slice xI 0 mI, .slice xT 0 mT, .slice xO 0 mO, .slice xE 1 mE]) w6.heap.size 90 [.slice xJ 0 mJ, .slice xR 1 mR, .int .i64 0, .slice xI 0 mI, .slice xT 0 mT, .slice xO 0 mO, .slice xE 1 mE] := row_setCells _ [] _ w9 HR9.out rfl
      have HDF : DomIn (w9.setCells w6.heap.size 0 [.slice xJ 0 mJ, .slice xR 1 mR, .int .i64 0, .slice xI 0 mI, .slice xT 0 mT, .slice xO 0 mO, .slice xE 1 mE]) ⟨xJ, xR, xI, xT, xO, xE, mJ, mR, mI, mT, mO, mE⟩ (openD (newD oneC) 100 0) := HD9.out _ (fun x hx => heap_setCells_ne _ _ _ _ x (by have h1 := (World.block_lt_of_cell? _ _ d0); have h2 := hb8.size; simp at h1 h2 hx; omega))
      have HBF : Below w.heap.size w (w9.setCells w6.heap.size 0 [.slice xJ 0 mJ, .slice xR 1 mR, .int .i64 0, .slice xI 0 mI, .slice xT 0 mT, .slice xO 0 mO, .slice xE 1 mE]) := below_setCellsx (btrans HB7.out (btrans (Below.refl _ _).drew (btrans hb8 hb9))) _ HB6.out.size _ _
      go_wp2
      go_meet
      case rel => exact ⟨xJ, xR, xI, xT, xO, xE, mJ, mR, mI, mT, mO, mE, rfl, HRF, HDF, HBF⟩
  case rest =>
    obtain ⟨xJ, xR, xI, xT, xO, xE, mJ, mR, mI, mT, mO, mE, rfl, hr9, hd9, hb9⟩ := hcut
    obtain ⟨w9, rfl⟩ : ∃ x, x = wc := ⟨_, rfl⟩
    have HR9 := hid hr9
    have HD9 := hid hd9
    have HB9 := hid hb9
    clear hr9 hd9 hb9 d0 d1 d2 d3 d4 d5 d6 HR7 HD7 HB7
    have HS9 : Hid (∀ w', Below w9.heap.size w9 w' → w'.cell? ⟨w6.heap.size, 0, none⟩ = some (.slice xJ 0 mJ) ∧ w'.cell? ⟨w6.heap.size, 1, none⟩ = some (.slice xR 1 mR) ∧ w'.cell? ⟨w6.heap.size, 2, none⟩ = some (.int .i64 0) ∧ w'.cell? ⟨w6.heap.size, 3, none⟩ = some (.slice xI 0 mI) ∧ w'.cell? ⟨w6.heap.size, 4, none⟩ = some (.slice xT 0 mT) ∧ w'.cell? ⟨w6.heap.size, 5, none⟩ = some (.slice xO 0 mO) ∧ w'.cell? ⟨w6.heap.size, 6, none⟩ = some (.slice xE 1 mE)) := hid fun w' hb => ⟨(HR9.out.below hb (Nat.le_refl _)).cell 0 _ rfl, (HR9.out.below hb (Nat.le_refl _)).cell 1 _ rfl, (HR9.out.below hb (Nat.le_refl _)).cell 2 _ rfl, (HR9.out.below hb (Nat.le_refl _)).cell 3 _ rfl, (HR9.out.below hb (Nat.le_refl _)).cell 4 _ rfl, (HR9.out.below hb (Nat.le_refl _)).cell 5 _ rfl, (HR9.out.below hb (Nat.le_refl _)).cell 6 _ rfl⟩
    go_upto_region 5 with fail
    have hB : Below w9.heap.size w9 w9.drew := (Below.refl _ _).drew
    go_cut [8, 9] (fun t u wx => ∃ g, t = .slice (some ⟨g, 0, none⟩) 1 1 ∧ u = .int .i64 0 ∧ Below w9.heap.size w9 wx)
    case first =>
      go_region_held3 (fun w' => w'.cell? ⟨w6.heap.size, 0, none⟩ = some (.slice xJ 0 mJ) ∧ w'.cell? ⟨w6.heap.size, 1, none⟩ = some (.slice xR 1 mR) ∧ w'.cell? ⟨w6.heap.size, 2, none⟩ = some (.int .i64 0) ∧ w'.cell? ⟨w6.heap.size, 3, none⟩ = some (.slice xI 0 mI) ∧ w'.cell? ⟨w6.heap.size, 4, none⟩ = some (.slice xT 0 mT) ∧ w'.cell? ⟨w6.heap.size, 5, none⟩ = some (.slice xO 0 mO) ∧ w'.cell? ⟨w6.heap.size, 6, none⟩ = some (.slice xE 1 mE))
        (first | exact HS9.out _ hB | exact HS9.out _ (hB.alloc hB.size _) | exact HS9.out _ (btrans hB (below_new _ _)) | go_keep)
        (first
          | (go_at_call 79; refine (oneV5_any _).mono ?_; rintro e w8 ⟨A8, rfl, hC8, hk8, hb8⟩; have hB := btrans hB hb8; have HC8 := hid hC8; clear hC8)
          | (go_at_call 79; refine (oneV5_any _).mono ?_; rintro e w8 ⟨A8, rfl, hC8, hk8, hb8⟩; have HL8 := hid ((rowAt_new2 w9.drew _ [.slice xJ 0 mJ, .slice xR 1 mR, .int .i64 0, .slice xI 0 mI, .slice xT 0 mT, .slice xO 0 mO, .slice xE 1 mE] 90 rfl).below hb8 (Nat.le_refl _)); have hB := btrans (hB.alloc hB.size _) hb8; have HC8 := hid hC8; clear hC8)
          | (go_at_call 113; refine (close_one' A8 xJ xR xI xT xO xE mJ mR mI mT mO mE _ _ HC8.out (HD9.out.keep hB) HL8.out).mono ?_; rintro e w10 ⟨g10, rfl, hb10⟩; have hB := btrans hB hb10)
          | (go_at_call 113; refine (close_one' A8 xJ xR xI xT xO xE mJ mR mI mT mO mE _ _ (HC8.out.keep (below_new _ _)) (HD9.out.keep (hB.alloc hB.size _)) (rowAt_new2 _ _ [.slice xJ 0 mJ, .slice xR 1 mR, .int .i64 0, .slice xI 0 mI, .slice xT 0 mT, .slice xO 0 mO, .slice xE 1 mE] 90 rfl)).mono ?_; rintro e w10 ⟨g10, rfl, hb10⟩; have hB := btrans (hB.alloc hB.size _) hb10))
      all_goals
        go_wp2
        go_meet
        case rel => exact ⟨g10, rfl, rfl, hB⟩
    case rest =>
      obtain ⟨g, rfl, rfl, hbz⟩ := hcut
      have c6 := (HS9.out _ hbz).2.2.2.2.2.2
      obtain ⟨b', o', ee, v0, -⟩ := (HD9.out.keep hbz).evs 0 (by decide)
      have ee' : xE = some ⟨b', o', none⟩ := ee
      rw [ee'] at c6
      have v0' : wc.cell? ⟨b', o', none⟩ = some (.int .i64 100) := by rw [Nat.zero_mul, Nat.add_zero] at v0; exact v0
      have HF := hid (btrans HB9.out hbz)
      clear HS9 HR9 HD9 HB9 hB hbz HB6 v0 ee ee'
      go_wp2
      go_ret
      exact ⟨rfl, HF.out⟩

end Go.Proofs.Ytaellaconpaejaa
