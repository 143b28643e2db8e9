/- Walks: a slot closes, where there is one domain and no channel. -/
import Derived.Test.YtaellaconpaejaaEd
set_option linter.unusedVariables false
namespace Go.Proofs.Ytaellaconpaejaa
open Go.RowKit

set_option maxRecDepth 100000 in
set_option maxHeartbeats 1000000 in
theorem checkClose_one (C : Conf) (B : Mem) (D : Dom) (A : DMem) (lb cap : Nat) (w : World) (hC : ConfIn w B C) (hD : DomIn w A D) (hr : RowAt w lb 90 (dl D A).toList) (h0 : ckC C = 0) (hd : C.d = 1) (hz : ckD C 0 D = 0) :
    Calls Try.prog 147 #[cv C B, .slice (some ⟨lb, 0, none⟩) 1 cap, .int .i64 0] w fun e w' => e = .returned (.int .i64 0) ∧ Below w.heap.size w w' := by
  have q1 := below_new w (.cells (cl C B) 46)
  have HC := hid (hC.keep q1)
  have HD := hid (hD.keep q1)
  have HX := hid (boxC_new w C B)
  have HR := hid (hr.below q1 (Nat.le_refl _))
  have HB := hid q1
  have hsl := (small_of h0).2
  have HS0 : Hid (ckSlot C 0 = 0) := hid (by simp [ckSlot, h0, inR]; omega)
  have HZ := hid hz
  have HDD := hid hd
  clear q1 hC hD hr hz h0 hd hsl
  obtain ⟨a5, a6, a7, a8, c5, c6, c7, c8⟩ := B
  obtain ⟨aJ, aR, aI, aT, aO, aE, cJ, cR, cI, cT, cO, cE⟩ := A
  dsimp only [cv, cl, dv, dl] at *
  go_enter Try.func147, Try.ntmps147
  go_wp2_with fail
  refine (checkSlot_any C ⟨a5, a6, a7, a8, c5, c6, c7, c8⟩ 0 _ HC.out).mono ?_
  rintro e w1 ⟨rfl, hb1⟩
  rw [HS0.out]
  have g2 := (HX.out.keep hb1).h2
  rw [HDD.out] at g2
  have HB1 := hid (btrans HB.out hb1)
  generalize World.alloc w _ = W at *
  go_wp2
  clear g2
  go_loopw [24] (fun i wr => ∃ k : Nat, k ≤ 1 ∧ i = .int .i64 k ∧ Below w1.heap.size w1 wr) (fun i _ => 1 - (intOf i).toNat)
  case atStart => exact ⟨0, Nat.zero_le _, rfl, Below.refl _ _⟩
  case round =>
    obtain ⟨k, hk, rfl, hbl⟩ := hrel
    have hk2 : k = 0 ∨ k = 1 := by omega
    rcases hk2 with rfl | rfl
    · have rd := (HR.out.below hb1 (Nat.le_refl _)).below hbl (Nat.le_refl _)
      have d0 := rd.cell 0 _ rfl
      have d1 := rd.cell 1 _ rfl
      have d2 := rd.cell 2 _ rfl
      have d3 := rd.cell 3 _ rfl
      have d4 := rd.cell 4 _ rfl
      have d5 := rd.cell 5 _ rfl
      have d6 := rd.cell 6 _ rfl
      have q5 := below_new wr (.cells #[.slice aJ D.jobs.length cJ, .slice aR D.rel.length cR, .int .i64 D.nxt, .slice aI D.ins.length cI, .slice aT D.tak.length cT, .slice aO D.out.length cO, .slice aE D.evs.length cE] 90)
      obtain ⟨g0, g1, g2, g3, g4, g5, g6, g7, g8⟩ := (HX.out.keep hb1).keep (btrans hbl q5)
      have HBL := hid (btrans hbl q5)
      clear q5 rd
      go_wp2_with fail
      refine (checkD_any D ⟨aJ, aR, aI, aT, aO, aE, cJ, cR, cI, cT, cO, cE⟩ C ⟨a5, a6, a7, a8, c5, c6, c7, c8⟩ 0 _ (HC.out.keep (btrans hb1 HBL.out)) (HD.out.keep (btrans hb1 HBL.out))).mono ?_
      rintro e w2 ⟨rfl, hb2⟩
      rw [HZ.out]
      have HF := hid (btrans HBL.out hb2)
      clear g0 g1 g2 g3 g4 g5 g6 g7 g8 d0 d1 d2 d3 d4 d5 d6 hb2
      go_wp2
      go_roundw
      case rel => exact ⟨1, by omega, by go_num, HF.out⟩
      case measure => simp [intOf]
    · go_wp2
      go_ret
      exact ⟨rfl, btrans HB1.out hbl⟩

theorem Try.info90x : (Try.prog.info? 90).map (fun i => (i.zero, i.size, i.bytes)) = some (some (.agg #[.slice none 0 0, .slice none 0 0, .int .i64 0, .slice none 0 0, .slice none 0 0, .slice none 0 0, .slice none 0 0]), 7, 152) := by kernel_rfl
theorem make153_one (w : World) : (Instr.makeSlice 153 (.int .i64 1) (.int .i64 1)).run Try.prog w = .ok (.slice (some ⟨w.heap.size, 0, none⟩) 1 1) (w.alloc (.cells #[.slice none 0 0, .slice none 0 0, .int .i64 0, .slice none 0 0, .slice none 0 0, .slice none 0 0, .slice none 0 0] 90)) := by
  kernel_rfl

set_option maxRecDepth 100000 in
set_option maxHeartbeats 1000000 in
theorem close_one (C : Conf) (B : Mem) (D : Dom) (A : DMem) (lb cap : Nat) (w : World) (hC : ConfIn w B C) (hD : DomIn w A D) (hr : RowAt w lb 90 (dl D A).toList) (h0 : ckC C = 0) (hd : C.d = 1) (hch : C.ch.length = 0) (hz : ckD C 0 D = 0)
    (hl : D.jobs.length ≤ 1000000000000 ∧ D.rel.length ≤ 1000000000000 ∧ D.tak.length ≤ 1000000000000 ∧ D.evs.length ≤ 1000000000000) (hI : D.ins.length ≤ 1000000000000) (hO : D.out.length ≤ 1000000000000) (hi : ∀ r ∈ D.ins, r.1.length ≤ 1000000000000) (ho : ∀ r ∈ D.out, r.length ≤ 1000000000000) :
    Calls Try.prog 113 #[cv C B, .slice (some ⟨lb, 0, none⟩) 1 cap, .int .i64 0] w fun e w' => ∃ g, e = .returned (.tuple #[.slice (some ⟨g, 0, none⟩) 1 1, .int .i64 0]) ∧ Below w.heap.size w w' := by
  have q1 := below_new w (.cells (cl C B) 46)
  have HC := hid (hC.keep q1)
  have HD := hid (hD.keep q1)
  have HX := hid (boxC_new w C B)
  have HR := hid (hr.below q1 (Nat.le_refl _))
  have HB := hid q1
  have hsl := (small_of h0).2
  have hmk := make153_one
  have HZ := hid hz
  have H0 := hid h0
  have HDD := hid hd
  have HCH := hid hch
  have HL := hid hl
  have HII := hid hI
  have HOO := hid hO
  have Hi := hid hi
  have Ho := hid ho
  clear q1 hC hD hr hz h0 hd hch hl hI hO hi ho
  obtain ⟨a5, a6, a7, a8, c5, c6, c7, c8⟩ := B
  obtain ⟨aJ, aR, aI, aT, aO, aE, cJ, cR, cI, cT, cO, cE⟩ := A
  dsimp only [cv, cl, dv, dl] at *
  go_enter Try.func113, Try.ntmps113
  go_wp2_with fail
  refine (checkClose_one C ⟨a5, a6, a7, a8, c5, c6, c7, c8⟩ D ⟨aJ, aR, aI, aT, aO, aE, cJ, cR, cI, cT, cO, cE⟩ lb cap _ HC.out HD.out HR.out H0.out HDD.out HZ.out).mono ?_
  rintro e w1 ⟨rfl, hb1⟩
  have HB1 := hid (btrans HB.out hb1)
  generalize World.alloc w _ = W at *
  have q2 := below_new w1 (.cells #[.slice none 0 0, .slice none 0 0, .int .i64 0, .slice none 0 0, .slice none 0 0, .slice none 0 0, .slice none 0 0] 90)
  have HM := hid (rowAt_new2 w1 w1.heap.size [.slice none 0 0, .slice none 0 0, .int .i64 0, .slice none 0 0, .slice none 0 0, .slice none 0 0, .slice none 0 0] 90 rfl)
  have HQ2 := hid q2
  clear q2
  go_wp2
  clear hmk
  generalize hw2 : w1.alloc _ = w2 at *
  clear hw2
  go_loopw [27] (fun i wr => ∃ (k : Nat) (L : List Value), k ≤ 1 ∧ i = .int .i64 k ∧ Below w1.heap.size w1 wr ∧ RowAt wr w1.heap.size 90 L ∧ L.length = 7) (fun i _ => 1 - (intOf i).toNat)
  case atStart => exact ⟨0, _, Nat.zero_le _, rfl, HQ2.out, HM.out, rfl⟩
  case round =>
    obtain ⟨k, L, hk, rfl, hbl, hrow, hL⟩ := hrel
    have HROW := hid hrow
    clear hrow
    have hk2 : k = 0 ∨ k = 1 := by omega
    rcases hk2 with rfl | rfl
    · have rd := HR.out.below (btrans hb1 hbl) (Nat.le_refl _)
      have d0 := rd.cell 0 _ rfl
      have d1 := rd.cell 1 _ rfl
      have d2 := rd.cell 2 _ rfl
      have d3 := rd.cell 3 _ rfl
      have d4 := rd.cell 4 _ rfl
      have d5 := rd.cell 5 _ rfl
      have d6 := rd.cell 6 _ rfl
      have q5 := below_new wr (.cells #[.slice aJ D.jobs.length cJ, .slice aR D.rel.length cR, .int .i64 D.nxt, .slice aI D.ins.length cI, .slice aT D.tak.length cT, .slice aO D.out.length cO, .slice aE D.evs.length cE] 90)
      have HBL := hid (btrans hbl q5)
      have HRW5 := hid (HROW.out.below q5 (Nat.le_refl _))
      clear q5 rd
      go_wp2_with fail
      refine (cloneD_any D ⟨aJ, aR, aI, aT, aO, aE, cJ, cR, cI, cT, cO, cE⟩ _ (HD.out.keep (btrans hb1 HBL.out)) HL.out HII.out HOO.out Hi.out Ho.out).mono ?_
      rintro e w4 ⟨A4, gI, gO, m, p, q, rfl, -, hb4⟩
      obtain ⟨jJ, jR, jI, jT, jO, jE, kJ, kR, kI, kT, kO, kE⟩ := A4
      dsimp only [dv, dl]
      have hrw := HRW5.out.below hb4 (Nat.le_refl _)
      match L, hL with
      | [l0, l1, l2, l3, l4, l5, l6], _ =>
        have y0 := hrw.cell 0 _ rfl
        have y1 := hrw.cell 1 _ rfl
        have y2 := hrw.cell 2 _ rfl
        have y3 := hrw.cell 3 _ rfl
        have y4 := hrw.cell 4 _ rfl
        have y5 := hrw.cell 5 _ rfl
        have y6 := hrw.cell 6 _ rfl
        have z0 := hrw.frozen 0
        have z1 := hrw.frozen 1
        have z2 := hrw.frozen 2
        have z3 := hrw.frozen 3
        have z4 := hrw.frozen 4
        have z5 := hrw.frozen 5
        have z6 := hrw.frozen 6
        have HRF := hid (show RowAt (w4.setCells w1.heap.size 0 [.slice jJ D.jobs.length kJ, .slice jR D.rel.length kR, .int .i64 D.nxt, .slice jI D.ins.length kI, .slice jT D.tak.length kT, .slice jO D.out.length kO, .slice jE D.evs.length kE]) w1.heap.size 90 _ from row_setCells _ [] _ w4 hrw rfl)
        have HBF := hid (below_setCellsx (btrans HBL.out hb4) w1.heap.size (Nat.le_refl _) [.slice jJ D.jobs.length kJ, .slice jR D.rel.length kR, .int .i64 D.nxt, .slice jI D.ins.length kI, .slice jT D.tak.length kT, .slice jO D.out.length kO, .slice jE D.evs.length kE] 0)
        clear hrw d0 d1 d2 d3 d4 d5 d6 hb4
        go_wp2
        go_roundw
        case rel => exact ⟨1, _, by omega, by go_num, HBF.out, HRF.out, rfl⟩
        case measure => simp [intOf]
    · have g5 := (HX.out.keep (btrans hb1 hbl)).h5
      have g7 := (HX.out.keep (btrans hb1 hbl)).h7
      obtain ⟨b', o', e', c0, c1⟩ := (HC.out.keep (btrans hb1 hbl)).sl 0 (by omega)
      dsimp only at e'
      rw [e'] at g5
      rw [HCH.out] at g7
      simp only [Nat.zero_mul, Nat.add_zero] at c0 c1
      have hs1 : (0 : Int) < (C.sl.length : Int) := by omega
      have HF := hid (btrans HB1.out hbl)
      obtain ⟨W9, rfl⟩ : ∃ x, x = wr := ⟨_, rfl⟩
      clear e'
      go_wp2
      go_loopw [47] (fun i wr => i = .int .i64 0 ∧ wr = W9) (fun _ _ => 0)
      case atStart => exact ⟨rfl, rfl⟩
      case round =>
        obtain ⟨rfl, rfl⟩ := hrel
        go_wp2
        go_ret2
        exact ⟨_, rfl, HF.out⟩

end Go.Proofs.Ytaellaconpaejaa
