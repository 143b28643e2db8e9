/- Walks: the checks of a config's channels and tasks, and of the whole. -/
import Derived.Test.YtaellaconpaejaaNd
set_option linter.unusedVariables false
namespace Go.Proofs.Ytaellaconpaejaa
open Go.RowKit

set_option maxHeartbeats 2000000 in
theorem checkChannels_any (C : Conf) (A : Mem) (w : World) (hC : ConfIn w A C) (hd1 : 1 ≤ C.d) (hd4 : C.d ≤ 4) :
    Calls Try.prog 85 #[cv C A] w fun e w' => e = .returned (.int .i64 (ckChans C)) ∧ Below w.heap.size w w' := by
  have l7 := hC.l7
  have k7 := hC.k7
  have k7' : (C.ch.length : Int) ≤ (A.c7 : Int) := by omega
  have q1 := below_new w (.cells (cl C A) 46)
  have B1 := hid (boxC_new w C A)
  have hS := hC.ch.keep q1
  obtain ⟨a5, a6, a7, a8, c5, c6, c7, c8⟩ := A
  dsimp only [cv, cl] at *
  go_enter Try.func85, Try.ntmps85
  go_wp2
  generalize hW : World.alloc _ _ = W at *
  clear hW hC
  go_loopw [9] (fun i wr => ∃ k : Nat, k ≤ C.ch.length ∧ i = .int .i64 k ∧ Below W.heap.size W wr ∧ ∀ j, j < k → ckCh C.d C.ch j = 0) (fun i _ => C.ch.length - (intOf i).toNat)
  case atStart => exact ⟨0, Nat.zero_le _, rfl, Below.refl _ _, by omega⟩
  case round =>
    obtain ⟨k, hk, rfl, hbl, hno⟩ := hrel
    have Hno := hid hno
    clear hno
    by_cases hlt : k < C.ch.length
    · obtain ⟨b', o', rfl, hc1, hc2, hc3⟩ := hS k hlt
      have hc1' := bkeep hbl hc1 (Nat.le_refl _)
      have hc2' := bkeep hbl hc2 (Nat.le_refl _)
      have hc3' := bkeep hbl hc3 (Nat.le_refl _)
      have hlt' : (k : Int) < (C.ch.length : Int) := by omega
      have hkc : (k : Int) ≤ (c7 : Int) := by omega
      have HD : Hid (C.ch[k]? = some C.ch[k]) := List.getElem?_eq_getElem hlt
      have hbx := (B1.out.keep hbl).lt
      obtain ⟨g0, g1, g2, g3, g4, g5, g6, g7, g8⟩ := B1.out.keep hbl
      dsimp only at g5 g6 g7 g8
      have HF : Hid (ckCh C.d C.ch k ≠ 0 → ckChans C = ckCh C.d C.ch k) := fun h0 => fe_at C.ch.length k (ckCh C.d C.ch) hlt h0 Hno.out
      generalize C.ch[k] = x at *
      obtain ⟨x1, x2, x3⟩ := x
      simp only at hc1' hc2' hc3'
      clear hc1 hc2 hc3
      have q3 := below_new wr (.cells #[.int .i64 x1, .int .i64 x2, .int .i64 x3] 125)
      have r3 : RowAt (wr.alloc (.cells #[.int .i64 x1, .int .i64 x2, .int .i64 x3] 125)) wr.heap.size 125 [.int .i64 x1, .int .i64 x2, .int .i64 x3] := rowAt_new2 wr _ [.int .i64 x1, .int .i64 x2, .int .i64 x3] 125 rfl
      go_wp2_with fail
      refine (isDomain_any _ _ _ _ _ _ _ _ C.d x1 hd1 hd4 _).mono ?_
      rintro e w2 ⟨rfl, hb2⟩
      have r4 := r3.below hb2 (Nat.le_refl _)
      have d1 := r4.cell 0 _ rfl
      have d2 := r4.cell 1 _ rfl
      have d3 := r4.cell 2 _ rfl
      have hbx2 := r4.lt
      have q2 := btrans q3 hb2
      have Hr4 := hid r4
      obtain ⟨p0, p1, p2, p3, p4, p5, p6, p7, p8⟩ := (B1.out.keep hbl).keep q2
      dsimp only at p5 p6 p7 p8
      clear hb2 q3 r3 r4 g0 g1 g2 g3 g4 g5 g6 g7 g8 hc1' hc2' hc3'
      cases hx : isD C.d x1 with
      | false =>
        have e1 : ckCh C.d C.ch k = 5 := by rw [ckCh, HD.out]; simp [hx]
        have HE := HF.out (by rw [e1]; decide)
        rw [e1] at HE
        clear HF e1 hx
        have HE := hid HE
        go_wp2
        go_ret
        exact ⟨ret_int HE.out.symm, btrans q1 (btrans hbl q2)⟩
      | true =>
        have HX := hid hx
        clear hx
        go_wp2_with fail
        refine (isDomain_any _ _ _ _ _ _ _ _ C.d x2 hd1 hd4 _).mono ?_
        rintro e w3 ⟨rfl, hb3⟩
        have r5 := Hr4.out.below hb3 (Nat.le_refl _)
        have e1 := r5.cell 0 _ rfl
        have e2 := r5.cell 1 _ rfl
        have e3 := r5.cell 2 _ rfl
        have q4 := btrans q2 hb3
        have t7 := ((B1.out.keep hbl).keep q4).h7
        dsimp only at t7
        clear hb3 q2 Hr4 d1 d2 d3 p0 p1 p2 p3 p4 p5 p6 p7 p8 r5
        cases hy : isD C.d x2 with
        | false =>
          have z1 : ckCh C.d C.ch k = 5 := by rw [ckCh, HD.out]; simp [hy]
          have HE := HF.out (by rw [z1]; decide)
          rw [z1] at HE
          clear HF z1 hy
          have HE := hid HE
          go_wp2
          go_ret
          exact ⟨ret_int HE.out.symm, btrans q1 (btrans hbl q4)⟩
        | true =>
          have HY := hid hy
          clear hy
          by_cases hz : x1 = x2
          · subst hz
            have z1 : ckCh C.d C.ch k = 1 := by rw [ckCh, HD.out]; simp [HX.out]
            have HE := HF.out (by rw [z1]; decide)
            rw [z1] at HE
            clear HF z1 
            have HE := hid HE
            go_wp2
            go_ret
            exact ⟨ret_int HE.out.symm, btrans q1 (btrans hbl q4)⟩
          · have hz' : (x1 == x2) = false := by simp [hz]
            have HZ := hid hz
            clear hz
            go_wp2_with fail
            refine (within_any _ _ _ _).mono ?_
            rintro e w' ⟨rfl, rfl⟩
            cases hv : inR x3 1 4 with
            | false =>
              have z1 : ckCh C.d C.ch k = 3 := by rw [ckCh, HD.out]; simp [HX.out, HY.out, HZ.out, hv]
              have HE := HF.out (by rw [z1]; decide)
              rw [z1] at HE
              clear HF z1 hv
              have HE := hid HE
              go_wp2
              go_ret
              exact ⟨ret_int HE.out.symm, btrans q1 (btrans hbl q4)⟩
            | true =>
              have HV := hid hv
              clear hv
              have hS3 := (hS.keep hbl).keep q4
              go_wp2_with fail
              refine (contains64_take (x1, x2, x3) wr.heap.size _ C.ch k c7 _ hS3 hk l7 e1 e2).mono ?_
              rintro e w5 ⟨rfl, hb5⟩
              have q6 := btrans q4 hb5
              cases ht : (C.ch.take k).any (twin (x1, x2, x3)) with
              | true =>
                have z1 : ckCh C.d C.ch k = 6 := by rw [ckCh, HD.out]; simp only [HX.out, HY.out, HZ.out, HV.out, ht]; simp
                have HE := HF.out (by rw [z1]; decide)
                rw [z1] at HE
                clear HF z1 ht
                have HE := hid HE
                go_wp2
                go_ret
                exact ⟨ret_int HE.out.symm, btrans q1 (btrans hbl q6)⟩
              | false =>
                have HT := hid ht
                clear ht
                go_wp2
                go_roundw
                case rel =>
                  refine ⟨k + 1, by omega, by go_num, btrans hbl q6, fun j hj => ?_⟩
                  by_cases e : j = k
                  · subst e; rw [ckCh, HD.out]; simp only [HX.out, HY.out, HZ.out, HV.out, HT.out]; simp
                  · exact Hno.out j (by omega)
                case measure => simp [intOf]; omega
    · go_wp2
      go_ret
      exact ⟨ret_int (fe_zero _ _ (fun j hj => Hno.out j (by omega))).symm, btrans q1 hbl⟩

set_option maxHeartbeats 2000000 in
theorem checkTasks_any (C : Conf) (A : Mem) (w : World) (hC : ConfIn w A C) (hd1 : 1 ≤ C.d) (hd4 : C.d ≤ 4) :
    Calls Try.prog 86 #[cv C A] w fun e w' => e = .returned (.int .i64 (ckTasks C)) ∧ Below w.heap.size w w' := by
  have l8 := hC.l8
  have q1 := below_new w (.cells (cl C A) 46)
  have B1 := hid (boxC_new w C A)
  have hS := hC.ta.keep q1
  obtain ⟨a5, a6, a7, a8, c5, c6, c7, c8⟩ := A
  dsimp only [cv, cl] at *
  go_enter Try.func86, Try.ntmps86
  go_wp2
  generalize hW : World.alloc _ _ = W at *
  clear hW hC
  go_loopw [8] (fun i wr => ∃ k : Nat, k ≤ C.ta.length ∧ i = .int .i64 k ∧ Below W.heap.size W wr ∧ ∀ j, j < k → ckTa C.d (C.ta.getD j (0, 0, 0, 0)) = 0) (fun i _ => C.ta.length - (intOf i).toNat)
  case atStart => exact ⟨0, Nat.zero_le _, rfl, Below.refl _ _, by omega⟩
  case round =>
    obtain ⟨k, hk, rfl, hbl, hno⟩ := hrel
    have Hno := hid hno
    clear hno
    by_cases hlt : k < C.ta.length
    · obtain ⟨b', o', rfl, hc1, hc2, hc3, hc4⟩ := hS k hlt
      have hc1' := bkeep hbl hc1 (Nat.le_refl _)
      have hc2' := bkeep hbl hc2 (Nat.le_refl _)
      have hc3' := bkeep hbl hc3 (Nat.le_refl _)
      have hc4' := bkeep hbl hc4 (Nat.le_refl _)
      have HD : Hid (C.ta.getD k (0, 0, 0, 0) = C.ta[k]) := getD_of _ _ hlt _
      have hbx := (B1.out.keep hbl).lt
      obtain ⟨g0, g1, g2, g3, g4, g5, g6, g7, g8⟩ := B1.out.keep hbl
      dsimp only at g5 g6 g7 g8
      have HF : Hid (ckTa C.d C.ta[k] ≠ 0 → ckTasks C = ckTa C.d C.ta[k]) := by
        intro h0
        show fe _ _ = _
        have := fe_at C.ta.length k (fun i => ckTa C.d (C.ta.getD i (0, 0, 0, 0))) hlt (by simp only [getD_of _ _ hlt]; exact h0) Hno.out
        rw [this]; simp only [getD_of _ _ hlt]
      generalize C.ta[k] = x at *
      obtain ⟨x1, x2, x3, x4⟩ := x
      simp only at hc1' hc2' hc3' hc4'
      clear hc1 hc2 hc3 hc4
      have q3 := below_new wr (.cells #[.int .i64 x1, .int .i64 x2, .int .i64 x3, .int .i64 x4] 108)
      have r3 : RowAt (wr.alloc (.cells #[.int .i64 x1, .int .i64 x2, .int .i64 x3, .int .i64 x4] 108)) wr.heap.size 108 [.int .i64 x1, .int .i64 x2, .int .i64 x3, .int .i64 x4] := rowAt_new2 wr _ [.int .i64 x1, .int .i64 x2, .int .i64 x3, .int .i64 x4] 108 rfl
      go_wp2_with fail
      refine (isDomain_any _ _ _ _ _ _ _ _ C.d x1 hd1 hd4 _).mono ?_
      rintro e w2 ⟨rfl, hb2⟩
      have r4 := r3.below hb2 (Nat.le_refl _)
      have d1 := r4.cell 0 _ rfl
      have d2 := r4.cell 1 _ rfl
      have d3 := r4.cell 2 _ rfl
      have d4 := r4.cell 3 _ rfl
      have q2 := btrans q3 hb2
      clear hb2 q3 r3 r4 g0 g1 g2 g3 g4 g5 g6 g7 g8 hc1' hc2' hc3' hc4'
      cases hx : isD C.d x1 with
      | false =>
        have e1 : ckTa C.d (x1, x2, x3, x4) = 5 := by simp [ckTa, hx]
        have HE := HF.out (by rw [e1]; decide)
        rw [e1] at HE
        clear HF e1 hx
        have HE := hid HE
        go_wp2
        go_ret
        exact ⟨ret_int HE.out.symm, btrans q1 (btrans hbl q2)⟩
      | true =>
        have HX := hid hx
        clear hx
        go_wp2_with fail
        refine (within_any _ _ _ _).mono ?_
        rintro e w' ⟨rfl, rfl⟩
        cases h1 : inR x2 1 5000 with
        | false =>
          have e1 : ckTa C.d (x1, x2, x3, x4) = 3 := by simp [ckTa, HX.out, h1]
          have HE := HF.out (by rw [e1]; decide)
          rw [e1] at HE
          clear HF e1 h1
          have HE := hid HE
          go_wp2
          go_ret
          exact ⟨ret_int HE.out.symm, btrans q1 (btrans hbl q2)⟩
        | true =>
          have H1 := hid h1
          clear h1
          go_wp2_with fail
          refine (within_any _ _ _ _).mono ?_
          rintro e w' ⟨rfl, rfl⟩
          cases h2 : inR x3 1 x2 with
          | false =>
            have e1 : ckTa C.d (x1, x2, x3, x4) = 3 := by simp [ckTa, HX.out, h2]
            have HE := HF.out (by rw [e1]; decide)
            rw [e1] at HE
            clear HF e1 h2
            have HE := hid HE
            go_wp2
            go_ret
            exact ⟨ret_int HE.out.symm, btrans q1 (btrans hbl q2)⟩
          | true =>
            have H2 := hid h2
            clear h2
            go_wp2_with fail
            refine (within_any _ _ _ _).mono ?_
            rintro e w' ⟨rfl, rfl⟩
            cases h3 : inR x4 1 x2 with
            | false =>
              have e1 : ckTa C.d (x1, x2, x3, x4) = 3 := by simp [ckTa, HX.out, h3]
              have HE := HF.out (by rw [e1]; decide)
              rw [e1] at HE
              clear HF e1 h3
              have HE := hid HE
              go_wp2
              go_ret
              exact ⟨ret_int HE.out.symm, btrans q1 (btrans hbl q2)⟩
            | true =>
              have H3 := hid h3
              clear h3
              go_wp2
              go_roundw
              case rel =>
                refine ⟨k + 1, by omega, by go_num, btrans hbl q2, fun j hj => ?_⟩
                by_cases e : j = k
                · subst e; rw [HD.out]; simp [ckTa, HX.out, H1.out, H2.out, H3.out]
                · exact Hno.out j (by omega)
              case measure => simp [intOf]; omega
    · go_wp2
      go_ret
      exact ⟨ret_int (fe_zero _ _ (fun j hj => Hno.out j (by omega))).symm, btrans q1 hbl⟩

end Go.Proofs.Ytaellaconpaejaa
