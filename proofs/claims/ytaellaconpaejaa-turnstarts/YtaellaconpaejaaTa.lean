/- Walks of the document's answer: the check of a config. -/
import Derived.Test.YtaellaconpaejaaNf
import Derived.Test.YtaellaconpaejaaPd
import Derived.BigQuiet
set_option linter.unusedVariables false
namespace Go.Proofs.Ytaellaconpaejaa
open Go.RowKit

set_option maxHeartbeats 400000 in
theorem isDomR_any (v0 v1 v3 v4 v5 v6 v7 v8 : Value) (d x : Int) (hd1 : 1 ≤ d) (hd4 : d ≤ 4) (w : World) :
    Calls Try.prog 44 #[.agg #[v0, v1, .int .i64 d, v3, v4, v5, v6, v7, v8], .int .i64 x] w fun e w' => e = .returned (.bool (isD d x)) ∧ Below w.heap.size w w' := by
  go_enter Try.func44, Try.ntmps44
  go_wp2_with fail
  refine (between_any _ _ _ _).mono ?_
  rintro e w' ⟨rfl, rfl⟩
  go_wp2
  go_ret
  exact ⟨rfl, below_new _ _⟩

set_option maxRecDepth 100000 in
set_option maxHeartbeats 4000000 in
theorem checkRef_any (C : Conf) (A : Mem) (w : World) (hC : ConfIn w A C) :
    Calls Try.prog 26 #[cv C A] w fun e w' => e = .returned (.int .i64 (ckC C)) ∧ Below w.heap.size w w' := by
  have l5 := hC.l5
  have l6 := hC.l6
  have l7 := hC.l7
  have l8 := hC.l8
  have q1 := below_new w (.cells (cl C A) 46)
  have B1 := hid (boxC_new w C A)
  have HC := hid (hC.keep q1)
  have Q1 := hid q1
  clear q1 hC
  obtain ⟨a5, a6, a7, a8, c5, c6, c7, c8⟩ := A
  dsimp only [cv, cl] at *
  go_enter Try.func26, Try.ntmps26
  go_wp2_with fail
  refine (between_any _ _ _ _).mono ?_
  rintro e w' ⟨rfl, rfl⟩
  cases h1 : inR C.s 1 4 with
  | false =>
    have HE : Hid (ckC C = 3) := by
      have e : ckNum C = 3 := by simp [ckNum, h1]
      exact hid (by rw [ckC_0 (by rw [e]; decide), e])
    clear h1
    go_wp2
    go_ret
    exact ⟨ret_int HE.out.symm, Q1.out⟩
  | true =>
    have H1 := hid h1
    clear h1
    go_wp2_with fail
    refine (between_any _ _ _ _).mono ?_
    rintro e w' ⟨rfl, rfl⟩
    cases h2 : inR C.w 1 3 with
    | false =>
      have HE : Hid (ckC C = 3) := by
        have e : ckNum C = 3 := by simp [ckNum, h2]
        exact hid (by rw [ckC_0 (by rw [e]; decide), e])
      clear h2
      go_wp2
      go_ret
      exact ⟨ret_int HE.out.symm, Q1.out⟩
    | true =>
      have H2 := hid h2
      clear h2
      go_wp2_with fail
      refine (between_any _ _ _ _).mono ?_
      rintro e w' ⟨rfl, rfl⟩
      cases h3 : inR C.d 1 4 with
      | false =>
        have HE : Hid (ckC C = 3) := by
          have e : ckNum C = 3 := by simp [ckNum, h3]
          exact hid (by rw [ckC_0 (by rw [e]; decide), e])
        clear h3
        go_wp2
        go_ret
        exact ⟨ret_int HE.out.symm, Q1.out⟩
      | true =>
        have H3 := hid h3
        clear h3
        go_wp2_with fail
        refine (between_any _ _ _ _).mono ?_
        rintro e w' ⟨rfl, rfl⟩
        cases h4 : inR C.q 1 100 with
        | false =>
          have HE : Hid (ckC C = 3) := by
            have e : ckNum C = 3 := by simp [ckNum, h4]
            exact hid (by rw [ckC_0 (by rw [e]; decide), e])
          clear h4
          go_wp2
          go_ret
          exact ⟨ret_int HE.out.symm, Q1.out⟩
        | true =>
          have H4 := hid h4
          clear h4
          have Z0 : Hid (ckNum C = 0) := hid (by simp [ckNum, H1.out, H2.out, H3.out, H4.out])
          clear H1 H2 H3 H4
          obtain ⟨s1, s4, w1, w3, hd1, hd4, _, _⟩ := num_ok Z0.out
          have hb1 : 0 ≤ 5 * C.s * C.w := Int.mul_nonneg (by omega) (by omega)
          have hb2 : 5 * C.s * C.w ≤ 60 := by
            have h5 : (5 * C.s) * C.w ≤ 20 * C.w := Int.mul_le_mul_of_nonneg_right (by omega) (by omega)
            omega
          go_wp2_with fail
          refine (between_any _ _ _ _).mono ?_
          rintro e w' ⟨rfl, rfl⟩
          clear hb1 hb2 s1 s4 w1 w3
          cases h1 : inR C.p (2 + 5 * C.s * C.w) 99 with
          | false =>
            have HE : Hid (ckC C = 4) := by
              have e : ckPad C = 4 := by simp [ckPad, h1]
              exact hid (by rw [ckC_1 Z0.out (by rw [e]; decide), e])
            clear h1
            go_wp2
            go_ret
            exact ⟨ret_int HE.out.symm, Q1.out⟩
          | true =>
            have Z1 : Hid (ckPad C = 0) := hid (by simp [ckPad, h1])
            clear h1
            go_wp2_with fail
            refine (between_any _ _ _ _).mono ?_
            rintro e w' ⟨rfl, rfl⟩
            cases h1 : inR C.sl.length 1 6 with
            | false =>
              have HE : Hid (ckC C = 2) := by
                have e : ckCnt C = 2 := by simp [ckCnt, h1]
                exact hid (by rw [ckC_2 Z0.out Z1.out (by rw [e]; decide), e])
              clear h1
              go_wp2
              go_ret
              exact ⟨ret_int HE.out.symm, Q1.out⟩
            | true =>
              have H1 := hid h1
              clear h1
              by_cases h2 : (C.ow.length : Int) > 4
              · have HE : Hid (ckC C = 2) := by
                  have e : ckCnt C = 2 := by rw [ckCnt, if_neg]; simp; omega
                  exact hid (by rw [ckC_2 Z0.out Z1.out (by rw [e]; decide), e])
                go_wp2
                go_ret
                exact ⟨ret_int HE.out.symm, Q1.out⟩
              · have hmow : ¬ (C.ow.length : Int) > 4 := h2
                clear h2
                by_cases h2 : (C.ch.length : Int) > 4
                · have HE : Hid (ckC C = 2) := by
                    have e : ckCnt C = 2 := by rw [ckCnt, if_neg]; simp; omega
                    exact hid (by rw [ckC_2 Z0.out Z1.out (by rw [e]; decide), e])
                  go_wp2
                  go_ret
                  exact ⟨ret_int HE.out.symm, Q1.out⟩
                · have hmch : ¬ (C.ch.length : Int) > 4 := h2
                  clear h2
                  by_cases h2 : (C.ta.length : Int) > 6
                  · have HE : Hid (ckC C = 2) := by
                      have e : ckCnt C = 2 := by rw [ckCnt, if_neg]; simp; omega
                      exact hid (by rw [ckC_2 Z0.out Z1.out (by rw [e]; decide), e])
                    go_wp2
                    go_ret
                    exact ⟨ret_int HE.out.symm, Q1.out⟩
                  · have hmta : ¬ (C.ta.length : Int) > 6 := h2
                    clear h2
                    have Z2 : Hid (ckCnt C = 0) := hid (by rw [ckCnt, if_pos]; simp [H1.out]; omega)
                    clear H1
                    go_wp2
                    generalize hW : World.alloc _ _ = W at *
                    clear hW
                    have HS := hid HC.out.sl
                    have HO := hid HC.out.ow
                    have HH := hid HC.out.ch
                    have HT := hid HC.out.ta
                    dsimp only at HS HO HH HT
                    have bx := B1.out.lt
                    go_loopw [3] (fun i wr => ∃ k : Nat, k ≤ C.sl.length ∧ i = .int .i64 k ∧ Below W.heap.size W wr ∧ ∀ j, j < k → ckSl C.d (C.sl.getD j (0, 0)) = 0) (fun i _ => C.sl.length - (intOf i).toNat)
                    case atStart => exact ⟨0, Nat.zero_le _, rfl, Below.refl _ _, by omega⟩
                    case round =>
                      obtain ⟨k, hk, rfl, hbl, hno⟩ := hrel
                      have Hno := hid hno
                      have hlr : W.heap.size ≤ wr.heap.size := hbl.size
                      have Bx := hid (B1.out.keep hbl)
                      have hbx := Bx.out.lt
                      clear hno
                      obtain ⟨g0, g1, g2, g3, g4, g5, g6, g7, g8⟩ := Bx.out
                      dsimp only at g5 g6 g7 g8
                      by_cases hlt : k < C.sl.length
                      · obtain ⟨b', o', rfl, hc1, hc2⟩ := HS.out.keep hbl k hlt
                        have hk1 : (k : Int) < C.sl.length := by omega
                        have hk0 : (0 : Int) ≤ k := by omega
                        have HF := hid (fun h => slots_at (C := C) hlt h Hno.out)
                        have HG := hid (getD_of C.sl k hlt (0, 0))
                        generalize hx : C.sl[k] = x at *
                        obtain ⟨x1, x2⟩ := x
                        dsimp only at *
                        clear hx
                        have hbz : Below wr.heap.size wr wr.drew := (Below.refl _ _).drew
                        have HK : Hid (∀ w', Below wr.heap.size wr w' → w'.cell? ⟨w.heap.size, 0, none⟩ = some (.int .i64 C.s) ∧ w'.cell? ⟨w.heap.size, 1, none⟩ = some (.int .i64 C.w) ∧ w'.cell? ⟨w.heap.size, 2, none⟩ = some (.int .i64 C.d) ∧ w'.cell? ⟨w.heap.size, 3, none⟩ = some (.int .i64 C.p) ∧ w'.cell? ⟨w.heap.size, 4, none⟩ = some (.int .i64 C.q) ∧ w'.cell? ⟨w.heap.size, 5, none⟩ = some (.slice (some ⟨b', o', none⟩) C.sl.length c5) ∧ w'.cell? ⟨w.heap.size, 6, none⟩ = some (.slice a6 C.ow.length c6) ∧ w'.cell? ⟨w.heap.size, 7, none⟩ = some (.slice a7 C.ch.length c7) ∧ w'.cell? ⟨w.heap.size, 8, none⟩ = some (.slice a8 C.ta.length c8) ∧ w'.cell? ⟨b', o' + k * 2, none⟩ = some (.int .i64 x1)) := hid fun w' hb => ⟨bkeep hb g0 (Nat.le_refl _), bkeep hb g1 (Nat.le_refl _), bkeep hb g2 (Nat.le_refl _), bkeep hb g3 (Nat.le_refl _), bkeep hb g4 (Nat.le_refl _), bkeep hb g5 (Nat.le_refl _), bkeep hb g6 (Nat.le_refl _), bkeep hb g7 (Nat.le_refl _), bkeep hb g8 (Nat.le_refl _), bkeep hb hc1 (Nat.le_refl _)⟩
                        go_wp2_with fail
                        go_region_held3 (fun w' => w'.cell? ⟨w.heap.size, 0, none⟩ = some (.int .i64 C.s) ∧ w'.cell? ⟨w.heap.size, 1, none⟩ = some (.int .i64 C.w) ∧ w'.cell? ⟨w.heap.size, 2, none⟩ = some (.int .i64 C.d) ∧ w'.cell? ⟨w.heap.size, 3, none⟩ = some (.int .i64 C.p) ∧ w'.cell? ⟨w.heap.size, 4, none⟩ = some (.int .i64 C.q) ∧ w'.cell? ⟨w.heap.size, 5, none⟩ = some (.slice (some ⟨b', o', none⟩) C.sl.length c5) ∧ w'.cell? ⟨w.heap.size, 6, none⟩ = some (.slice a6 C.ow.length c6) ∧ w'.cell? ⟨w.heap.size, 7, none⟩ = some (.slice a7 C.ch.length c7) ∧ w'.cell? ⟨w.heap.size, 8, none⟩ = some (.slice a8 C.ta.length c8) ∧ w'.cell? ⟨b', o' + k * 2, none⟩ = some (.int .i64 x1))
                          (first | exact HK.out _ hB2 | exact HK.out _ hbz | assumption | go_keep)
                          (first
                            | (go_at_call 44; refine (isDomR_any _ _ _ _ _ _ _ _ C.d x1 hd1 hd4 _).mono ?_; rintro e w2 ⟨rfl, hb2⟩; have hB2 := btrans hbz hb2))
                        clear HK hb2
                        have hc2' := bkeep hB2 hc2 (Nat.le_refl _)
                        have t5 := bkeep hB2 g5 (Nat.le_refl _)
                        clear g0 g1 g2 g3 g4 g5 g6 g7 g8
                        cases hx : isD C.d x1 with
                        | false =>
                          have HE0 : ckC C = 5 := by
                            have e : ckSl C.d (x1, x2) = 5 := by simp [ckSl, hx]
                            have e2 := HF.out (by rw [e]; decide)
                            rw [ckC_3 Z0.out Z1.out Z2.out (by rw [e2, e]; decide), e2, e]
                          clear hx
                          have HE := hid HE0
                          clear HE0
                          go_wp2
                          go_ret
                          exact ⟨ret_int HE.out.symm, btrans Q1.out (btrans hbl hB2)⟩
                        | true =>
                          have HX := hid hx
                          clear hx
                          go_wp2_with fail
                          refine (between_any _ _ _ _).mono ?_
                          rintro e w' ⟨rfl, rfl⟩
                          cases hy : inR x2 100 1000 with
                          | false =>
                            have HE0 : ckC C = 3 := by
                              have e : ckSl C.d (x1, x2) = 3 := by simp [ckSl, HX.out, hy]
                              have e2 := HF.out (by rw [e]; decide)
                              rw [ckC_3 Z0.out Z1.out Z2.out (by rw [e2, e]; decide), e2, e]
                            clear hy
                            have HE := hid HE0
                            clear HE0
                            go_wp2
                            go_ret
                            exact ⟨ret_int HE.out.symm, btrans Q1.out (btrans hbl hB2)⟩
                          | true =>
                            have HY : Hid (ckSl C.d (x1, x2) = 0) := hid (by simp [ckSl, HX.out, hy])
                            clear hy
                            go_wp2
                            go_roundw
                            case rel =>
                              refine ⟨k + 1, by omega, by go_num, btrans hbl hB2, fun j hj => ?_⟩
                              by_cases e : j = k
                              · subst e; rw [HG.out]; exact HY.out
                              · exact Hno.out j (by omega)
                            case measure => simp [intOf]; omega
                      · obtain rfl : k = C.sl.length := by omega
                        have Z3 := hid (slots_0 Hno.out)
                        go_wp2
                        clear Hno Bx hbx hlr hlt hk HS
                        clear g0 g1 g2 g3 g4 g5 g6 g7 g8
                        rename Below _ _ _ => hbl1
                        go_loopw [4] (fun i wr => ∃ k : Nat, k ≤ C.ow.length ∧ i = .int .i64 k ∧ Below W.heap.size W wr ∧ ∀ j (h : j < C.ow.length), j < k → isD C.d C.ow[j] = true) (fun i _ => C.ow.length - (intOf i).toNat)
                        case atStart => exact ⟨0, Nat.zero_le _, rfl, hbl1, by omega⟩
                        case round =>
                          clear hbl1
                          obtain ⟨k, hk, rfl, hbl, hno⟩ := hrel
                          have Hno := hid hno
                          have hlr : W.heap.size ≤ wr.heap.size := hbl.size
                          have Bx := hid (B1.out.keep hbl)
                          have hbx := Bx.out.lt
                          clear hno
                          obtain ⟨g0, g1, g2, g3, g4, g5, g6, g7, g8⟩ := Bx.out
                          dsimp only at g5 g6 g7 g8
                          by_cases hlt : k < C.ow.length
                          · obtain ⟨b', o', rfl, hc1⟩ := HO.out.keep hbl k hlt
                            have hk1 : (k : Int) < C.ow.length := by omega
                            have hk0 : (0 : Int) ≤ k := by omega
                            have HF := hid (ow_5 (C := C) hlt)
                            have HG := hid (rfl : C.ow[k] = C.ow[k])
                            generalize hx : C.ow[k] = x1 at HF hc1
                            have HX1 := hid hx
                            clear hx HG
                            have hbz : Below wr.heap.size wr wr.drew := (Below.refl _ _).drew
                            have HK : Hid (∀ w', Below wr.heap.size wr w' → w'.cell? ⟨w.heap.size, 0, none⟩ = some (.int .i64 C.s) ∧ w'.cell? ⟨w.heap.size, 1, none⟩ = some (.int .i64 C.w) ∧ w'.cell? ⟨w.heap.size, 2, none⟩ = some (.int .i64 C.d) ∧ w'.cell? ⟨w.heap.size, 3, none⟩ = some (.int .i64 C.p) ∧ w'.cell? ⟨w.heap.size, 4, none⟩ = some (.int .i64 C.q) ∧ w'.cell? ⟨w.heap.size, 5, none⟩ = some (.slice a5 C.sl.length c5) ∧ w'.cell? ⟨w.heap.size, 6, none⟩ = some (.slice (some ⟨b', o', none⟩) C.ow.length c6) ∧ w'.cell? ⟨w.heap.size, 7, none⟩ = some (.slice a7 C.ch.length c7) ∧ w'.cell? ⟨w.heap.size, 8, none⟩ = some (.slice a8 C.ta.length c8) ∧ w'.cell? ⟨b', o' + k, none⟩ = some (.int .i64 x1)) := hid fun w' hb => ⟨bkeep hb g0 (Nat.le_refl _), bkeep hb g1 (Nat.le_refl _), bkeep hb g2 (Nat.le_refl _), bkeep hb g3 (Nat.le_refl _), bkeep hb g4 (Nat.le_refl _), bkeep hb g5 (Nat.le_refl _), bkeep hb g6 (Nat.le_refl _), bkeep hb g7 (Nat.le_refl _), bkeep hb g8 (Nat.le_refl _), bkeep hb hc1 (Nat.le_refl _)⟩
                            go_wp2_with fail
                            go_region_held3 (fun w' => w'.cell? ⟨w.heap.size, 0, none⟩ = some (.int .i64 C.s) ∧ w'.cell? ⟨w.heap.size, 1, none⟩ = some (.int .i64 C.w) ∧ w'.cell? ⟨w.heap.size, 2, none⟩ = some (.int .i64 C.d) ∧ w'.cell? ⟨w.heap.size, 3, none⟩ = some (.int .i64 C.p) ∧ w'.cell? ⟨w.heap.size, 4, none⟩ = some (.int .i64 C.q) ∧ w'.cell? ⟨w.heap.size, 5, none⟩ = some (.slice a5 C.sl.length c5) ∧ w'.cell? ⟨w.heap.size, 6, none⟩ = some (.slice (some ⟨b', o', none⟩) C.ow.length c6) ∧ w'.cell? ⟨w.heap.size, 7, none⟩ = some (.slice a7 C.ch.length c7) ∧ w'.cell? ⟨w.heap.size, 8, none⟩ = some (.slice a8 C.ta.length c8) ∧ w'.cell? ⟨b', o' + k, none⟩ = some (.int .i64 x1))
                              (first | exact HK.out _ hB2 | exact HK.out _ hbz | assumption | go_keep)
                              (first
                                | (go_at_call 44; refine (isDomR_any _ _ _ _ _ _ _ _ C.d x1 hd1 hd4 _).mono ?_; rintro e w2 ⟨rfl, hb2⟩; have hB2 := btrans hbz hb2))
                            clear HK hb2
                            clear g0 g1 g2 g3 g4 g5 g6 g7 g8
                            cases hx : isD C.d x1 with
                            | false =>
                              have HE0 : ckC C = 5 := by
                                have e2 := HF.out hx
                                rw [ckC_4 Z0.out Z1.out Z2.out Z3.out (by rw [e2]; decide), e2]
                              clear hx
                              have HE := hid HE0
                              clear HE0
                              go_wp2
                              go_ret
                              exact ⟨ret_int HE.out.symm, btrans Q1.out (btrans hbl hB2)⟩
                            | true =>
                              have HY := hid hx
                              clear hx
                              go_wp2
                              go_roundw
                              case rel =>
                                refine ⟨k + 1, by omega, by go_num, btrans hbl hB2, fun j hj hj2 => ?_⟩
                                by_cases e : j = k
                                · subst e; rw [HX1.out]; exact HY.out
                                · exact Hno.out j hj (by omega)
                              case measure => simp [intOf]; omega
                          · obtain rfl : k = C.ow.length := by omega
                            have Z4 := hid (ow_0 (C := C) (fun j hj => Hno.out j hj hj))
                            go_wp2
                            clear Hno Bx hbx hlr hlt hk HO
                            clear g0 g1 g2 g3 g4 g5 g6 g7 g8
                            rename Below _ _ _ => hbl1
                            go_loopw [5] (fun i wr => ∃ k : Nat, k ≤ C.ch.length ∧ i = .int .i64 k ∧ Below W.heap.size W wr ∧ ∀ j, j < k → ckCh C.d C.ch j = 0) (fun i _ => C.ch.length - (intOf i).toNat)
                            case atStart => exact ⟨0, Nat.zero_le _, rfl, hbl1, by omega⟩
                            case round =>
                              clear hbl1
                              obtain ⟨k, hk, rfl, hbl, hno⟩ := hrel
                              have Hno := hid hno
                              have hlr : W.heap.size ≤ wr.heap.size := hbl.size
                              have Bx := hid (B1.out.keep hbl)
                              have hbx := Bx.out.lt
                              clear hno
                              obtain ⟨g0, g1, g2, g3, g4, g5, g6, g7, g8⟩ := Bx.out
                              dsimp only at g5 g6 g7 g8
                              by_cases hlt : k < C.ch.length
                              · obtain ⟨b', o', rfl, hc1, hc2, hc3⟩ := HH.out.keep hbl k hlt
                                have hk1 : (k : Int) < C.ch.length := by omega
                                have hk0 : (0 : Int) ≤ k := by omega
                                have HF := hid (fun h => chans_at (C := C) hlt h Hno.out)
                                have HQ := hid (ckCh_eq (d := C.d) hlt)
                                generalize hx : C.ch[k] = x at HQ hc1 hc2 hc3
                                have HXX := hid hx
                                clear hx
                                obtain ⟨x1, x2, x3⟩ := x
                                dsimp only at HQ hc1 hc2 hc3
                                have Hr4 : Hid (RowAt (wr.alloc (.cells #[.int .i64 x1, .int .i64 x2, .int .i64 x3] 125)) wr.heap.size 125 [.int .i64 x1, .int .i64 x2, .int .i64 x3]) := hid (rowAt_new2 wr _ [.int .i64 x1, .int .i64 x2, .int .i64 x3] 125 rfl)
                                have q2 := below_new wr (.cells #[.int .i64 x1, .int .i64 x2, .int .i64 x3] 125)
                                go_wp2_with fail
                                refine (isDomR_any _ _ _ _ _ _ _ _ C.d x1 hd1 hd4 _).mono ?_
                                rintro e w2 ⟨rfl, hb2⟩
                                have Hr5 := hid (Hr4.out.below hb2 (Nat.le_refl _))
                                have hB2 := btrans q2 hb2
                                clear hb2 q2 Hr4 g0 g1 g2 g3 g4 g5 g6 g7 g8
                                obtain ⟨g0, g1, g2, g3, g4, g5, g6, g7, g8⟩ := Bx.out.keep hB2
                                dsimp only at g5 g6 g7 g8
                                have d1 := Hr5.out.cell 0 _ rfl
                                have d2 := Hr5.out.cell 1 _ rfl
                                have d3 := Hr5.out.cell 2 _ rfl
                                cases hx : isD C.d x1 with
                                | false =>
                                  have HE0 : ckC C = 5 := by
                                    have e : ckCh C.d C.ch k = 5 := by rw [HQ.out]; simp [hx]
                                    have e2 := HF.out (by rw [e]; decide)
                                    rw [ckC_5 Z0.out Z1.out Z2.out Z3.out Z4.out (by rw [e2, e]; decide), e2, e]
                                  clear hx
                                  have HE := hid HE0
                                  clear HE0
                                  go_wp2
                                  go_ret
                                  exact ⟨ret_int HE.out.symm, btrans Q1.out (btrans hbl hB2)⟩
                                | true =>
                                  have HX := hid hx
                                  clear hx
                                  go_wp2_with fail
                                  refine (isDomR_any _ _ _ _ _ _ _ _ C.d x2 hd1 hd4 _).mono ?_
                                  rintro e w3 ⟨rfl, hb3⟩
                                  have Hr6 := hid (Hr5.out.below hb3 (Nat.le_refl _))
                                  replace hB2 := btrans hB2 hb3
                                  clear hb3 Hr5 d1 d2 d3 g0 g1 g2 g3 g4 g5 g6 g7 g8
                                  obtain ⟨g0, g1, g2, g3, g4, g5, g6, g7, g8⟩ := Bx.out.keep hB2
                                  dsimp only at g5 g6 g7 g8
                                  have d1 := Hr6.out.cell 0 _ rfl
                                  have d2 := Hr6.out.cell 1 _ rfl
                                  have d3 := Hr6.out.cell 2 _ rfl
                                  cases hy : isD C.d x2 with
                                  | false =>
                                    have HE0 : ckC C = 5 := by
                                      have e : ckCh C.d C.ch k = 5 := by rw [HQ.out]; simp [hy]
                                      have e2 := HF.out (by rw [e]; decide)
                                      rw [ckC_5 Z0.out Z1.out Z2.out Z3.out Z4.out (by rw [e2, e]; decide), e2, e]
                                    clear hy
                                    have HE := hid HE0
                                    clear HE0
                                    go_wp2
                                    go_ret
                                    exact ⟨ret_int HE.out.symm, btrans Q1.out (btrans hbl hB2)⟩
                                  | true =>
                                    have HY := hid hy
                                    clear hy
                                    by_cases hz : x1 = x2
                                    · subst hz
                                      have HE0 : ckC C = 1 := by
                                        have e : ckCh C.d C.ch k = 1 := by rw [HQ.out]; simp [HX.out]
                                        have e2 := HF.out (by rw [e]; decide)
                                        rw [ckC_5 Z0.out Z1.out Z2.out Z3.out Z4.out (by rw [e2, e]; decide), e2, e]
                                      have HE := hid HE0
                                      clear HE0
                                      go_wp2
                                      go_ret
                                      exact ⟨ret_int HE.out.symm, btrans Q1.out (btrans hbl hB2)⟩
                                    · have hz' : (x1 == x2) = false := by simp [hz]
                                      have HZ := hid hz
                                      clear hz
                                      go_wp2_with fail
                                      refine (between_any _ _ _ _).mono ?_
                                      rintro e w' ⟨rfl, rfl⟩
                                      cases hu : inR x3 1 4 with
                                      | false =>
                                        have HE0 : ckC C = 3 := by
                                          have e : ckCh C.d C.ch k = 3 := by rw [HQ.out]; simp [HX.out, HY.out, HZ.out, hu]
                                          have e2 := HF.out (by rw [e]; decide)
                                          rw [ckC_5 Z0.out Z1.out Z2.out Z3.out Z4.out (by rw [e2, e]; decide), e2, e]
                                        clear hu
                                        have HE := hid HE0
                                        clear HE0
                                        go_wp2
                                        go_ret
                                        exact ⟨ret_int HE.out.symm, btrans Q1.out (btrans hbl hB2)⟩
                                      | true =>
                                        have HU := hid hu
                                        clear hu
                                        go_wp2
                                        go_loopw [7] (fun i wi => (∃ n, wi = w3.drewN n) ∧ ∃ m : Nat, m ≤ k ∧ i = .int .i64 m ∧ ∀ j (h : j < C.ch.length), j < m → twin (x1, x2, x3) C.ch[j] = false) (fun i _ => k - (intOf i).toNat)
                                        case atStart => exact ⟨⟨0, rfl⟩, 0, Nat.zero_le _, rfl, by omega⟩
                                        case round =>
                                          obtain ⟨⟨nd, rfl⟩, m, hm, rfl, hno2⟩ := hrel
                                          have Hno2 := hid hno2
                                          clear hno2
                                          by_cases hlm : m < k
                                          · have hml : m < C.ch.length := by omega
                                            obtain ⟨b2, o2, eb, y1, y2, y3⟩ := (HH.out.keep (btrans hbl hB2)) m hml
                                            simp only [Option.some.injEq, Addr.mk.injEq, and_true] at eb
                                            obtain ⟨rfl, rfl⟩ := eb
                                            have hm1 : (m : Int) < C.ch.length := by omega
                                            have hm0 : (0 : Int) ≤ m := by omega
                                            have hmk : (m : Int) < (k : Int) := by omega
                                            have HXM := hid (rfl : C.ch[m] = C.ch[m])
                                            generalize hx : C.ch[m] = z at y1 y2 y3
                                            have HXZ := hid hx
                                            clear hx HXM
                                            obtain ⟨z1, z2, z3⟩ := z
                                            dsimp only at y1 y2 y3
                                            by_cases p1 : z1 = x1
                                            · subst p1
                                              by_cases p2 : z2 = x2
                                              · subst p2
                                                have HE0 : ckC C = 6 := by
                                                  have ea : (C.ch.take k).any (twin (z1, z2, x3)) = true := List.any_eq_true.2 ⟨C.ch[m], by rw [List.mem_take_iff_getElem]; exact ⟨m, by omega, rfl⟩, by rw [HXZ.out]; simp [twin]⟩
                                                  have e : ckCh C.d C.ch k = 6 := by rw [HQ.out]; simp [HX.out, HY.out, HZ.out, HU.out, ea]
                                                  have e2 := HF.out (by rw [e]; decide)
                                                  rw [ckC_5 Z0.out Z1.out Z2.out Z3.out Z4.out (by rw [e2, e]; decide), e2, e]
                                                have HE := hid HE0
                                                clear HE0
                                                go_wp2
                                                go_quiet (fail)
                                                go_wp2
                                                go_ret
                                                exact ⟨ret_int HE.out.symm, below_drewN (below_drewN (btrans Q1.out (btrans hbl hB2)) _) _⟩
                                              · have p2' : (z2 == x2) = false := by simp [p2]
                                                have HP : Hid (twin (z1, x2, x3) C.ch[m] = false) := hid (by rw [HXZ.out]; simp [twin, p2])
                                                clear p2
                                                go_wp2
                                                go_quiet (fail)
                                                go_wp2
                                                go_roundw
                                                case rel =>
                                                  refine ⟨⟨_, rfl⟩, m + 1, by omega, by go_num, fun j hj hj2 => ?_⟩
                                                  by_cases e : j = m
                                                  · subst e; exact HP.out
                                                  · exact Hno2.out j hj (by omega)
                                                case measure => simp [intOf]; omega
                                            · have p1' : (z1 == x1) = false := by simp [p1]
                                              have HP : Hid (twin (x1, x2, x3) C.ch[m] = false) := hid (by rw [HXZ.out]; simp [twin, p1])
                                              clear p1
                                              go_wp2
                                              go_quiet (fail)
                                              go_wp2
                                              go_roundw
                                              case rel =>
                                                refine ⟨⟨_, rfl⟩, m + 1, by omega, by go_num, fun j hj hj2 => ?_⟩
                                                by_cases e : j = m
                                                · subst e; exact HP.out
                                                · exact Hno2.out j hj (by omega)
                                              case measure => simp [intOf]; omega
                                          · obtain rfl : m = k := by omega
                                            have HV : Hid (ckCh C.d C.ch m = 0) := by
                                              have ea : (C.ch.take m).any (twin (x1, x2, x3)) = false := by
                                                rw [Bool.eq_false_iff]
                                                intro h
                                                obtain ⟨y, hy, ht⟩ := List.any_eq_true.1 h
                                                obtain ⟨j, hj, rfl⟩ := List.getElem_of_mem hy
                                                have hj2 : j < m := by simp at hj; omega
                                                rw [List.getElem_take, Hno2.out j (by omega) hj2] at ht
                                                simp at ht
                                              exact hid (by rw [HQ.out]; simp [HX.out, HY.out, HZ.out, HU.out, ea])
                                            go_wp2
                                            go_roundw
                                            case rel =>
                                              refine ⟨m + 1, by omega, by go_num, below_drewN (btrans hbl hB2) _, fun j hj => ?_⟩
                                              by_cases e : j = m
                                              · subst e; exact HV.out
                                              · exact Hno.out j (by omega)
                                            case measure => simp [intOf]; omega
                              · obtain rfl : k = C.ch.length := by omega
                                have Z5 := hid (chans_0 Hno.out)
                                go_wp2
                                clear Hno Bx hbx hlr hlt hk HH
                                clear g0 g1 g2 g3 g4 g5 g6 g7 g8
                                rename Below _ _ _ => hbl1
                                go_loopw [8] (fun i wr => ∃ k : Nat, k ≤ C.ta.length ∧ i = .int .i64 k ∧ Below W.heap.size W wr ∧ ∀ j, j < k → ckTa C.d (C.ta.getD j (0, 0, 0, 0)) = 0) (fun i _ => C.ta.length - (intOf i).toNat)
                                case atStart => exact ⟨0, Nat.zero_le _, rfl, hbl1, by omega⟩
                                case round =>
                                  clear hbl1
                                  obtain ⟨k, hk, rfl, hbl, hno⟩ := hrel
                                  have Hno := hid hno
                                  have hlr : W.heap.size ≤ wr.heap.size := hbl.size
                                  have Bx := hid (B1.out.keep hbl)
                                  have hbx := Bx.out.lt
                                  clear hno
                                  obtain ⟨g0, g1, g2, g3, g4, g5, g6, g7, g8⟩ := Bx.out
                                  dsimp only at g5 g6 g7 g8
                                  by_cases hlt : k < C.ta.length
                                  · obtain ⟨b', o', rfl, hc1, hc2, hc3, hc4⟩ := HT.out.keep hbl k hlt
                                    have hk1 : (k : Int) < C.ta.length := by omega
                                    have hk0 : (0 : Int) ≤ k := by omega
                                    have HF := hid (fun h => tasks_at (C := C) hlt h Hno.out)
                                    have HG := hid (getD_of C.ta k hlt (0, 0, 0, 0))
                                    generalize hx : C.ta[k] = x at HF HG hc1 hc2 hc3 hc4
                                    clear hx
                                    obtain ⟨x1, x2, x3, x4⟩ := x
                                    dsimp only at hc1 hc2 hc3 hc4
                                    have Hr4 : Hid (RowAt (wr.alloc (.cells #[.int .i64 x1, .int .i64 x2, .int .i64 x3, .int .i64 x4] 108)) wr.heap.size 108 [.int .i64 x1, .int .i64 x2, .int .i64 x3, .int .i64 x4]) := hid (rowAt_new2 wr _ [.int .i64 x1, .int .i64 x2, .int .i64 x3, .int .i64 x4] 108 rfl)
                                    have q2 := below_new wr (.cells #[.int .i64 x1, .int .i64 x2, .int .i64 x3, .int .i64 x4] 108)
                                    go_wp2_with fail
                                    refine (isDomR_any _ _ _ _ _ _ _ _ C.d x1 hd1 hd4 _).mono ?_
                                    rintro e w2 ⟨rfl, hb2⟩
                                    have Hr5 := hid (Hr4.out.below hb2 (Nat.le_refl _))
                                    have hB2 := btrans q2 hb2
                                    clear hb2 q2 Hr4 g0 g1 g2 g3 g4 g5 g6 g7 g8
                                    have d1 := Hr5.out.cell 0 _ rfl
                                    have d2 := Hr5.out.cell 1 _ rfl
                                    have d3 := Hr5.out.cell 2 _ rfl
                                    have d4 := Hr5.out.cell 3 _ rfl
                                    cases hx : isD C.d x1 with
                                    | false =>
                                      have HE0 : ckC C = 5 := by
                                        have e : ckTa C.d (x1, x2, x3, x4) = 5 := by simp [ckTa, hx]
                                        have e2 := HF.out (by rw [e]; decide)
                                        rw [ckC_6 Z0.out Z1.out Z2.out Z3.out Z4.out Z5.out, e2, e]
                                      clear hx
                                      have HE := hid HE0
                                      clear HE0
                                      go_wp2
                                      go_ret
                                      exact ⟨ret_int HE.out.symm, btrans Q1.out (btrans hbl hB2)⟩
                                    | true =>
                                      have HX := hid hx
                                      clear hx
                                      go_wp2_with fail
                                      refine (between_any _ _ _ _).mono ?_
                                      rintro e w' ⟨rfl, rfl⟩
                                      cases hu1 : inR x2 1 5000 with
                                      | false =>
                                        have HE0 : ckC C = 3 := by
                                          have e : ckTa C.d (x1, x2, x3, x4) = 3 := by simp [ckTa, HX.out, hu1]
                                          have e2 := HF.out (by rw [e]; decide)
                                          rw [ckC_6 Z0.out Z1.out Z2.out Z3.out Z4.out Z5.out, e2, e]
                                        clear hu1
                                        have HE := hid HE0
                                        clear HE0
                                        go_wp2
                                        go_ret
                                        exact ⟨ret_int HE.out.symm, btrans Q1.out (btrans hbl hB2)⟩
                                      | true =>
                                        have HU1 := hid hu1
                                        clear hu1
                                        go_wp2_with fail
                                        refine (between_any _ _ _ _).mono ?_
                                        rintro e w' ⟨rfl, rfl⟩
                                        cases hu2 : inR x3 1 x2 with
                                        | false =>
                                          have HE0 : ckC C = 3 := by
                                            have e : ckTa C.d (x1, x2, x3, x4) = 3 := by simp [ckTa, HX.out, HU1.out, hu2]
                                            have e2 := HF.out (by rw [e]; decide)
                                            rw [ckC_6 Z0.out Z1.out Z2.out Z3.out Z4.out Z5.out, e2, e]
                                          clear hu2
                                          have HE := hid HE0
                                          clear HE0
                                          go_wp2
                                          go_ret
                                          exact ⟨ret_int HE.out.symm, btrans Q1.out (btrans hbl hB2)⟩
                                        | true =>
                                          have HU2 := hid hu2
                                          clear hu2
                                          go_wp2_with fail
                                          refine (between_any _ _ _ _).mono ?_
                                          rintro e w' ⟨rfl, rfl⟩
                                          cases hu3 : inR x4 1 x2 with
                                          | false =>
                                            have HE0 : ckC C = 3 := by
                                              have e : ckTa C.d (x1, x2, x3, x4) = 3 := by simp [ckTa, HX.out, HU1.out, HU2.out, hu3]
                                              have e2 := HF.out (by rw [e]; decide)
                                              rw [ckC_6 Z0.out Z1.out Z2.out Z3.out Z4.out Z5.out, e2, e]
                                            clear hu3
                                            have HE := hid HE0
                                            clear HE0
                                            go_wp2
                                            go_ret
                                            exact ⟨ret_int HE.out.symm, btrans Q1.out (btrans hbl hB2)⟩
                                          | true =>
                                            have HU3 := hid hu3
                                            clear hu3
                                            have HY : Hid (ckTa C.d (x1, x2, x3, x4) = 0) := hid (by simp [ckTa, HX.out, HU1.out, HU2.out, HU3.out])
                                            go_wp2
                                            go_roundw
                                            case rel =>
                                              refine ⟨k + 1, by omega, by go_num, btrans hbl hB2, fun j hj => ?_⟩
                                              by_cases e : j = k
                                              · subst e; rw [HG.out]; exact HY.out
                                              · exact Hno.out j (by omega)
                                            case measure => simp [intOf]; omega
                                  · obtain rfl : k = C.ta.length := by omega
                                    have HE0 : ckC C = 0 := by rw [ckC_6 Z0.out Z1.out Z2.out Z3.out Z4.out Z5.out, tasks_0 Hno.out]
                                    have HE := hid HE0
                                    clear HE0
                                    go_wp2
                                    go_ret
                                    exact ⟨ret_int HE.out.symm, btrans Q1.out hbl⟩

end Go.Proofs.Ytaellaconpaejaa
