/- Walks: the law TurnStarts. Made by geneg.py. -/
import Derived.Test.YtaellaconpaejaaEf
set_option linter.unusedVariables false
namespace Go.Proofs.Ytaellaconpaejaa
open Go.RowKit

theorem ckRS_0 {C : Conf} (h0 : ckC C = 0) {r s : Int} (h1 : inR r 0 8 = true) (h2 : inR s 0 ((C.sl.length : Int) - 1) = true) : ckRS C r s = 0 := by simp [ckRS, h0, h1, h2]
theorem startV_ok {C : Conf} (h0 : ckC C = 0) {r s : Int} (h1 : inR r 0 8 = true) (h2 : inR s 0 ((C.sl.length : Int) - 1) = true) : startV C r s = .tuple #[.int .i64 (startI C r s), .int .i64 0] := by
  simp [startV, ckRS_0 h0 h1 h2]

set_option maxRecDepth 100000 in
set_option maxHeartbeats 2000000 in
theorem starts_a (C : Conf) (B : Mem) (r s : Int) (w : World) (hC : ConfIn w B C) (hc5 : C.sl.length ≤ B.c5) (h0 : ckC C ≠ 0) :
    Calls Try.prog 13 #[cv C B, .int .i64 r, .int .i64 s] w fun e w' => e = .returned (.bool true) ∧ Below w.heap.size w w' := by
  have q1 := below_new w (.cells (cl C B) 46)
  have HC := hid (hC.keep q1)
  have HX := hid (boxC_new w C B)
  have HB := hid q1
  have HC5 := hid hc5
  have HLV : Hid (lenV C = .tuple #[.int .i64 0, .int .i64 (ckC C)]) := hid (by simp [lenV, h0])
  have HSV : Hid (startV C r s = .tuple #[.int .i64 0, .int .i64 (ckC C)]) := hid (by simp [startV, ckRS, h0])
  have hx : (ckC C == 0) = false := by simp [h0]
  have hy : (ckC C != 0) = true := by simp [h0]
  clear h0
  clear q1 hC hc5
  obtain ⟨a5, a6, a7, a8, c5, c6, c7, c8⟩ := B
  dsimp only [cv, cl] at *
  go_enter Try.func13, Try.ntmps13
  obtain ⟨g0, g1, g2, g3, g4, g5, g6, g7, g8⟩ := HX.out
  go_wp2_with fail
  refine (length_any C ⟨a5, a6, a7, a8, c5, c6, c7, c8⟩ _ HC.out).mono ?_
  rintro e w1 ⟨rfl, hb1⟩
  rw [HLV.out]
  generalize World.alloc w _ = W at *
  clear g0 g1 g2 g3 g4 g5 g6 g7 g8
  obtain ⟨g0, g1, g2, g3, g4, g5, g6, g7, g8⟩ := HX.out.keep hb1
  go_wp2_with fail
  refine (start_any C ⟨a5, a6, a7, a8, c5, c6, c7, c8⟩ r s _ (HC.out.keep hb1) HC5.out).mono ?_
  rintro e w2 ⟨rfl, hb2⟩
  rw [HSV.out]
  have HB2 := hid (btrans hb1 hb2)
  clear g0 g1 g2 g3 g4 g5 g6 g7 g8 hb1 hb2
  obtain ⟨g0, g1, g2, g3, g4, g5, g6, g7, g8⟩ := HX.out.keep HB2.out
  go_wp2_with fail
  refine (checkRef_any C ⟨a5, a6, a7, a8, c5, c6, c7, c8⟩ _ (HC.out.keep HB2.out)).mono ?_
  rintro e w3 ⟨rfl, hb3⟩
  have HB3 := hid (btrans HB2.out hb3)
  clear g0 g1 g2 g3 g4 g5 g6 g7 g8 hb3 HB2
  obtain ⟨g0, g1, g2, g3, g4, g5, g6, g7, g8⟩ := HX.out.keep HB3.out
  generalize ckC C = q at *
  go_wp2_with fail
  refine (turnBegun_any _).mono ?_
  rintro e w6 ⟨rfl, hb6⟩
  have HB6 := hid (btrans HB3.out hb6)
  clear hb6
  go_wp2
  go_ret
  exact ⟨rfl, btrans HB.out HB6.out⟩

set_option maxRecDepth 100000 in
set_option maxHeartbeats 2000000 in
theorem starts_b (C : Conf) (B : Mem) (r s : Int) (w : World) (hC : ConfIn w B C) (hc5 : C.sl.length ≤ B.c5) (h0 : ckC C = 0) (h1 : inR r 0 8 = false) :
    Calls Try.prog 13 #[cv C B, .int .i64 r, .int .i64 s] w fun e w' => e = .returned (.bool true) ∧ Below w.heap.size w w' := by
  have q1 := below_new w (.cells (cl C B) 46)
  have HC := hid (hC.keep q1)
  have HX := hid (boxC_new w C B)
  have HB := hid q1
  have HC5 := hid hc5
  have HLV : Hid (lenV C = .tuple #[.int .i64 (sumS C.sl), .int .i64 0]) := hid (by simp [lenV, h0])
  have HSV : Hid (startV C r s = .tuple #[.int .i64 0, .int .i64 3]) := hid (by simp [startV, ckRS, h0, h1])
  have H0 := hid h0
  have HS := hid (small_of h0).1
  have hn1 := (small_of h0).2
  have hn6 := (small_of h0).1.1
  clear h0
  clear q1 hC hc5
  obtain ⟨a5, a6, a7, a8, c5, c6, c7, c8⟩ := B
  dsimp only [cv, cl] at *
  go_enter Try.func13, Try.ntmps13
  obtain ⟨g0, g1, g2, g3, g4, g5, g6, g7, g8⟩ := HX.out
  go_wp2_with fail
  refine (length_any C ⟨a5, a6, a7, a8, c5, c6, c7, c8⟩ _ HC.out).mono ?_
  rintro e w1 ⟨rfl, hb1⟩
  rw [HLV.out]
  generalize World.alloc w _ = W at *
  clear g0 g1 g2 g3 g4 g5 g6 g7 g8
  obtain ⟨g0, g1, g2, g3, g4, g5, g6, g7, g8⟩ := HX.out.keep hb1
  go_wp2_with fail
  refine (start_any C ⟨a5, a6, a7, a8, c5, c6, c7, c8⟩ r s _ (HC.out.keep hb1) HC5.out).mono ?_
  rintro e w2 ⟨rfl, hb2⟩
  rw [HSV.out]
  have HB2 := hid (btrans hb1 hb2)
  clear g0 g1 g2 g3 g4 g5 g6 g7 g8 hb1 hb2
  obtain ⟨g0, g1, g2, g3, g4, g5, g6, g7, g8⟩ := HX.out.keep HB2.out
  go_wp2_with fail
  refine (checkRef_any C ⟨a5, a6, a7, a8, c5, c6, c7, c8⟩ _ (HC.out.keep HB2.out)).mono ?_
  rintro e w3 ⟨rfl, hb3⟩
  have HB3 := hid (btrans HB2.out hb3)
  clear g0 g1 g2 g3 g4 g5 g6 g7 g8 hb3 HB2
  obtain ⟨g0, g1, g2, g3, g4, g5, g6, g7, g8⟩ := HX.out.keep HB3.out
  rw [H0.out]
  go_wp2_with fail
  refine (roundOf_any C ⟨a5, a6, a7, a8, c5, c6, c7, c8⟩ _ (HC.out.keep HB3.out) HS.out).mono ?_
  rintro e w4 ⟨rfl, hb4⟩
  have HB4 := hid (btrans HB3.out hb4)
  clear g0 g1 g2 g3 g4 g5 g6 g7 g8 hb4 HB3
  obtain ⟨g0, g1, g2, g3, g4, g5, g6, g7, g8⟩ := HX.out.keep HB4.out
  simp [inR] at h1
  generalize sumS C.sl = q at *
  by_cases hr : r < 0
  · go_wp2_with fail
    refine (turnBegun_any _).mono ?_
    rintro e w6 ⟨rfl, hb6⟩
    have HB6 := hid (btrans HB4.out hb6)
    clear hb6
    go_wp2
    go_ret
    exact ⟨rfl, btrans HB.out HB6.out⟩
  · have hr2 : r > 8 := by omega
    go_wp2_with fail
    refine (turnBegun_any _).mono ?_
    rintro e w6 ⟨rfl, hb6⟩
    have HB6 := hid (btrans HB4.out hb6)
    clear hb6
    go_wp2
    go_ret
    exact ⟨rfl, btrans HB.out HB6.out⟩

set_option maxRecDepth 100000 in
set_option maxHeartbeats 2000000 in
theorem starts_c (C : Conf) (B : Mem) (r s : Int) (w : World) (hC : ConfIn w B C) (hc5 : C.sl.length ≤ B.c5) (h0 : ckC C = 0) (h1 : inR r 0 8 = true) (h2 : inR s 0 ((C.sl.length : Int) - 1) = false) :
    Calls Try.prog 13 #[cv C B, .int .i64 r, .int .i64 s] w fun e w' => e = .returned (.bool true) ∧ Below w.heap.size w w' := by
  have q1 := below_new w (.cells (cl C B) 46)
  have HC := hid (hC.keep q1)
  have HX := hid (boxC_new w C B)
  have HB := hid q1
  have HC5 := hid hc5
  have HLV : Hid (lenV C = .tuple #[.int .i64 (sumS C.sl), .int .i64 0]) := hid (by simp [lenV, h0])
  have HSV : Hid (startV C r s = .tuple #[.int .i64 0, .int .i64 5]) := hid (by simp [startV, ckRS, h0, h1, h2])
  have H0 := hid h0
  have HS := hid (small_of h0).1
  have hn1 := (small_of h0).2
  have hn6 := (small_of h0).1.1
  clear h0
  clear q1 hC hc5
  obtain ⟨a5, a6, a7, a8, c5, c6, c7, c8⟩ := B
  dsimp only [cv, cl] at *
  go_enter Try.func13, Try.ntmps13
  obtain ⟨g0, g1, g2, g3, g4, g5, g6, g7, g8⟩ := HX.out
  go_wp2_with fail
  refine (length_any C ⟨a5, a6, a7, a8, c5, c6, c7, c8⟩ _ HC.out).mono ?_
  rintro e w1 ⟨rfl, hb1⟩
  rw [HLV.out]
  generalize World.alloc w _ = W at *
  clear g0 g1 g2 g3 g4 g5 g6 g7 g8
  obtain ⟨g0, g1, g2, g3, g4, g5, g6, g7, g8⟩ := HX.out.keep hb1
  go_wp2_with fail
  refine (start_any C ⟨a5, a6, a7, a8, c5, c6, c7, c8⟩ r s _ (HC.out.keep hb1) HC5.out).mono ?_
  rintro e w2 ⟨rfl, hb2⟩
  rw [HSV.out]
  have HB2 := hid (btrans hb1 hb2)
  clear g0 g1 g2 g3 g4 g5 g6 g7 g8 hb1 hb2
  obtain ⟨g0, g1, g2, g3, g4, g5, g6, g7, g8⟩ := HX.out.keep HB2.out
  go_wp2_with fail
  refine (checkRef_any C ⟨a5, a6, a7, a8, c5, c6, c7, c8⟩ _ (HC.out.keep HB2.out)).mono ?_
  rintro e w3 ⟨rfl, hb3⟩
  have HB3 := hid (btrans HB2.out hb3)
  clear g0 g1 g2 g3 g4 g5 g6 g7 g8 hb3 HB2
  obtain ⟨g0, g1, g2, g3, g4, g5, g6, g7, g8⟩ := HX.out.keep HB3.out
  rw [H0.out]
  go_wp2_with fail
  refine (roundOf_any C ⟨a5, a6, a7, a8, c5, c6, c7, c8⟩ _ (HC.out.keep HB3.out) HS.out).mono ?_
  rintro e w4 ⟨rfl, hb4⟩
  have HB4 := hid (btrans HB3.out hb4)
  clear g0 g1 g2 g3 g4 g5 g6 g7 g8 hb4 HB3
  obtain ⟨g0, g1, g2, g3, g4, g5, g6, g7, g8⟩ := HX.out.keep HB4.out
  simp [inR] at h1 h2
  have n1 : ¬ r < 0 := by omega
  have n2 : ¬ r > 8 := by omega
  generalize sumS C.sl = q at *
  by_cases hr : s < 0
  · go_wp2_with fail
    refine (turnBegun_any _).mono ?_
    rintro e w6 ⟨rfl, hb6⟩
    have HB6 := hid (btrans HB4.out hb6)
    clear hb6
    go_wp2
    go_ret
    exact ⟨rfl, btrans HB.out HB6.out⟩
  · have hr2 : s ≥ (C.sl.length : Int) := by omega
    go_wp2_with fail
    refine (turnBegun_any _).mono ?_
    rintro e w6 ⟨rfl, hb6⟩
    have HB6 := hid (btrans HB4.out hb6)
    clear hb6
    go_wp2
    go_ret
    exact ⟨rfl, btrans HB.out HB6.out⟩

set_option maxRecDepth 100000 in
set_option maxHeartbeats 2000000 in
theorem starts_d (C : Conf) (B : Mem) (r s : Int) (w : World) (hC : ConfIn w B C) (hc5 : C.sl.length ≤ B.c5) (h0 : ckC C = 0) (h1 : inR r 0 8 = true) (h2 : inR s 0 ((C.sl.length : Int) - 1) = true) :
    Calls Try.prog 13 #[cv C B, .int .i64 r, .int .i64 s] w fun e w' => e = .returned (.bool true) ∧ Below w.heap.size w w' := by
  have q1 := below_new w (.cells (cl C B) 46)
  have HC := hid (hC.keep q1)
  have HX := hid (boxC_new w C B)
  have HB := hid q1
  have HC5 := hid hc5
  have HLV : Hid (lenV C = .tuple #[.int .i64 (sumS C.sl), .int .i64 0]) := hid (by simp [lenV, h0])
  have HSV : Hid (startV C r s = .tuple #[.int .i64 (startI C r s), .int .i64 0]) := hid (by exact startV_ok h0 h1 h2)
  have H0 := hid h0
  have HS := hid (small_of h0).1
  have hn1 := (small_of h0).2
  have hn6 := (small_of h0).1.1
  clear h0
  clear q1 hC hc5
  obtain ⟨a5, a6, a7, a8, c5, c6, c7, c8⟩ := B
  dsimp only [cv, cl] at *
  go_enter Try.func13, Try.ntmps13
  obtain ⟨g0, g1, g2, g3, g4, g5, g6, g7, g8⟩ := HX.out
  go_wp2_with fail
  refine (length_any C ⟨a5, a6, a7, a8, c5, c6, c7, c8⟩ _ HC.out).mono ?_
  rintro e w1 ⟨rfl, hb1⟩
  rw [HLV.out]
  generalize World.alloc w _ = W at *
  clear g0 g1 g2 g3 g4 g5 g6 g7 g8
  obtain ⟨g0, g1, g2, g3, g4, g5, g6, g7, g8⟩ := HX.out.keep hb1
  go_wp2_with fail
  refine (start_any C ⟨a5, a6, a7, a8, c5, c6, c7, c8⟩ r s _ (HC.out.keep hb1) HC5.out).mono ?_
  rintro e w2 ⟨rfl, hb2⟩
  rw [HSV.out]
  have HB2 := hid (btrans hb1 hb2)
  clear g0 g1 g2 g3 g4 g5 g6 g7 g8 hb1 hb2
  obtain ⟨g0, g1, g2, g3, g4, g5, g6, g7, g8⟩ := HX.out.keep HB2.out
  go_wp2_with fail
  refine (checkRef_any C ⟨a5, a6, a7, a8, c5, c6, c7, c8⟩ _ (HC.out.keep HB2.out)).mono ?_
  rintro e w3 ⟨rfl, hb3⟩
  have HB3 := hid (btrans HB2.out hb3)
  clear g0 g1 g2 g3 g4 g5 g6 g7 g8 hb3 HB2
  obtain ⟨g0, g1, g2, g3, g4, g5, g6, g7, g8⟩ := HX.out.keep HB3.out
  rw [H0.out]
  go_wp2_with fail
  refine (roundOf_any C ⟨a5, a6, a7, a8, c5, c6, c7, c8⟩ _ (HC.out.keep HB3.out) HS.out).mono ?_
  rintro e w4 ⟨rfl, hb4⟩
  have HB4 := hid (btrans HB3.out hb4)
  clear g0 g1 g2 g3 g4 g5 g6 g7 g8 hb4 HB3
  obtain ⟨g0, g1, g2, g3, g4, g5, g6, g7, g8⟩ := HX.out.keep HB4.out
  simp [inR] at h1 h2
  obtain ⟨k, rfl⟩ : ∃ k : Nat, s = k := ⟨s.toNat, by omega⟩
  have hk : k < C.sl.length := by omega
  have n1 : ¬ r < 0 := by omega
  have n2 : ¬ r > 8 := by omega
  have n3 : ¬ (k : Int) < 0 := by omega
  have n4 : ¬ (k : Int) ≥ C.sl.length := by omega
  go_wp2_with fail
  refine (startOf_any C ⟨a5, a6, a7, a8, c5, c6, c7, c8⟩ r k _ (HC.out.keep HB4.out) HS.out (by omega) (by omega) hk).mono ?_
  rintro e w5 ⟨rfl, hb5⟩
  have HB5 := hid (btrans HB4.out hb5)
  clear g0 g1 g2 g3 g4 g5 g6 g7 g8 hb5 HB4
  generalize hst : startI C r k = st at *
  have HST := hid hst
  clear hst
  go_wp2_with fail
  refine (turnBegun_any _).mono ?_
  rintro e w6 ⟨rfl, hb6⟩
  have HB6 := hid (btrans HB5.out hb6)
  clear hb6 HB5
  obtain ⟨g0, g1, g2, g3, g4, g5, g6, g7, g8⟩ := HX.out.keep HB6.out
  by_cases h8 : r = 8
  · subst h8
    go_wp2
    go_ret
    exact ⟨rfl, btrans HB.out HB6.out⟩
  · have hr8 : (r == 8) = false := by simp [h8]
    go_wp2
    have HS6 : Hid (∀ w', Below w6.heap.size w6 w' → w'.cell? ⟨w.heap.size, 0, none⟩ = some (.int .i64 C.s) ∧ w'.cell? ⟨w.heap.size, 1, none⟩ = some (.int .i64 C.w) ∧ w'.cell? ⟨w.heap.size, 2, none⟩ = some (.int .i64 C.d) ∧ w'.cell? ⟨w.heap.size, 3, none⟩ = some (.int .i64 C.p) ∧ w'.cell? ⟨w.heap.size, 4, none⟩ = some (.int .i64 C.q) ∧ w'.cell? ⟨w.heap.size, 5, none⟩ = some (.slice a5 C.sl.length c5) ∧ w'.cell? ⟨w.heap.size, 6, none⟩ = some (.slice a6 C.ow.length c6) ∧ w'.cell? ⟨w.heap.size, 7, none⟩ = some (.slice a7 C.ch.length c7) ∧ w'.cell? ⟨w.heap.size, 8, none⟩ = some (.slice a8 C.ta.length c8)) := hid fun w' hb => by
      obtain ⟨x0, x1, x2, x3, x4, x5, x6, x7, x8⟩ := HX.out.keep (btrans HB6.out hb)
      exact ⟨x0, x1, x2, x3, x4, x5, x6, x7, x8⟩
    have hz1 : ¬ C.sl.length = 0 := by omega
    have hz2 : ¬ C.sl = [] := by intro e; rw [e] at hz1; exact hz1 rfl
    have hk0 : (0 : Int) ≤ (k : Int) := by omega
    have hkn : (k : Int) < (C.sl.length : Int) := by omega
    have hw1 : IntKind.i64.wrap ((k : Int) + 1) = (k : Int) + 1 := by rw [IntKind.wrap_i64]; omega
    have hb1 := start_wrap HS.out r (by omega) (by omega) (k + 1) (by omega)
    have hsk := HS.out.2 k hk
    have hst2 : st = r * sumS C.sl + sumS (C.sl.take k) := by rw [← HST.out]; simp [startI]
    have hsk1 := sumS_take C.sl k hk
    have hws : wrap64 (st + C.sl[k].2) = st + C.sl[k].2 := by rw [hst2]; unfold wrap64; omega
    have HHB := hid hb1
    have HSK := hid hsk
    have HST2 := hid hst2
    have HSK1 := hid hsk1
    clear g0 g1 g2 g3 g4 g5 g6 g7 g8 hb1 hsk hst2 hsk1
    by_cases hlast : k + 1 < C.sl.length
    · have HLAST := hid hlast
      have hq : ((k : Int) + 1).tdiv (C.sl.length : Int) = 0 := Int.tdiv_eq_zero_of_lt (by omega) (by omega)
      have hm : ((k : Int) + 1).tmod (C.sl.length : Int) = (k : Int) + 1 := Int.tmod_eq_of_lt (by omega) (by omega)
      have W0 : Hid (IntKind.i64.wrap (r + IntKind.i64.wrap 0) = r) := hid (by simp only [IntKind.wrap_i64]; omega)
      clear hlast
      have HSN : Hid (startV C (r) ((k : Int) + 1) = .tuple #[.int .i64 (st + C.sl[k].2), .int .i64 0]) := hid (by
        rw [startV_ok H0.out (by simp [inR]; omega) (by have := HLAST.out; simp [inR]; omega)]
        have e1 : startI C r ((k : Int) + 1) = r * sumS C.sl + sumS (C.sl.take (k + 1)) := by
          unfold startI
          rw [show ((k : Int) + 1).toNat = k + 1 by omega]
        rw [e1, HSK1.out, HST2.out]
        simp [Int.add_assoc])
      have hB : Below w6.heap.size w6 w6.drew := (Below.refl _ _).drew
      go_region_held3 (fun w' => w'.cell? ⟨w.heap.size, 0, none⟩ = some (.int .i64 C.s) ∧ w'.cell? ⟨w.heap.size, 1, none⟩ = some (.int .i64 C.w) ∧ w'.cell? ⟨w.heap.size, 2, none⟩ = some (.int .i64 C.d) ∧ w'.cell? ⟨w.heap.size, 3, none⟩ = some (.int .i64 C.p) ∧ w'.cell? ⟨w.heap.size, 4, none⟩ = some (.int .i64 C.q) ∧ w'.cell? ⟨w.heap.size, 5, none⟩ = some (.slice a5 C.sl.length c5) ∧ w'.cell? ⟨w.heap.size, 6, none⟩ = some (.slice a6 C.ow.length c6) ∧ w'.cell? ⟨w.heap.size, 7, none⟩ = some (.slice a7 C.ch.length c7) ∧ w'.cell? ⟨w.heap.size, 8, none⟩ = some (.slice a8 C.ta.length c8))
        (first | exact HS6.out _ hB | go_keep)
        (first | (go_at_call 64; rw [W0.out]; refine (start_any C ⟨a5, a6, a7, a8, c5, c6, c7, c8⟩ (r) ((k : Int) + 1) _ (HC.out.keep (btrans HB6.out hB)) HC5.out).mono ?_; rintro e w9 ⟨rfl, hb9⟩; have hB := btrans hB hb9; rw [HSN.out]))
      obtain ⟨x0, x1, x2, x3, x4, x5, x6, x7, x8⟩ := HX.out.keep (btrans HB6.out hB)
      obtain ⟨b', o', e', v0, v1⟩ := (HC.out.keep (btrans HB6.out hB)).sl k hk
      dsimp only at e'
      subst e'
      have HF := hid (btrans HB.out (btrans HB6.out hB))
      clear hB
      go_wp2
      go_ret
      exact ⟨rfl, HF.out⟩
    · have HLAST : Hid (k + 1 = C.sl.length) := hid (by omega)
      have hq : ((k : Int) + 1).tdiv (C.sl.length : Int) = 1 := by rw [show (k : Int) + 1 = (C.sl.length : Int) by omega]; exact Int.tdiv_self (by omega)
      have hm : ((k : Int) + 1).tmod (C.sl.length : Int) = 0 := by rw [show (k : Int) + 1 = (C.sl.length : Int) by omega]; exact Int.tmod_self
      have W0 : Hid (IntKind.i64.wrap (r + IntKind.i64.wrap 1) = r + 1) := hid (by simp only [IntKind.wrap_i64]; omega)
      have W2 : Hid (IntKind.i64.wrap 0 = 0) := hid (by simp only [IntKind.wrap_i64]; omega)
      clear hlast
      have HSN : Hid (startV C (r + 1) (0) = .tuple #[.int .i64 (st + C.sl[k].2), .int .i64 0]) := hid (by
        rw [startV_ok H0.out (by simp [inR]; omega) (by simp [inR]; omega)]
        have e1 : startI C (r + 1) 0 = (r + 1) * sumS C.sl := by simp [startI, sumS]
        have e2 : sumS C.sl = sumS (C.sl.take k) + C.sl[k].2 := by
          have := HSK1.out
          rw [HLAST.out, List.take_length] at this
          exact this
        rw [e1, HST2.out, Int.add_mul, Int.one_mul]
        simp only [Value.tuple.injEq]
        have e3 : r * sumS C.sl + sumS C.sl = r * sumS C.sl + sumS (C.sl.take k) + C.sl[k].2 := by omega
        rw [e3])
      have hB : Below w6.heap.size w6 w6.drew := (Below.refl _ _).drew
      go_region_held3 (fun w' => w'.cell? ⟨w.heap.size, 0, none⟩ = some (.int .i64 C.s) ∧ w'.cell? ⟨w.heap.size, 1, none⟩ = some (.int .i64 C.w) ∧ w'.cell? ⟨w.heap.size, 2, none⟩ = some (.int .i64 C.d) ∧ w'.cell? ⟨w.heap.size, 3, none⟩ = some (.int .i64 C.p) ∧ w'.cell? ⟨w.heap.size, 4, none⟩ = some (.int .i64 C.q) ∧ w'.cell? ⟨w.heap.size, 5, none⟩ = some (.slice a5 C.sl.length c5) ∧ w'.cell? ⟨w.heap.size, 6, none⟩ = some (.slice a6 C.ow.length c6) ∧ w'.cell? ⟨w.heap.size, 7, none⟩ = some (.slice a7 C.ch.length c7) ∧ w'.cell? ⟨w.heap.size, 8, none⟩ = some (.slice a8 C.ta.length c8))
        (first | exact HS6.out _ hB | go_keep)
        (first | (go_at_call 64; rw [W0.out]; (try rw [W2.out]); refine (start_any C ⟨a5, a6, a7, a8, c5, c6, c7, c8⟩ (r + 1) (0) _ (HC.out.keep (btrans HB6.out hB)) HC5.out).mono ?_; rintro e w9 ⟨rfl, hb9⟩; have hB := btrans hB hb9; rw [HSN.out]))
      obtain ⟨x0, x1, x2, x3, x4, x5, x6, x7, x8⟩ := HX.out.keep (btrans HB6.out hB)
      obtain ⟨b', o', e', v0, v1⟩ := (HC.out.keep (btrans HB6.out hB)).sl k hk
      dsimp only at e'
      subst e'
      have HF := hid (btrans HB.out (btrans HB6.out hB))
      clear hB
      go_wp2
      go_ret
      exact ⟨rfl, HF.out⟩


end Go.Proofs.Ytaellaconpaejaa
