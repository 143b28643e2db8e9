/- The law: Check, Encode and Reach answer just what the document says. -/
import Derived.Test.YtfcefkhlbbehcaaSb
import Derived.Test.YtfcefkhlbbehcaaTa
import Derived.Test.YtfcefkhlbbehcaaTc
import Derived.Test.YtfcefkhlbbehcaaTd
set_option linter.unusedVariables false
namespace Go.Proofs.Ytfcefkhlbbehcaa
open Go.RowKit

theorem encA_err' {C : Conf} (h : ckC C ≠ 0) : encA C = .tuple #[.string ⟨#[]⟩, .int .i64 (ckC C)] := by
  rw [encA, if_neg h]

set_option maxRecDepth 100000 in
set_option maxHeartbeats 1000000 in
theorem tells_bad (C : Conf) (A : Mem) (w : World) (hC : ConfIn w A C) (h0 : ckC C ≠ 0) :
    Calls Try.prog 5 #[cv C A] w fun e w' => e = .returned (.bool true) ∧ Below w.heap.size w w' := by
  have q1 := below_new w (.cells (cl C A) 46)
  have H0 := hid (hC.keep q1)
  have X0 := hid (boxC_new w C A)
  have B0 := hid q1
  have HK := hid h0
  clear q1 hC h0
  obtain ⟨a5, a6, a7, a8, c5, c6, c7, c8⟩ := A
  dsimp only [cv, cl] at *
  go_enter Try.func5, Try.ntmps5
  go_wp2_with fail
  refine (encode_any C ⟨a5, a6, a7, a8, c5, c6, c7, c8⟩ _ H0.out).mono ?_
  rintro e w1 ⟨rfl, hb1⟩
  rw [encA_err' HK.out]
  have H1 := hid (H0.out.keep hb1)
  have X1 := hid (X0.out.keep hb1)
  have B1 := hid (btrans B0.out hb1)
  clear hb1 H0 X0 B0
  obtain ⟨g0, g1, g2, g3, g4, g5, g6, g7, g8⟩ := X1.out
  dsimp only at g5 g6 g7 g8
  go_wp2_with fail
  refine (reach_bad C ⟨a5, a6, a7, a8, c5, c6, c7, c8⟩ _ H1.out HK.out).mono ?_
  rintro e w2 ⟨rfl, hb2⟩
  have H2 := hid (H1.out.keep hb2)
  have X2 := hid (X1.out.keep hb2)
  have B2 := hid (btrans B1.out hb2)
  clear hb2 H1 X1 B1 g0 g1 g2 g3 g4 g5 g6 g7 g8
  obtain ⟨g0, g1, g2, g3, g4, g5, g6, g7, g8⟩ := X2.out
  dsimp only at g5 g6 g7 g8
  go_wp2_with fail
  refine (checkRef_any C ⟨a5, a6, a7, a8, c5, c6, c7, c8⟩ _ H2.out).mono ?_
  rintro e w3 ⟨rfl, hb3⟩
  have H3 := hid (H2.out.keep hb3)
  have X3 := hid (X2.out.keep hb3)
  have B3 := hid (btrans B2.out hb3)
  clear hb3 H2 X2 B2 g0 g1 g2 g3 g4 g5 g6 g7 g8
  go_wp2_with fail
  refine (confBegun_any _).mono ?_
  rintro e w4 ⟨rfl, hb4⟩
  have H4 := hid (H3.out.keep hb4)
  have X4 := hid (X3.out.keep hb4)
  have B4 := hid (btrans B3.out hb4)
  clear hb4 H3 X3 B3
  obtain ⟨g0, g1, g2, g3, g4, g5, g6, g7, g8⟩ := X4.out
  dsimp only at g5 g6 g7 g8
  go_wp2_with fail
  refine (checkC_any C ⟨a5, a6, a7, a8, c5, c6, c7, c8⟩ _ H4.out).mono ?_
  rintro e w5 ⟨rfl, hb5⟩
  have B5 := hid (btrans B4.out hb5)
  clear hb5 H4 X4 B4 g0 g1 g2 g3 g4 g5 g6 g7 g8
  have hx : (ckC C != 0) = true := by simp [HK.out]
  clear HK
  generalize ckC C = qc at *
  go_wp2
  go_ret
  exact ⟨rfl, B5.out⟩

set_option maxRecDepth 100000 in
set_option maxHeartbeats 2000000 in
theorem tells_good (C : Conf) (A : Mem) (w : World) (hC : ConfIn w A C) (h0 : ckC C = 0) (D : Nat) (hD : C.d = D) :
    Calls Try.prog 5 #[cv C A] w fun e w' => e = .returned (.bool true) ∧ Below w.heap.size w w' := by
  have HF := hid (fits_of h0)
  have hD4 : D ≤ 4 := by have := HF.out.d; omega
  have q1 := below_new w (.cells (cl C A) 46)
  have H0 := hid (hC.keep q1)
  have X0 := hid (boxC_new w C A)
  have B0 := hid q1
  have HK := hid h0
  have HD := hid hD
  have HRC := hid (fun (wx : World) (h : ConfIn wx A C) => reach_ok C A wx h h0 D hD)
  have HRO := hid (fun (wx : World) (h : ConfIn wx A C) (i k : Nat) (hi : i < D) (hk : k < D) => reachOf_any C A wx h h0 D hD i k hi hk)
  generalize itM C.ch (idM D) D = M at *
  clear q1 hC h0 hD
  obtain ⟨a5, a6, a7, a8, c5, c6, c7, c8⟩ := A
  obtain ⟨cs, cw, cd, cp, cq, csl, cow, cch, cta⟩ := C
  dsimp only [cv, cl] at *
  obtain rfl : cd = (D : Int) := HD.out
  go_enter Try.func5, Try.ntmps5
  go_wp2_with fail
  refine (encode_any ⟨cs, cw, D, cp, cq, csl, cow, cch, cta⟩ ⟨a5, a6, a7, a8, c5, c6, c7, c8⟩ _ H0.out).mono ?_
  rintro e w1 ⟨rfl, hb1⟩
  rw [encA_ok HK.out]
  generalize hbs : bstr (en ⟨cs, cw, D, cp, cq, csl, cow, cch, cta⟩) = bs
  have HBS := hid hbs
  clear hbs
  have H1 := hid (H0.out.keep hb1)
  have X1 := hid (X0.out.keep hb1)
  have B1 := hid (btrans B0.out hb1)
  clear hb1 H0 X0 B0
  obtain ⟨g0, g1, g2, g3, g4, g5, g6, g7, g8⟩ := X1.out
  dsimp only at g0 g1 g2 g3 g4 g5 g6 g7 g8
  go_wp2_with fail
  refine (HRC.out _ H1.out).mono ?_
  rintro e w2 ⟨r, rfl, hM, hr, hb2⟩
  have HM2 := hid hM
  have H2 := hid (H1.out.keep hb2)
  have X2 := hid (X1.out.keep hb2)
  have B2 := hid (btrans B1.out hb2)
  clear hb2 hM H1 X1 B1 HRC g0 g1 g2 g3 g4 g5 g6 g7 g8
  obtain ⟨g0, g1, g2, g3, g4, g5, g6, g7, g8⟩ := X2.out
  dsimp only at g0 g1 g2 g3 g4 g5 g6 g7 g8
  go_wp2_with fail
  refine (checkRef_any ⟨cs, cw, D, cp, cq, csl, cow, cch, cta⟩ ⟨a5, a6, a7, a8, c5, c6, c7, c8⟩ _ H2.out).mono ?_
  rintro e w3 ⟨rfl, hb3⟩
  rw [HK.out]
  have HM3 := hid (HM2.out.below hb3)
  have H3 := hid (H2.out.keep hb3)
  have X3 := hid (X2.out.keep hb3)
  have B3 := hid (btrans B2.out hb3)
  clear hb3 H2 X2 B2 HM2 g0 g1 g2 g3 g4 g5 g6 g7 g8
  go_wp2_with fail
  refine (confBegun_any _).mono ?_
  rintro e w4 ⟨rfl, hb4⟩
  have HM4 := hid (HM3.out.below hb4)
  have H4 := hid (H3.out.keep hb4)
  have X4 := hid (X3.out.keep hb4)
  have B4 := hid (btrans B3.out hb4)
  clear hb4 H3 X3 B3 HM3
  obtain ⟨g0, g1, g2, g3, g4, g5, g6, g7, g8⟩ := X4.out
  dsimp only at g0 g1 g2 g3 g4 g5 g6 g7 g8
  go_wp2_with fail
  refine (checkC_any ⟨cs, cw, D, cp, cq, csl, cow, cch, cta⟩ ⟨a5, a6, a7, a8, c5, c6, c7, c8⟩ _ H4.out).mono ?_
  rintro e w5 ⟨rfl, hb5⟩
  rw [HK.out]
  have HM5 := hid (HM4.out.below hb5)
  have H5 := hid (H4.out.keep hb5)
  have X5 := hid (X4.out.keep hb5)
  have B5 := hid (btrans B4.out hb5)
  clear hb5 H4 X4 B4 HM4 g0 g1 g2 g3 g4 g5 g6 g7 g8
  obtain ⟨g0, g1, g2, g3, g4, g5, g6, g7, g8⟩ := X5.out
  dsimp only at g0 g1 g2 g3 g4 g5 g6 g7 g8
  go_wp2_with fail
  refine (encodeOf_any ⟨cs, cw, D, cp, cq, csl, cow, cch, cta⟩ ⟨a5, a6, a7, a8, c5, c6, c7, c8⟩ _ H5.out HF.out).mono ?_
  rintro e w6 ⟨rfl, hb6⟩
  rw [HBS.out]
  have HM6 := hid (HM5.out.below hb6)
  have H6 := hid (H5.out.keep hb6)
  have X6 := hid (X5.out.keep hb6)
  have B6 := hid (btrans B5.out hb6)
  clear hb6 H5 X5 B5 HM5 g0 g1 g2 g3 g4 g5 g6 g7 g8
  obtain ⟨g0, g1, g2, g3, g4, g5, g6, g7, g8⟩ := X6.out
  dsimp only at g0 g1 g2 g3 g4 g5 g6 g7 g8
  go_wp2
  clear g0 g1 g2 g3 g4 g5 g6 g7 g8
  go_loopw [9] (fun i wr => ∃ n : Nat, n ≤ D ∧ i = .int .i64 n ∧ Below w6.heap.size w6 wr) (fun i _ => D - (intOf i).toNat)
  case atStart => exact ⟨0, Nat.zero_le _, rfl, Below.refl _ _⟩
  case round =>
    obtain ⟨n, hn, rfl, hbl⟩ := hrel
    have HBL := hid hbl
    obtain ⟨g0, g1, g2, g3, g4, g5, g6, g7, g8⟩ := X6.out.keep hbl
    dsimp only at g0 g1 g2 g3 g4 g5 g6 g7 g8
    by_cases hnD : n < D
    · obtain ⟨L, m1, m2, m3⟩ := (HM6.out.below hbl).outer
      have n1 := m1.cell n _ (m3 n hnD)
      have hn1 : (n : Int) < (D : Int) := by omega
      have hn0 : (0 : Int) ≤ (n : Int) := by omega
      clear hbl m1 m2 m3 L
      go_wp2
      go_quiet (fail)
      go_wp2
      clear g0 g1 g2 g3 g4 g5 g6 g7 g8 n1
      have HBL2 := hid (below_drewN HBL.out nq)
      generalize World.drewN _ _ = wq at *
      clear HBL
      go_loopw [10] (fun i wr => ∃ m : Nat, m ≤ D ∧ i = .int .i64 m ∧ Below w6.heap.size w6 wr) (fun i _ => D - (intOf i).toNat)
      case atStart => exact ⟨0, Nat.zero_le _, rfl, HBL2.out⟩
      case round =>
        clear HBL2
        obtain ⟨m, hm, rfl, hbl⟩ := hrel
        have HBL := hid hbl
        have HXm := hid (X6.out.keep hbl)
        obtain ⟨g0, g1, g2, g3, g4, g5, g6, g7, g8⟩ := HXm.out
        dsimp only at g0 g1 g2 g3 g4 g5 g6 g7 g8
        by_cases hmD : m < D
        · obtain ⟨L, m1, m2, m3⟩ := (HM6.out.below hbl).outer
          have n1 := m1.cell n _ (m3 n hnD)
          have hlen := (HM6.out.below hbl).len n hnD
          have n2 := ((HM6.out.below hbl).rows n hnD).cell m (.bool ((M n).getD m false)) (by simp [hlen, hmD])
          have HCm := hid (H6.out.keep hbl)
          have hm1 : (m : Int) < (D : Int) := by omega
          have hm0 : (0 : Int) ≤ (m : Int) := by omega
          have HROm := hid (fun (wx : World) (h : ConfIn wx ⟨a5, a6, a7, a8, c5, c6, c7, c8⟩ ⟨cs, cw, D, cp, cq, csl, cow, cch, cta⟩) => HRO.out wx h n m hnD hmD)
          generalize (M n).getD m false = bb at *
          clear hbl m1 m2 m3 L hlen
          have hbz : Below wr.heap.size wr wr.drew := (Below.refl _ _).drew
          have HK2 : Hid (∀ w', Below wr.heap.size wr w' → w'.cell? ⟨w.heap.size, 0, none⟩ = some (.int .i64 cs) ∧ w'.cell? ⟨w.heap.size, 1, none⟩ = some (.int .i64 cw) ∧ w'.cell? ⟨w.heap.size, 2, none⟩ = some (.int .i64 D) ∧ w'.cell? ⟨w.heap.size, 3, none⟩ = some (.int .i64 cp) ∧ w'.cell? ⟨w.heap.size, 4, none⟩ = some (.int .i64 cq) ∧ w'.cell? ⟨w.heap.size, 5, none⟩ = some (.slice a5 csl.length c5) ∧ w'.cell? ⟨w.heap.size, 6, none⟩ = some (.slice a6 cow.length c6) ∧ w'.cell? ⟨w.heap.size, 7, none⟩ = some (.slice a7 cch.length c7) ∧ w'.cell? ⟨w.heap.size, 8, none⟩ = some (.slice a8 cta.length c8) ∧ w'.cell? ⟨r, n, none⟩ = some (.slice (some ⟨r + 1 + n, 0, none⟩) D D) ∧ w'.cell? ⟨r + 1 + n, m, none⟩ = some (.bool bb)) := hid fun w' hb => ⟨bkeep hb g0 (Nat.le_refl _), bkeep hb g1 (Nat.le_refl _), bkeep hb g2 (Nat.le_refl _), bkeep hb g3 (Nat.le_refl _), bkeep hb g4 (Nat.le_refl _), bkeep hb g5 (Nat.le_refl _), bkeep hb g6 (Nat.le_refl _), bkeep hb g7 (Nat.le_refl _), bkeep hb g8 (Nat.le_refl _), bkeep hb n1 (Nat.le_refl _), bkeep hb n2 (Nat.le_refl _)⟩
          go_wp2_with fail
          go_region_held3 (fun w' => w'.cell? ⟨w.heap.size, 0, none⟩ = some (.int .i64 cs) ∧ w'.cell? ⟨w.heap.size, 1, none⟩ = some (.int .i64 cw) ∧ w'.cell? ⟨w.heap.size, 2, none⟩ = some (.int .i64 D) ∧ w'.cell? ⟨w.heap.size, 3, none⟩ = some (.int .i64 cp) ∧ w'.cell? ⟨w.heap.size, 4, none⟩ = some (.int .i64 cq) ∧ w'.cell? ⟨w.heap.size, 5, none⟩ = some (.slice a5 csl.length c5) ∧ w'.cell? ⟨w.heap.size, 6, none⟩ = some (.slice a6 cow.length c6) ∧ w'.cell? ⟨w.heap.size, 7, none⟩ = some (.slice a7 cch.length c7) ∧ w'.cell? ⟨w.heap.size, 8, none⟩ = some (.slice a8 cta.length c8) ∧ w'.cell? ⟨r, n, none⟩ = some (.slice (some ⟨r + 1 + n, 0, none⟩) D D) ∧ w'.cell? ⟨r + 1 + n, m, none⟩ = some (.bool bb))
            (first | exact HK2.out _ hB7 | exact HK2.out _ hbz | assumption | go_keep)
            (first
              | (go_at_call 24; refine (HROm.out _ (HCm.out.keep hbz)).mono ?_; rintro e w7 ⟨rfl, hb7⟩; have hB7 := btrans hbz hb7))
          have HBn := hid (btrans HBL.out hB7)
          clear HK2 hb7 g0 g1 g2 g3 g4 g5 g6 g7 g8 n1 n2 HCm HROm HXm
          go_wp2
          go_roundw
          case rel => exact ⟨m + 1, by omega, by go_num, HBn.out⟩
          case measure => simp [intOf]; omega
        · obtain rfl : m = D := by omega
          go_wp2
          go_roundw
          case rel => exact ⟨n + 1, by omega, by go_num, HBL.out⟩
          case measure => simp [intOf]; omega
    · obtain rfl : n = D := by omega
      go_wp2
      go_ret
      exact ⟨rfl, btrans B6.out HBL.out⟩

theorem tells_any (C : Conf) (A : Mem) (w : World) (hC : ConfIn w A C) :
    Calls Try.prog 5 #[cv C A] w fun e w' => e = .returned (.bool true) ∧ Below w.heap.size w w' := by
  by_cases h0 : ckC C = 0
  · have hF := fits_of h0
    exact tells_good C A w hC h0 C.d.toNat (by have := hF.d; omega)
  · exact tells_bad C A w hC h0
end Go.Proofs.Ytfcefkhlbbehcaa
