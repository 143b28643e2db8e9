/- Walks: what must be in any case, of configs. -/
import Derived.Test.YtaellaconpaejaaSa
import Derived.Test.YtaellaconpaejaaPc
set_option linter.unusedVariables false
namespace Go.Proofs.Ytaellaconpaejaa
open Go.RowKit

/-- A config of one domain, with one task. -/
def oneC : Conf := ⟨1, 1, 1, 10, 4, [(0, 100)], [], [], [(0, 50, 40, 30)]⟩

theorem one_ck : ckC oneC = 0 := by decide

set_option maxRecDepth 100000 in
set_option maxHeartbeats 1000000 in
theorem oneV_any (w : World) : Calls Try.prog 79 #[] w fun e w' => ∃ A, e = .returned (cv oneC A) ∧ ConfIn w' A oneC ∧ Below w.heap.size w w' := by
  go_enter Try.func79, Try.ntmps79
  go_wp2
  have R1 : RowAt (((w.alloc (.cells #[.int .i64 1, .int .i64 1, .int .i64 1, .int .i64 10, .int .i64 4, .slice (some ⟨w.heap.size + 1, 0, none⟩) 1 1, .slice none 0 0, .slice none 0 0, .slice (some ⟨w.heap.size + 1 + 1, 0, none⟩) 1 1] 46)).alloc (.cells #[.int .i64 0, .int .i64 100] 114)).alloc (.cells #[.int .i64 0, .int .i64 50, .int .i64 40, .int .i64 30] 108)) (w.heap.size + 1) 114 [.int .i64 0, .int .i64 100] := (rowAt_new2 _ _ [.int .i64 0, .int .i64 100] 114 (by simp)).alloc _
  have R2 : RowAt (((w.alloc (.cells #[.int .i64 1, .int .i64 1, .int .i64 1, .int .i64 10, .int .i64 4, .slice (some ⟨w.heap.size + 1, 0, none⟩) 1 1, .slice none 0 0, .slice none 0 0, .slice (some ⟨w.heap.size + 1 + 1, 0, none⟩) 1 1] 46)).alloc (.cells #[.int .i64 0, .int .i64 100] 114)).alloc (.cells #[.int .i64 0, .int .i64 50, .int .i64 40, .int .i64 30] 108)) (w.heap.size + 1 + 1) 108 [.int .i64 0, .int .i64 50, .int .i64 40, .int .i64 30] := rowAt_new2 _ _ [.int .i64 0, .int .i64 50, .int .i64 40, .int .i64 30] 108 (by simp)
  refine bodyPost_ret (v := cv oneC ⟨some ⟨w.heap.size + 1, 0, none⟩, none, none, some ⟨w.heap.size + 1 + 1, 0, none⟩, 1, 0, 0, 1⟩) (by simp [results, Try.results79, go_sem, oneC]) rfl ⟨_, rfl, ?_, (((Below.refl _ _).alloc (Nat.le_refl _) _).alloc (by simp) _).alloc (by simp; omega) _⟩
  refine ⟨fun i hi => ?_, fun i hi => absurd hi (by simp [oneC]), fun i hi => absurd hi (by simp [oneC]), fun i hi => ?_, by simp [oneC], by simp [oneC], by simp [oneC], by simp [oneC], by simp [oneC]⟩
  · obtain rfl : i = 0 := by simp [oneC] at hi; exact hi
    exact ⟨_, _, rfl, R1.cell 0 _ rfl, R1.cell 1 _ rfl⟩
  · obtain rfl : i = 0 := by simp [oneC] at hi; exact hi
    exact ⟨_, _, rfl, R2.cell 0 _ rfl, R2.cell 1 _ rfl, R2.cell 2 _ rfl, R2.cell 3 _ rfl⟩

theorem encA_ok {C : Conf} (h : ckC C = 0) : encA C = .tuple #[.string (bstr (en C)), .int .i64 0] := by
  rw [encA, if_pos h, h]

theorem dec_bstr {C : Conf} (h : ckC C = 0) : dec (nums (bstr (en C))) = (C, 0, 0) := by
  rw [nums_bstr _ (en_bytes (fits_of h)), dec_en h]

theorem bstr_size {C : Conf} (h : ckC C = 0) : (bstr (en C)).size ≤ 200 := by
  have hF := fits_of h
  have e : (bstr (en C)).size = (en C).length := by rw [← nums_len, nums_bstr _ (en_bytes hF)]
  have l5 := hF.l5
  have l6 := hF.l6
  have l7 := hF.l7
  have l8 := hF.l8
  rw [e, en_len]; omega

/-- A config in memory that was decoded. -/
theorem decode_ok (C : Conf) (h : ckC C = 0) (w : World) : Calls Try.prog 31 #[.string (bstr (en C))] w fun e w' => ∃ A, e = .returned (.tuple #[cv C A, .int .i64 0, .int .i64 0]) ∧ ConfIn w' A C ∧ Below w.heap.size w w' := by
  refine (decode_any _ w (by have := bstr_size h; omega)).mono ?_
  rintro e w' ⟨hb, v, rfl, v5, v6, v7, v8, rfl, hO⟩
  rw [dec_bstr h] at hO ⊢
  obtain ⟨A, rfl, rfl, rfl, rfl, hC⟩ := hO.conf
  exact ⟨A, rfl, hC, hb⟩

set_option maxRecDepth 100000 in
set_option maxHeartbeats 1000000 in
theorem confBegun_any (w : World) : Calls Try.prog 27 #[] w fun e w' => e = .returned (.bool true) ∧ Below w.heap.size w w' := by
  have HONE := hid oneV_any
  have HCK := hid one_ck
  have HD1 : Hid (oneC.d = (1 : Nat)) := hid rfl
  have HM1 : Hid (itM oneC.ch (idM 1) 1 0 = [true]) := hid rfl
  generalize oneC = C at *
  go_enter Try.func27, Try.ntmps27
  go_wp2_with fail
  refine (HONE.out _).mono ?_
  rintro e w1 ⟨A1, rfl, hC1, hb1⟩
  have H1 := hid hC1
  have B1 := hid hb1
  clear hC1 hb1
  go_wp2_with fail
  refine (encode_any C A1 _ H1.out).mono ?_
  rintro e w2 ⟨rfl, hb2⟩
  have B2 := hid (btrans B1.out hb2)
  clear hb2 H1 B1
  rw [encA_ok HCK.out]
  go_wp2_with fail
  refine (decode_ok C HCK.out _).mono ?_
  rintro e w3 ⟨A3, rfl, hC3, hb3⟩
  have B3 := hid ((btrans B2.out hb3).alloc (btrans B2.out hb3).size (.cells (cl C A3) 46))
  have H3 := hid (hC3.keep (below_new w3 (.cells (cl C A3) 46)))
  have X3 := hid (boxC_new w3 C A3)
  clear B2 hb3 hC3
  obtain ⟨a5, a6, a7, a8, c5, c6, c7, c8⟩ := A3
  dsimp only [cv, cl] at *
  go_wp2_with fail
  refine (HONE.out _).mono ?_
  rintro e w4 ⟨A4, rfl, hC4, hb4⟩
  have B4 := hid (btrans B3.out hb4)
  have H4 := hid hC4
  have D4 := hid (H3.out.keep hb4)
  have X4 := hid (X3.out.keep hb4)
  clear B3 H3 X3 hC4 hb4
  go_wp2_with fail
  refine (reach_ok C A4 _ H4.out HCK.out 1 HD1.out).mono ?_
  rintro e w5 ⟨r, rfl, hM, hr, hb5⟩
  have B5 := hid (btrans B4.out hb5)
  have D5 := hid (D4.out.keep hb5)
  have X5 := hid (X4.out.keep hb5)
  obtain ⟨L, m1, m2, m3⟩ := hM.outer
  have m4 := hM.rows 0 (by omega)
  rw [HM1.out] at m4
  have n1 := m1.cell 0 _ (m3 0 (by omega))
  have n2 := m4.cell 0 _ rfl
  clear B4 H4 D4 X4 hM hb5 m1 m2 m3 m4 L
  obtain ⟨g0, g1, g2, g3, g4, g5, g6, g7, g8⟩ := X5.out
  dsimp only at g5 g6 g7 g8
  have hbz : Below w5.heap.size w5 w5.drew := (Below.refl _ _).drew
  have HS : Hid (∀ w', Below w5.heap.size w5 w' → w'.cell? ⟨w3.heap.size, 0, none⟩ = some (.int .i64 C.s) ∧ w'.cell? ⟨w3.heap.size, 1, none⟩ = some (.int .i64 C.w) ∧ w'.cell? ⟨w3.heap.size, 2, none⟩ = some (.int .i64 C.d) ∧ w'.cell? ⟨w3.heap.size, 3, none⟩ = some (.int .i64 C.p) ∧ w'.cell? ⟨w3.heap.size, 4, none⟩ = some (.int .i64 C.q) ∧ w'.cell? ⟨w3.heap.size, 5, none⟩ = some (.slice a5 C.sl.length c5) ∧ w'.cell? ⟨w3.heap.size, 6, none⟩ = some (.slice a6 C.ow.length c6) ∧ w'.cell? ⟨w3.heap.size, 7, none⟩ = some (.slice a7 C.ch.length c7) ∧ w'.cell? ⟨w3.heap.size, 8, none⟩ = some (.slice a8 C.ta.length c8) ∧ w'.cell? ⟨r, 0, none⟩ = some (.slice (some ⟨r + 1 + 0, 0, none⟩) 1 1) ∧ w'.cell? ⟨r + 1 + 0, 0, none⟩ = some (.bool true)) := hid fun w' hb => ⟨bkeep hb g0 (Nat.le_refl _), bkeep hb g1 (Nat.le_refl _), bkeep hb g2 (Nat.le_refl _), bkeep hb g3 (Nat.le_refl _), bkeep hb g4 (Nat.le_refl _), bkeep hb g5 (Nat.le_refl _), bkeep hb g6 (Nat.le_refl _), bkeep hb g7 (Nat.le_refl _), bkeep hb g8 (Nat.le_refl _), bkeep hb n1 (Nat.le_refl _), bkeep hb n2 (Nat.le_refl _)⟩
  go_wp2_with fail
  go_region_held3 (fun w' => w'.cell? ⟨w3.heap.size, 0, none⟩ = some (.int .i64 C.s) ∧ w'.cell? ⟨w3.heap.size, 1, none⟩ = some (.int .i64 C.w) ∧ w'.cell? ⟨w3.heap.size, 2, none⟩ = some (.int .i64 C.d) ∧ w'.cell? ⟨w3.heap.size, 3, none⟩ = some (.int .i64 C.p) ∧ w'.cell? ⟨w3.heap.size, 4, none⟩ = some (.int .i64 C.q) ∧ w'.cell? ⟨w3.heap.size, 5, none⟩ = some (.slice a5 C.sl.length c5) ∧ w'.cell? ⟨w3.heap.size, 6, none⟩ = some (.slice a6 C.ow.length c6) ∧ w'.cell? ⟨w3.heap.size, 7, none⟩ = some (.slice a7 C.ch.length c7) ∧ w'.cell? ⟨w3.heap.size, 8, none⟩ = some (.slice a8 C.ta.length c8) ∧ w'.cell? ⟨r, 0, none⟩ = some (.slice (some ⟨r + 1 + 0, 0, none⟩) 1 1) ∧ w'.cell? ⟨r + 1 + 0, 0, none⟩ = some (.bool true))
    (first | exact HS.out _ hB9 | exact HS.out _ hB8 | exact HS.out _ hB7 | exact HS.out _ hB6 | exact HS.out _ hbz | assumption | go_keep)
    (first
      | (go_at_call 79; refine (HONE.out _).mono ?_; rintro e w6 ⟨A6, rfl, hC6, hb6⟩; have hB6 := btrans hbz hb6)
      | (go_at_call 79; refine (HONE.out _).mono ?_; rintro e w8 ⟨A8, rfl, hC8, hb8⟩; have hB8 := btrans hB7 hb8)
      | (go_at_call 28; refine (checkC_any C A6 _ hC6).mono ?_; rintro e w7 ⟨rfl, hb7⟩; have hB7 := btrans hB6 hb7; rw [HCK.out])
      | (go_at_call 33; refine (sameConfig_true C ⟨a5, a6, a7, a8, c5, c6, c7, c8⟩ A8 _ (D5.out.keep hB8) hC8).mono ?_; rintro e w9 ⟨rfl, hb9⟩; have hB9 := btrans hB8 hb9))
  clear HS hB8 hB7 hB6 g0 g1 g2 g3 g4 g5 g6 g7 g8 n1 n2
  go_wp2
  go_ret
  exact ⟨rfl, btrans B5.out hB9⟩
end Go.Proofs.Ytaellaconpaejaa
