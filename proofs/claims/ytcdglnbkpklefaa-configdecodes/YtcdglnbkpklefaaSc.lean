/- The law: what is encoded is decoded as it was, and nothing else is. -/
import Derived.Test.YtcdglnbkpklefaaSb
set_option linter.unusedVariables false
namespace Go.Proofs.Ytcdglnbkpklefaa
open Go.RowKit

theorem encA_err {C : Conf} (h : ckC C ≠ 0) : encA C = .tuple #[.string ⟨#[]⟩, .int .i64 (ckC C)] := by
  rw [encA, if_neg h]

/-- What Decode answers, as a config in memory. -/
theorem decode_conf (s : ByteArray) (hm : s.size ≤ 9223372036854775807) (w : World) : Calls Try.prog 30 #[.string s] w fun e w' => ∃ A, e = .returned (.tuple #[cv (dec (nums s)).1 A, .int .i64 (dec (nums s)).2.1, .int .i64 (dec (nums s)).2.2]) ∧ ConfIn w' A (dec (nums s)).1 ∧ Below w.heap.size w w' := by
  refine (decode_any _ w hm).mono ?_
  rintro e w' ⟨hb, v, rfl, v5, v6, v7, v8, rfl, hO⟩
  obtain ⟨A, rfl, rfl, rfl, rfl, hC⟩ := hO.conf
  exact ⟨A, rfl, hC, hb⟩

set_option maxRecDepth 100000 in
set_option maxHeartbeats 1000000 in
/-- The second half: whatever bytes. -/
theorem back_any (C : Conf) (A : Mem) (s : ByteArray) (w : World) (hC : ConfIn w A C) (hm : s.size ≤ 9223372036854775807) :
    Calls Try.prog 7 #[cv C A, .string s] w fun e w' => e = .returned (.bool true) ∧ Below w.heap.size w w' := by
  have q1 := below_new w (.cells (cl C A) 46)
  have H0 := hid (hC.keep q1)
  have X0 := hid (boxC_new w C A)
  have B0 := hid q1
  clear q1 hC
  obtain ⟨a5, a6, a7, a8, c5, c6, c7, c8⟩ := A
  dsimp only [cv, cl] at *
  go_enter Try.func7, Try.ntmps7
  go_wp2_with fail
  refine (confBegun_any _).mono ?_
  rintro e w1 ⟨rfl, hb1⟩
  have H1 := hid (H0.out.keep hb1)
  have X1 := hid (X0.out.keep hb1)
  have B1 := hid (btrans B0.out hb1)
  clear hb1 H0 X0 B0
  obtain ⟨g0, g1, g2, g3, g4, g5, g6, g7, g8⟩ := X1.out
  dsimp only at g5 g6 g7 g8
  go_wp2_with fail
  refine (encode_any C ⟨a5, a6, a7, a8, c5, c6, c7, c8⟩ _ H1.out).mono ?_
  rintro e w2 ⟨rfl, hb2⟩
  have H2 := hid (H1.out.keep hb2)
  have X2 := hid (X1.out.keep hb2)
  have B2 := hid (btrans B1.out hb2)
  clear hb2 H1 X1 B1 g0 g1 g2 g3 g4 g5 g6 g7 g8
  by_cases h0 : ckC C = 0
  · rw [encA_ok h0]
    have HK := hid h0
    have hsz := bstr_size h0
    clear h0
    go_wp2_with fail
    refine (decode_ok C HK.out _).mono ?_
    rintro e w3 ⟨A3, rfl, hC3, hb3⟩
    have q3 := below_new w3 (.cells (cl C A3) 46)
    have H3 := hid (H2.out.keep (btrans hb3 q3))
    have X3 := hid (X2.out.keep (btrans hb3 q3))
    have Y3 := hid (boxC_new w3 C A3)
    have D3 := hid (hC3.keep q3)
    have B3 := hid (btrans B2.out (btrans hb3 q3))
    clear hb3 q3 H2 X2 B2 hC3
    obtain ⟨b5, b6, b7, b8, d5, d6, d7, d8⟩ := A3
    dsimp only [cv, cl] at *
    obtain ⟨g0, g1, g2, g3, g4, g5, g6, g7, g8⟩ := X3.out
    dsimp only at g5 g6 g7 g8
    go_wp2_with fail
    refine (sameConfig_true C ⟨a5, a6, a7, a8, c5, c6, c7, c8⟩ ⟨b5, b6, b7, b8, d5, d6, d7, d8⟩ _ H3.out D3.out).mono ?_
    rintro e w4 ⟨rfl, hb4⟩
    have B4 := hid (btrans B3.out hb4)
    clear hb4 H3 X3 Y3 D3 B3 g0 g1 g2 g3 g4 g5 g6 g7 g8
    go_wp2_with fail
    have BB := hid B4.out
    clear B4
    refine (decode_conf s hm _).mono ?_
    rintro e w5 ⟨A5, rfl, hC5, hb5⟩
    have HD0 := hid (@dec_back s)
    have HD1 := hid (@dec_err s)
    have B5 := hid (btrans BB.out hb5)
    clear BB hb5
    generalize (dec (nums s)).2.2 = er at *
    generalize (dec (nums s)).2.1 = n at *
    generalize (dec (nums s)).1 = E at *
    have q5 := below_new w5 (.cells (cl E A5) 46)
    have D5 := hid (hC5.keep q5)
    have Y5 := hid (boxC_new w5 E A5)
    have B6 := hid (btrans B5.out q5)
    clear q5 B5 hC5
    obtain ⟨e5, e6, e7, e8, f5, f6, f7, f8⟩ := A5
    dsimp only [cv, cl] at *
    by_cases h2 : er = 0
    · subst h2
      obtain ⟨hk, hback⟩ := HD0.out rfl
      have HK5 := hid hk
      have HBK := hid hback
      clear hk hback HD0 HD1
      go_wp2_with fail
      refine (encode_any E ⟨e5, e6, e7, e8, f5, f6, f7, f8⟩ _ D5.out).mono ?_
      rintro e w6 ⟨rfl, hb6⟩
      have B7 := hid (btrans B6.out hb6)
      rw [encA_ok HK5.out, HBK.out]
      clear hb6 B6 D5 Y5
      go_wp2
      go_ret
      exact ⟨rfl, B7.out⟩
    · obtain rfl := HD1.out h2
      have hx : (er != 0) = true := by simp [h2]
      clear h2 HD0 HD1
      have z2 : zeroC.d = 0 := rfl
      go_wp2
      go_ret
      exact ⟨rfl, B6.out⟩
  · rw [encA_err h0]
    have hx : (ckC C == 0) = false := by simp [h0]
    clear h0
    generalize ckC C = qc at *
    go_wp2_with fail
    have BB := hid B2.out
    clear B2 H2 X2
    refine (decode_conf s hm _).mono ?_
    rintro e w5 ⟨A5, rfl, hC5, hb5⟩
    have HD0 := hid (@dec_back s)
    have HD1 := hid (@dec_err s)
    have B5 := hid (btrans BB.out hb5)
    clear BB hb5
    generalize (dec (nums s)).2.2 = er at *
    generalize (dec (nums s)).2.1 = n at *
    generalize (dec (nums s)).1 = E at *
    have q5 := below_new w5 (.cells (cl E A5) 46)
    have D5 := hid (hC5.keep q5)
    have Y5 := hid (boxC_new w5 E A5)
    have B6 := hid (btrans B5.out q5)
    clear q5 B5 hC5
    obtain ⟨e5, e6, e7, e8, f5, f6, f7, f8⟩ := A5
    dsimp only [cv, cl] at *
    by_cases h2 : er = 0
    · subst h2
      obtain ⟨hk, hback⟩ := HD0.out rfl
      have HK5 := hid hk
      have HBK := hid hback
      clear hk hback HD0 HD1
      go_wp2_with fail
      refine (encode_any E ⟨e5, e6, e7, e8, f5, f6, f7, f8⟩ _ D5.out).mono ?_
      rintro e w6 ⟨rfl, hb6⟩
      have B7 := hid (btrans B6.out hb6)
      rw [encA_ok HK5.out, HBK.out]
      clear hb6 B6 D5 Y5
      go_wp2
      go_ret
      exact ⟨rfl, B7.out⟩
    · obtain rfl := HD1.out h2
      have hx9 : (er != 0) = true := by simp [h2]
      clear h2 HD0 HD1
      have z2 : zeroC.d = 0 := rfl
      go_wp2
      go_ret
      exact ⟨rfl, B6.out⟩
end Go.Proofs.Ytcdglnbkpklefaa
