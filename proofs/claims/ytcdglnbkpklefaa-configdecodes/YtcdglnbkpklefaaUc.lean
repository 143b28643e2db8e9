/- The law: Decode answers just what the document says (given what the document's own answer comes to). -/
import Derived.Test.YtcdglnbkpklefaaSc
set_option linter.unusedVariables false
namespace Go.Proofs.Ytcdglnbkpklefaa
open Go.RowKit

theorem conf_of_decoded {s : ByteArray} {w : World} {K : Nat} (h : Calls Try.prog K #[.string s] w (decoded w s)) : Calls Try.prog K #[.string s] w fun e w' => ∃ A, e = .returned (.tuple #[cv (dec (nums s)).1 A, .int .i64 (dec (nums s)).2.1, .int .i64 (dec (nums s)).2.2]) ∧ ConfIn w' A (dec (nums s)).1 ∧ Below w.heap.size w w' := by
  refine h.mono ?_
  rintro e w' ⟨hb, v, rfl, v5, v6, v7, v8, rfl, hO⟩
  obtain ⟨A, rfl, rfl, rfl, rfl, hC⟩ := hO.conf
  exact ⟨A, rfl, hC, hb⟩

set_option maxRecDepth 100000 in
set_option maxHeartbeats 1000000 in
theorem decodes_of (s : ByteArray) (w : World) (hm : s.size ≤ 9223372036854775807) (hDO : ∀ w, Calls Try.prog 31 #[.string s] w (decoded w s)) :
    Calls Try.prog 6 #[.string s] w fun e w' => e = .returned (.bool true) ∧ Below w.heap.size w w' := by
  have HDO := hid (fun w => conf_of_decoded (hDO w))
  have HDE := hid (fun w => conf_of_decoded (decode_any s w hm))
  clear hDO hm
  generalize (dec (nums s)).2.2 = er at *
  generalize (dec (nums s)).2.1 = n at *
  generalize (dec (nums s)).1 = E at *
  go_enter Try.func6, Try.ntmps6
  go_wp2_with fail
  refine (HDE.out _).mono ?_
  rintro e w1 ⟨A1, rfl, hC1, hb1⟩
  have q1 := below_new w1 (.cells (cl E A1) 46)
  have D1 := hid (hC1.keep q1)
  have Y1 := hid (boxC_new w1 E A1)
  have B1 := hid (btrans hb1 q1)
  clear q1 hb1 hC1 HDE
  obtain ⟨a5, a6, a7, a8, c5, c6, c7, c8⟩ := A1
  dsimp only [cv, cl] at *
  go_wp2_with fail
  refine (HDO.out _).mono ?_
  rintro e w2 ⟨A2, rfl, hC2, hb2⟩
  have q2 := below_new w2 (.cells (cl E A2) 46)
  have D1' := hid (D1.out.keep (btrans hb2 q2))
  have Y1' := hid (Y1.out.keep (btrans hb2 q2))
  have D2 := hid (hC2.keep q2)
  have Y2 := hid (boxC_new w2 E A2)
  have B2 := hid (btrans B1.out (btrans hb2 q2))
  clear q2 hb2 hC2 HDO D1 Y1 B1
  obtain ⟨b5, b6, b7, b8, d5, d6, d7, d8⟩ := A2
  dsimp only [cv, cl] at *
  go_wp2_with fail
  refine (confBegun_any _).mono ?_
  rintro e w3 ⟨rfl, hb3⟩
  have D1b := hid (D1'.out.keep hb3)
  have Y1b := hid (Y1'.out.keep hb3)
  have D2b := hid (D2.out.keep hb3)
  have Y2b := hid (Y2.out.keep hb3)
  have B3 := hid (btrans B2.out hb3)
  clear hb3 D1' Y1' D2 Y2 B2
  obtain ⟨g0, g1, g2, g3, g4, g5, g6, g7, g8⟩ := Y1b.out
  obtain ⟨k0, k1, k2, k3, k4, k5, k6, k7, k8⟩ := Y2b.out
  dsimp only at g5 g6 g7 g8 k5 k6 k7 k8
  go_wp2_with fail
  refine (sameConfig_true E ⟨a5, a6, a7, a8, c5, c6, c7, c8⟩ ⟨b5, b6, b7, b8, d5, d6, d7, d8⟩ _ D1b.out D2b.out).mono ?_
  rintro e w4 ⟨rfl, hb4⟩
  have B4 := hid (btrans B3.out hb4)
  clear hb4 D1b D2b Y1b Y2b B3 g0 g1 g2 g3 g4 g5 g6 g7 g8 k0 k1 k2 k3 k4 k5 k6 k7 k8
  go_wp2
  go_ret
  exact ⟨rfl, B4.out⟩
end Go.Proofs.Ytcdglnbkpklefaa
