/- Walks: Decode. -/
import Derived.Test.YtaellaconpaejaaQf
set_option linter.unusedVariables false
namespace Go.Proofs.Ytaellaconpaejaa
open Go.RowKit

theorem isConf_zero (base : Nat) (w : World) : isConf base zeroC zeroV w :=
  ⟨_, _, _, _, rfl, World.ownsRow_nil _ _ _ _, World.ownsRow_nil _ _ _ _, World.ownsRow_nil _ _ _ _, World.ownsRow_nil _ _ _ _⟩

/-- What Decode comes to. -/
def decoded (w : World) (s : ByteArray) (e : Ending) (w' : World) : Prop :=
  Below w.heap.size w w' ∧ ∃ v, e = .returned (.tuple #[v, .int .i64 (dec (nums s)).2.1, .int .i64 (dec (nums s)).2.2]) ∧ isConf w.heap.size (dec (nums s)).1 v w'

set_option maxRecDepth 100000 in
set_option maxHeartbeats 1000000 in
theorem decode_long (s : ByteArray) (w : World) (hs : 200 < s.size) (hm : s.size ≤ 9223372036854775807) : Calls Try.prog 31 #[.string s] w (decoded w s) := by
  have HD : Hid (dec (nums s) = (zeroC, 0, 2)) := hid (by rw [dec, if_pos (by rw [nums_len]; exact hs)])
  have R0 : Hid (RowAt (w.alloc (.cells #[.int .i64 0, .int .i64 0, .int .i64 0, .int .i64 0, .int .i64 0, .slice none 0 0, .slice none 0 0, .slice none 0 0, .slice none 0 0] 46)) w.heap.size 46 zero9) := hid (rowAt_new2 w _ zero9 46 rfl)
  have B0 := hid (below_new w (.cells #[.int .i64 0, .int .i64 0, .int .i64 0, .int .i64 0, .int .i64 0, .slice none 0 0, .slice none 0 0, .slice none 0 0, .slice none 0 0] 46))
  go_enter Try.func31, Try.ntmps31
  go_wp2
  have d0 := R0.out.cell 0 _ rfl
  have d1 := R0.out.cell 1 _ rfl
  have d2 := R0.out.cell 2 _ rfl
  have d3 := R0.out.cell 3 _ rfl
  have d4 := R0.out.cell 4 _ rfl
  have d5 := R0.out.cell 5 _ rfl
  have d6 := R0.out.cell 6 _ rfl
  have d7 := R0.out.cell 7 _ rfl
  have d8 := R0.out.cell 8 _ rfl
  refine bodyPost_ret (v := .tuple #[zeroV, .int .i64 0, .int .i64 2]) (by simp [results, Try.results31, go_sem]) rfl ⟨B0.out, zeroV, by rw [HD.out]; rfl, by rw [HD.out]; exact isConf_zero _ _⟩

set_option maxRecDepth 100000 in
set_option maxHeartbeats 1000000 in
theorem decode_short (s : ByteArray) (w : World) (hs : s.size ≤ 200) : Calls Try.prog 31 #[.string s] w (decoded w s) := by
  have HD : Hid (dec (nums s) = decR (pConf (nums s))) := hid (by rw [dec, if_neg (by rw [nums_len]; omega)])
  have R0 : Hid (RowAt (w.alloc (.cells #[.int .i64 0, .int .i64 0, .int .i64 0, .int .i64 0, .int .i64 0, .slice none 0 0, .slice none 0 0, .slice none 0 0, .slice none 0 0] 46)) w.heap.size 46 zero9) := hid (rowAt_new2 w _ zero9 46 rfl)
  have B0 := hid (below_new w (.cells #[.int .i64 0, .int .i64 0, .int .i64 0, .int .i64 0, .int .i64 0, .slice none 0 0, .slice none 0 0, .slice none 0 0, .slice none 0 0] 46))
  go_enter Try.func31, Try.ntmps31
  go_wp2_with fail
  refine (parse_any s _ hs).mono ?_
  rintro e w1 ⟨hb, ⟨C, k, v, hp, rfl, ⟨v5, v6, v7, v8, rfl, hO⟩⟩ | ⟨n, hp, rfl⟩⟩
  · obtain ⟨A, rfl, rfl, rfl, rfl, hC⟩ := hO.conf
    have HC := hid (hC.keep (below_new w1 (.cells (cl C A) 46)))
    have HO := hid (hO.below (below_new w1 (.cells (cl C A) 46)))
    have R1 := hid ((R0.out.below hb (Nat.le_refl _)).alloc (.cells (cl C A) 46))
    have B1 := hid ((btrans B0.out hb).alloc (by have := hb.size; simp at this; omega) (.cells (cl C A) 46))
    have HX := hid (boxC_new w1 C A)
    have hl1 : w.heap.size < w1.heap.size := by have := hb.size; simp at this; omega
    rw [hp] at HD
    clear hb hp hO hC R0 B0
    obtain ⟨a5, a6, a7, a8, c5, c6, c7, c8⟩ := A
    dsimp only [cl, cv] at *
    go_wp2_with fail
    refine (checkC_any C ⟨a5, a6, a7, a8, c5, c6, c7, c8⟩ _ HC.out).mono ?_
    rintro e w2 ⟨rfl, hb2⟩
    have R2 := hid (R1.out.below hb2 (Nat.le_refl _))
    have B2 := hid (B1.out.trans (hb2.mono (by simp; omega)))
    have HO2 := hid (HO.out.below hb2)
    have HX2 := hid (HX.out.keep hb2)
    have hl2 := HX2.out.lt
    clear hb2 R1 B1 HO HX HC
    obtain ⟨g0, g1, g2, g3, g4, g5, g6, g7, g8⟩ := HX2.out
    dsimp only at g5 g6 g7 g8
    have x0 := R2.out.cell 0 _ rfl
    have y0 := R2.out.frozen 0
    have x1 := R2.out.cell 1 _ rfl
    have y1 := R2.out.frozen 1
    have x2 := R2.out.cell 2 _ rfl
    have y2 := R2.out.frozen 2
    have x3 := R2.out.cell 3 _ rfl
    have y3 := R2.out.frozen 3
    have x4 := R2.out.cell 4 _ rfl
    have y4 := R2.out.frozen 4
    have x5 := R2.out.cell 5 _ rfl
    have y5 := R2.out.frozen 5
    have x6 := R2.out.cell 6 _ rfl
    have y6 := R2.out.frozen 6
    have x7 := R2.out.cell 7 _ rfl
    have y7 := R2.out.frozen 7
    have x8 := R2.out.cell 8 _ rfl
    have y8 := R2.out.frozen 8
    by_cases h0 : ckC C = 0
    · have HE : Hid (dec (nums s) = (C, 0, 0)) := hid (by rw [HD.out, decR, if_pos h0])
      rw [h0]
      clear h0 HD
      have R3 := hid ((((((((((R2.out.setCell 0 (.int .i64 C.s)).setCell 1 (.int .i64 C.w)).setCell 2 (.int .i64 C.d)).setCell 3 (.int .i64 C.p)).setCell 4 (.int .i64 C.q)).setCell 5 (.slice a5 C.sl.length c5)).setCell 6 (.slice a6 C.ow.length c6)).setCell 7 (.slice a7 C.ch.length c7)).setCell 8 (.slice a8 C.ta.length c8)))
      have B3 := hid ((((((((((B2.out.setCell (p := ⟨w.heap.size, 0, none⟩) (Nat.le_refl _) (.int .i64 C.s)).setCell (p := ⟨w.heap.size, 1, none⟩) (Nat.le_refl _) (.int .i64 C.w)).setCell (p := ⟨w.heap.size, 2, none⟩) (Nat.le_refl _) (.int .i64 C.d)).setCell (p := ⟨w.heap.size, 3, none⟩) (Nat.le_refl _) (.int .i64 C.p)).setCell (p := ⟨w.heap.size, 4, none⟩) (Nat.le_refl _) (.int .i64 C.q)).setCell (p := ⟨w.heap.size, 5, none⟩) (Nat.le_refl _) (.slice a5 C.sl.length c5)).setCell (p := ⟨w.heap.size, 6, none⟩) (Nat.le_refl _) (.slice a6 C.ow.length c6)).setCell (p := ⟨w.heap.size, 7, none⟩) (Nat.le_refl _) (.slice a7 C.ch.length c7)).setCell (p := ⟨w.heap.size, 8, none⟩) (Nat.le_refl _) (.slice a8 C.ta.length c8)))
      have O3 := hid ((((((((((HO2.out.set 0 (.int .i64 C.s) (b := w.heap.size) (by simp)).set 1 (.int .i64 C.w) (b := w.heap.size) (by simp)).set 2 (.int .i64 C.d) (b := w.heap.size) (by simp)).set 3 (.int .i64 C.p) (b := w.heap.size) (by simp)).set 4 (.int .i64 C.q) (b := w.heap.size) (by simp)).set 5 (.slice a5 C.sl.length c5) (b := w.heap.size) (by simp)).set 6 (.slice a6 C.ow.length c6) (b := w.heap.size) (by simp)).set 7 (.slice a7 C.ch.length c7) (b := w.heap.size) (by simp)).set 8 (.slice a8 C.ta.length c8) (b := w.heap.size) (by simp)).mono (base' := w.heap.size) (by simp))
      clear R2 B2 HO2 HX2
      go_wp2
      have d0 := R3.out.cell 0 _ rfl
      have d1 := R3.out.cell 1 _ rfl
      have d2 := R3.out.cell 2 _ rfl
      have d3 := R3.out.cell 3 _ rfl
      have d4 := R3.out.cell 4 _ rfl
      have d5 := R3.out.cell 5 _ rfl
      have d6 := R3.out.cell 6 _ rfl
      have d7 := R3.out.cell 7 _ rfl
      have d8 := R3.out.cell 8 _ rfl
      refine bodyPost_ret (v := .tuple #[.agg #[(.int .i64 C.s), (.int .i64 C.w), (.int .i64 C.d), (.int .i64 C.p), (.int .i64 C.q), (.slice a5 C.sl.length c5), (.slice a6 C.ow.length c6), (.slice a7 C.ch.length c7), (.slice a8 C.ta.length c8)], .int .i64 0, .int .i64 0]) (by simp [results, Try.results31, go_sem, d0, d1, d2, d3, d4, d5, d6, d7, d8]) rfl ⟨B3.out, _, by rw [HE.out]; rfl, by rw [HE.out]; exact ⟨_, _, _, _, rfl, O3.out⟩⟩
    · have HE : Hid (dec (nums s) = (zeroC, 0, ckC C)) := hid (by rw [HD.out, decR, if_neg h0])
      have hx' : (ckC C != 0) = true := by simp [h0]
      clear h0 HD
      generalize hq : ckC C = q at *
      clear hq
      have R3 := hid ((((((((((R2.out.setCell 0 (.int .i64 0)).setCell 1 (.int .i64 0)).setCell 2 (.int .i64 0)).setCell 3 (.int .i64 0)).setCell 4 (.int .i64 0)).setCell 5 (.slice none 0 0)).setCell 6 (.slice none 0 0)).setCell 7 (.slice none 0 0)).setCell 8 (.slice none 0 0)))
      have B3 := hid ((((((((((B2.out.setCell (p := ⟨w.heap.size, 0, none⟩) (Nat.le_refl _) (.int .i64 0)).setCell (p := ⟨w.heap.size, 1, none⟩) (Nat.le_refl _) (.int .i64 0)).setCell (p := ⟨w.heap.size, 2, none⟩) (Nat.le_refl _) (.int .i64 0)).setCell (p := ⟨w.heap.size, 3, none⟩) (Nat.le_refl _) (.int .i64 0)).setCell (p := ⟨w.heap.size, 4, none⟩) (Nat.le_refl _) (.int .i64 0)).setCell (p := ⟨w.heap.size, 5, none⟩) (Nat.le_refl _) (.slice none 0 0)).setCell (p := ⟨w.heap.size, 6, none⟩) (Nat.le_refl _) (.slice none 0 0)).setCell (p := ⟨w.heap.size, 7, none⟩) (Nat.le_refl _) (.slice none 0 0)).setCell (p := ⟨w.heap.size, 8, none⟩) (Nat.le_refl _) (.slice none 0 0)))
      clear R2 B2 HO2 HX2
      go_wp2
      have d0 := R3.out.cell 0 _ rfl
      have d1 := R3.out.cell 1 _ rfl
      have d2 := R3.out.cell 2 _ rfl
      have d3 := R3.out.cell 3 _ rfl
      have d4 := R3.out.cell 4 _ rfl
      have d5 := R3.out.cell 5 _ rfl
      have d6 := R3.out.cell 6 _ rfl
      have d7 := R3.out.cell 7 _ rfl
      have d8 := R3.out.cell 8 _ rfl
      refine bodyPost_ret (v := .tuple #[zeroV, .int .i64 0, .int .i64 q]) (by simp [results, Try.results31, go_sem, d0, d1, d2, d3, d4, d5, d6, d7, d8]) rfl ⟨B3.out, zeroV, by rw [HE.out]; rfl, by rw [HE.out]; exact isConf_zero _ _⟩
  · have R1 := hid ((R0.out.below hb (Nat.le_refl _)).alloc (.cells #[.int .i64 0, .int .i64 0, .int .i64 0, .int .i64 0, .int .i64 0, .slice none 0 0, .slice none 0 0, .slice none 0 0, .slice none 0 0] 46))
    have B1 := hid ((btrans B0.out hb).alloc (by have := hb.size; simp at this; omega) (.cells #[.int .i64 0, .int .i64 0, .int .i64 0, .int .i64 0, .int .i64 0, .slice none 0 0, .slice none 0 0, .slice none 0 0, .slice none 0 0] 46))
    have hl1 : w.heap.size < w1.heap.size := by have := hb.size; simp at this; omega
    have RR := (R0.out.below hb (Nat.le_refl _))
    have BB := hid (btrans B0.out hb)
    have HE : Hid (dec (nums s) = (zeroC, n, 1)) := hid (by rw [HD.out, hp]; rfl)
    have x0 := RR.cell 0 _ rfl
    have y0 := RR.frozen 0
    have x1 := RR.cell 1 _ rfl
    have y1 := RR.frozen 1
    have x2 := RR.cell 2 _ rfl
    have y2 := RR.frozen 2
    have x3 := RR.cell 3 _ rfl
    have y3 := RR.frozen 3
    have x4 := RR.cell 4 _ rfl
    have y4 := RR.frozen 4
    have x5 := RR.cell 5 _ rfl
    have y5 := RR.frozen 5
    have x6 := RR.cell 6 _ rfl
    have y6 := RR.frozen 6
    have x7 := RR.cell 7 _ rfl
    have y7 := RR.frozen 7
    have x8 := RR.cell 8 _ rfl
    have y8 := RR.frozen 8
    clear hb hp R0 B0 HD
    have R3 := hid ((((((((((RR.setCell 0 (.int .i64 0)).setCell 1 (.int .i64 0)).setCell 2 (.int .i64 0)).setCell 3 (.int .i64 0)).setCell 4 (.int .i64 0)).setCell 5 (.slice none 0 0)).setCell 6 (.slice none 0 0)).setCell 7 (.slice none 0 0)).setCell 8 (.slice none 0 0)).alloc (.cells #[.int .i64 0, .int .i64 0, .int .i64 0, .int .i64 0, .int .i64 0, .slice none 0 0, .slice none 0 0, .slice none 0 0, .slice none 0 0] 46))
    have B3 := hid ((((((((((BB.out.setCell (p := ⟨w.heap.size, 0, none⟩) (Nat.le_refl _) (.int .i64 0)).setCell (p := ⟨w.heap.size, 1, none⟩) (Nat.le_refl _) (.int .i64 0)).setCell (p := ⟨w.heap.size, 2, none⟩) (Nat.le_refl _) (.int .i64 0)).setCell (p := ⟨w.heap.size, 3, none⟩) (Nat.le_refl _) (.int .i64 0)).setCell (p := ⟨w.heap.size, 4, none⟩) (Nat.le_refl _) (.int .i64 0)).setCell (p := ⟨w.heap.size, 5, none⟩) (Nat.le_refl _) (.slice none 0 0)).setCell (p := ⟨w.heap.size, 6, none⟩) (Nat.le_refl _) (.slice none 0 0)).setCell (p := ⟨w.heap.size, 7, none⟩) (Nat.le_refl _) (.slice none 0 0)).setCell (p := ⟨w.heap.size, 8, none⟩) (Nat.le_refl _) (.slice none 0 0)).alloc (by simp [World.setCell]; omega) (.cells #[.int .i64 0, .int .i64 0, .int .i64 0, .int .i64 0, .int .i64 0, .slice none 0 0, .slice none 0 0, .slice none 0 0, .slice none 0 0] 46))
    clear RR R1 B1 BB
    go_wp2
    have d0 := R3.out.cell 0 _ rfl
    have d1 := R3.out.cell 1 _ rfl
    have d2 := R3.out.cell 2 _ rfl
    have d3 := R3.out.cell 3 _ rfl
    have d4 := R3.out.cell 4 _ rfl
    have d5 := R3.out.cell 5 _ rfl
    have d6 := R3.out.cell 6 _ rfl
    have d7 := R3.out.cell 7 _ rfl
    have d8 := R3.out.cell 8 _ rfl
    refine bodyPost_ret (v := .tuple #[zeroV, .int .i64 n, .int .i64 1]) (by simp [results, Try.results31, go_sem, d0, d1, d2, d3, d4, d5, d6, d7, d8]) rfl ⟨B3.out, zeroV, by rw [HE.out], by rw [HE.out]; exact isConf_zero _ _⟩

theorem decode_any (s : ByteArray) (w : World) (hm : s.size ≤ 9223372036854775807) : Calls Try.prog 31 #[.string s] w (decoded w s) := by
  by_cases hs : 200 < s.size
  · exact decode_long s w hs hm
  · exact decode_short s w (by omega)
end Go.Proofs.Ytaellaconpaejaa
