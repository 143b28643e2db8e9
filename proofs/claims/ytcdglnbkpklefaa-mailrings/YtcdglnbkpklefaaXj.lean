/- The law MailRings, walked. -/
import Derived.Test.YtcdglnbkpklefaaXh
import Derived.Test.YtcdglnbkpklefaaXi
set_option linter.unusedVariables false
namespace Go.Proofs.Ytcdglnbkpklefaa
open Go.RowKit

/-- Rows that boxes hold, kept by whatever only adds. -/
theorem RowAt.keepx {w w' : World} {g : Nat} {t : TypeId} {L : List Value} (h : RowAt w g t L) (hb : Below w.heap.size w w') : RowAt w' g t L := h.below hb (Nat.le_refl _)

set_option maxRecDepth 100000 in
set_option maxHeartbeats 4000000 in
theorem rings_bad (a : Option Addr) (V : List Int) (cap : Nat) (lost size : Int) (p : Option Addr) (L : List Int) (c : Nat) (w : World) (hw : IntsIn w a V) (hl : V.length ≤ 9223372036854775807) (hcap : V.length ≤ cap) (hL : IntsIn w p L) (hm : L.length ≤ 140737488355328) (hcp : L.length ≤ c) (h0 : ckR V lost size ≠ 0) :
    Calls Try.prog 8 #[.agg #[.slice a V.length cap, .int .i64 lost], .int .i64 size, .slice p L.length c] w fun e w' => e = .returned (.bool true) ∧ Below w.heap.size w w' := by
  have r3 : RowAt (w.alloc (.cells #[.slice a V.length cap, .int .i64 lost] 63)) w.heap.size 63 [.slice a V.length cap, .int .i64 lost] := rowAt_new2 w _ [.slice a V.length cap, .int .i64 lost] 63 rfl
  have q0 := below_new w (.cells #[.slice a V.length cap, .int .i64 lost] 63)
  have R3 := hid r3
  have B0 := hid q0
  have I0 := hid (hw.keep q0)
  have L0 := hid (hL.keep q0)
  have C33 := hid (fun wx h1 h2 => commit_bad a V cap lost size p L c wx h1 hl h2 (by omega) h0)
  have C34 := hid (fun wx h1 => receive_bad a V cap lost size wx h1 hl h0)
  have C35 := hid (fun wx h1 => checkRing_any a V cap lost size wx h1 hl)
  have C40 := hid (fun wx h1 => ringCheck_any a V cap lost size wx h1 hl)
  generalize ckR V lost size = q at *
  have H0 := hid h0
  have hx : (q == 0) = false := by simp [h0]
  clear r3 q0 hw hL h0
  go_enter Try.func8, Try.ntmps8
  go_wp2_with fail
  refine (C33.out _ I0.out L0.out).mono ?_
  rintro e w1 ⟨rfl, hb1⟩
  have q1 := below_new w1 (.cells #[.slice none 0 0, .int .i64 0] 63)
  have R7 := hid (rowAt_new2 w1 _ [.slice none 0 0, .int .i64 0] 63 rfl)
  replace R3 := hid (R3.out.keepx (btrans hb1 q1))
  replace B0 := hid (btrans B0.out (btrans hb1 q1))
  replace I0 := hid (I0.out.keep (btrans hb1 q1))
  replace L0 := hid (L0.out.keep (btrans hb1 q1))
  have hs1 : w.heap.size < w1.heap.size := by have := hb1.size; simp at this; omega
  clear hb1 q1
  have c30 := R3.out.cell 0 _ rfl
  have c31 := R3.out.cell 1 _ rfl
  go_wp2_with fail
  refine (C34.out _ I0.out).mono ?_
  rintro e w2 ⟨rfl, hb2⟩
  have q2 := below_new w2 (.cells #[.slice none 0 0, .int .i64 0] 63)
  have R9 := hid (rowAt_new2 w2 _ [.slice none 0 0, .int .i64 0] 63 rfl)
  replace R3 := hid (R3.out.keepx (btrans hb2 q2))
  replace R7 := hid (R7.out.keepx (btrans hb2 q2))
  replace B0 := hid (btrans B0.out (btrans hb2 q2))
  replace I0 := hid (I0.out.keep (btrans hb2 q2))
  replace L0 := hid (L0.out.keep (btrans hb2 q2))
  have hs2 : w1.heap.size < w2.heap.size := by have := hb2.size; simp at this; omega
  clear hb2 q2 c30 c31
  have c30 := R3.out.cell 0 _ rfl
  have c31 := R3.out.cell 1 _ rfl
  go_wp2_with fail
  refine (C35.out _ I0.out).mono ?_
  rintro e w3 ⟨rfl, hb3⟩
  have q3 := btrans (below_new w3 (.cells #[.slice none 0 0, .int .i64 0] 63)) (below_new (w3.alloc (.cells #[.slice none 0 0, .int .i64 0] 63)) (.cells #[.slice none 0 0, .int .i64 0] 63))
  have RE := hid ((rowAt_new2 w3 _ [.slice none 0 0, .int .i64 0] 63 rfl).alloc (.cells #[.slice none 0 0, .int .i64 0] 63))
  have RF := hid (rowAt_new2 (w3.alloc (.cells #[.slice none 0 0, .int .i64 0] 63)) (w3.heap.size + 1) [.slice none 0 0, .int .i64 0] 63 (by simp))
  replace R3 := hid (R3.out.keepx (btrans hb3 q3))
  replace R7 := hid (R7.out.keepx (btrans hb3 q3))
  replace R9 := hid (R9.out.keepx (btrans hb3 q3))
  replace B0 := hid (btrans B0.out (btrans hb3 q3))
  replace I0 := hid (I0.out.keep (btrans hb3 q3))
  replace L0 := hid (L0.out.keep (btrans hb3 q3))
  clear hb3 q3 c30 c31
  have c30 := R3.out.cell 0 _ rfl
  have c31 := R3.out.cell 1 _ rfl
  have c70 := R7.out.cell 0 _ rfl
  have c71 := R7.out.cell 1 _ rfl
  have c90 := R9.out.cell 0 _ rfl
  have c91 := R9.out.cell 1 _ rfl
  have cE0 := RE.out.cell 0 _ rfl
  have cE1 := RE.out.cell 1 _ rfl
  have cF0 := RF.out.cell 0 _ rfl
  have cF1 := RF.out.cell 1 _ rfl
  go_wp2_with fail
  refine (mailBegun_any _).mono ?_
  rintro e w4 ⟨rfl, hb4⟩
  replace R3 := hid (R3.out.keepx hb4)
  replace R7 := hid (R7.out.keepx hb4)
  replace R9 := hid (R9.out.keepx hb4)
  replace RE := hid (RE.out.keepx hb4)
  replace RF := hid (RF.out.keepx hb4)
  replace I0 := hid (I0.out.keep hb4)
  replace L0 := hid (L0.out.keep hb4)
  replace B0 := hid (btrans B0.out hb4)
  clear hb4
  clear c30 c31 c70 c71 c90 c91 cE0 cE1 cF0 cF1
  have c30 := R3.out.cell 0 _ rfl
  have c31 := R3.out.cell 1 _ rfl
  have c70 := R7.out.cell 0 _ rfl
  have c71 := R7.out.cell 1 _ rfl
  have c90 := R9.out.cell 0 _ rfl
  have c91 := R9.out.cell 1 _ rfl
  have cE0 := RE.out.cell 0 _ rfl
  have cE1 := RE.out.cell 1 _ rfl
  have cF0 := RF.out.cell 0 _ rfl
  have cF1 := RF.out.cell 1 _ rfl
  go_wp2_with fail
  refine (C40.out _ I0.out).mono ?_
  rintro e w5 ⟨rfl, hb5⟩
  skip
  replace R3 := hid (R3.out.keepx hb5)
  replace R7 := hid (R7.out.keepx hb5)
  replace R9 := hid (R9.out.keepx hb5)
  replace RE := hid (RE.out.keepx hb5)
  replace RF := hid (RF.out.keepx hb5)
  replace I0 := hid (I0.out.keep hb5)
  replace L0 := hid (L0.out.keep hb5)
  replace B0 := hid (btrans B0.out hb5)
  clear hb5
  clear c30 c31 c70 c71 c90 c91 cE0 cE1 cF0 cF1
  have c30 := R3.out.cell 0 _ rfl
  have c31 := R3.out.cell 1 _ rfl
  have c70 := R7.out.cell 0 _ rfl
  have c71 := R7.out.cell 1 _ rfl
  have c90 := R9.out.cell 0 _ rfl
  have c91 := R9.out.cell 1 _ rfl
  have cE0 := RE.out.cell 0 _ rfl
  have cE1 := RE.out.cell 1 _ rfl
  have cF0 := RF.out.cell 0 _ rfl
  have cF1 := RF.out.cell 1 _ rfl
  go_wp2_with fail
  refine (ringIs_err none none 0 0 0 0 q _ H0.out).mono ?_
  rintro e w6 ⟨rfl, hb6⟩
  replace R3 := hid (R3.out.keepx hb6)
  replace R7 := hid (R7.out.keepx hb6)
  replace R9 := hid (R9.out.keepx hb6)
  replace RE := hid (RE.out.keepx hb6)
  replace RF := hid (RF.out.keepx hb6)
  replace I0 := hid (I0.out.keep hb6)
  replace L0 := hid (L0.out.keep hb6)
  replace B0 := hid (btrans B0.out hb6)
  clear hb6
  clear c30 c31 c70 c71 c90 c91 cE0 cE1 cF0 cF1
  have c30 := R3.out.cell 0 _ rfl
  have c31 := R3.out.cell 1 _ rfl
  have c70 := R7.out.cell 0 _ rfl
  have c71 := R7.out.cell 1 _ rfl
  have c90 := R9.out.cell 0 _ rfl
  have c91 := R9.out.cell 1 _ rfl
  have cE0 := RE.out.cell 0 _ rfl
  have cE1 := RE.out.cell 1 _ rfl
  have cF0 := RF.out.cell 0 _ rfl
  have cF1 := RF.out.cell 1 _ rfl
  go_wp2_with fail
  refine (ringIs_err none none 0 0 0 0 q _ H0.out).mono ?_
  rintro e w7 ⟨rfl, hb7⟩
  replace B0 := hid (btrans B0.out hb7)
  clear hb7 R3 R7 R9 RE RF
  clear c30 c31 c70 c71 c90 c91 cE0 cE1 cF0 cF1
  go_wp2
  go_ret
  exact ⟨rfl, B0.out⟩

set_option maxRecDepth 100000 in
set_option maxHeartbeats 4000000 in
theorem rings_wrong (a : Option Addr) (V : List Int) (cap : Nat) (lost size : Int) (p : Option Addr) (L : List Int) (c : Nat) (w : World) (hw : IntsIn w a V) (hl : V.length ≤ 9223372036854775807) (hcap : V.length ≤ cap) (hL : IntsIn w p L) (hm : L.length ≤ 140737488355328) (hcp : L.length ≤ c) (h0 : ckR V lost size = 0) (hal : allR L 0 255 = false) :
    Calls Try.prog 8 #[.agg #[.slice a V.length cap, .int .i64 lost], .int .i64 size, .slice p L.length c] w fun e w' => e = .returned (.bool true) ∧ Below w.heap.size w w' := by
  have r3 : RowAt (w.alloc (.cells #[.slice a V.length cap, .int .i64 lost] 63)) w.heap.size 63 [.slice a V.length cap, .int .i64 lost] := rowAt_new2 w _ [.slice a V.length cap, .int .i64 lost] 63 rfl
  have q0 := below_new w (.cells #[.slice a V.length cap, .int .i64 lost] 63)
  have R3 := hid r3
  have B0 := hid q0
  have I0 := hid (hw.keep q0)
  have L0 := hid (hL.keep q0)
  have hk := ckR_ok h0
  have hRR : size = ((V.length + roomR V size : Nat) : Int) := by have := hk.2.1; unfold roomR; omega
  have C33 := hid (fun wx h1 h2 => commit_wrong a V cap lost size p L c wx h1 hl h2 (by omega) h0 hal)
  have C34 := hid (fun wx h1 => receive_any a V cap lost size wx h1 hl hcap)
  have C35 := hid (fun wx h1 => checkRing_any a V cap lost size wx h1 hl)
  have C36 := hid (fun wx h1 => areValues_any p L c wx h1 (by omega))
  have C40 := hid (fun wx h1 => ringCheck_any a V cap lost size wx h1 hl)
  have C38 := hid (fun wx h1 => receiveOf_any a V cap lost size wx h1 hcap h0)
  rw [h0] at C34 C35 C40
  rw [hal] at C36
  generalize recvV V lost size = RV at *
  generalize recvL V lost size = RL at *
  generalize recvX V lost size = RX at *
  clear r3 q0 hw hL h0 hk hRR hal
  go_enter Try.func8, Try.ntmps8
  go_wp2_with fail
  refine (C33.out _ I0.out L0.out).mono ?_
  rintro e w1 ⟨rfl, hb1⟩
  have q1 := below_new w1 (.cells #[.slice none 0 0, .int .i64 0] 63)
  have R7 := hid (rowAt_new2 w1 _ [.slice none 0 0, .int .i64 0] 63 rfl)
  replace R3 := hid (R3.out.keepx (btrans hb1 q1))
  replace B0 := hid (btrans B0.out (btrans hb1 q1))
  replace I0 := hid (I0.out.keep (btrans hb1 q1))
  replace L0 := hid (L0.out.keep (btrans hb1 q1))
  have hs1 : w.heap.size < w1.heap.size := by have := hb1.size; simp at this; omega
  clear hb1 q1
  have c30 := R3.out.cell 0 _ rfl
  have c31 := R3.out.cell 1 _ rfl
  go_wp2_with fail
  refine (C34.out _ I0.out).mono ?_
  rintro e w2 ⟨v2, rfl, ho2, hb2⟩
  obtain ⟨a2, k2, rfl, -, hi2, -, hln2, -⟩ := ints_own ho2
  have J2 := hid hi2
  clear ho2 hi2
  have q2 := below_new w2 (.cells #[.slice a2 RV.length k2, .int .i64 RL] 63)
  have R9 := hid (rowAt_new2 w2 _ [.slice a2 RV.length k2, .int .i64 RL] 63 rfl)
  replace R3 := hid (R3.out.keepx (btrans hb2 q2))
  replace R7 := hid (R7.out.keepx (btrans hb2 q2))
  replace B0 := hid (btrans B0.out (btrans hb2 q2))
  replace I0 := hid (I0.out.keep (btrans hb2 q2))
  replace L0 := hid (L0.out.keep (btrans hb2 q2))
  replace J2 := hid (J2.out.keep q2)
  have hs2 : w1.heap.size < w2.heap.size := by have := hb2.size; simp at this; omega
  clear hb2 q2 c30 c31
  have c30 := R3.out.cell 0 _ rfl
  have c31 := R3.out.cell 1 _ rfl
  go_wp2_with fail
  refine (C35.out _ I0.out).mono ?_
  rintro e w3 ⟨rfl, hb3⟩
  have BW : Hid (Below w3.heap.size w3 ((w3.alloc (.cells #[.slice none 0 0, .int .i64 0] 63)).alloc (.cells #[.slice none 0 0, .int .i64 0] 63))) := hid (btrans (below_new _ _) (below_new _ _))
  have RE := hid ((rowAt_new2 w3 _ [.slice none 0 0, .int .i64 0] 63 rfl).alloc (.cells #[.slice none 0 0, .int .i64 0] 63))
  have RF := hid (rowAt_new2 (w3.alloc (.cells #[.slice none 0 0, .int .i64 0] 63)) (w3.heap.size + 1) [.slice none 0 0, .int .i64 0] 63 (by simp))
  replace R3 := hid (R3.out.keepx hb3)
  replace R7 := hid (R7.out.keepx hb3)
  replace R9 := hid (R9.out.keepx hb3)
  replace B0 := hid (btrans B0.out hb3)
  replace I0 := hid (I0.out.keep hb3)
  replace L0 := hid (L0.out.keep hb3)
  replace J2 := hid (J2.out.keep hb3)
  have hs3 : w2.heap.size < w3.heap.size := by have := hb3.size; simp at this; omega
  clear hb3 c30 c31
  have c30 := (R3.out.keepx BW.out).cell 0 _ rfl
  have c31 := (R3.out.keepx BW.out).cell 1 _ rfl
  have c70 := (R7.out.keepx BW.out).cell 0 _ rfl
  have c71 := (R7.out.keepx BW.out).cell 1 _ rfl
  have c90 := (R9.out.keepx BW.out).cell 0 _ rfl
  have c91 := (R9.out.keepx BW.out).cell 1 _ rfl
  have cE0 := RE.out.cell 0 _ rfl
  have cE1 := RE.out.cell 1 _ rfl
  have cF0 := RF.out.cell 0 _ rfl
  have cF1 := RF.out.cell 1 _ rfl
  go_wp2_with fail
  refine (C36.out _ (L0.out.keep BW.out)).mono ?_
  rintro e w4 ⟨rfl, hb4⟩
  replace RE := hid (RE.out.keepx hb4)
  replace RF := hid (RF.out.keepx hb4)
  replace BW := hid (btrans BW.out hb4)
  clear hb4
  clear c30 c31 c70 c71 c90 c91 cE0 cE1 cF0 cF1
  have c30 := (R3.out.keepx BW.out).cell 0 _ rfl
  have c31 := (R3.out.keepx BW.out).cell 1 _ rfl
  have c70 := (R7.out.keepx BW.out).cell 0 _ rfl
  have c71 := (R7.out.keepx BW.out).cell 1 _ rfl
  have c90 := (R9.out.keepx BW.out).cell 0 _ rfl
  have c91 := (R9.out.keepx BW.out).cell 1 _ rfl
  have cE0 := RE.out.cell 0 _ rfl
  have cE1 := RE.out.cell 1 _ rfl
  have cF0 := RF.out.cell 0 _ rfl
  have cF1 := RF.out.cell 1 _ rfl
  go_wp2_with fail
  refine (C38.out _ (I0.out.keep BW.out)).mono ?_
  rintro e w8 ⟨a8, k8, rfl, hi8, hq8, hb8⟩
  have J8 := hid hi8
  have lt8 := RF.out.lt
  clear hi8
  replace RE := hid (RE.out.keepx hb8)
  replace RF := hid (RF.out.keepx hb8)
  replace BW := hid (btrans BW.out hb8)
  clear hb8
  clear c30 c31 c70 c71 c90 c91 cE0 cE1 cF0 cF1
  have c30 := (R3.out.keepx BW.out).cell 0 _ rfl
  have c31 := (R3.out.keepx BW.out).cell 1 _ rfl
  have c70 := (R7.out.keepx BW.out).cell 0 _ rfl
  have c71 := (R7.out.keepx BW.out).cell 1 _ rfl
  have c90 := (R9.out.keepx BW.out).cell 0 _ rfl
  have c91 := (R9.out.keepx BW.out).cell 1 _ rfl
  have cE0 := RE.out.cell 0 _ rfl
  have cE1 := RE.out.cell 1 _ rfl
  have cF0 := RF.out.cell 0 _ rfl
  have cF1 := RF.out.cell 1 _ rfl
  have hsB := BW.out.size
  have lE := RE.out.lt
  have lF := RF.out.lt
  have cX0 := RF.out.frozen 0
  have cX1 := RF.out.frozen 1
  replace RE := hid ((RE.out.setOther ⟨w3.heap.size + 1, 0, none⟩ (.slice a8 RV.length k8) (by show w3.heap.size ≠ w3.heap.size + 1; omega)).setOther ⟨w3.heap.size + 1, 1, none⟩ (.int .i64 RL) (by show w3.heap.size ≠ w3.heap.size + 1; omega))
  replace RF := hid ((RF.out.setCell 0 (.slice a8 RV.length k8)).setCell 1 (.int .i64 RL))
  replace BW := hid ((BW.out.setCell (p := ⟨w3.heap.size + 1, 0, none⟩) (by show w3.heap.size ≤ w3.heap.size + 1; omega) (.slice a8 RV.length k8)).setCell (p := ⟨w3.heap.size + 1, 1, none⟩) (by show w3.heap.size ≤ w3.heap.size + 1; omega) (.int .i64 RL))
  replace J8 : Hid (IntsIn ((w8.setCell ⟨w3.heap.size + 1, 0, none⟩ (.slice a8 RV.length k8)).setCell ⟨w3.heap.size + 1, 1, none⟩ (.int .i64 RL)) a8 RV) := by
    rcases (Classical.em (RV = [])) with e0 | e0
    · rw [e0]; exact hid fun i hi => absurd hi (by simp)
    · exact hid ((J8.out.grown (grow_setCell w8 (w3.heap.size + 1) 0 (.slice a8 RV.length k8)) (fun b o e => by have := hq8 b o e e0; simp; omega)).grown (grow_setCell _ (w3.heap.size + 1) 1 (.int .i64 RL)) (fun b o e => by have := hq8 b o e e0; simp; omega))
  clear hq8 lt8
  go_wp2_with fail
  generalize World.setCell _ _ _ = w9 at *
  refine (mailBegun_any _).mono ?_
  rintro e wa ⟨rfl, hba⟩
  replace J8 := hid (J8.out.keep hba)
  clear cX0 cX1 hsB lE lF
  replace RE := hid (RE.out.keepx hba)
  replace RF := hid (RF.out.keepx hba)
  replace BW := hid (btrans BW.out hba)
  clear hba
  clear c30 c31 c70 c71 c90 c91 cE0 cE1 cF0 cF1
  have c30 := (R3.out.keepx BW.out).cell 0 _ rfl
  have c31 := (R3.out.keepx BW.out).cell 1 _ rfl
  have c70 := (R7.out.keepx BW.out).cell 0 _ rfl
  have c71 := (R7.out.keepx BW.out).cell 1 _ rfl
  have c90 := (R9.out.keepx BW.out).cell 0 _ rfl
  have c91 := (R9.out.keepx BW.out).cell 1 _ rfl
  have cE0 := RE.out.cell 0 _ rfl
  have cE1 := RE.out.cell 1 _ rfl
  have cF0 := RF.out.cell 0 _ rfl
  have cF1 := RF.out.cell 1 _ rfl

  go_wp2_with fail
  refine (C40.out _ (I0.out.keep BW.out)).mono ?_
  rintro e wb ⟨rfl, hbb⟩
  replace J8 := hid (J8.out.keep hbb)
  replace RE := hid (RE.out.keepx hbb)
  replace RF := hid (RF.out.keepx hbb)
  replace BW := hid (btrans BW.out hbb)
  clear hbb
  clear c30 c31 c70 c71 c90 c91 cE0 cE1 cF0 cF1
  have c30 := (R3.out.keepx BW.out).cell 0 _ rfl
  have c31 := (R3.out.keepx BW.out).cell 1 _ rfl
  have c70 := (R7.out.keepx BW.out).cell 0 _ rfl
  have c71 := (R7.out.keepx BW.out).cell 1 _ rfl
  have c90 := (R9.out.keepx BW.out).cell 0 _ rfl
  have c91 := (R9.out.keepx BW.out).cell 1 _ rfl
  have cE0 := RE.out.cell 0 _ rfl
  have cE1 := RE.out.cell 1 _ rfl
  have cF0 := RF.out.cell 0 _ rfl
  have cF1 := RF.out.cell 1 _ rfl

  go_wp2_with fail
  refine (ringIs_err none none 0 0 0 0 3 _ (by decide)).mono ?_
  rintro e wc ⟨rfl, hbc⟩
  replace J8 := hid (J8.out.keep hbc)
  replace RE := hid (RE.out.keepx hbc)
  replace RF := hid (RF.out.keepx hbc)
  replace BW := hid (btrans BW.out hbc)
  clear hbc
  clear c30 c31 c70 c71 c90 c91 cE0 cE1 cF0 cF1
  have c30 := (R3.out.keepx BW.out).cell 0 _ rfl
  have c31 := (R3.out.keepx BW.out).cell 1 _ rfl
  have c70 := (R7.out.keepx BW.out).cell 0 _ rfl
  have c71 := (R7.out.keepx BW.out).cell 1 _ rfl
  have c90 := (R9.out.keepx BW.out).cell 0 _ rfl
  have c91 := (R9.out.keepx BW.out).cell 1 _ rfl
  have cE0 := RE.out.cell 0 _ rfl
  have cE1 := RE.out.cell 1 _ rfl
  have cF0 := RF.out.cell 0 _ rfl
  have cF1 := RF.out.cell 1 _ rfl

  go_wp2_with fail
  refine (ringIs_true a2 a8 RV k2 k8 RL 0 _ (J2.out.keep BW.out) J8.out hln2 rfl).mono ?_
  rintro e wd ⟨rfl, hbd⟩
  replace B0 := hid (btrans B0.out (btrans BW.out hbd))
  clear hbd R3 R7 R9 RE RF BW
  clear c30 c31 c70 c71 c90 c91 cE0 cE1 cF0 cF1
  go_wp2
  go_ret
  exact ⟨rfl, B0.out⟩

set_option maxRecDepth 100000 in
set_option maxHeartbeats 4000000 in
theorem rings_ok (a : Option Addr) (V : List Int) (cap : Nat) (lost size : Int) (p : Option Addr) (L : List Int) (c : Nat) (w : World) (hw : IntsIn w a V) (hl : V.length ≤ 9223372036854775807) (hcap : V.length ≤ cap) (hL : IntsIn w p L) (hm : L.length ≤ 140737488355328) (hcp : L.length ≤ c) (h0 : ckR V lost size = 0) (hal : allR L 0 255 = true) :
    Calls Try.prog 8 #[.agg #[.slice a V.length cap, .int .i64 lost], .int .i64 size, .slice p L.length c] w fun e w' => e = .returned (.bool true) ∧ Below w.heap.size w w' := by
  have r3 : RowAt (w.alloc (.cells #[.slice a V.length cap, .int .i64 lost] 63)) w.heap.size 63 [.slice a V.length cap, .int .i64 lost] := rowAt_new2 w _ [.slice a V.length cap, .int .i64 lost] 63 rfl
  have q0 := below_new w (.cells #[.slice a V.length cap, .int .i64 lost] 63)
  have R3 := hid r3
  have B0 := hid q0
  have I0 := hid (hw.keep q0)
  have L0 := hid (hL.keep q0)
  have hk := ckR_ok h0
  have hRR : size = ((V.length + roomR V size : Nat) : Int) := by have := hk.2.1; unfold roomR; omega
  have C33 := hid (fun wx h1 h2 => commit_ok a V cap lost size p L c wx h1 hl h2 hm hcp h0 hal (roomR V size) hRR)
  have C34 := hid (fun wx h1 => receive_any a V cap lost size wx h1 hl hcap)
  have C35 := hid (fun wx h1 => checkRing_any a V cap lost size wx h1 hl)
  have C36 := hid (fun wx h1 => areValues_any p L c wx h1 (by omega))
  have C40 := hid (fun wx h1 => ringCheck_any a V cap lost size wx h1 hl)
  have C38 := hid (fun wx h1 => receiveOf_any a V cap lost size wx h1 hcap h0)
  have C37 := hid (fun wx h1 h2 => commitOf_any a V cap lost size p L c wx h1 h2 (by omega) hk.2.2.2.1 hk.2.2.2.2 (roomR V size) hRR (by have := hk.1.2; omega))
  generalize comL lost (roomR V size) L.length = CL at *
  generalize comV V L (roomR V size) L.length = CV at *
  rw [h0] at C34 C35 C40
  rw [hal] at C36
  generalize recvV V lost size = RV at *
  generalize recvL V lost size = RL at *
  generalize recvX V lost size = RX at *
  clear r3 q0 hw hL h0 hk hRR hal
  go_enter Try.func8, Try.ntmps8
  go_wp2_with fail
  refine (C33.out _ I0.out L0.out).mono ?_
  rintro e w1 ⟨v1, rfl, ho1, hb1⟩
  obtain ⟨a1, k1, rfl, -, hi1, -, hln1, -⟩ := ints_own ho1
  have J1 := hid hi1
  clear ho1 hi1
  have q1 := below_new w1 (.cells #[.slice a1 CV.length k1, .int .i64 CL] 63)
  have R7 := hid (rowAt_new2 w1 _ [.slice a1 CV.length k1, .int .i64 CL] 63 rfl)
  replace R3 := hid (R3.out.keepx (btrans hb1 q1))
  replace B0 := hid (btrans B0.out (btrans hb1 q1))
  replace I0 := hid (I0.out.keep (btrans hb1 q1))
  replace L0 := hid (L0.out.keep (btrans hb1 q1))
  replace J1 := hid (J1.out.keep q1)
  have hs1 : w.heap.size < w1.heap.size := by have := hb1.size; simp at this; omega
  clear hb1 q1
  have c30 := R3.out.cell 0 _ rfl
  have c31 := R3.out.cell 1 _ rfl
  go_wp2_with fail
  refine (C34.out _ I0.out).mono ?_
  rintro e w2 ⟨v2, rfl, ho2, hb2⟩
  obtain ⟨a2, k2, rfl, -, hi2, -, hln2, -⟩ := ints_own ho2
  have J2 := hid hi2
  clear ho2 hi2
  have q2 := below_new w2 (.cells #[.slice a2 RV.length k2, .int .i64 RL] 63)
  have R9 := hid (rowAt_new2 w2 _ [.slice a2 RV.length k2, .int .i64 RL] 63 rfl)
  replace R3 := hid (R3.out.keepx (btrans hb2 q2))
  replace R7 := hid (R7.out.keepx (btrans hb2 q2))
  replace B0 := hid (btrans B0.out (btrans hb2 q2))
  replace I0 := hid (I0.out.keep (btrans hb2 q2))
  replace L0 := hid (L0.out.keep (btrans hb2 q2))
  replace J1 := hid (J1.out.keep (btrans hb2 q2))
  replace J2 := hid (J2.out.keep q2)
  have hs2 : w1.heap.size < w2.heap.size := by have := hb2.size; simp at this; omega
  clear hb2 q2 c30 c31
  have c30 := R3.out.cell 0 _ rfl
  have c31 := R3.out.cell 1 _ rfl
  go_wp2_with fail
  refine (C35.out _ I0.out).mono ?_
  rintro e w3 ⟨rfl, hb3⟩
  have BW : Hid (Below w3.heap.size w3 ((w3.alloc (.cells #[.slice none 0 0, .int .i64 0] 63)).alloc (.cells #[.slice none 0 0, .int .i64 0] 63))) := hid (btrans (below_new _ _) (below_new _ _))
  have RE := hid ((rowAt_new2 w3 _ [.slice none 0 0, .int .i64 0] 63 rfl).alloc (.cells #[.slice none 0 0, .int .i64 0] 63))
  have RF := hid (rowAt_new2 (w3.alloc (.cells #[.slice none 0 0, .int .i64 0] 63)) (w3.heap.size + 1) [.slice none 0 0, .int .i64 0] 63 (by simp))
  replace R3 := hid (R3.out.keepx hb3)
  replace R7 := hid (R7.out.keepx hb3)
  replace R9 := hid (R9.out.keepx hb3)
  replace B0 := hid (btrans B0.out hb3)
  replace I0 := hid (I0.out.keep hb3)
  replace L0 := hid (L0.out.keep hb3)
  replace J1 := hid (J1.out.keep hb3)
  replace J2 := hid (J2.out.keep hb3)
  have hs3 : w2.heap.size < w3.heap.size := by have := hb3.size; simp at this; omega
  clear hb3 c30 c31
  have c30 := (R3.out.keepx BW.out).cell 0 _ rfl
  have c31 := (R3.out.keepx BW.out).cell 1 _ rfl
  have c70 := (R7.out.keepx BW.out).cell 0 _ rfl
  have c71 := (R7.out.keepx BW.out).cell 1 _ rfl
  have c90 := (R9.out.keepx BW.out).cell 0 _ rfl
  have c91 := (R9.out.keepx BW.out).cell 1 _ rfl
  have cE0 := RE.out.cell 0 _ rfl
  have cE1 := RE.out.cell 1 _ rfl
  have cF0 := RF.out.cell 0 _ rfl
  have cF1 := RF.out.cell 1 _ rfl
  go_wp2_with fail
  refine (C36.out _ (L0.out.keep BW.out)).mono ?_
  rintro e w4 ⟨rfl, hb4⟩
  replace RE := hid (RE.out.keepx hb4)
  replace RF := hid (RF.out.keepx hb4)
  replace BW := hid (btrans BW.out hb4)
  clear hb4
  clear c30 c31 c70 c71 c90 c91 cE0 cE1 cF0 cF1
  have c30 := (R3.out.keepx BW.out).cell 0 _ rfl
  have c31 := (R3.out.keepx BW.out).cell 1 _ rfl
  have c70 := (R7.out.keepx BW.out).cell 0 _ rfl
  have c71 := (R7.out.keepx BW.out).cell 1 _ rfl
  have c90 := (R9.out.keepx BW.out).cell 0 _ rfl
  have c91 := (R9.out.keepx BW.out).cell 1 _ rfl
  have cE0 := RE.out.cell 0 _ rfl
  have cE1 := RE.out.cell 1 _ rfl
  have cF0 := RF.out.cell 0 _ rfl
  have cF1 := RF.out.cell 1 _ rfl
  go_wp2_with fail
  refine (C37.out _ (I0.out.keep BW.out) (L0.out.keep BW.out)).mono ?_
  rintro e w5 ⟨v5, rfl, ho5, hb5⟩
  obtain ⟨a5, k5, rfl, -, hi5, -, -, hq5⟩ := ints_own ho5
  have J5 := hid hi5
  have lt5 := RE.out.lt
  have lt5' := RF.out.lt
  clear ho5 hi5
  replace RE := hid (RE.out.keepx hb5)
  replace RF := hid (RF.out.keepx hb5)
  replace BW := hid (btrans BW.out hb5)
  clear hb5
  clear c30 c31 c70 c71 c90 c91 cE0 cE1 cF0 cF1
  have c30 := (R3.out.keepx BW.out).cell 0 _ rfl
  have c31 := (R3.out.keepx BW.out).cell 1 _ rfl
  have c70 := (R7.out.keepx BW.out).cell 0 _ rfl
  have c71 := (R7.out.keepx BW.out).cell 1 _ rfl
  have c90 := (R9.out.keepx BW.out).cell 0 _ rfl
  have c91 := (R9.out.keepx BW.out).cell 1 _ rfl
  have cE0 := RE.out.cell 0 _ rfl
  have cE1 := RE.out.cell 1 _ rfl
  have cF0 := RF.out.cell 0 _ rfl
  have cF1 := RF.out.cell 1 _ rfl
  have hsB := BW.out.size
  have lE := RE.out.lt
  have lF := RF.out.lt
  have cX0 := RE.out.frozen 0
  have cX1 := RE.out.frozen 1
  replace RF := hid ((RF.out.setOther ⟨w3.heap.size, 0, none⟩ (.slice a5 CV.length k5) (by show w3.heap.size + 1 ≠ w3.heap.size; omega)).setOther ⟨w3.heap.size, 1, none⟩ (.int .i64 CL) (by show w3.heap.size + 1 ≠ w3.heap.size; omega))
  replace RE := hid ((RE.out.setCell 0 (.slice a5 CV.length k5)).setCell 1 (.int .i64 CL))
  replace BW := hid ((BW.out.setCell (p := ⟨w3.heap.size, 0, none⟩) (by show w3.heap.size ≤ w3.heap.size; omega) (.slice a5 CV.length k5)).setCell (p := ⟨w3.heap.size, 1, none⟩) (by show w3.heap.size ≤ w3.heap.size; omega) (.int .i64 CL))
  replace J5 := hid ((J5.out.grown (grow_setCell w5 w3.heap.size 0 (.slice a5 CV.length k5)) (fun b o e => by have := (hq5 b o e).1; simp; omega)).grown (grow_setCell _ w3.heap.size 1 (.int .i64 CL)) (fun b o e => by have := (hq5 b o e).1; simp; omega))
  have hq5' : ∀ b o, a5 = some ⟨b, o, none⟩ → b ≠ w3.heap.size + 1 := fun b o e => by have := (hq5 b o e).1; omega
  have HQ5 := hid hq5'
  clear hq5 hq5' lt5 lt5'
  go_wp2_with fail
  generalize World.setCell _ _ _ = w6 at *
  refine (C38.out _ (I0.out.keep BW.out)).mono ?_
  rintro e w8 ⟨a8, k8, rfl, hi8, hq8, hb8⟩
  have J8 := hid hi8
  have lt8 := RF.out.lt
  clear hi8
  replace J5 := hid (J5.out.keep hb8)
  clear cX0 cX1 hsB lE lF
  replace RE := hid (RE.out.keepx hb8)
  replace RF := hid (RF.out.keepx hb8)
  replace BW := hid (btrans BW.out hb8)
  clear hb8
  clear c30 c31 c70 c71 c90 c91 cE0 cE1 cF0 cF1
  have c30 := (R3.out.keepx BW.out).cell 0 _ rfl
  have c31 := (R3.out.keepx BW.out).cell 1 _ rfl
  have c70 := (R7.out.keepx BW.out).cell 0 _ rfl
  have c71 := (R7.out.keepx BW.out).cell 1 _ rfl
  have c90 := (R9.out.keepx BW.out).cell 0 _ rfl
  have c91 := (R9.out.keepx BW.out).cell 1 _ rfl
  have cE0 := RE.out.cell 0 _ rfl
  have cE1 := RE.out.cell 1 _ rfl
  have cF0 := RF.out.cell 0 _ rfl
  have cF1 := RF.out.cell 1 _ rfl
  have hsB := BW.out.size
  have lE := RE.out.lt
  have lF := RF.out.lt
  have cX0 := RF.out.frozen 0
  have cX1 := RF.out.frozen 1
  replace RE := hid ((RE.out.setOther ⟨w3.heap.size + 1, 0, none⟩ (.slice a8 RV.length k8) (by show w3.heap.size ≠ w3.heap.size + 1; omega)).setOther ⟨w3.heap.size + 1, 1, none⟩ (.int .i64 RL) (by show w3.heap.size ≠ w3.heap.size + 1; omega))
  replace RF := hid ((RF.out.setCell 0 (.slice a8 RV.length k8)).setCell 1 (.int .i64 RL))
  replace BW := hid ((BW.out.setCell (p := ⟨w3.heap.size + 1, 0, none⟩) (by show w3.heap.size ≤ w3.heap.size + 1; omega) (.slice a8 RV.length k8)).setCell (p := ⟨w3.heap.size + 1, 1, none⟩) (by show w3.heap.size ≤ w3.heap.size + 1; omega) (.int .i64 RL))
  replace J8 : Hid (IntsIn ((w8.setCell ⟨w3.heap.size + 1, 0, none⟩ (.slice a8 RV.length k8)).setCell ⟨w3.heap.size + 1, 1, none⟩ (.int .i64 RL)) a8 RV) := by
    rcases (Classical.em (RV = [])) with e0 | e0
    · rw [e0]; exact hid fun i hi => absurd hi (by simp)
    · exact hid ((J8.out.grown (grow_setCell w8 (w3.heap.size + 1) 0 (.slice a8 RV.length k8)) (fun b o e => by have := hq8 b o e e0; simp; omega)).grown (grow_setCell _ (w3.heap.size + 1) 1 (.int .i64 RL)) (fun b o e => by have := hq8 b o e e0; simp; omega))
  replace J5 := hid ((J5.out.grown (grow_setCell w8 (w3.heap.size + 1) 0 (.slice a8 RV.length k8)) (fun b o e => by have := HQ5.out b o e; simp; omega)).grown (grow_setCell _ (w3.heap.size + 1) 1 (.int .i64 RL)) (fun b o e => by have := HQ5.out b o e; simp; omega))
  clear HQ5
  clear hq8 lt8
  go_wp2_with fail
  generalize World.setCell _ _ _ = w9 at *
  refine (mailBegun_any _).mono ?_
  rintro e wa ⟨rfl, hba⟩
  replace J8 := hid (J8.out.keep hba)
  replace J5 := hid (J5.out.keep hba)
  clear cX0 cX1 hsB lE lF
  replace RE := hid (RE.out.keepx hba)
  replace RF := hid (RF.out.keepx hba)
  replace BW := hid (btrans BW.out hba)
  clear hba
  clear c30 c31 c70 c71 c90 c91 cE0 cE1 cF0 cF1
  have c30 := (R3.out.keepx BW.out).cell 0 _ rfl
  have c31 := (R3.out.keepx BW.out).cell 1 _ rfl
  have c70 := (R7.out.keepx BW.out).cell 0 _ rfl
  have c71 := (R7.out.keepx BW.out).cell 1 _ rfl
  have c90 := (R9.out.keepx BW.out).cell 0 _ rfl
  have c91 := (R9.out.keepx BW.out).cell 1 _ rfl
  have cE0 := RE.out.cell 0 _ rfl
  have cE1 := RE.out.cell 1 _ rfl
  have cF0 := RF.out.cell 0 _ rfl
  have cF1 := RF.out.cell 1 _ rfl

  go_wp2_with fail
  refine (C40.out _ (I0.out.keep BW.out)).mono ?_
  rintro e wb ⟨rfl, hbb⟩
  replace J8 := hid (J8.out.keep hbb)
  replace J5 := hid (J5.out.keep hbb)
  replace RE := hid (RE.out.keepx hbb)
  replace RF := hid (RF.out.keepx hbb)
  replace BW := hid (btrans BW.out hbb)
  clear hbb
  clear c30 c31 c70 c71 c90 c91 cE0 cE1 cF0 cF1
  have c30 := (R3.out.keepx BW.out).cell 0 _ rfl
  have c31 := (R3.out.keepx BW.out).cell 1 _ rfl
  have c70 := (R7.out.keepx BW.out).cell 0 _ rfl
  have c71 := (R7.out.keepx BW.out).cell 1 _ rfl
  have c90 := (R9.out.keepx BW.out).cell 0 _ rfl
  have c91 := (R9.out.keepx BW.out).cell 1 _ rfl
  have cE0 := RE.out.cell 0 _ rfl
  have cE1 := RE.out.cell 1 _ rfl
  have cF0 := RF.out.cell 0 _ rfl
  have cF1 := RF.out.cell 1 _ rfl

  go_wp2_with fail
  refine (ringIs_true a1 a5 CV k1 k5 CL 0 _ (J1.out.keep BW.out) J5.out hln1 rfl).mono ?_
  rintro e wc ⟨rfl, hbc⟩
  replace J8 := hid (J8.out.keep hbc)
  replace J5 := hid (J5.out.keep hbc)
  replace RE := hid (RE.out.keepx hbc)
  replace RF := hid (RF.out.keepx hbc)
  replace BW := hid (btrans BW.out hbc)
  clear hbc
  clear c30 c31 c70 c71 c90 c91 cE0 cE1 cF0 cF1
  have c30 := (R3.out.keepx BW.out).cell 0 _ rfl
  have c31 := (R3.out.keepx BW.out).cell 1 _ rfl
  have c70 := (R7.out.keepx BW.out).cell 0 _ rfl
  have c71 := (R7.out.keepx BW.out).cell 1 _ rfl
  have c90 := (R9.out.keepx BW.out).cell 0 _ rfl
  have c91 := (R9.out.keepx BW.out).cell 1 _ rfl
  have cE0 := RE.out.cell 0 _ rfl
  have cE1 := RE.out.cell 1 _ rfl
  have cF0 := RF.out.cell 0 _ rfl
  have cF1 := RF.out.cell 1 _ rfl

  go_wp2_with fail
  refine (ringIs_true a2 a8 RV k2 k8 RL 0 _ (J2.out.keep BW.out) J8.out hln2 rfl).mono ?_
  rintro e wd ⟨rfl, hbd⟩
  replace B0 := hid (btrans B0.out (btrans BW.out hbd))
  clear hbd R3 R7 R9 RE RF BW
  clear c30 c31 c70 c71 c90 c91 cE0 cE1 cF0 cF1
  go_wp2
  go_ret
  exact ⟨rfl, B0.out⟩

theorem rings_any (a : Option Addr) (V : List Int) (cap : Nat) (lost size : Int) (p : Option Addr) (L : List Int) (c : Nat) (w : World) (hw : IntsIn w a V) (hl : V.length ≤ 9223372036854775807) (hcap : V.length ≤ cap) (hL : IntsIn w p L) (hm : L.length ≤ 140737488355328) (hcp : L.length ≤ c) : Calls Try.prog 8 #[.agg #[.slice a V.length cap, .int .i64 lost], .int .i64 size, .slice p L.length c] w fun e w' => e = .returned (.bool true) ∧ Below w.heap.size w w' := by
  by_cases h0 : ckR V lost size = 0
  · cases h1 : allR L 0 255 with
    | true => exact rings_ok a V cap lost size p L c w hw hl hcap hL hm hcp h0 h1
    | false => exact rings_wrong a V cap lost size p L c w hw hl hcap hL hm hcp h0 h1
  · exact rings_bad a V cap lost size p L c w hw hl hcap hL hm hcp h0

end Go.Proofs.Ytcdglnbkpklefaa
