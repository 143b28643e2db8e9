/- Walks: window.Run where something is refused; window.Worst; the config of one domain. A window of the one config, plain. -/
import Derived.Test.YtildebflnmbefaaGreatWzJ
import Derived.Test.YtildebflnmbefaaGreatKz
set_option linter.unusedVariables false
namespace Go.Proofs.YtildebflnmbefaaGreat
open Go.RowKit

set_option maxRecDepth 100000 in
set_option maxHeartbeats 4000000 in
theorem runWin_bad (C : Conf) (B : Mem) (dn : Int) (D : Dom) (A : DMem) (K : KT) (aK : Option Addr) (cK : Nat) (L : List ActT) (aL : Option Addr) (cL : Nat) (fr te : Int) (w : World) (hC : ConfIn w B C) (hD : DomIn w A D) (hK : CacheIn w aK K) (hKl : List.length K ≤ 9223372036854775807) (hL : ChansIn w aL L) (hLl : List.length L ≤ 9223372036854775807) (h0 : ckRun C dn D K L fr te ≠ 0) :
    Calls Tryz.prog 5 #[cv C B, .int .i64 dn, dv D A, .agg #[.slice aK K.length cK], .slice aL L.length cL, .int .i64 fr, .int .i64 te] w fun e w' => e = .returned (.tuple #[.agg #[.slice none 0 0, .slice none 0 0, .int .i64 0, .slice none 0 0, .slice none 0 0, .slice none 0 0, .slice none 0 0], .agg #[.slice none 0 0], .int .i64 (ckRun C dn D K L fr te)]) ∧ Below w.heap.size w w' := by
  have q1 := below_new w (.cells (cl C B) 27)
  have q2 := below_new (w.alloc (.cells (cl C B) 27)) (.cells (dl D A) 33)
  have q3 := below_new ((w.alloc (.cells (cl C B) 27)).alloc (.cells (dl D A) 33)) (.cells #[.slice aK (List.length K) cK] 36)
  have q4 := below_new (((w.alloc (.cells (cl C B) 27)).alloc (.cells (dl D A) 33)).alloc (.cells #[.slice aK (List.length K) cK] 36)) (.cells #[.slice none 0 0, .slice none 0 0, .int .i64 0, .slice none 0 0, .slice none 0 0, .slice none 0 0, .slice none 0 0] 33)
  have q5 := below_new ((((w.alloc (.cells (cl C B) 27)).alloc (.cells (dl D A) 33)).alloc (.cells #[.slice aK (List.length K) cK] 36)).alloc (.cells #[.slice none 0 0, .slice none 0 0, .int .i64 0, .slice none 0 0, .slice none 0 0, .slice none 0 0, .slice none 0 0] 33)) (.cells #[.slice none 0 0] 36)
  have hb := btrans (btrans (btrans (btrans q1 q2) q3) q4) q5
  have HB := hid hb
  have HC := hid (hC.keep hb)
  have HD := hid (hD.keep hb)
  have HK := hid (hK.keep hb)
  have HL := hid (hL.keep hb)
  have R4 := hid ((rowAt_new (((w.alloc (.cells (cl C B) 27)).alloc (.cells (dl D A) 33)).alloc (.cells #[.slice aK (List.length K) cK] 36)) (w.heap.size + 1 + 1 + 1) [.slice none 0 0, .slice none 0 0, .int .i64 0, .slice none 0 0, .slice none 0 0, .slice none 0 0, .slice none 0 0] 33 (by simp)).below q5 (Nat.le_refl _))
  have R5 := hid (rowAt_new ((((w.alloc (.cells (cl C B) 27)).alloc (.cells (dl D A) 33)).alloc (.cells #[.slice aK (List.length K) cK] 36)).alloc (.cells #[.slice none 0 0, .slice none 0 0, .int .i64 0, .slice none 0 0, .slice none 0 0, .slice none 0 0, .slice none 0 0] 33)) (w.heap.size + 1 + 1 + 1 + 1) [.slice none 0 0] 36 (by simp))
  clear q1 q2 q3 q4 q5 hb hC hD hK hL
  have CK := hid (checkRun_any C B dn D A K aK cK L aL cL fr te (((((w.alloc (.cells (cl C B) 27)).alloc (.cells (dl D A) 33)).alloc (.cells #[.slice aK (List.length K) cK] 36)).alloc (.cells #[.slice none 0 0, .slice none 0 0, .int .i64 0, .slice none 0 0, .slice none 0 0, .slice none 0 0, .slice none 0 0] 33)).alloc (.cells #[.slice none 0 0] 36)) HC.out HD.out HK.out hKl HL.out hLl)
  generalize ckRun C dn D K L fr te = z at *
  have hzb : (z != 0) = true := by simp [h0]
  go_enter Tryz.func5, Tryz.ntmps5
  go_wp2_with fail
  refine CK.out.mono ?_
  rintro e w1 ⟨rfl, hb1⟩
  generalize hW : World.alloc (World.alloc (World.alloc (World.alloc (World.alloc w _) _) _) _) _ = W at *
  clear hW
  have HB1 := hid (btrans HB.out hb1)
  have T4 := hid (R4.out.below hb1 (Nat.le_refl _))
  have T5 := hid (R5.out.below hb1 (Nat.le_refl _))
  clear R4 R5 HB HC HD HK HL hb1 CK
  have y0 := T4.out.cell 0 _ rfl
  have f0 := T4.out.frozen 0
  have y1 := T4.out.cell 1 _ rfl
  have f1 := T4.out.frozen 1
  have y2 := T4.out.cell 2 _ rfl
  have f2 := T4.out.frozen 2
  have y3 := T4.out.cell 3 _ rfl
  have f3 := T4.out.frozen 3
  have y4 := T4.out.cell 4 _ rfl
  have f4 := T4.out.frozen 4
  have y5 := T4.out.cell 5 _ rfl
  have f5 := T4.out.frozen 5
  have y6 := T4.out.cell 6 _ rfl
  have f6 := T4.out.frozen 6
  have z0 := T5.out.cell 0 _ rfl
  have k0 := T5.out.frozen 0
  have n5 : ¬ w.heap.size + 1 + 1 + 1 = w.heap.size + 1 + 1 + 1 + 1 := by omega
  have n6 : ¬ w.heap.size + 1 + 1 + 1 + 1 = w.heap.size + 1 + 1 + 1 := by omega
  go_wp2
  have Q4 : RowAt (((((((w1.setCell ⟨w.heap.size + 1 + 1 + 1, 0, none⟩ (.slice none 0 0)).setCell ⟨w.heap.size + 1 + 1 + 1, 1, none⟩ (.slice none 0 0)).setCell ⟨w.heap.size + 1 + 1 + 1, 2, none⟩ (.int .i64 0)).setCell ⟨w.heap.size + 1 + 1 + 1, 3, none⟩ (.slice none 0 0)).setCell ⟨w.heap.size + 1 + 1 + 1, 4, none⟩ (.slice none 0 0)).setCell ⟨w.heap.size + 1 + 1 + 1, 5, none⟩ (.slice none 0 0)).setCell ⟨w.heap.size + 1 + 1 + 1, 6, none⟩ (.slice none 0 0)) (w.heap.size + 1 + 1 + 1) 33 [.slice none 0 0, .slice none 0 0, .int .i64 0, .slice none 0 0, .slice none 0 0, .slice none 0 0, .slice none 0 0] := row_setCells [.slice none 0 0, .slice none 0 0, .int .i64 0, .slice none 0 0, .slice none 0 0, .slice none 0 0, .slice none 0 0] [] [.slice none 0 0, .slice none 0 0, .int .i64 0, .slice none 0 0, .slice none 0 0, .slice none 0 0, .slice none 0 0] w1 T4.out rfl
  have Q5 : RowAt (((((((w1.setCell ⟨w.heap.size + 1 + 1 + 1, 0, none⟩ (.slice none 0 0)).setCell ⟨w.heap.size + 1 + 1 + 1, 1, none⟩ (.slice none 0 0)).setCell ⟨w.heap.size + 1 + 1 + 1, 2, none⟩ (.int .i64 0)).setCell ⟨w.heap.size + 1 + 1 + 1, 3, none⟩ (.slice none 0 0)).setCell ⟨w.heap.size + 1 + 1 + 1, 4, none⟩ (.slice none 0 0)).setCell ⟨w.heap.size + 1 + 1 + 1, 5, none⟩ (.slice none 0 0)).setCell ⟨w.heap.size + 1 + 1 + 1, 6, none⟩ (.slice none 0 0)) (w.heap.size + 1 + 1 + 1 + 1) 36 [.slice none 0 0] := by
    refine Eq.trans ?_ T5.out
    exact ((heap_set_ne _ _ 6 _ _ n6).trans ((heap_set_ne _ _ 5 _ _ n6).trans ((heap_set_ne _ _ 4 _ _ n6).trans ((heap_set_ne _ _ 3 _ _ n6).trans ((heap_set_ne _ _ 2 _ _ n6).trans ((heap_set_ne _ _ 1 _ _ n6).trans (heap_set_ne _ _ 0 _ _ n6)))))))
  have HBF : Below w.heap.size w (((((((w1.setCell ⟨w.heap.size + 1 + 1 + 1, 0, none⟩ (.slice none 0 0)).setCell ⟨w.heap.size + 1 + 1 + 1, 1, none⟩ (.slice none 0 0)).setCell ⟨w.heap.size + 1 + 1 + 1, 2, none⟩ (.int .i64 0)).setCell ⟨w.heap.size + 1 + 1 + 1, 3, none⟩ (.slice none 0 0)).setCell ⟨w.heap.size + 1 + 1 + 1, 4, none⟩ (.slice none 0 0)).setCell ⟨w.heap.size + 1 + 1 + 1, 5, none⟩ (.slice none 0 0)).setCell ⟨w.heap.size + 1 + 1 + 1, 6, none⟩ (.slice none 0 0)) := (((((((HB1.out.setCell (p := ⟨w.heap.size + 1 + 1 + 1, 0, none⟩) (by show w.heap.size ≤ w.heap.size + 1 + 1 + 1; omega) _).setCell (p := ⟨w.heap.size + 1 + 1 + 1, 1, none⟩) (by show w.heap.size ≤ w.heap.size + 1 + 1 + 1; omega) _).setCell (p := ⟨w.heap.size + 1 + 1 + 1, 2, none⟩) (by show w.heap.size ≤ w.heap.size + 1 + 1 + 1; omega) _).setCell (p := ⟨w.heap.size + 1 + 1 + 1, 3, none⟩) (by show w.heap.size ≤ w.heap.size + 1 + 1 + 1; omega) _).setCell (p := ⟨w.heap.size + 1 + 1 + 1, 4, none⟩) (by show w.heap.size ≤ w.heap.size + 1 + 1 + 1; omega) _).setCell (p := ⟨w.heap.size + 1 + 1 + 1, 5, none⟩) (by show w.heap.size ≤ w.heap.size + 1 + 1 + 1; omega) _).setCell (p := ⟨w.heap.size + 1 + 1 + 1, 6, none⟩) (by show w.heap.size ≤ w.heap.size + 1 + 1 + 1; omega) _)
  generalize (((((((w1.setCell ⟨w.heap.size + 1 + 1 + 1, 0, none⟩ (.slice none 0 0)).setCell ⟨w.heap.size + 1 + 1 + 1, 1, none⟩ (.slice none 0 0)).setCell ⟨w.heap.size + 1 + 1 + 1, 2, none⟩ (.int .i64 0)).setCell ⟨w.heap.size + 1 + 1 + 1, 3, none⟩ (.slice none 0 0)).setCell ⟨w.heap.size + 1 + 1 + 1, 4, none⟩ (.slice none 0 0)).setCell ⟨w.heap.size + 1 + 1 + 1, 5, none⟩ (.slice none 0 0)).setCell ⟨w.heap.size + 1 + 1 + 1, 6, none⟩ (.slice none 0 0)) = W7 at *
  have Q4' : RowAt (W7.setCell ⟨w.heap.size + 1 + 1 + 1 + 1, 0, none⟩ (.slice none 0 0)) (w.heap.size + 1 + 1 + 1) 33 [.slice none 0 0, .slice none 0 0, .int .i64 0, .slice none 0 0, .slice none 0 0, .slice none 0 0, .slice none 0 0] := (heap_set_ne _ _ _ _ _ n5).trans Q4
  have Q5' : RowAt (W7.setCell ⟨w.heap.size + 1 + 1 + 1 + 1, 0, none⟩ (.slice none 0 0)) (w.heap.size + 1 + 1 + 1 + 1) 36 [.slice none 0 0] := rowAt_set1 Q5 0 _
  have d0 := Q4'.cell 0 _ rfl
  have d1 := Q4'.cell 1 _ rfl
  have d2 := Q4'.cell 2 _ rfl
  have d3 := Q4'.cell 3 _ rfl
  have d4 := Q4'.cell 4 _ rfl
  have d5 := Q4'.cell 5 _ rfl
  have d6 := Q4'.cell 6 _ rfl
  have d7 := Q5'.cell 0 _ rfl
  exact bodyPost_ret (v := .tuple #[.agg #[.slice none 0 0, .slice none 0 0, .int .i64 0, .slice none 0 0, .slice none 0 0, .slice none 0 0, .slice none 0 0], .agg #[.slice none 0 0], .int .i64 z]) (by simp [results, Tryz.results5, go_sem, d0, d1, d2, d3, d4, d5, d6, d7]) rfl ⟨rfl, HBF.setCell (p := ⟨w.heap.size + 1 + 1 + 1 + 1, 0, none⟩) (by show w.heap.size ≤ w.heap.size + 1 + 1 + 1 + 1; omega) _⟩

set_option maxHeartbeats 1000000 in
theorem worst10_ok (a : ActT) (w : World) (h : ckA a = 0) : Calls Tryz.prog 10 #[av a] w fun e w' => e = .returned (.tuple #[.int .i64 (wstA a), .int .i64 0]) ∧ Below w.heap.size w w' := by
  have CA := hid (fun wx => checkAction_any a wx)
  have CB := hid (fun wx => worst_any a wx)
  rw [h] at CA
  generalize wstA a = z at *
  obtain ⟨k, n, v⟩ := a
  have q1 := below_new w (.cells #[.int .i64 k, .int .i64 n, .int .i64 v] 53)
  have HB := hid q1
  have R1 := hid (rowAt_new w _ [.int .i64 k, .int .i64 n, .int .i64 v] 53 rfl)
  have c0 := R1.out.cell 0 _ rfl
  have c1 := R1.out.cell 1 _ rfl
  have c2 := R1.out.cell 2 _ rfl
  clear q1 h
  go_enter Tryz.func10, Tryz.ntmps10
  go_wp2_with fail
  refine (CA.out _).mono ?_
  rintro e w1 ⟨rfl, hb1⟩
  have T1 := hid (R1.out.below hb1 (Nat.le_refl _))
  have HB1 := hid (btrans HB.out hb1)
  have e0 := T1.out.cell 0 _ rfl
  have e1 := T1.out.cell 1 _ rfl
  have e2 := T1.out.cell 2 _ rfl
  clear hb1 c0 c1 c2
  go_wp2_with fail
  refine (CB.out _).mono ?_
  rintro e w2 ⟨rfl, hb2⟩
  go_wp2
  exact bodyPost_ret (v := .tuple #[.int .i64 z, .int .i64 0]) (by simp [results, Tryz.results10, go_sem]) rfl ⟨rfl, btrans HB1.out hb2⟩

set_option maxRecDepth 100000 in
set_option maxHeartbeats 1000000 in
theorem oneV7_any (w : World) : Calls Tryz.prog 7 #[] w fun e w' => ∃ A, e = .returned (cv oneC A) ∧ ConfIn w' A oneC ∧ Below w.heap.size w w' := by
  go_enter Tryz.func7, Tryz.ntmps7
  go_wp2
  have R1 : RowAt (((w.alloc (.cells #[.int .i64 1, .int .i64 1, .int .i64 1, .int .i64 10, .int .i64 4, .slice (some ⟨w.heap.size + 1, 0, none⟩) 1 1, .slice none 0 0, .slice none 0 0, .slice (some ⟨w.heap.size + 1 + 1, 0, none⟩) 1 1] 27)).alloc (.cells #[.int .i64 0, .int .i64 100] 67)).alloc (.cells #[.int .i64 0, .int .i64 50, .int .i64 40, .int .i64 30] 69)) (w.heap.size + 1) 67 [.int .i64 0, .int .i64 100] := (rowAt_new2 _ _ [.int .i64 0, .int .i64 100] 67 (by simp)).alloc _
  have R2 : RowAt (((w.alloc (.cells #[.int .i64 1, .int .i64 1, .int .i64 1, .int .i64 10, .int .i64 4, .slice (some ⟨w.heap.size + 1, 0, none⟩) 1 1, .slice none 0 0, .slice none 0 0, .slice (some ⟨w.heap.size + 1 + 1, 0, none⟩) 1 1] 27)).alloc (.cells #[.int .i64 0, .int .i64 100] 67)).alloc (.cells #[.int .i64 0, .int .i64 50, .int .i64 40, .int .i64 30] 69)) (w.heap.size + 1 + 1) 69 [.int .i64 0, .int .i64 50, .int .i64 40, .int .i64 30] := rowAt_new2 _ _ [.int .i64 0, .int .i64 50, .int .i64 40, .int .i64 30] 69 (by simp)
  refine bodyPost_ret (v := cv oneC ⟨some ⟨w.heap.size + 1, 0, none⟩, none, none, some ⟨w.heap.size + 1 + 1, 0, none⟩, 1, 0, 0, 1⟩) (by simp [results, Tryz.results7, go_sem, oneC]) rfl ⟨_, rfl, ?_, (((Below.refl _ _).alloc (Nat.le_refl _) _).alloc (by simp) _).alloc (by simp; omega) _⟩
  refine ⟨fun i hi => ?_, fun i hi => absurd hi (by simp [oneC]), fun i hi => absurd hi (by simp [oneC]), fun i hi => ?_, by simp [oneC], by simp [oneC], by simp [oneC], by simp [oneC], by simp [oneC]⟩
  · obtain rfl : i = 0 := by simp [oneC] at hi; exact hi
    exact ⟨_, _, rfl, R1.cell 0 _ rfl, R1.cell 1 _ rfl⟩
  · obtain rfl : i = 0 := by simp [oneC] at hi; exact hi
    exact ⟨_, _, rfl, R2.cell 0 _ rfl, R2.cell 1 _ rfl, R2.cell 2 _ rfl, R2.cell 3 _ rfl⟩

theorem one_new : ckD oneC 0 (newD oneC) = 0 := by decide

end Go.Proofs.YtildebflnmbefaaGreat

namespace Go.Proofs.YtildebflnmbefaaGreat
open Go.RowKit

def oneL : List ActT := [(3, 3, 0), (8, 0, 0)]
def oneK : KT := [[(0, false)]]
def endK : KT := [[(3, true)]]
def endOne : Dom := ⟨[], [1], 2, [], [], [], [(0, 2, 0, 0), (0, 3, 0, 0), (10, 11, 10, 0), (13, 4, 0, 0)]⟩
theorem one_run : runD oneC 0 oneL 40 40 (newD oneC) oneK 0 = (endOne, endK) := by kernel_rfl
theorem one_ckRun : ckRun oneC 0 (newD oneC) oneK oneL 0 40 = 0 := by kernel_rfl
theorem one_cost : spC endK (2, 3, 0) = 1 := by kernel_rfl
theorem one_ckK : ck endK = 0 := by kernel_rfl

end Go.Proofs.YtildebflnmbefaaGreat
