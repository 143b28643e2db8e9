/- Walks: a slot opens, where no interrupt line is. -/
import Derived.Test.YtaellaconpaejaaEd0
set_option linter.unusedVariables false
namespace Go.Proofs.Ytaellaconpaejaa
open Go.RowKit

set_option maxRecDepth 100000 in
set_option maxHeartbeats 1000000 in
theorem open_nil (C : Conf) (B : Mem) (D : Dom) (A : DMem) (s : Nat) (fr now : Int) (w : World) (hC : ConfIn w B C) (hD : DomIn w A D) (h0 : ckC C = 0) (hs : s < C.sl.length) (hz : ckD C C.sl[s].1 D = 0) (hd : inR C.sl[s].1 0 (C.d - 1) = true) (hf : inR fr 0 100000 = true) (ht : inR now 0 100000 = true) (how : C.ow.length = 0)
    (hl : D.jobs.length ≤ 1000000000000 ∧ D.rel.length ≤ 1000000000000 ∧ D.tak.length ≤ 1000000000000 ∧ D.evs.length ≤ 1000000000000) (hI : D.ins.length ≤ 1000000000000) (hO : D.out.length ≤ 1000000000000) (hi : ∀ r ∈ D.ins, r.1.length ≤ 1000000000000) (ho : ∀ r ∈ D.out, r.length ≤ 1000000000000) :
    Calls Try.prog 112 #[cv C B, .slice none 0 0, .int .i64 s, dv D A, .int .i64 fr, .int .i64 now] w fun e w' => ∃ A', e = .returned (.tuple #[dv (openD D now s) A', .int .i64 0]) ∧ (∀ wx : World, (∀ x, w.heap.size ≤ x → wx.heap[x]? = w'.heap[x]?) → DomIn wx A' (openD D now s)) ∧ Below w.heap.size w w' := by
  have q1 := below_new w (.cells (cl C B) 46)
  have q2 := below_new (w.alloc (.cells (cl C B) 46)) (.cells (dl D A) 90)
  have q3 := below_new ((w.alloc (.cells (cl C B) 46)).alloc (.cells (dl D A) 90)) (.cells #[.slice none 0 0, .slice none 0 0, .int .i64 0, .slice none 0 0, .slice none 0 0, .slice none 0 0, .slice none 0 0] 90)
  have HC := hid (((hC.keep q1).keep q2).keep q3)
  have HD := hid (((hD.keep q1).keep q2).keep q3)
  have HX := hid (((boxC_new w C B).keep q2).keep q3)
  have HRD := hid ((rowAt_new2 (w.alloc (.cells (cl C B) 46)) (w.heap.size + 1) (dl D A).toList 90 (by simp)).below q3 (Nat.le_refl _))
  have HRB := hid (rowAt_new2 ((w.alloc (.cells (cl C B) 46)).alloc (.cells (dl D A) 90)) (w.heap.size + 1 + 1) [.slice none 0 0, .slice none 0 0, .int .i64 0, .slice none 0 0, .slice none 0 0, .slice none 0 0, .slice none 0 0] 90 (by simp))
  have HB := hid (btrans q1 (btrans q2 q3))
  have HSZ : Hid ((((w.alloc (.cells (cl C B) 46)).alloc (.cells (dl D A) 90)).alloc (.cells #[.slice none 0 0, .slice none 0 0, .int .i64 0, .slice none 0 0, .slice none 0 0, .slice none 0 0, .slice none 0 0] 90)).heap.size = w.heap.size + 3) := hid (by simp)
  have HS0 : Hid (ckSlot C s = 0) := hid (by simp [ckSlot, h0, inR]; omega)
  have HZ := hid hz
  have H0 := hid h0
  have HDD := hid hd
  have HFF := hid hf
  have HTT := hid ht
  have HL := hid hl
  have HII := hid hI
  have HOO := hid hO
  have Hi := hid hi
  have Ho := hid ho
  have HOW := hid how
  clear q1 q2 q3 hC hD hz h0 hd hf ht hl hI hO hi ho how
  obtain ⟨a5, a6, a7, a8, c5, c6, c7, c8⟩ := B
  obtain ⟨aJ, aR, aI, aT, aO, aE, cJ, cR, cI, cT, cO, cE⟩ := A
  dsimp only [cv, cl, dv, dl] at *
  go_enter Try.func112, Try.ntmps112
  obtain ⟨g0, g1, g2, g3, g4, g5, g6, g7, g8⟩ := HX.out
  go_wp2_with fail
  refine (checkSlot_any C ⟨a5, a6, a7, a8, c5, c6, c7, c8⟩ s _ HC.out).mono ?_
  rintro e w1 ⟨rfl, hb1⟩
  rw [HS0.out]
  generalize World.alloc (World.alloc (World.alloc w _) _) _ = W at *
  clear g0 g1 g2 g3 g4 g5 g6 g7 g8
  obtain ⟨g0, g1, g2, g3, g4, g5, g6, g7, g8⟩ := HX.out.keep hb1
  have rd := HRD.out.below hb1 (Nat.le_refl _)
  have d0 := rd.cell 0 _ rfl
  have d1 := rd.cell 1 _ rfl
  have d2 := rd.cell 2 _ rfl
  have d3 := rd.cell 3 _ rfl
  have d4 := rd.cell 4 _ rfl
  have d5 := rd.cell 5 _ rfl
  have d6 := rd.cell 6 _ rfl
  obtain ⟨b', o', e', c0, c1⟩ := (HC.out.keep hb1).sl s hs
  dsimp only at e'
  rw [e'] at g5
  have hs0 : (0 : Int) ≤ (s : Int) := by omega
  have hs1 : (s : Int) < (C.sl.length : Int) := by omega
  go_wp2_with fail
  rw [← e']
  refine (checkD_any D ⟨aJ, aR, aI, aT, aO, aE, cJ, cR, cI, cT, cO, cE⟩ C ⟨a5, a6, a7, a8, c5, c6, c7, c8⟩ C.sl[s].1 _ (HC.out.keep hb1) (HD.out.keep hb1)).mono ?_
  rintro e w2 ⟨rfl, hb2⟩
  rw [HZ.out]
  clear g0 g1 g2 g3 g4 g5 g6 g7 g8 d0 d1 d2 d3 d4 d5 d6 rd c0 c1 e'
  obtain ⟨g0, g1, g2, g3, g4, g5, g6, g7, g8⟩ := HX.out.keep (btrans hb1 hb2)
  go_wp2_with fail
  refine (arrived_nil C ⟨a5, a6, a7, a8, c5, c6, c7, c8⟩ C.sl[s].1 fr now _ (HC.out.keep (btrans hb1 hb2)) H0.out HDD.out HFF.out HTT.out).mono ?_
  rintro e w3 ⟨ga, rfl, hga, hb3⟩
  clear g0 g1 g2 g3 g4 g5 g6 g7 g8 hga
  have HB3 := hid (btrans hb1 (btrans hb2 hb3))
  clear hb1 hb2 hb3
  have rd := HRD.out.below HB3.out (Nat.le_refl _)
  have d0 := rd.cell 0 _ rfl
  have d1 := rd.cell 1 _ rfl
  have d2 := rd.cell 2 _ rfl
  have d3 := rd.cell 3 _ rfl
  have d4 := rd.cell 4 _ rfl
  have d5 := rd.cell 5 _ rfl
  have d6 := rd.cell 6 _ rfl
  go_wp2_with fail
  refine (cloneD_any D ⟨aJ, aR, aI, aT, aO, aE, cJ, cR, cI, cT, cO, cE⟩ _ (HD.out.keep HB3.out) HL.out HII.out HOO.out Hi.out Ho.out).mono ?_
  rintro e w4 ⟨A4, gI, gO, m, p, q, rfl, hown4, hb4⟩
  clear d0 d1 d2 d3 d4 d5 d6 rd
  obtain ⟨jJ, jR, jI, jT, jO, jE, kJ, kR, kI, kT, kO, kE⟩ := A4
  have q5 := below_new w4 (.cells #[.slice jJ D.jobs.length kJ, .slice jR D.rel.length kR, .int .i64 D.nxt, .slice jI D.ins.length kI, .slice jT D.tak.length kT, .slice jO D.out.length kO, .slice jE D.evs.length kE] 90)
  have q6 := below_new (w4.alloc (.cells #[.slice jJ D.jobs.length kJ, .slice jR D.rel.length kR, .int .i64 D.nxt, .slice jI D.ins.length kI, .slice jT D.tak.length kT, .slice jO D.out.length kO, .slice jE D.evs.length kE] 90)) (.cells #[.int .i64 now, .int .i64 1, .int .i64 s, .int .i64 0] 150)
  have HO6 := hid ((hown4.keep q5).keep q6)
  have R5 := hid ((rowAt_new2 w4 w4.heap.size [.slice jJ D.jobs.length kJ, .slice jR D.rel.length kR, .int .i64 D.nxt, .slice jI D.ins.length kI, .slice jT D.tak.length kT, .slice jO D.out.length kO, .slice jE D.evs.length kE] 90 rfl).below q6 (Nat.le_refl _))
  have R6 := hid (rowAt_new2 (w4.alloc (.cells #[.slice jJ D.jobs.length kJ, .slice jR D.rel.length kR, .int .i64 D.nxt, .slice jI D.ins.length kI, .slice jT D.tak.length kT, .slice jO D.out.length kO, .slice jE D.evs.length kE] 90)) (w4.heap.size + 1) [.int .i64 now, .int .i64 1, .int .i64 s, .int .i64 0] 150 (by simp))
  have HCL : Hid (CellsIn ((w4.alloc (.cells #[.slice jJ D.jobs.length kJ, .slice jR D.rel.length kR, .int .i64 D.nxt, .slice jI D.ins.length kI, .slice jT D.tak.length kT, .slice jO D.out.length kO, .slice jE D.evs.length kE] 90)).alloc (.cells #[.int .i64 now, .int .i64 1, .int .i64 s, .int .i64 0] 150)) (some ⟨w4.heap.size + 1, 0, none⟩) (fE [(now, 1, (s : Int), 0)])) := hid fun _ => ⟨_, 0, rfl, fun j u hu => by rw [Nat.zero_add]; exact R6.out.cell j u hu⟩
  have HB6 := hid (btrans HB.out (btrans HB3.out (btrans hb4 (btrans q5 q6))))
  have HQ := hid hown4.mp
  have hsz4 := hb4.size
  have hszW := HB3.out.size
  rw [HSZ.out] at hszW
  have HE4 := hid hown4.lt
  have HRB6 := hid ((HRB.out.below (btrans HB3.out (btrans hb4 (btrans q5 q6))) (Nat.le_refl _)))
  have hS6 : Hid (((w4.alloc (.cells #[.slice jJ D.jobs.length kJ, .slice jR D.rel.length kR, .int .i64 D.nxt, .slice jI D.ins.length kI, .slice jT D.tak.length kT, .slice jO D.out.length kO, .slice jE D.evs.length kE] 90)).alloc (.cells #[.int .i64 now, .int .i64 1, .int .i64 s, .int .i64 0] 150)).heap.size = w4.heap.size + 2) := hid (by simp)
  dsimp only [dv, dl] at *
  rw [HOW.out]
  clear hown4 q5 q6
  go_wp2_with (at_builtin; refine wpList_appG rfl _ _ 88 150 rfl _ 4 32 Try.underlying88 Try.info150x rfl (by omega) w3.heap.size (.slice jE D.evs.length kE) D.evs.length (fE D.evs) rfl HO6.out.e 1 (fE [(now, 1, (s : Int), 0)]) rfl (fE_one _) _ _ rfl HCL.out (by have := HL.out; simp [maxLen]; omega) (by have := HL.out; omega) (by rw [hS6.out]; omega) ?_)
  intro v7 w7 hown7 hgrow
  obtain ⟨a8', c8', rfl, -⟩ := owns_cells hown7
  rw [← fE_app] at hown7
  generalize World.alloc (World.alloc w4 _) _ = w6 at *
  have hgt : ∀ k, (Value.slice jE D.evs.length kE).ownBlock = some k → w3.heap.size ≤ k ∧ k < m := fun k hk => ⟨owns_ge HO6.out.e k hk, HE4.out k (.inr (.inr (.inr hk)))⟩
  have hm4 : m ≤ w4.heap.size := by have := HQ.out; omega
  have R7 := hid (show RowAt w7 w4.heap.size 90 [.slice jJ D.jobs.length kJ, .slice jR D.rel.length kR, .int .i64 D.nxt, .slice jI D.ins.length kI, .slice jT D.tak.length kT, .slice jO D.out.length kO, .slice jE D.evs.length kE] from (hgrow.block w4.heap.size (by rw [hS6.out]; omega) (fun e => by have := hgt _ e.symm; omega)).trans R5.out)
  have RB7 := hid (show RowAt w7 (w.heap.size + 1 + 1) 90 [.slice none 0 0, .slice none 0 0, .int .i64 0, .slice none 0 0, .slice none 0 0, .slice none 0 0, .slice none 0 0] from (hgrow.block (w.heap.size + 1 + 1) (by rw [hS6.out]; omega) (fun e => by have := hgt _ e.symm; omega)).trans HRB6.out)
  have HB7 := hid (HB6.out.grown hgrow (by rw [hS6.out]; omega) (fun k hk => by have := hgt k hk; omega))
  have HOE := hid hown7
  have HGR := hid hgrow
  clear hown7 hgrow hgt
  have y6 := R7.out.cell 6 _ rfl
  have z6 := R7.out.frozen 6
  have hx6 := R7.out.cell 4 _ rfl
  have R8 := hid (rowAt_set1 R7.out 6 (.slice a8' (D.evs.length + 1) c8'))
  have RB8 := hid (show RowAt (w7.setCell ⟨w4.heap.size, 6, none⟩ (.slice a8' (D.evs.length + 1) c8')) (w.heap.size + 1 + 1) 90 _ from (heap_set_ne w7 w4.heap.size 6 (.slice a8' (D.evs.length + 1) c8') (w.heap.size + 1 + 1) (by omega)).trans RB7.out)
  go_wp2
  clear y6 z6 hx6
  generalize hw8 : w7.setCell ⟨w4.heap.size, 6, none⟩ (.slice a8' (D.evs.length + 1) c8') = w8 at *
  have HW8 := hid hw8
  clear hw8
  go_loopw [68] (fun i wr => i = .int .i64 0 ∧ wr = w8) (fun _ _ => 0)
  case atStart => exact ⟨rfl, rfl⟩
  case round =>
    obtain ⟨rfl, rfl⟩ := hrel
    have d0 := R8.out.cell 0 _ rfl
    have d1 := R8.out.cell 1 _ rfl
    have d2 := R8.out.cell 2 _ rfl
    have d3 := R8.out.cell 3 _ rfl
    have d4 := R8.out.cell 4 _ rfl
    have d5 := R8.out.cell 5 _ rfl
    have d6 := R8.out.cell 6 _ rfl
    have z0 := RB8.out.frozen 0
    have z1 := RB8.out.frozen 1
    have z2 := RB8.out.frozen 2
    have z3 := RB8.out.frozen 3
    have z4 := RB8.out.frozen 4
    have z5 := RB8.out.frozen 5
    have z6 := RB8.out.frozen 6
    have y0 := RB8.out.cell 0 _ rfl
    have y1 := RB8.out.cell 1 _ rfl
    have y2 := RB8.out.cell 2 _ rfl
    have y3 := RB8.out.cell 3 _ rfl
    have y4 := RB8.out.cell 4 _ rfl
    have y5 := RB8.out.cell 5 _ rfl
    have y6 := RB8.out.cell 6 _ rfl
    have HRF : Hid (RowAt (wr.setCells (w.heap.size + 1 + 1) 0 [.slice jJ D.jobs.length kJ, .slice jR D.rel.length kR, .int .i64 D.nxt, .slice jI D.ins.length kI, .slice jT D.tak.length kT, .slice jO D.out.length kO, .slice a8' (D.evs.length + 1) c8']) (w.heap.size + 1 + 1) 90 [.slice jJ D.jobs.length kJ, .slice jR D.rel.length kR, .int .i64 D.nxt, .slice jI D.ins.length kI, .slice jT D.tak.length kT, .slice jO D.out.length kO, .slice a8' (D.evs.length + 1) c8']) := hid (row_setCells _ [] _ wr RB8.out rfl)
    have HDF : Hid (∀ wx : World, (∀ x, w.heap.size ≤ x → wx.heap[x]? = (wr.setCells (w.heap.size + 1 + 1) 0 [.slice jJ D.jobs.length kJ, .slice jR D.rel.length kR, .int .i64 D.nxt, .slice jI D.ins.length kI, .slice jT D.tak.length kT, .slice jO D.out.length kO, .slice a8' (D.evs.length + 1) c8']).heap[x]?) → DomIn wx ⟨jJ, jR, jI, jT, jO, a8', kJ, kR, kI, kT, kO, c8'⟩ (openD D now s)) := by
      refine hid fun wx hwx => dom_told (E := D.evs ++ [(now, 1, (s : Int), 0)]) HO6.out HGR.out ?_ (bx := w4.heap.size) HQ.out.2.2 (by omega) (by rw [hS6.out]; omega) R5.out (fun x h1 h2 => ?_) (by have := HII.out; omega) (by have := HOO.out; omega)
      · simpa using HOE.out
      · rw [hwx x (by omega), heap_setCells_ne _ _ _ _ x (by omega), ← HW8.out, heap_set_ne _ _ _ _ x h2]
    have HBF : Hid (Below w.heap.size w (wr.setCells (w.heap.size + 1 + 1) 0 [.slice jJ D.jobs.length kJ, .slice jR D.rel.length kR, .int .i64 D.nxt, .slice jI D.ins.length kI, .slice jT D.tak.length kT, .slice jO D.out.length kO, .slice a8' (D.evs.length + 1) c8'])) := hid (below_setCellsx (by rw [← HW8.out]; exact HB7.out.setCell (p := ⟨w4.heap.size, 6, none⟩) (by show w.heap.size ≤ w4.heap.size; omega) _) _ (by omega) _ _)
    go_wp2
    change bodyPost _ _ _ _ _ (wr.setCells (w.heap.size + 1 + 1) 0 [.slice jJ D.jobs.length kJ, .slice jR D.rel.length kR, .int .i64 D.nxt, .slice jI D.ins.length kI, .slice jT D.tak.length kT, .slice jO D.out.length kO, .slice a8' (D.evs.length + 1) c8'])
    clear d0 d1 d2 d3 d4 d5 d6 z0 z1 z2 z3 z4 z5 z6 y0 y1 y2 y3 y4 y5 y6
    generalize wr.setCells (w.heap.size + 1 + 1) 0 [.slice jJ D.jobs.length kJ, .slice jR D.rel.length kR, .int .i64 D.nxt, .slice jI D.ins.length kI, .slice jT D.tak.length kT, .slice jO D.out.length kO, .slice a8' (D.evs.length + 1) c8'] = wf at *
    have d0 := HRF.out.cell 0 _ rfl
    have d1 := HRF.out.cell 1 _ rfl
    have d2 := HRF.out.cell 2 _ rfl
    have d3 := HRF.out.cell 3 _ rfl
    have d4 := HRF.out.cell 4 _ rfl
    have d5 := HRF.out.cell 5 _ rfl
    have d6 := HRF.out.cell 6 _ rfl
    exact bodyPost_ret (v := .tuple #[dv (openD D now s) ⟨jJ, jR, jI, jT, jO, a8', kJ, kR, kI, kT, kO, c8'⟩, .int .i64 0]) (by simp [results, Try.results112, go_sem, d0, d1, d2, d3, d4, d5, d6, openD]) rfl ⟨⟨jJ, jR, jI, jT, jO, a8', kJ, kR, kI, kT, kO, c8'⟩, rfl, HDF.out, HBF.out⟩

end Go.Proofs.Ytaellaconpaejaa
