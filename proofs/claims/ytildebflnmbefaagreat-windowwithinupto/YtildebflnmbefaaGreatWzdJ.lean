/- Walks: the law WindowWithin. Made by genwzd.py. -/
import Derived.Test.YtildebflnmbefaaGreatLc
import Derived.BigQuiet
set_option linter.unusedVariables false
namespace Go.Proofs.YtildebflnmbefaaGreat
open Go.RowKit

/-- How many of the first k events, those of before aside, tell of an action. -/
def cnt (E : List EvT) (n k : Nat) : Int := (((E.take k).drop n).countP tells1 : Nat)
theorem cnt_old {E : List EvT} {n k : Nat} (h : k ≤ n) : cnt E n k = 0 := by
  unfold cnt
  rw [List.drop_eq_nil_of_le (by simp; omega)]
  rfl
theorem cnt_le (E : List EvT) (n k : Nat) : 0 ≤ cnt E n k ∧ cnt E n k ≤ E.length := by
  unfold cnt
  have h1 : ((E.take k).drop n).countP tells1 ≤ ((E.take k).drop n).length := List.countP_le_length
  have h2 : ((E.take k).drop n).length ≤ E.length := by simp; omega
  omega
theorem cnt_succ {E : List EvT} {n k : Nat} (h : n ≤ k) (hk : k < E.length) : cnt E n (k + 1) = cnt E n k + (if tells1 E[k] then 1 else 0) := by
  unfold cnt
  rw [List.take_add_one, List.getElem?_eq_getElem hk, List.drop_append_of_le_length (by simp; omega), List.countP_append]
  simp only [Option.toList, List.countP_cons, List.countP_nil]
  split <;> simp
theorem cnt_all (E : List EvT) (n : Nat) : cnt E n E.length = ((E.drop n).countP tells1 : Nat) := by
  unfold cnt
  rw [List.take_length]

set_option maxRecDepth 100000 in
set_option maxHeartbeats 4000000 in
theorem within_err (hBegun : ∀ w : World, Calls Tryz.prog 4 #[] w fun e w' => e = .returned (.bool true) ∧ Below w.heap.size w w') (C : Conf) (B : Mem) (dn : Int) (D : Dom) (A : DMem) (K : KT) (aK : Option Addr) (cK : Nat) (L : List ActT) (aL : Option Addr) (cL : Nat) (fr te : Int) (w : World) (hC : ConfIn w B C) (hD : DomIn w A D) (hK : CacheIn w aK K) (hL : ChansIn w aL L) (hKl : List.length K ≤ 9223372036854775807) (hLl : List.length L ≤ 9223372036854775807) (h0 : ckRun C dn D K L fr te ≠ 0) :
    Calls Tryz.prog 3 #[cv C B, .int .i64 dn, dv D A, .agg #[.slice aK K.length cK], .slice aL L.length cL, .agg #[.int .i64 fr, .int .i64 te]] w fun e w' => e = .returned (.bool true) ∧ Below w.heap.size w w' := by
  have q1 := below_new w (.cells (cl C B) 27)
  have q2 := below_new (w.alloc (.cells (cl C B) 27)) (.cells (dl D A) 33)
  have q3 := below_new ((w.alloc (.cells (cl C B) 27)).alloc (.cells (dl D A) 33)) (.cells #[.slice aK (List.length K) cK] 36)
  have q4 := below_new (((w.alloc (.cells (cl C B) 27)).alloc (.cells (dl D A) 33)).alloc (.cells #[.slice aK (List.length K) cK] 36)) (.cells #[.int .i64 fr, .int .i64 te] 39)
  have hb := btrans (btrans (btrans q1 q2) q3) q4
  have HB := hid hb
  have HC := hid (hC.keep hb)
  have HD := hid (hD.keep hb)
  have HK := hid (hK.keep hb)
  have HL := hid (hL.keep hb)
  have R1 := hid ((((rowAt_new w _ (cl C B).toList 27 rfl).below q2 (Nat.le_refl _)).below q3 (Nat.le_refl _)).below q4 (Nat.le_refl _))
  have R2 := hid (((rowAt_new (w.alloc (.cells (cl C B) 27)) (w.heap.size + 1) (dl D A).toList 33 (by simp)).below q3 (Nat.le_refl _)).below q4 (Nat.le_refl _))
  have R3 := hid ((rowAt_new ((w.alloc (.cells (cl C B) 27)).alloc (.cells (dl D A) 33)) (w.heap.size + 1 + 1) [.slice aK (List.length K) cK] 36 (by simp)).below q4 (Nat.le_refl _))
  have R4 := hid (rowAt_new (((w.alloc (.cells (cl C B) 27)).alloc (.cells (dl D A) 33)).alloc (.cells #[.slice aK (List.length K) cK] 36)) (w.heap.size + 1 + 1 + 1) [.int .i64 fr, .int .i64 te] 39 (by simp))
  have H0 := hid h0
  clear q1 q2 q3 q4 hb hC hD hK hL h0
  obtain ⟨aJ, aR, aI, aT, aO, aE, cJ, cR, cI, cT, cO, cE⟩ := A
  obtain ⟨a5, a6, a7, a8, c5, c6, c7, c8⟩ := B
  dsimp only [cv, cl, dv, dl] at *
  go_enter Tryz.func3, Tryz.ntmps3
  go_wp2_with fail
  refine (hBegun _).mono ?_
  rintro e w1 ⟨rfl, hb1⟩
  have HC1 := hid (HC.out.keep hb1)
  have HD1 := hid (HD.out.keep hb1)
  have HK1 := hid (HK.out.keep hb1)
  have HL1 := hid (HL.out.keep hb1)
  have T1 := hid (R1.out.below hb1 (Nat.le_refl _))
  have T2 := hid (R2.out.below hb1 (Nat.le_refl _))
  have T3 := hid (R3.out.below hb1 (Nat.le_refl _))
  have T4 := hid (R4.out.below hb1 (Nat.le_refl _))
  have HB1 := hid (btrans HB.out hb1)
  have g0 := T1.out.cell 0 _ rfl
  have g1 := T1.out.cell 1 _ rfl
  have g2 := T1.out.cell 2 _ rfl
  have g3 := T1.out.cell 3 _ rfl
  have g4 := T1.out.cell 4 _ rfl
  have g5 := T1.out.cell 5 _ rfl
  have g6 := T1.out.cell 6 _ rfl
  have g7 := T1.out.cell 7 _ rfl
  have g8 := T1.out.cell 8 _ rfl
  have d0 := T2.out.cell 0 _ rfl
  have d1 := T2.out.cell 1 _ rfl
  have d2 := T2.out.cell 2 _ rfl
  have d3 := T2.out.cell 3 _ rfl
  have d4 := T2.out.cell 4 _ rfl
  have d5 := T2.out.cell 5 _ rfl
  have d6 := T2.out.cell 6 _ rfl
  have k0 := T3.out.cell 0 _ rfl
  have t0 := T4.out.cell 0 _ rfl
  have t1 := T4.out.cell 1 _ rfl
  clear hb1 HC HD HK HL R1 R2 R3 R4 HB
  generalize World.alloc (World.alloc (World.alloc (World.alloc w _) _) _) _ = W at *
  go_wp2_with fail
  refine (runWin_bad C ⟨a5, a6, a7, a8, c5, c6, c7, c8⟩ dn D ⟨aJ, aR, aI, aT, aO, aE, cJ, cR, cI, cT, cO, cE⟩ K aK cK L aL cL fr te _ HC1.out HD1.out HK1.out hKl HL1.out hLl H0.out).mono ?_
  rintro e w2 ⟨rfl, hb2⟩
  have hq := H0.out
  generalize ckRun C dn D K L fr te = q at *
  have hqb : (q != 0) = true := by simp [hq]
  have HF := hid (btrans HB1.out (btrans hb2 (btrans (below_new w2 (.cells #[.slice none 0 0, .slice none 0 0, .int .i64 0, .slice none 0 0, .slice none 0 0, .slice none 0 0, .slice none 0 0] 33)) (below_new (w2.alloc (.cells #[.slice none 0 0, .slice none 0 0, .int .i64 0, .slice none 0 0, .slice none 0 0, .slice none 0 0, .slice none 0 0] 33)) (.cells #[.slice none 0 0] 36)))))
  clear g0 g1 g2 g3 g4 g5 g6 g7 g8 d0 d1 d2 d3 d4 d5 d6 hb2 hq k0 t0 t1
  go_wp2
  go_ret
  exact ⟨rfl, HF.out⟩

set_option maxRecDepth 100000 in
set_option maxHeartbeats 8000000 in
theorem within_ok (hBegun : ∀ w : World, Calls Tryz.prog 4 #[] w fun e w' => e = .returned (.bool true) ∧ Below w.heap.size w w') (C : Conf) (B : Mem) (dn : Int) (D : Dom) (A : DMem) (K : KT) (aK : Option Addr) (cK : Nat) (L : List ActT) (aL : Option Addr) (cL : Nat) (fr te : Int) (w : World) (hC : ConfIn w B C) (hD : DomIn w A D) (hK : CacheIn w aK K) (hL : ChansIn w aL L) (h0 : ckRun C dn D K L fr te = 0) (hev : D.evs.length ≤ 1000000000) :
    Calls Tryz.prog 3 #[cv C B, .int .i64 dn, dv D A, .agg #[.slice aK K.length cK], .slice aL L.length cL, .agg #[.int .i64 fr, .int .i64 te]] w fun e w' => e = .returned (.bool true) ∧ Below w.heap.size w w' := by
  have q1 := below_new w (.cells (cl C B) 27)
  have q2 := below_new (w.alloc (.cells (cl C B) 27)) (.cells (dl D A) 33)
  have q3 := below_new ((w.alloc (.cells (cl C B) 27)).alloc (.cells (dl D A) 33)) (.cells #[.slice aK (List.length K) cK] 36)
  have q4 := below_new (((w.alloc (.cells (cl C B) 27)).alloc (.cells (dl D A) 33)).alloc (.cells #[.slice aK (List.length K) cK] 36)) (.cells #[.int .i64 fr, .int .i64 te] 39)
  have hb := btrans (btrans (btrans q1 q2) q3) q4
  have HB := hid hb
  have HC := hid (hC.keep hb)
  have HD := hid (hD.keep hb)
  have HK := hid (hK.keep hb)
  have HL := hid (hL.keep hb)
  have R1 := hid ((((rowAt_new w _ (cl C B).toList 27 rfl).below q2 (Nat.le_refl _)).below q3 (Nat.le_refl _)).below q4 (Nat.le_refl _))
  have R2 := hid (((rowAt_new (w.alloc (.cells (cl C B) 27)) (w.heap.size + 1) (dl D A).toList 33 (by simp)).below q3 (Nat.le_refl _)).below q4 (Nat.le_refl _))
  have R3 := hid ((rowAt_new ((w.alloc (.cells (cl C B) 27)).alloc (.cells (dl D A) 33)) (w.heap.size + 1 + 1) [.slice aK (List.length K) cK] 36 (by simp)).below q4 (Nat.le_refl _))
  have R4 := hid (rowAt_new (((w.alloc (.cells (cl C B) 27)).alloc (.cells (dl D A) 33)).alloc (.cells #[.slice aK (List.length K) cK] 36)) (w.heap.size + 1 + 1 + 1) [.int .i64 fr, .int .i64 te] 39 (by simp))
  have H0 := hid h0
  clear q1 q2 q3 q4 hb hC hD hK hL h0
  obtain ⟨aJ, aR, aI, aT, aO, aE, cJ, cR, cI, cT, cO, cE⟩ := A
  obtain ⟨a5, a6, a7, a8, c5, c6, c7, c8⟩ := B
  dsimp only [cv, cl, dv, dl] at *
  go_enter Tryz.func3, Tryz.ntmps3
  go_wp2_with fail
  refine (hBegun _).mono ?_
  rintro e w1 ⟨rfl, hb1⟩
  have HC1 := hid (HC.out.keep hb1)
  have HD1 := hid (HD.out.keep hb1)
  have HK1 := hid (HK.out.keep hb1)
  have HL1 := hid (HL.out.keep hb1)
  have T1 := hid (R1.out.below hb1 (Nat.le_refl _))
  have T2 := hid (R2.out.below hb1 (Nat.le_refl _))
  have T3 := hid (R3.out.below hb1 (Nat.le_refl _))
  have T4 := hid (R4.out.below hb1 (Nat.le_refl _))
  have HB1 := hid (btrans HB.out hb1)
  have g0 := T1.out.cell 0 _ rfl
  have g1 := T1.out.cell 1 _ rfl
  have g2 := T1.out.cell 2 _ rfl
  have g3 := T1.out.cell 3 _ rfl
  have g4 := T1.out.cell 4 _ rfl
  have g5 := T1.out.cell 5 _ rfl
  have g6 := T1.out.cell 6 _ rfl
  have g7 := T1.out.cell 7 _ rfl
  have g8 := T1.out.cell 8 _ rfl
  have d0 := T2.out.cell 0 _ rfl
  have d1 := T2.out.cell 1 _ rfl
  have d2 := T2.out.cell 2 _ rfl
  have d3 := T2.out.cell 3 _ rfl
  have d4 := T2.out.cell 4 _ rfl
  have d5 := T2.out.cell 5 _ rfl
  have d6 := T2.out.cell 6 _ rfl
  have k0 := T3.out.cell 0 _ rfl
  have t0 := T4.out.cell 0 _ rfl
  have t1 := T4.out.cell 1 _ rfl
  clear hb1 HC HD HK HL R1 R2 R3 R4 HB
  generalize World.alloc (World.alloc (World.alloc (World.alloc w _) _) _) _ = W at *
  go_wp2_with fail
  refine (runWin_ok C ⟨a5, a6, a7, a8, c5, c6, c7, c8⟩ dn D ⟨aJ, aR, aI, aT, aO, aE, cJ, cR, cI, cT, cO, cE⟩ K aK cK L aL cL fr te _ HC1.out HD1.out HK1.out HL1.out H0.out (by omega)).mono ?_
  rintro e w2 ⟨A', aK', cK', rfl, hD2, hb2, hSI⟩
  generalize runD C dn L te (te - fr).toNat D K fr = R at *
  obtain ⟨RD, RK⟩ := R
  obtain ⟨xJ, xR, xI, xT, xO, xE, mJ, mR, mI, mT, mO, mE⟩ := A'
  dsimp only [dv, dl] at *
  have HEv : Hid ((RD.evs.length : Int) ≤ 100000000000) := by
    have h1 := hSI.ev
    have h2 := (run_parts H0.out).2.2.2
    exact hid (by omega)
  obtain ⟨hl1, hl2, hl3, hl4, hl5⟩ := hSI.win.last
  have HL3 := hid hl3
  have HL4 := hid hl4
  have HL5 := hid hl5
  have q3 := below_new w2 (.cells #[.slice xJ RD.jobs.length mJ, .slice xR RD.rel.length mR, .int .i64 RD.nxt, .slice xI RD.ins.length mI, .slice xT RD.tak.length mT, .slice xO RD.out.length mO, .slice xE RD.evs.length mE] 33)
  have q4 := below_new (w2.alloc (.cells #[.slice xJ RD.jobs.length mJ, .slice xR RD.rel.length mR, .int .i64 RD.nxt, .slice xI RD.ins.length mI, .slice xT RD.tak.length mT, .slice xO RD.out.length mO, .slice xE RD.evs.length mE] 33)) (.cells #[.slice aK' (List.length RK) cK'] 36)
  have hb3 := btrans hb2 (btrans q3 q4)
  have HX3 := hid (((hD2 w2 (fun _ _ => rfl)).1.keep q3).keep q4)
  have HD3 := hid (HD1.out.keep hb3)
  have RX := hid ((rowAt_new w2 w2.heap.size [.slice xJ RD.jobs.length mJ, .slice xR RD.rel.length mR, .int .i64 RD.nxt, .slice xI RD.ins.length mI, .slice xT RD.tak.length mT, .slice xO RD.out.length mO, .slice xE RD.evs.length mE] 33 rfl).below q4 (Nat.le_refl _))
  have RD3 := hid (T2.out.below hb3 (Nat.le_refl _))
  have RT3 := hid (T4.out.below hb3 (Nat.le_refl _))
  have HB3 := hid (btrans HB1.out hb3)
  have hev' := HEv.out
  have hlen0 : (D.evs.length : Int) ≤ (RD.evs.length : Int) := by omega
  clear g0 g1 g2 g3 g4 g5 g6 g7 g8 d0 d1 d2 d3 d4 d5 d6 k0 t0 t1 hb2 hb3 q3 q4 hD2 hSI hl3 hl4 hl5 HC1 HD1 HK1 HL1 T1 T2 T3 T4 HB1
  go_upto_region 4 with fail
  generalize World.alloc (World.alloc w2 _) _ = w3 at *
  have hs3 : w2.heap.size < w3.heap.size := RX.out.lt
  have x0 := RX.out.cell 0 _ rfl
  have x1 := RX.out.cell 1 _ rfl
  have x2 := RX.out.cell 2 _ rfl
  have x3 := RX.out.cell 3 _ rfl
  have x4 := RX.out.cell 4 _ rfl
  have x5 := RX.out.cell 5 _ rfl
  have x6 := RX.out.cell 6 _ rfl
  have d0 := RD3.out.cell 0 _ rfl
  have d1 := RD3.out.cell 1 _ rfl
  have d2 := RD3.out.cell 2 _ rfl
  have d3 := RD3.out.cell 3 _ rfl
  have d4 := RD3.out.cell 4 _ rfl
  have d5 := RD3.out.cell 5 _ rfl
  have d6 := RD3.out.cell 6 _ rfl
  have t0 := RT3.out.cell 0 _ rfl
  have t1 := RT3.out.cell 1 _ rfl
  have m1 : ¬ (RD.evs.length : Int) < (D.evs.length : Int) := by omega
  have m2 : ¬ RD.nxt < D.nxt := by omega
  go_wp2
  go_loopw [16, 17] (fun dn' i wr => ∃ k : Nat, k ≤ RD.evs.length ∧ i = .int .i64 k ∧ dn' = .int .i64 (cnt RD.evs D.evs.length k) ∧ Below w3.heap.size w3 wr) (fun _ i _ => RD.evs.length - (intOf i).toNat)
  case atStart => exact ⟨0, Nat.zero_le _, rfl, by rw [cnt_old (Nat.zero_le _)], Below.refl _ _⟩
  case round =>
    obtain ⟨k, hk, rfl, rfl, hbl⟩ := hrel
    have sx := RX.out.below hbl (Nat.le_refl _)
    have sd := RD3.out.below hbl (Nat.le_refl _)
    have st := RT3.out.below hbl (Nat.le_refl _)
    have hHX := HX3.out.keep hbl
    have hHD := HD3.out.keep hbl
    have hsr := hbl.size
    clear x0 x1 x2 x3 x4 x5 x6 d0 d1 d2 d3 d4 d5 d6 t0 t1
    have x0 := sx.cell 0 _ rfl
    have x1 := sx.cell 1 _ rfl
    have x2 := sx.cell 2 _ rfl
    have x3 := sx.cell 3 _ rfl
    have x4 := sx.cell 4 _ rfl
    have x5 := sx.cell 5 _ rfl
    have x6 := sx.cell 6 _ rfl
    have d0 := sd.cell 0 _ rfl
    have d1 := sd.cell 1 _ rfl
    have d2 := sd.cell 2 _ rfl
    have d3 := sd.cell 3 _ rfl
    have d4 := sd.cell 4 _ rfl
    have d5 := sd.cell 5 _ rfl
    have d6 := sd.cell 6 _ rfl
    have t0 := st.cell 0 _ rfl
    have t1 := st.cell 1 _ rfl
    have HSX := hid sx
    have HSD := hid sd
    have HST := hid st
    clear sx sd st
    obtain ⟨hc0, hc1⟩ := cnt_le RD.evs D.evs.length k
    by_cases hlt : k < RD.evs.length
    · have hk1 : (k : Int) < (RD.evs.length : Int) := by omega
      have hk0 : (0 : Int) ≤ (k : Int) := by omega
      obtain ⟨b1, o1, ea, p0, p1, p2, p3⟩ := hHX.evs k hlt
      dsimp only at ea
      subst ea
      have HE3 := hid (fun h0 => HL3.out k h0 hlt)
      have HE4 := hid (fun h0 => HL4.out k hlt h0)
      have HCS := hid (fun h : D.evs.length ≤ k => cnt_succ (E := RD.evs) (n := D.evs.length) h hlt)
      have HQ : Hid (∀ v0 v1 v2 v3, Below w3.heap.size w3 (wr.alloc (.cells #[v0, v1, v2, v3] 45))) := hid fun v0 v1 v2 v3 => btrans hbl (below_new _ _)
      have hnew : Hid (∀ v0 v1 v2 v3, RowAt (wr.alloc (.cells #[v0, v1, v2, v3] 45)) wr.heap.size 45 [v0, v1, v2, v3]) := hid fun v0 v1 v2 v3 => rowAt_new2 wr wr.heap.size [v0, v1, v2, v3] 45 rfl
      by_cases hold : k < D.evs.length
      · have ho1 : (k : Int) < (D.evs.length : Int) := by omega
        obtain ⟨b2, o2, eb, r0, r1, r2, r3⟩ := hHD.evs k hold
        dsimp only at eb
        subst eb
        rw [HE3.out hold] at p0 p1 p2 p3
        generalize D.evs[k] = v at *
        obtain ⟨v0, v1, v2, v3⟩ := v
        dsimp only at *
        have HZ : Hid (cnt RD.evs D.evs.length k = cnt RD.evs D.evs.length (k + 1)) := hid (by rw [cnt_old (by omega), cnt_old (by omega)])
        have n146 := eq146
        have hq := HQ.out (.int .i64 v0) (.int .i64 v1) (.int .i64 v2) (.int .i64 v3)
        have hbn := below_new wr (.cells #[.int .i64 v0, .int .i64 v1, .int .i64 v2, .int .i64 v3] 45)
        have hrn := (hnew.out (.int .i64 v0) (.int .i64 v1) (.int .i64 v2) (.int .i64 v3))
        clear HE3 HE4 HCS hHX hHD HL3 HL4
        go_upto_region 13 with fail
        generalize World.alloc wr _ = w4 at *
        have s6 := bkeep hbn d6 (Nat.le_refl _)
        have s0 := hrn.cell 0 _ rfl
        have s1 := hrn.cell 1 _ rfl
        have s2 := hrn.cell 2 _ rfl
        have s3 := hrn.cell 3 _ rfl
        have u0 := bkeep hbn r0 (Nat.le_refl _)
        have u1 := bkeep hbn r1 (Nat.le_refl _)
        have u2 := bkeep hbn r2 (Nat.le_refl _)
        have u3 := bkeep hbn r3 (Nat.le_refl _)
        go_wp2_with fail
        go_quiet (fail)
        go_wp2
        go_roundw
        case rel => exact ⟨k + 1, by omega, by go_num, by rw [HZ.out], below_drewN hq _⟩
        case measure => simp [intOf]; omega
      · have ho1 : ¬ (k : Int) < (D.evs.length : Int) := by omega
        have hE := HE4.out (by omega)
        have hCS := HCS.out (by omega)
        generalize RD.evs[k] = v at *
        obtain ⟨v0, v1, v2, v3⟩ := v
        simp only [EvOk, early, tells1, Bool.or_eq_true, Bool.and_eq_true, decide_eq_true_eq] at hE hCS
        dsimp only at *
        have HCN := hid hCS
        have hq := HQ.out (.int .i64 v0) (.int .i64 v1) (.int .i64 v2) (.int .i64 v3)
        have hbn := below_new wr (.cells #[.int .i64 v0, .int .i64 v1, .int .i64 v2, .int .i64 v3] 45)
        have hrn := (hnew.out (.int .i64 v0) (.int .i64 v1) (.int .i64 v2) (.int .i64 v3))
        obtain ⟨hE1, hE2⟩ := hE
        have hE3 : ¬ te < v0 := by omega
        clear HE3 HE4 HCS hHX hHD HL3 HL4 hCS
        go_upto_region 13 with fail
        generalize World.alloc wr _ = w4 at *
        have s6 := bkeep hbn d6 (Nat.le_refl _)
        have s0 := hrn.cell 0 _ rfl
        have s1 := hrn.cell 1 _ rfl
        have s2 := hrn.cell 2 _ rfl
        have s3 := hrn.cell 3 _ rfl
        have y0 := bkeep hbn t0 (Nat.le_refl _)
        have y1 := bkeep hbn t1 (Nat.le_refl _)
        have hw : IntKind.i64.wrap (cnt RD.evs D.evs.length k + 1) = cnt RD.evs D.evs.length k + 1 := by rw [IntKind.wrap_i64]; omega
        generalize cnt RD.evs D.evs.length k = cn at *
        by_cases hA : 7 ≤ v1 ∧ v1 ≤ 12
        · have a1 := hA.1
          have a2 := hA.2
          have a3 : ¬ v1 = 4 := by omega
          have a4 : ¬ v1 = 2 := by omega
          have a5 : ¬ v1 = 6 := by omega
          have b3 : (v1 == 4) = false := by simp [a3]
          have b4 : (v1 == 2) = false := by simp [a4]
          have b5 : (v1 == 6) = false := by simp [a5]
          have a6 : ¬ v0 < fr := by omega
          have HN : Hid (cnt RD.evs D.evs.length (k + 1) = cn + 1) := hid (by rw [HCN.out, if_pos (Or.inl hA)])
          clear hE2 HCN hA
          go_wp2
          go_roundw
          case rel => exact ⟨k + 1, by omega, by go_num, by rw [HN.out], hq⟩
          case measure => simp [intOf]; omega
        · by_cases hB : v1 = 4
          · subst hB
            have a6 : ¬ v0 < fr := by omega
            have HN : Hid (cnt RD.evs D.evs.length (k + 1) = cn + 1) := hid (by rw [HCN.out, if_pos (Or.inr rfl)])
            clear hE2 HCN hA
            go_wp2
            go_roundw
            case rel => exact ⟨k + 1, by omega, by go_num, by rw [HN.out], hq⟩
            case measure => simp [intOf]; omega
          · have b3 : (v1 == 4) = false := by simp [hB]
            have HN : Hid (cnt RD.evs D.evs.length (k + 1) = cn) := hid (by rw [HCN.out, if_neg (fun h => h.elim hA hB)]; simp)
            by_cases hC : v1 = 2 ∨ v1 = 6
            · rcases hC with rfl | rfl
              · clear hE2 HCN hA
                go_wp2
                all_goals go_roundw
                all_goals first
                  | exact ⟨k + 1, by omega, by go_num, by rw [HN.out], hq⟩
                  | (simp [intOf]; omega)
              · clear hE2 HCN hA
                go_wp2
                all_goals go_roundw
                all_goals first
                  | exact ⟨k + 1, by omega, by go_num, by rw [HN.out], hq⟩
                  | (simp [intOf]; omega)
            · have a4 : ¬ v1 = 2 := by omega
              have a5 : ¬ v1 = 6 := by omega
              have b4 : (v1 == 2) = false := by simp [a4]
              have b5 : (v1 == 6) = false := by simp [a5]
              have a6 : ¬ v0 < fr := by omega
              by_cases h7 : 7 ≤ v1
              · have h8 : ¬ v1 ≤ 12 := by omega
                clear hE2 HCN hA hC
                go_wp2
                go_roundw
                case rel => exact ⟨k + 1, by omega, by go_num, by rw [HN.out], hq⟩
                case measure => simp [intOf]; omega
              · clear hE2 HCN hA hC
                go_wp2
                go_roundw
                case rel => exact ⟨k + 1, by omega, by go_num, by rw [HN.out], hq⟩
                case measure => simp [intOf]; omega
    · have hke : k = RD.evs.length := by omega
      have HF := hid (btrans HB3.out hbl)
      have e5 : cnt RD.evs D.evs.length k = RD.nxt - D.nxt := by rw [hke, cnt_all]; exact HL5.out
      rw [e5] at hc0 hc1
      have hkk : ¬ (k : Int) < (RD.evs.length : Int) := by omega
      have hw : IntKind.i64.wrap (RD.nxt - D.nxt) = RD.nxt - D.nxt := by rw [IntKind.wrap_i64]; omega
      rw [e5]
      clear e5 hHX hHD
      go_wp2
      go_ret
      exact ⟨rfl, HF.out⟩

end Go.Proofs.YtildebflnmbefaaGreat
