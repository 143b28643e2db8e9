/- Walks: what an action costs. Walks: an event of a window is told. Walks: a job starts. Walks: an action is paid for. -/
import Derived.Test.YtildebflnmbefaaGreatKn
import Derived.Test.YtildebflnmbefaaGreatKr
import Derived.Test.YtildebflnmbefaaGreatKp
set_option linter.unusedVariables false
namespace Go.Proofs.YtildebflnmbefaaGreat
open Go.RowKit

set_option maxRecDepth 100000 in
set_option maxHeartbeats 2000000 in
theorem cost_ok (a : ActT) (aK : Option Addr) (K : KT) (cK : Nat) (w : World) (hw : CacheIn w aK K) (h : ck K = 0) (hA : ckA a = 0) :
    Calls Tryz.prog 9 #[.agg #[.slice aK K.length cK], av a] w fun e w' => ∃ g0, e = .returned (.tuple #[.agg #[.slice (some ⟨g0, 0, none⟩) K.length K.length], .int .i64 (spC K a), .int .i64 0]) ∧ OwnC w' g0 (spK K a) K.length ∧ w.heap.size ≤ g0 ∧ Below w.heap.size w w' := by
  obtain ⟨k, n, v⟩ := a
  obtain ⟨_, hC1, hC4, hCn⟩ := ckK_ok h
  have q1 := below_new w (.cells #[.slice aK K.length cK] 36)
  have q2 := below_new (w.alloc (.cells #[.slice aK K.length cK] 36)) (.cells #[.int .i64 k, .int .i64 n, .int .i64 v] 53)
  have q3 := below_new ((w.alloc (.cells #[.slice aK K.length cK] 36)).alloc (.cells #[.int .i64 k, .int .i64 n, .int .i64 v] 53)) (.cells #[.slice none 0 0] 36)
  have HB := hid (btrans (btrans q1 q2) q3)
  have HW := hid (hw.keep (btrans (btrans q1 q2) q3))
  have R1 := hid (((rowAt_new w _ [.slice aK K.length cK] 36 rfl).below q2 (Nat.le_refl _)).below q3 (Nat.le_refl _))
  have R2 := hid ((rowAt_new (w.alloc (.cells #[.slice aK K.length cK] 36)) (w.heap.size + 1) [.int .i64 k, .int .i64 n, .int .i64 v] 53 (by simp)).below q3 (Nat.le_refl _))
  have R3 := hid (rowAt_new ((w.alloc (.cells #[.slice aK K.length cK] 36)).alloc (.cells #[.int .i64 k, .int .i64 n, .int .i64 v] 53)) (w.heap.size + 1 + 1) [.slice none 0 0] 36 (by simp))
  have HA : Hid (ckA (k, n, v) = 0) := hid hA
  have HK : Hid (ck K = 0) := hid h
  clear q1 q2 q3 hw hA h
  have hr : (k = 2 ∨ k = 3) → inR n 1 1000 = true := fun hk => by
    have := HA.out
    unfold ckA at this
    split at this
    · split at this
      · rename_i hx
        unfold inRng at hx
        dsimp only at hx
        rw [if_neg (by omega), if_pos hk] at hx
        exact hx
      · omega
    · omega
  go_enter Tryz.func9, Tryz.ntmps9
  go_wp2_with fail
  generalize hW : World.alloc (World.alloc (World.alloc w _) _) _ = W at *
  clear hW
  refine (check_any aK K cK _ HW.out (by omega)).mono ?_
  rintro e w1 ⟨rfl, hb1⟩
  rw [HK.out]
  have S2 := hid (R2.out.below hb1 (Nat.le_refl _))
  have a0 := S2.out.cell 0 _ rfl
  have a1 := S2.out.cell 1 _ rfl
  have a2 := S2.out.cell 2 _ rfl
  go_wp2_with fail
  refine (checkAction_any (k, n, v) _).mono ?_
  rintro e w2 ⟨rfl, hb2⟩
  rw [HA.out]
  have hb12 := btrans hb1 hb2
  have T1 := hid (R1.out.below hb12 (Nat.le_refl _))
  have T2 := hid (R2.out.below hb12 (Nat.le_refl _))
  have T3 := hid (R3.out.below hb12 (Nat.le_refl _))
  have HB2 := hid (btrans HB.out hb12)
  have HW2 := hid (HW.out.keep hb12)
  clear a0 a1 a2 S2 R1 R2 R3 HB HW hb1 hb2 hb12
  have a0 := T2.out.cell 0 _ rfl
  have a1 := T2.out.cell 1 _ rfl
  have a2 := T2.out.cell 2 _ rfl
  have c0 := T1.out.cell 0 _ rfl
  by_cases hk : k = 2 ∨ k = 3
  · have hrn := hr hk
    have hrn' := hrn
    simp only [inR, Bool.and_eq_true, decide_eq_true_eq] at hrn'
    have hpos : (0 : Int) < (K.length : Int) := by omega
    have hm0 := Int.emod_nonneg n (Int.ne_of_gt hpos)
    have hm1 := Int.emod_lt_of_pos n hpos
    have hsl : setAt K n < K.length := by unfold setAt; omega
    have hs : n % (K.length : Int) = (setAt K n : Int) := by unfold setAt; omega
    have HS1 : Hid (spK K (k, n, v) = K.set (setAt K n) (useSet K[setAt K n] n (decide (k = 3))).1) := by
      unfold spK
      rw [if_pos hk]
      dsimp only
      rw [show K.getD (setAt K n) [] = K[setAt K n] by simp [hsl]]
      exact hid rfl
    have HS2 : Hid (spC K (k, n, v) = (useSet K[setAt K n] n (decide (k = 3))).2) := by
      unfold spC
      rw [if_pos hk]
      dsimp only
      rw [show K.getD (setAt K n) [] = K[setAt K n] by simp [hsl]]
      exact hid rfl
    have CA : Hid (Calls Tryz.prog 20 #[.agg #[.slice aK K.length cK], .int .i64 n, .bool (decide (k = 3))] w2 fun e w' => ∃ g0, e = .returned (.tuple #[.agg #[.slice (some ⟨g0, 0, none⟩) K.length K.length], .int .i64 (spC K (k, n, v)), .int .i64 0]) ∧ OwnC w' g0 (spK K (k, n, v)) K.length ∧ w2.heap.size ≤ g0 ∧ Below w2.heap.size w2 w') := by
      rw [HS1.out, HS2.out]
      exact hid (access_ok aK K cK n (decide (k = 3)) (setAt K n) w2 HW2.out (by omega) HK.out hrn hs hsl)
    generalize hsc : spC K (k, n, v) = sc at *
    generalize hsk : spK K (k, n, v) = sk at *
    have HSC := hid hsc
    have HSK := hid hsk
    clear HS1 HS2 hs hsl hm0 hm1 hpos hrn hrn' hr hsc hsk
    rcases hk with rfl | rfl
    · rw [show (decide ((2 : Int) = 3)) = false by decide] at CA
      go_wp2_with fail
      refine Calls.mono CA.out ?_
      rintro e w3 ⟨g0, rfl, hO, hg0, hb3⟩
      have U3 := hid (T3.out.below hb3 (Nat.le_refl _))
      have d0 := U3.out.cell 0 _ rfl
      have f0 := U3.out.frozen 0
      have HO := hid hO
      have HB3 := hid (btrans HB2.out hb3)
      have ht3 := T3.out.lt
      clear hO
      go_wp2
      have V3 := rowAt_set1 U3.out 0 (.slice (some ⟨g0, 0, none⟩) (List.length K) (List.length K))
      have d1 := V3.cell 0 _ rfl
      have hz := HB2.out.size
      exact bodyPost_ret (v := .tuple #[.agg #[.slice (some ⟨g0, 0, none⟩) (List.length K) (List.length K)], .int .i64 sc, .int .i64 0]) (by simp [results, Tryz.results9, go_sem, d1]) rfl ⟨g0, by rw [HSC.out], by rw [HSK.out]; exact HO.out.setOther _ _ (by show w.heap.size + 1 + 1 < g0; omega), by omega, HB3.out.setCell (p := ⟨w.heap.size + 1 + 1, 0, none⟩) (by show w.heap.size ≤ w.heap.size + 1 + 1; omega) _⟩
    · rw [show (decide ((3 : Int) = 3)) = true by decide] at CA
      go_wp2_with fail
      refine Calls.mono CA.out ?_
      rintro e w3 ⟨g0, rfl, hO, hg0, hb3⟩
      have U3 := hid (T3.out.below hb3 (Nat.le_refl _))
      have d0 := U3.out.cell 0 _ rfl
      have f0 := U3.out.frozen 0
      have HO := hid hO
      have HB3 := hid (btrans HB2.out hb3)
      have ht3 := T3.out.lt
      clear hO
      go_wp2
      have V3 := rowAt_set1 U3.out 0 (.slice (some ⟨g0, 0, none⟩) (List.length K) (List.length K))
      have d1 := V3.cell 0 _ rfl
      have hz := HB2.out.size
      exact bodyPost_ret (v := .tuple #[.agg #[.slice (some ⟨g0, 0, none⟩) (List.length K) (List.length K)], .int .i64 sc, .int .i64 0]) (by simp [results, Tryz.results9, go_sem, d1]) rfl ⟨g0, by rw [HSC.out], by rw [HSK.out]; exact HO.out.setOther _ _ (by show w.heap.size + 1 + 1 < g0; omega), by omega, HB3.out.setCell (p := ⟨w.heap.size + 1 + 1, 0, none⟩) (by show w.heap.size ≤ w.heap.size + 1 + 1; omega) _⟩
  · have hk2 : ¬ k = 2 := by omega
    have hk3 : ¬ k = 3 := by omega
    have hk2b : (k == 2) = false := by simp [hk2]
    have hk3b : (k == 3) = false := by simp [hk3]
    have HSC : Hid (spC K (k, n, v) = wstA (k, n, v)) := by
      unfold spC
      rw [if_neg hk]
      exact hid rfl
    have HSK : Hid (spK K (k, n, v) = K) := by
      unfold spK
      rw [if_neg hk]
      exact hid rfl
    have CX : Hid (∀ wx, Below w2.heap.size w2 wx → Calls Tryz.prog 13 #[.agg #[.slice aK K.length cK]] wx fun e w' => ∃ g0, e = .returned (.agg #[.slice (some ⟨g0, 0, none⟩) K.length K.length]) ∧ wx.heap.size ≤ g0 ∧ OwnC w' g0 K K.length ∧ Below wx.heap.size wx w') := hid fun wx hb => clone_any aK K cK wx (HW2.out.keep hb) (by omega) (by omega) hCn
    have CY : Hid (∀ wx, Below w2.heap.size w2 wx → Calls Tryz.prog 21 #[.agg #[.int .i64 k, .int .i64 n, .int .i64 v]] wx fun e w' => e = .returned (.int .i64 (wstA (k, n, v))) ∧ Below wx.heap.size wx w') := hid fun wx hb => worst_any (k, n, v) wx
    generalize hsc : wstA (k, n, v) = sc at *
    have HS : Hid (∀ w', Below w2.heap.size w2 w' → w'.cell? ⟨w.heap.size, 0, none⟩ = some (.slice aK K.length cK) ∧ w'.cell? ⟨w.heap.size + 1, 0, none⟩ = some (.int .i64 k) ∧ w'.cell? ⟨w.heap.size + 1, 1, none⟩ = some (.int .i64 n) ∧ w'.cell? ⟨w.heap.size + 1, 2, none⟩ = some (.int .i64 v)) := hid fun w' hb => ⟨bkeep hb c0 (Nat.le_refl _), bkeep hb a0 (Nat.le_refl _), bkeep hb a1 (Nat.le_refl _), bkeep hb a2 (Nat.le_refl _)⟩
    have hB : Below w2.heap.size w2 w2.drew := (Below.refl _ _).drew
    have n1 : ¬ w.heap.size + 1 + 1 = w.heap.size := by omega
    have n2 : ¬ w.heap.size + 1 + 1 = w.heap.size + 1 := by omega
    clear hsc hr
    go_wp2_with fail
    go_region_held3 (fun w' => w'.cell? ⟨w.heap.size, 0, none⟩ = some (.slice aK K.length cK) ∧ w'.cell? ⟨w.heap.size + 1, 0, none⟩ = some (.int .i64 k) ∧ w'.cell? ⟨w.heap.size + 1, 1, none⟩ = some (.int .i64 n) ∧ w'.cell? ⟨w.heap.size + 1, 2, none⟩ = some (.int .i64 v))
      (first | with_reducible exact HS.out _ hB | with_reducible exact HS.out _ hB3 | with_reducible exact HS.out _ hB4 | go_keep)
      (first
        | (go_at_call 13; with_reducible refine Calls.mono (CX.out _ hB) ?_; rintro e w3 ⟨g0, rfl, hg3, hO3, hb3⟩; have hB3 := btrans hB hb3; have HO3 := hid hO3; have HG3 := hid hg3; clear hO3 hg3 hb3)
        | (go_at_call 21; with_reducible refine Calls.mono (CY.out _ hB3) ?_; rintro e w4 ⟨rfl, hb4⟩; have hB4 := btrans hB3 hb4; have HO4 := hid (HO3.out.below hb4); have U3 := hid (T3.out.below hB4 (Nat.le_refl _)); have d0 := U3.out.cell 0 _ rfl; have f0 := U3.out.frozen 0; clear hb4))
    all_goals
      have HB4 := hid (btrans HB2.out hB4)
      have ht3 := T3.out.lt
      have hz := HB2.out.size
      clear hB hB3 hB4 HS CX CY
      go_wp2
      have V3 := rowAt_set1 U3.out 0 (.slice (some ⟨g0, 0, none⟩) (List.length K) (List.length K))
      have d1 := V3.cell 0 _ rfl
      have hg4 : w2.heap.size ≤ g0 := HG3.out
      exact bodyPost_ret (v := .tuple #[.agg #[.slice (some ⟨g0, 0, none⟩) (List.length K) (List.length K)], .int .i64 sc, .int .i64 0]) (by simp [results, Tryz.results9, go_sem, d1]) rfl ⟨g0, by rw [HSC.out], by rw [HSK.out]; exact HO4.out.setOther _ _ (by show w.heap.size + 1 + 1 < g0; omega), by omega, HB4.out.setCell (p := ⟨w.heap.size + 1 + 1, 0, none⟩) (by show w.heap.size ≤ w.heap.size + 1 + 1; omega) _⟩

end Go.Proofs.YtildebflnmbefaaGreat

namespace Go.Proofs.YtildebflnmbefaaGreat
open Go.RowKit

set_option maxRecDepth 100000 in
set_option maxHeartbeats 1000000 in
theorem tellW_ok (X : RC) (M : RM) (D : Dom) (K : KT) (now kd p q : Int) (w : World) (h : RO X w M D K now) (hl : D.evs.length ≤ 1000000000000) :
    Calls Tryz.prog 72 #[.pointer (some ⟨X.rb, 0, none⟩), .int .i64 kd, .int .i64 p, .int .i64 q] w fun e w' => e = .returned (.tuple #[]) ∧ ∃ a' c', RO X w' (evM M a' c') (tellE D (now, kd, p, q)) K now := by
  have hbs : X.w0.heap.size ≤ w.heap.size := h.ag.size
  have c6 := h.row.cell 6 _ rfl
  have c19 := h.row.cell 19 _ rfl
  have hbA : Below w.heap.size w (w.alloc (.cells #[.int .i64 now, .int .i64 kd, .int .i64 p, .int .i64 q] 45)).drew := (below_new _ _).drew
  have HA := hid (h.below hbA)
  have RE : Hid (RowAt (w.alloc (.cells #[.int .i64 now, .int .i64 kd, .int .i64 p, .int .i64 q] 45)).drew w.heap.size 45 [.int .i64 now, .int .i64 kd, .int .i64 p, .int .i64 q]) := hid (rowAt_new2 w w.heap.size [.int .i64 now, .int .i64 kd, .int .i64 p, .int .i64 q] 45 rfl)
  have c6' : ∀ o, (w.alloc o).cell? ⟨X.rb, 6, none⟩ = some (.slice M.A.aE D.evs.length M.A.cE) := fun o => cell_old o c6
  clear hbA h
  obtain ⟨⟨aJ, aR, aI, aT, aO, aE, cJ, cR, cI, cT, cO, cE⟩, V, gI, gO, aK, cK⟩ := M
  dsimp only at *
  go_enter Tryz.func72, Tryz.ntmps72
  go_wp2
  go_region_law (first
    | (refine step_appG (by rfl) _ _ 31 45 (by rfl) _ 4 32 Tryz.underlying31 Tryz.info45x rfl (by omega) X.w0.heap.size (.slice aE D.evs.length cE) D.evs.length (fE D.evs) (by rfl) HA.out.px.evs w.heap.size 1 1 (fE [(now, kd, p, q)]) (by rfl) rfl (fun j u hu => RE.out.cell j u hu) (fE_one _) (by omega) (by simp [maxLen]; omega) (by omega) (by simp; omega) ?_; intro g cap w4 hown4 hgrow4 hat4; have r4 : RowAt w4 X.rb 64 _ := (hgrow4.block X.rb HA.out.row.lt (fun e => owns_ne HA.out.px.evs HA.out.row (by decide) X.rb e.symm rfl)).trans HA.out.row; have e0 := r4.cell 6 _ rfl; have f0 := r4.frozen 6; have HO4 := hid hown4; have HG4 := hid hgrow4; have HT4 := hid hat4; clear hown4 hgrow4 r4 hat4))
  all_goals
    have HE : Hid (∃ a' c', RO X (w4.setCell ⟨X.rb, 6, none⟩ (.slice (some ⟨g, 0, none⟩) (D.evs.length + 1) cap)) (evM ⟨⟨aJ, aR, aI, aT, aO, aE, cJ, cR, cI, cT, cO, cE⟩, V, gI, gO, aK, cK⟩ a' c') (tellE D (now, kd, p, q)) K now) := by
      have := HA.out.told (E := D.evs ++ [(now, kd, p, q)]) (a' := some ⟨g, 0, none⟩) (c' := cap) HG4.out (by rw [fE_app, List.length_append]; exact HO4.out) (fun x hx => by
        simp only [Value.ownBlock, Option.some.injEq] at hx
        subst hx
        rcases HT4.out with h' | h'
        · exact .inl h'
        · exact .inr (by omega))
      rw [List.length_append] at this
      exact hid ⟨_, _, this⟩
    clear HA HO4 HG4 HT4 c6 c6'
    go_wp2
    go_end0
    exact ⟨rfl, HE.out⟩

end Go.Proofs.YtildebflnmbefaaGreat

namespace Go.Proofs.YtildebflnmbefaaGreat
open Go.RowKit

theorem RO.jobAt {X : RC} {w : World} {M : RM} {D : Dom} {K : KT} {now : Int} (h : RO X w M D K now) (k : Nat) (hk : k < D.jobs.length) : ∃ g, M.A.aJ = some ⟨g, 0, none⟩ ∧ g < w.heap.size ∧ X.w0.heap.size ≤ g ∧ g ≠ X.rb ∧ (∀ o, w.frozen? ⟨g, o, none⟩ = false) ∧ w.cell? ⟨g, k * 6, none⟩ = some (.int .i64 (jat D k).1) ∧ w.cell? ⟨g, k * 6 + 1, none⟩ = some (.int .i64 (jat D k).2.1) ∧ w.cell? ⟨g, k * 6 + 2, none⟩ = some (.int .i64 (jat D k).2.2.1) ∧ w.cell? ⟨g, k * 6 + 3, none⟩ = some (.int .i64 (jat D k).2.2.2.1) ∧ w.cell? ⟨g, k * 6 + 4, none⟩ = some (.bool (jat D k).2.2.2.2.1) ∧ w.cell? ⟨g, k * 6 + 5, none⟩ = some (.bool (jat D k).2.2.2.2.2) := by
  have o := h.px.jobs
  dsimp only at o
  obtain ⟨g, hg, ⟨cur, hcur⟩, hbg⟩ := owns_zero o (by omega)
  have hne : g ≠ X.rb := owns_ne o h.row (by decide) g (by rw [hg]; rfl)
  have hj := h.dom.jobs k hk
  have e : jat D k = D.jobs[k] := by simp [jat, hk]
  obtain ⟨b, of, e1, j0, j1, j2, j3, j4, j5⟩ := hj
  rw [hg] at e1
  cases e1
  simp only [Nat.zero_add] at j0 j1 j2 j3 j4 j5
  rw [e]
  exact ⟨g, hg, (Array.getElem?_eq_some_iff.1 hcur).1, hbg, hne, fun o => by simp [World.frozen?, hcur], j0, j1, j2, j3, j4, j5⟩

set_option maxRecDepth 100000 in
set_option maxHeartbeats 2000000 in
theorem startW_ok (X : RC) (M : RM) (D : Dom) (K : KT) (now : Int) (k : Nat) (w : World) (h : RO X w M D K now) (hk : k < D.jobs.length) (hl : D.evs.length ≤ 1000000000000) :
    Calls Tryz.prog 44 #[.pointer (some ⟨X.rb, 0, none⟩), .int .i64 (k : Int)] w fun e w' => e = .returned (.tuple #[]) ∧ ∃ M', RO X w' M' (startD D now k) K now := by
  have c0 := h.row.cell 0 _ rfl
  have hrb := h.row.lt
  obtain ⟨g, hg, hgl, hgb, hne, hfz, j0, j1, j2, j3, j4, j5⟩ := h.jobAt k hk
  have hlJ := (owns_in h.px.jobs).2.2
  rw [hg] at c0
  have hki : (k : Int) < (D.jobs.length : Int) := by omega
  have HH := hid h
  have CT : Hid (∀ wx, Below w.heap.size w wx → Calls Tryz.prog 72 #[.pointer (some ⟨X.rb, 0, none⟩), .int .i64 3, .int .i64 (jat D k).1, .int .i64 (jat D k).2.1] wx fun e w' => e = .returned (.tuple #[]) ∧ ∃ a' c', RO X w' (evM M a' c') (tellE D (now, 3, (jat D k).1, (jat D k).2.1)) K now ∧ w'.cell? ⟨g, k * 6, none⟩ = some (.int .i64 (jat D k).1) ∧ w'.cell? ⟨g, k * 6 + 1, none⟩ = some (.int .i64 (jat D k).2.1) ∧ w'.cell? ⟨g, k * 6 + 4, none⟩ = some (.bool (jat D k).2.2.2.2.1) ∧ w'.frozen? ⟨g, k * 6 + 4, none⟩ = false) := hid fun wx hb => (tellW_ok X M D K now 3 _ _ wx (h.below hb) hl).mono fun e w' ⟨h1, a', c', h2⟩ => by
    obtain ⟨g', hg', _, _, _, hfz', s0, s1, s2, s3, s4, s5⟩ := h2.jobAt k hk
    have hgg : g' = g := by have := hg'.symm.trans hg; cases this; rfl
    subst hgg
    exact ⟨h1, a', c', h2, s0, s1, s4, hfz' _⟩
  have hHJ : D.jobs[k]? = some (jat D k) := by simp [jat, hk]
  have HJ := hid hHJ
  clear h hHJ
  cases hr : (jat D k).2.2.2.2.1 with
  | true =>
    have HD : Hid (startD D now k = D) := by unfold startD; rw [hr]; exact hid rfl
    rw [hr] at j4
    go_enter Tryz.func44, Tryz.ntmps44
    go_wp2
    go_end0
    exact ⟨rfl, M, by rw [HD.out]; exact HH.out⟩
  | false =>
    have HD : Hid (startD D now k = setJ (tellE D (now, 3, (jat D k).1, (jat D k).2.1)) k (ranJ (jat D k))) := by unfold startD; rw [hr]; exact hid rfl
    rw [hr] at j4
    have HR := hid hr
    clear hr
    generalize hJ : jat D k = j at *
    obtain ⟨x0, x1, x2, x3, x4, x5⟩ := j
    dsimp only at *
    have HS : Hid (∀ w', Below w.heap.size w w' → w'.cell? ⟨g, k * 6, none⟩ = some (.int .i64 x0) ∧ w'.cell? ⟨g, k * 6 + 1, none⟩ = some (.int .i64 x1)) := hid fun w' hb => ⟨bkeep hb j0 (Nat.le_refl _), bkeep hb j1 (Nat.le_refl _)⟩
    have hB : Below w.heap.size w w.drew := (Below.refl _ _).drew
    clear hJ
    go_enter Tryz.func44, Tryz.ntmps44
    go_wp2_with fail
    go_region_held3 (fun w' => w'.cell? ⟨g, k * 6, none⟩ = some (.int .i64 x0) ∧ w'.cell? ⟨g, k * 6 + 1, none⟩ = some (.int .i64 x1))
      (first | with_reducible exact HS.out _ hB | exact ⟨s0, s1⟩ | go_keep)
      (first
        | (go_at_call 72; with_reducible refine Calls.mono (CT.out _ hB) ?_; rintro e w1 ⟨rfl, a', c', h1, s0, s1, s4, f4⟩; have H1 := hid h1; clear h1))
    all_goals
      have HE : Hid (RO X (w1.setCell ⟨g, k * 6 + 4, none⟩ (.bool true)) (evM M a' c') (startD D now k) K now) := by
        rw [HD.out]
        exact hid (H1.out.setJob (g := g) hg k 4 (x0, x1, x2, x3, x4, x5) (x0, x1, x2, x3, true, x5) (.bool true) HJ.out (by omega) rfl)
      clear HS CT hB s0 s1 H1
      go_wp2
      go_end0
      exact ⟨rfl, _, HE.out⟩

end Go.Proofs.YtildebflnmbefaaGreat

namespace Go.Proofs.YtildebflnmbefaaGreat
open Go.RowKit

theorem spK_len (K : KT) (a : ActT) : (spK K a).length = K.length := by unfold spK; split <;> simp
theorem spK_small (K : KT) (a : ActT) (h : ∀ ls ∈ K, 0 < ls.length ∧ ls.length ≤ 3) : ∀ ls ∈ spK K a, ls.length ≤ 3 := by
  intro ls hm
  unfold spK at hm
  split at hm
  · rcases List.mem_or_eq_of_mem_set hm with h' | h'
    · exact (h ls h').2
    · subst h'
      by_cases hl : setAt K a.2.1 < K.length
      · have hm' : K.getD (setAt K a.2.1) [] ∈ K := by
          rw [show K.getD (setAt K a.2.1) [] = K[setAt K a.2.1] by simp [hl]]
          exact List.getElem_mem hl
        rw [useSet_len _ _ _ (h _ hm').1]
        exact (h _ hm').2
      · rw [List.set_eq_of_length_le (by omega)] at hm
        exact (h _ hm).2
  · exact (h ls hm).2

set_option maxRecDepth 100000 in
set_option maxHeartbeats 2000000 in
theorem spendW_ok (X : RC) (M : RM) (D : Dom) (K : KT) (now : Int) (k : Nat) (a : ActT) (w : World) (h : RO X w M D K now) (hk : k < D.jobs.length) (hK : ck K = 0) (hA : ckA a = 0) (hu : 0 ≤ (jat D k).2.2.2.1 ∧ (jat D k).2.2.2.1 ≤ 1000000) (hn : 0 ≤ now ∧ now ≤ 1000000) (hc : 0 ≤ spC K a ∧ spC K a ≤ 1000) :
    Calls Tryz.prog 45 #[.pointer (some ⟨X.rb, 0, none⟩), .int .i64 (k : Int), av a] w fun e w' => e = .returned (.int .i64 (spC K a)) ∧ ∃ M', RO X w' M' (spendD D k (spC K a)) (spK K a) (now + spC K a) := by
  obtain ⟨ak, an, av'⟩ := a
  obtain ⟨_, hC1, hC4, hCn⟩ := ckK_ok hK
  have q1 := below_new w (.cells #[.int .i64 ak, .int .i64 an, .int .i64 av'] 53)
  have HB0 := hid q1
  have R1 := hid (rowAt_new w _ [.int .i64 ak, .int .i64 an, .int .i64 av'] 53 rfl)
  have h1 := h.below q1
  have c17 := h1.row.cell 17 _ rfl
  have a0 := R1.out.cell 0 _ rfl
  have a1 := R1.out.cell 1 _ rfl
  have a2 := R1.out.cell 2 _ rfl
  have hrb : X.rb < w.heap.size := h.row.lt
  have HH := hid h
  have hki : (k : Int) < (D.jobs.length : Int) := by omega
  have hlJ := (owns_in h.px.jobs).2.2
  have HKL := hid (spK_len K (ak, an, av'))
  have HKS := hid (spK_small K (ak, an, av') hCn)
  go_enter Tryz.func45, Tryz.ntmps45
  go_upto_region 1 with fail
  have CX : Hid (∀ wx, Below (w.alloc (.cells #[.int .i64 ak, .int .i64 an, .int .i64 av'] 53)).heap.size (w.alloc (.cells #[.int .i64 ak, .int .i64 an, .int .i64 av'] 53)) wx → Calls Tryz.prog 9 #[.agg #[.slice M.aK K.length M.cK], .agg #[.int .i64 ak, .int .i64 an, .int .i64 av']] wx fun e w' => ∃ g0, e = .returned (.tuple #[.agg #[.slice (some ⟨g0, 0, none⟩) K.length K.length], .int .i64 (spC K (ak, an, av')), .int .i64 0]) ∧ OwnC w' g0 (spK K (ak, an, av')) K.length ∧ wx.heap.size ≤ g0 ∧ Below wx.heap.size wx w') := hid fun wx hb => cost_ok (ak, an, av') M.aK K M.cK wx (h1.px.cache.keep hb) hK hA
  generalize hW : World.alloc w _ = W at *
  clear hW h1 q1 h
  generalize hsc : spC K (ak, an, av') = sc at *
  generalize hsk : spK K (ak, an, av') = sk at *
  have HSC := hid hsc
  have HSK := hid hsk
  clear hsc hsk
  have HS : Hid (∀ w', Below W.heap.size W w' → w'.cell? ⟨X.rb, 17, none⟩ = some (.slice M.aK K.length M.cK) ∧ w'.cell? ⟨w.heap.size, 0, none⟩ = some (.int .i64 ak) ∧ w'.cell? ⟨w.heap.size, 1, none⟩ = some (.int .i64 an) ∧ w'.cell? ⟨w.heap.size, 2, none⟩ = some (.int .i64 av')) := hid fun w' hb => ⟨bkeep hb c17 (Nat.le_refl _), bkeep hb a0 (Nat.le_refl _), bkeep hb a1 (Nat.le_refl _), bkeep hb a2 (Nat.le_refl _)⟩
  have hbz : Below W.heap.size W W.drew := (Below.refl _ _).drew
  have hbz2 : Below W.heap.size W (W.alloc (.cells #[.slice none 0 0] 36)).drew := (below_new _ _).drew
  have RZ : Hid (RowAt (W.alloc (.cells #[.slice none 0 0] 36)).drew W.heap.size 36 [.slice none 0 0]) := hid (rowAt_new2 W W.heap.size [.slice none 0 0] 36 rfl)
  have hWw : w.heap.size ≤ W.heap.size := HB0.out.size
  go_cut [7, 8] (fun t u wx => ∃ Bc g0, t = .pointer (some ⟨Bc, 0, none⟩) ∧ u = .int .i64 sc ∧ Below W.heap.size W wx ∧ RowAt wx Bc 36 [.slice (some ⟨g0, 0, none⟩) K.length K.length] ∧ OwnC wx g0 sk K.length ∧ W.heap.size ≤ g0 ∧ W.heap.size ≤ Bc)
  case first =>
    go_region_held3 (fun w' => w'.cell? ⟨X.rb, 17, none⟩ = some (.slice M.aK K.length M.cK) ∧ w'.cell? ⟨w.heap.size, 0, none⟩ = some (.int .i64 ak) ∧ w'.cell? ⟨w.heap.size, 1, none⟩ = some (.int .i64 an) ∧ w'.cell? ⟨w.heap.size, 2, none⟩ = some (.int .i64 av'))
      (first | with_reducible exact HS.out _ hB2 | with_reducible exact HS.out _ (hB2a _) | with_reducible exact HS.out _ (hB2c _) | with_reducible exact HS.out _ hbz | with_reducible exact HS.out _ hbz2 | go_keep)
      (first
        | (go_at_call 9; with_reducible refine Calls.mono (CX.out _ hbz) ?_; rintro e w2 ⟨g0, rfl, ho2, hg2, hb2⟩; have hB2 := btrans hbz hb2; have HO2 := hid ho2; have HG2 := hid hg2; have hB2a : ∀ o, Below W.heap.size W (w2.alloc o) := fun o => btrans hB2 (below_new _ o))
        | (go_at_call 9; with_reducible refine Calls.mono (CX.out _ hbz2) ?_; rintro e w2 ⟨g0, rfl, ho2, hg2, hb2⟩; have hB2 := btrans hbz2 hb2; have HO2 := hid ho2; have HG2 := hid hg2; have HZ := hid (RZ.out.below hb2 (Nat.le_refl _)); have u0 := HZ.out.cell 0 _ rfl; have f0 := HZ.out.frozen 0; have hB2c : ∀ v0, Below W.heap.size W (w2.setCell ⟨W.heap.size, 0, none⟩ v0) := fun v0 => hB2.setCell (p := ⟨W.heap.size, 0, none⟩) (Nat.le_refl _) _))
    all_goals
      go_wp2
      go_meet
      case rel =>
        first
          | (have hM := hB2a; have hG : W.heap.size ≤ g0 := HG2.out; exact ⟨w2.heap.size, g0, rfl, rfl, btrans hB2 (below_new _ _), rowAt_new2 w2 _ [.slice (some ⟨g0, 0, none⟩) K.length K.length] 36 rfl, HO2.out.below (below_new _ _), hG, hB2.size⟩)
          | (have hM := hB2c; have hG : W.heap.size + 1 ≤ g0 := (by simpa using HG2.out); exact ⟨W.heap.size, g0, rfl, rfl, hM _, rowAt_set1 HZ.out 0 _, HO2.out.setOther _ _ (by show W.heap.size < g0; omega), by omega, Nat.le_refl _⟩)
  case rest =>
    obtain ⟨Bc, g0, rfl, rfl, hbx, hRx, hOx, hge, hgc⟩ := hcut
    have hbw := btrans HB0.out hbx
    have HX := hid (HH.out.below hbw)
    obtain ⟨g, hg, hgl, hgb, hne, hfz, j0, j1, j2, j3, j4, j5⟩ := HX.out.jobAt k hk
    have x0 := HX.out.row.cell 0 _ rfl
    have x17 := HX.out.row.cell 17 _ rfl
    have x19 := HX.out.row.cell 19 _ rfl
    have f17 := HX.out.row.frozen 17
    have f19 := HX.out.row.frozen 19
    have f3 := hfz (k * 6 + 3)
    rw [hg] at x0
    have y0 := hRx.cell 0 _ rfl
    have HE : Hid (∃ M', RO X (((wc.setCell ⟨X.rb, 17, none⟩ (.slice (some ⟨g0, 0, none⟩) K.length K.length)).setCell ⟨X.rb, 19, none⟩ (.int .i64 (now + sc))).setCell ⟨g, k * 6 + 3, none⟩ (.int .i64 ((jat D k).2.2.2.1 + sc))) M' (spendD D k sc) sk (now + sc)) := by
      have h2 := HH.out.newCache (w1 := wc) hbw (a := some ⟨g0, 0, none⟩) (c := K.length) (K' := sk) (fun w' hw' => ownC_from (n := w.heap.size) (by rw [HKL.out]; exact hOx) (by omega) HKS.out (fun x hx1 hx2 => hw' x hx1 hx2))
      rw [HKL.out] at h2
      have h3 := (h2.setNow (now + sc)).setJob (g := g) hg k 3 (jat D k) (useJ (jat D k) sc) (.int .i64 ((jat D k).2.2.2.1 + sc)) (by simp [jat, hk]) (by omega) rfl
      exact hid ⟨_, h3⟩
    clear hRx hOx HS CX RZ hbz hbz2 HX
    generalize (jat D k).2.2.2.1 = us at *
    go_wp2
    go_ret
    exact ⟨ret_int HSC.out.symm, by rw [HSC.out, HSK.out]; exact HE.out⟩

end Go.Proofs.YtildebflnmbefaaGreat
