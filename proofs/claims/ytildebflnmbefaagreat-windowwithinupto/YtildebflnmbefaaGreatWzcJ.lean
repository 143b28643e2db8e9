/- Walks: what must be in any case, of windows. Made by genwzc.py. -/
import Derived.Test.YtildebflnmbefaaGreatLc
import Derived.Deep.DeepCutAuto
set_option linter.unusedVariables false
namespace Go.Proofs.YtildebflnmbefaaGreat
open Go.RowKit

theorem run_one (A8 : Mem) (jJ jR jI jT jO jE : Option Addr) (kJ kR kI kT kO kE g0 lb : Nat) (w : World) (hC : ConfIn w A8 oneC) (hD : DomIn w ⟨jJ, jR, jI, jT, jO, jE, kJ, kR, kI, kT, kO, kE⟩ (newD oneC)) (hK : CacheIn w (some ⟨g0, 0, none⟩) oneK) (hL : RowAt w lb 53 [.int .i64 3, .int .i64 3, .int .i64 0, .int .i64 8, .int .i64 0, .int .i64 0]) :
    Calls Tryz.prog 5 #[cv oneC A8, .int .i64 0, .agg #[.slice jJ 0 kJ, .slice jR 1 kR, .int .i64 0, .slice jI 0 kI, .slice jT 0 kT, .slice jO 0 kO, .slice jE 0 kE], .agg #[.slice (some ⟨g0, 0, none⟩) 1 1], .slice (some ⟨lb, 0, none⟩) 2 2, .int .i64 0, .int .i64 40] w fun e w' => ∃ xJ xR xI xT xO xE mJ mR mI mT mO mE aK' cK', e = .returned (.tuple #[.agg #[.slice xJ 0 mJ, .slice xR 1 mR, .int .i64 2, .slice xI 0 mI, .slice xT 0 mT, .slice xO 0 mO, .slice xE 4 mE], .agg #[.slice aK' 1 cK'], .int .i64 0]) ∧ (∀ wx : World, (∀ x, w.heap.size ≤ x → wx.heap[x]? = w'.heap[x]?) → CacheIn wx aK' endK) ∧ Below w.heap.size w w' := by
  have hLI : ChansIn w (some ⟨lb, 0, none⟩) oneL := by
    intro i hi
    have hc : i = 0 ∨ i = 1 := by simp [oneL] at hi; omega
    rcases hc with rfl | rfl
    · exact ⟨lb, 0, rfl, hL.cell 0 _ rfl, hL.cell 1 _ rfl, hL.cell 2 _ rfl⟩
    · exact ⟨lb, 0, rfl, hL.cell 3 _ rfl, hL.cell 4 _ rfl, hL.cell 5 _ rfl⟩
  refine (runWin_ok oneC A8 0 (newD oneC) ⟨jJ, jR, jI, jT, jO, jE, kJ, kR, kI, kT, kO, kE⟩ oneK (some ⟨g0, 0, none⟩) 1 oneL (some ⟨lb, 0, none⟩) 2 0 40 w hC hD hK hLI one_ckRun (by decide)).mono ?_
  rintro e w' ⟨A', aK', cK', rfl, h1, h2, -⟩
  rw [show ((40 : Int) - 0).toNat = 40 by decide, one_run] at h1 ⊢
  obtain ⟨xJ, xR, xI, xT, xO, xE, mJ, mR, mI, mT, mO, mE⟩ := A'
  exact ⟨xJ, xR, xI, xT, xO, xE, mJ, mR, mI, mT, mO, mE, aK', cK', rfl, fun wx hx => (h1 wx hx).2, h2⟩

theorem cost_one (aK : Option Addr) (cK : Nat) (w : World) (hK : CacheIn w aK endK) :
    Calls Tryz.prog 9 #[.agg #[.slice aK 1 cK], .agg #[.int .i64 2, .int .i64 3, .int .i64 0]] w fun e w' => ∃ g, e = .returned (.tuple #[.agg #[.slice (some ⟨g, 0, none⟩) 1 1], .int .i64 1, .int .i64 0]) ∧ Below w.heap.size w w' := by
  refine (cost_ok (2, 3, 0) aK endK cK w hK one_ckK (by decide)).mono ?_
  rintro e w' ⟨g, rfl, -, -, h2⟩
  rw [one_cost]
  exact ⟨g, rfl, h2⟩
theorem worst_one (w : World) : Calls Tryz.prog 10 #[.agg #[.int .i64 6, .int .i64 0, .int .i64 0]] w fun e w' => e = .returned (.tuple #[.int .i64 3, .int .i64 0]) ∧ Below w.heap.size w w' := worst10_ok (6, 0, 0) w (by decide)

theorem begun_end {w w9 : World} {b1 b3 n : Nat} {l : List Value} {o v0 v1 v2 v3 v4 v5 v6 : Value} {aK : Option Addr} {cK : Nat} (hl : l.length = 7) (h1 : RowAt w9 b1 33 l) (h3 : RowAt w9 b3 36 [o]) (h13 : b1 < b3) (hn : b3 < n) (hw : w.heap.size ≤ b1) (hK : ∀ wx : World, (∀ x, n ≤ x → wx.heap[x]? = w9.heap[x]?) → CacheIn wx aK endK) (hb : Below w.heap.size w w9) :
    RowAt ((((((((w9.setCell ⟨b1, 0, none⟩ v0).setCell ⟨b1, 1, none⟩ v1).setCell ⟨b1, 2, none⟩ v2).setCell ⟨b1, 3, none⟩ v3).setCell ⟨b1, 4, none⟩ v4).setCell ⟨b1, 5, none⟩ v5).setCell ⟨b1, 6, none⟩ v6).setCell ⟨b3, 0, none⟩ (.slice aK 1 cK)) b1 33 [v0, v1, v2, v3, v4, v5, v6] ∧ RowAt ((((((((w9.setCell ⟨b1, 0, none⟩ v0).setCell ⟨b1, 1, none⟩ v1).setCell ⟨b1, 2, none⟩ v2).setCell ⟨b1, 3, none⟩ v3).setCell ⟨b1, 4, none⟩ v4).setCell ⟨b1, 5, none⟩ v5).setCell ⟨b1, 6, none⟩ v6).setCell ⟨b3, 0, none⟩ (.slice aK 1 cK)) b3 36 [.slice aK 1 cK] ∧ CacheIn ((((((((w9.setCell ⟨b1, 0, none⟩ v0).setCell ⟨b1, 1, none⟩ v1).setCell ⟨b1, 2, none⟩ v2).setCell ⟨b1, 3, none⟩ v3).setCell ⟨b1, 4, none⟩ v4).setCell ⟨b1, 5, none⟩ v5).setCell ⟨b1, 6, none⟩ v6).setCell ⟨b3, 0, none⟩ (.slice aK 1 cK)) aK endK ∧ Below w.heap.size w ((((((((w9.setCell ⟨b1, 0, none⟩ v0).setCell ⟨b1, 1, none⟩ v1).setCell ⟨b1, 2, none⟩ v2).setCell ⟨b1, 3, none⟩ v3).setCell ⟨b1, 4, none⟩ v4).setCell ⟨b1, 5, none⟩ v5).setCell ⟨b1, 6, none⟩ v6).setCell ⟨b3, 0, none⟩ (.slice aK 1 cK)) := by
  have Q1 : RowAt (((((((w9.setCell ⟨b1, 0, none⟩ v0).setCell ⟨b1, 1, none⟩ v1).setCell ⟨b1, 2, none⟩ v2).setCell ⟨b1, 3, none⟩ v3).setCell ⟨b1, 4, none⟩ v4).setCell ⟨b1, 5, none⟩ v5).setCell ⟨b1, 6, none⟩ v6) b1 33 [v0, v1, v2, v3, v4, v5, v6] := by
    match l, hl with
    | [u0, u1, u2, u3, u4, u5, u6], _ => exact row_setCells [v0, v1, v2, v3, v4, v5, v6] [] [u0, u1, u2, u3, u4, u5, u6] w9 h1 rfl
  have NE : ∀ x, x ≠ b1 → (((((((w9.setCell ⟨b1, 0, none⟩ v0).setCell ⟨b1, 1, none⟩ v1).setCell ⟨b1, 2, none⟩ v2).setCell ⟨b1, 3, none⟩ v3).setCell ⟨b1, 4, none⟩ v4).setCell ⟨b1, 5, none⟩ v5).setCell ⟨b1, 6, none⟩ v6).heap[x]? = w9.heap[x]? := fun x hx => heap_setCells_ne b1 [v0, v1, v2, v3, v4, v5, v6] 0 w9 x hx
  have HB : Below w.heap.size w (((((((w9.setCell ⟨b1, 0, none⟩ v0).setCell ⟨b1, 1, none⟩ v1).setCell ⟨b1, 2, none⟩ v2).setCell ⟨b1, 3, none⟩ v3).setCell ⟨b1, 4, none⟩ v4).setCell ⟨b1, 5, none⟩ v5).setCell ⟨b1, 6, none⟩ v6) := below_setCellsx hb b1 hw [v0, v1, v2, v3, v4, v5, v6] 0
  generalize (((((((w9.setCell ⟨b1, 0, none⟩ v0).setCell ⟨b1, 1, none⟩ v1).setCell ⟨b1, 2, none⟩ v2).setCell ⟨b1, 3, none⟩ v3).setCell ⟨b1, 4, none⟩ v4).setCell ⟨b1, 5, none⟩ v5).setCell ⟨b1, 6, none⟩ v6) = W7 at *
  refine ⟨(heap_set_ne _ _ _ _ _ (by omega)).trans Q1, rowAt_set1 (show RowAt W7 b3 36 [o] from (NE _ (by omega)).trans h3) 0 _, hK _ (fun x hx => (heap_set_ne _ _ _ _ _ (by omega)).trans (NE _ (by omega))), HB.setCell (p := ⟨b3, 0, none⟩) (by show w.heap.size ≤ b3; omega) _⟩

set_option maxRecDepth 100000 in
set_option maxHeartbeats 16000000 in
theorem windowBegun_any (w : World) : Calls Tryz.prog 4 #[] w fun e w' => e = .returned (.bool true) ∧ Below w.heap.size w w' := by
  go_enter Tryz.func4, Tryz.ntmps4
  go_wp2_with fail
  refine (oneV7_any _).mono ?_
  rintro e w1 ⟨A1, rfl, hC1, hb1⟩
  have HC1 := hid hC1
  clear hC1
  go_wp2_with fail
  refine (newD_any oneC A1 0 _ HC1.out one_ck (by decide)).mono ?_
  rintro e w2 ⟨A2, rfl, hD2, hb2⟩
  have HB2 := hid (btrans hb1 hb2)
  have HD2 := hid hD2
  clear hb1 hb2 HC1 hD2
  obtain ⟨jJ, jR, jI, jT, jO, jE, kJ, kR, kI, kT, kO, kE⟩ := A2
  have q3 := below_new w2 (.cells #[.slice jJ 0 kJ, .slice jR 1 kR, .int .i64 0, .slice jI 0 kI, .slice jT 0 kT, .slice jO 0 kO, .slice jE 0 kE] 33)
  have HD3 := hid (HD2.out.keep q3)
  have HR3 := hid (rowAt_new2 w2 w2.heap.size [.slice jJ 0 kJ, .slice jR 1 kR, .int .i64 0, .slice jI 0 kI, .slice jT 0 kT, .slice jO 0 kO, .slice jE 0 kE] 33 rfl)
  have HB3 := hid (btrans HB2.out q3)
  have hs2 := HB2.out.size
  clear q3 HD2
  simp only [dv, dl, newD, oneC, List.length_nil, List.length_replicate, List.length_cons, Nat.zero_add]
  go_upto_region 2 with fail
  generalize World.alloc w2 _ = w3 at *
  go_wp2_with fail
  refine (new_ok 1 1 w3 (by decide) (by decide) (by decide) (by decide)).mono ?_
  rintro e w4 ⟨g0, rfl, hO4, hg4, hb4⟩
  have HK4 : Hid (CacheIn w4 (some ⟨g0, 0, none⟩) oneK) := hid (cacheIn_of_own (k := 1) hO4 (by decide) (by decide))
  have HR4 := hid (HR3.out.below hb4 (Nat.le_refl _))
  have HD4 := hid (HD3.out.keep hb4)
  have HB4 := hid (btrans HB3.out hb4)
  have q5 := below_new w4 (.cells #[.slice (some ⟨g0, 0, none⟩) 1 1] 36)
  have HR5 := hid (HR4.out.below q5 (Nat.le_refl _))
  have HD5 := hid (HD4.out.keep q5)
  have HK5 := hid (HK4.out.keep q5)
  have HQ5 := hid (rowAt_new2 w4 w4.heap.size [.slice (some ⟨g0, 0, none⟩) 1 1] 36 rfl)
  have HB5 := hid (btrans HB4.out q5)
  have hlt : w2.heap.size < w4.heap.size := HR4.out.lt
  clear q5 HR4 HD4 HK4 HB4 HR3 HD3 HB3 hO4 hg4 hb4
  go_upto_region 3 with fail
  generalize World.alloc w4 _ = w5 at *
  have h5 : w4.heap.size < w5.heap.size := HQ5.out.lt
  have HS : Hid (∀ w', Below w5.heap.size w5 w' → w'.cell? ⟨w2.heap.size, 0, none⟩ = some (.slice jJ 0 kJ) ∧ w'.cell? ⟨w2.heap.size, 1, none⟩ = some (.slice jR 1 kR) ∧ w'.cell? ⟨w2.heap.size, 2, none⟩ = some (.int .i64 0) ∧ w'.cell? ⟨w2.heap.size, 3, none⟩ = some (.slice jI 0 kI) ∧ w'.cell? ⟨w2.heap.size, 4, none⟩ = some (.slice jT 0 kT) ∧ w'.cell? ⟨w2.heap.size, 5, none⟩ = some (.slice jO 0 kO) ∧ w'.cell? ⟨w2.heap.size, 6, none⟩ = some (.slice jE 0 kE) ∧ w'.cell? ⟨w4.heap.size, 0, none⟩ = some (.slice (some ⟨g0, 0, none⟩) 1 1)) := hid fun w' hb => ⟨(HR5.out.below hb (Nat.le_refl _)).cell 0 _ rfl, (HR5.out.below hb (Nat.le_refl _)).cell 1 _ rfl, (HR5.out.below hb (Nat.le_refl _)).cell 2 _ rfl, (HR5.out.below hb (Nat.le_refl _)).cell 3 _ rfl, (HR5.out.below hb (Nat.le_refl _)).cell 4 _ rfl, (HR5.out.below hb (Nat.le_refl _)).cell 5 _ rfl, (HR5.out.below hb (Nat.le_refl _)).cell 6 _ rfl, (HQ5.out.below hb (Nat.le_refl _)).cell 0 _ rfl⟩
  have hB : Below w5.heap.size w5 w5.drew := (Below.refl _ _).drew
  have hBa : Below w5.heap.size w5 (w5.alloc (.cells #[.int .i64 3, .int .i64 3, .int .i64 0, .int .i64 8, .int .i64 0, .int .i64 0] 53)).drew := ((Below.refl w5.heap.size w5).alloc (Nat.le_refl _) _).drew
  have RB : Hid (RowAt (w5.alloc (.cells #[.int .i64 3, .int .i64 3, .int .i64 0, .int .i64 8, .int .i64 0, .int .i64 0] 53)).drew w5.heap.size 53 [.int .i64 3, .int .i64 3, .int .i64 0, .int .i64 8, .int .i64 0, .int .i64 0]) := hid (rowAt_new2 w5 w5.heap.size [.int .i64 3, .int .i64 3, .int .i64 0, .int .i64 8, .int .i64 0, .int .i64 0] 53 rfl).drew
  obtain ⟨a0, a1, a2, a3, a4, a5, a6, a7⟩ := HS.out _ hB
  obtain ⟨b0, b1, b2, b3, b4, b5, b6, b7⟩ := HS.out _ hBa
  go_cut [5] (fun o wx => ∃ xJ xR xI xT xO xE mJ mR mI mT mO mE aK cK, o = .int .i64 0 ∧ RowAt wx w2.heap.size 33 [.slice xJ 0 mJ, .slice xR 1 mR, .int .i64 2, .slice xI 0 mI, .slice xT 0 mT, .slice xO 0 mO, .slice xE 4 mE] ∧ RowAt wx w4.heap.size 36 [.slice aK 1 cK] ∧ CacheIn wx aK endK ∧ Below w.heap.size w wx)
  case first =>
    go_region_with (first
        | (go_at_call 7; with_reducible refine Calls.mono (oneV7_any _) ?_; rintro e w8 ⟨A8, rfl, hC8, hb8⟩; have hB7 := btrans hB hb8; have hB7a := hB7.alloc hB7.size (.cells #[.int .i64 3, .int .i64 3, .int .i64 0, .int .i64 8, .int .i64 0, .int .i64 0] 53); have RA := hid (rowAt_new2 w8 w8.heap.size [.int .i64 3, .int .i64 3, .int .i64 0, .int .i64 8, .int .i64 0, .int .i64 0] 53 rfl); have HC8 := hid (hC8.keep (below_new w8 (.cells #[.int .i64 3, .int .i64 3, .int .i64 0, .int .i64 8, .int .i64 0, .int .i64 0] 53))); obtain ⟨c0, c1, c2, c3, c4, c5, c6, c7⟩ := HS.out _ hB7; obtain ⟨d0, d1, d2, d3, d4, d5, d6, d7⟩ := HS.out _ hB7a; clear hC8 hb8 hBa)
        | (go_at_call 7; with_reducible refine Calls.mono (oneV7_any _) ?_; rintro e w8 ⟨A8, rfl, hC8, hb8⟩; have hB7b := btrans hBa hb8; have RC := hid (RB.out.below hb8 (Nat.le_refl _)); have HC8 := hid hC8; obtain ⟨c0, c1, c2, c3, c4, c5, c6, c7⟩ := HS.out _ hB7b; clear hC8 hb8 hBa)
        | (go_at_call 5; with_reducible refine Calls.mono (run_one A8 jJ jR jI jT jO jE kJ kR kI kT kO kE g0 w8.heap.size _ HC8.out (HD5.out.keep hB7a) (HK5.out.keep hB7a) RA.out) ?_; rintro e w9 ⟨xJ, xR, xI, xT, xO, xE, mJ, mR, mI, mT, mO, mE, aK', cK', rfl, hK9, hb9⟩; have hB9 := btrans hB7a hb9; have hsz := hB7a.size; have HK9 := hid hK9; have r9 := HR5.out.below hB9 (Nat.le_refl _); have s9 := HQ5.out.below hB9 (Nat.le_refl _); have R9 := hid r9; have S9 := hid s9; have y0 := r9.cell 0 _ rfl; have z0 := r9.frozen 0; have y1 := r9.cell 1 _ rfl; have z1 := r9.frozen 1; have y2 := r9.cell 2 _ rfl; have z2 := r9.frozen 2; have y3 := r9.cell 3 _ rfl; have z3 := r9.frozen 3; have y4 := r9.cell 4 _ rfl; have z4 := r9.frozen 4; have y5 := r9.cell 5 _ rfl; have z5 := r9.frozen 5; have y6 := r9.cell 6 _ rfl; have z6 := r9.frozen 6; have y7 := s9.cell 0 _ rfl; have z7 := s9.frozen 0; clear hK9 r9 s9 hb9)
        | (go_at_call 5; with_reducible refine Calls.mono (run_one A8 jJ jR jI jT jO jE kJ kR kI kT kO kE g0 w5.heap.size _ HC8.out (HD5.out.keep hB7b) (HK5.out.keep hB7b) RC.out) ?_; rintro e w9 ⟨xJ, xR, xI, xT, xO, xE, mJ, mR, mI, mT, mO, mE, aK', cK', rfl, hK9, hb9⟩; have hB9 := btrans hB7b hb9; have hsz := hB7b.size; have HK9 := hid hK9; have r9 := HR5.out.below hB9 (Nat.le_refl _); have s9 := HQ5.out.below hB9 (Nat.le_refl _); have R9 := hid r9; have S9 := hid s9; have y0 := r9.cell 0 _ rfl; have z0 := r9.frozen 0; have y1 := r9.cell 1 _ rfl; have z1 := r9.frozen 1; have y2 := r9.cell 2 _ rfl; have z2 := r9.frozen 2; have y3 := r9.cell 3 _ rfl; have z3 := r9.frozen 3; have y4 := r9.cell 4 _ rfl; have z4 := r9.frozen 4; have y5 := r9.cell 5 _ rfl; have z5 := r9.frozen 5; have y6 := r9.cell 6 _ rfl; have z6 := r9.frozen 6; have y7 := s9.cell 0 _ rfl; have z7 := s9.frozen 0; clear hK9 r9 s9 hb9))
    all_goals
      go_wp2
      go_meet
      case rel => exact ⟨xJ, xR, xI, xT, xO, xE, mJ, mR, mI, mT, mO, mE, aK', cK', rfl, begun_end rfl R9.out S9.out hlt (Nat.lt_of_lt_of_le h5 hsz) hs2 HK9.out (btrans HB5.out hB9)⟩
  case rest =>
    obtain ⟨xJ, xR, xI, xT, xO, xE, mJ, mR, mI, mT, mO, mE, aK, cK, rfl, hr6, hq6, hk6, hb6⟩ := hcut
    obtain ⟨w6, rfl⟩ : ∃ x, x = wc := ⟨_, rfl⟩
    have HR6 := hid hr6
    have HK6 := hid hk6
    have HB6 := hid hb6
    have e7 := hq6.cell 0 _ rfl
    clear a0 b0 a1 b1 a2 b2 a3 b3 a4 b4 a5 b5 a6 b6 a7 b7 hr6 hk6 hb6 HS hB hBa RB HR5 HD5 HK5 HQ5 HB5
    go_wp2_with fail
    refine (cost_one aK cK w6 HK6.out).mono ?_
    rintro e w7 ⟨g7, rfl, hb7⟩
    have hn7 := below_new w7 (.cells #[.slice (some ⟨g7, 0, none⟩) 1 1] 36)
    have HB7 := hid (btrans hb7 hn7)
    clear hb7 hn7 e7
    go_upto_region 5 with fail
    generalize World.alloc w7 _ = w8 at *
    go_wp2_with fail
    refine (worst_one _).mono ?_
    rintro e w9 ⟨rfl, hb9⟩
    have hb69 := btrans HB7.out hb9
    have r9 := HR6.out.below hb69 (Nat.le_refl _)
    have HF := hid (btrans HB6.out hb69)
    have y0 := r9.cell 0 _ rfl
    have y2 := r9.cell 2 _ rfl
    have y6 := r9.cell 6 _ rfl
    clear hb9 hb69 r9 HB7
    go_wp2
    go_ret
    exact ⟨rfl, HF.out⟩

end Go.Proofs.YtildebflnmbefaaGreat
