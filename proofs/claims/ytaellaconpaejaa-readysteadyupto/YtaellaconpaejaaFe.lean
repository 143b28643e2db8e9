/- Walks: a job of a task is released. -/
import Derived.Test.YtaellaconpaejaaFd
import Derived.Deep.DeepCutAuto
set_option linter.unusedVariables false
namespace Go.Proofs.Ytaellaconpaejaa
open Go.RowKit

theorem owns_cell {w : World} {base n c g k : Nat} {L : List Int} (h : w.ownsRow base 3 1 (.slice (some ⟨g, 0, none⟩) n c) n (ivs L)) (hk : k < L.length) : w.cell? ⟨g, k, none⟩ = some (.int .i64 L[k]) := by
  have := h.cells (g := g) rfl k (.int .i64 L[k]) (by simp [ivs, hk])
  rw [addZ] at this
  exact this
theorem owns_frozen {w : World} {base e sz n c g : Nat} {xs : List Value} (h : w.ownsRow base e sz (.slice (some ⟨g, 0, none⟩) n c) n xs) (i : Nat) : w.frozen? ⟨g, i, none⟩ = false := by
  obtain ⟨cur, hc⟩ := owns_heap h (k := g) rfl
  simp [World.frozen?, hc]

set_option maxRecDepth 100000 in
set_option maxHeartbeats 4000000 in
theorem release_ok (w0 : World) (X : Nat → Prop) (base kb : Nat) (D : Dom) (A : DMem) (C : Conf) (B : Mem) (dn : Int) (k : Nat) (w : World) (h : KO w0 X base kb w D A C B dn) (hk : k < C.ta.length) (hkr : k < D.rel.length) (hr0 : 0 ≤ D.rel[k]) (hr1 : D.rel[k] < 100000) (hj : D.jobs.length ≤ 20) (hl : D.evs.length ≤ 1000000000) :
    Calls Try.prog 100 #[.pointer (some ⟨kb, 0, none⟩), .int .i64 (k : Int)] w fun e w' => e = .returned (.tuple #[]) ∧ (∃ A', KO w0 X base kb w' (relStep C k D) A' C B dn) ∧ KeepsOthers w w' := by
  obtain ⟨rb, hrb, _, _⟩ := owns_zero h.r (by omega)
  have hk1 : (k : Int) < (D.rel.length : Int) := by omega
  have hk0 : (0 : Int) ≤ (k : Int) := by omega
  have HH := hid h
  have HKR := hid hkr
  have HJX : Hid (∀ x, (Value.slice A.aJ D.jobs.length A.cJ).ownBlock = some x → x < w.heap.size) := hid fun x hx => owns_lt h.j x hx
  obtain ⟨aJ, aR, aI, aT, aO, aE, cJ, cR, cI, cT, cO, cE⟩ := A
  dsimp only at hrb
  subst hrb
  have hrlt : rb < w.heap.size := owns_lt h.r rb rfl
  have c1 := h.row.cell 1 _ rfl
  have cr : w.cell? ⟨rb, k, none⟩ = some (.int .i64 D.rel[k]) := owns_cell h.r hkr
  have C99 := hid (fun wx (hb : Below w.heap.size w wx) => comes_any kb D _ C B dn k wx (h.below hb).keepIn hk hkr)
  have HS : Hid (∀ w', Below w.heap.size w w' → w'.cell? ⟨kb, 1, none⟩ = some (.slice (some ⟨rb, 0, none⟩) D.rel.length cR) ∧ w'.cell? ⟨rb, k, none⟩ = some (.int .i64 D.rel[k])) := hid fun w' hb => ⟨bkeep hb c1 (Nat.le_refl _), bkeep hb cr (Nat.le_refl _)⟩
  have HRS : Hid (relStep C k D = if D.jobs.length = 20 then ⟨D.jobs, D.rel.set k (D.rel[k] + 1), D.nxt, D.ins, D.tak, D.out, D.evs⟩
    else ⟨D.jobs ++ [((k : Int), D.rel[k], comesAt C D k, 0, false, false)], D.rel.set k (D.rel[k] + 1), D.nxt, D.ins, D.tak, D.out, D.evs ++ [(comesAt C D k, 2, (k : Int), D.rel[k])]⟩) := hid (by
      have e : D.rel.getD k 0 = D.rel[k] := getD_of D.rel k hkr 0
      unfold relStep; rw [e])
  have hbz : Below w.heap.size w w.drew := (Below.refl _ _).drew
  have hbz2 : Below w.heap.size w (w.alloc (.cells #[.int .i64 0, .int .i64 0, .int .i64 0, .int .i64 0, .bool false, .bool false] 106)).drew := (below_new _ _).drew
  have RZ : Hid (RowAt (w.alloc (.cells #[.int .i64 0, .int .i64 0, .int .i64 0, .int .i64 0, .bool false, .bool false] 106)).drew w.heap.size 106 [.int .i64 0, .int .i64 0, .int .i64 0, .int .i64 0, .bool false, .bool false]) := hid (rowAt_new2 w _ [.int .i64 0, .int .i64 0, .int .i64 0, .int .i64 0, .bool false, .bool false] 106 rfl)
  clear h c1 cr
  generalize hy : D.rel[k] = y at *
  have HY := hid hy
  generalize comesAt C D k = c at *
  clear hy hk
  go_enter Try.func100, Try.ntmps100
  go_upto_region 0 with fail
  go_cut [4] (fun t wx => ∃ Bj, t = .pointer (some ⟨Bj, 0, none⟩) ∧ Below w.heap.size w wx ∧ RowAt wx Bj 106 [.int .i64 (k : Int), .int .i64 y, .int .i64 c, .int .i64 0, .bool false, .bool false] ∧ w.heap.size ≤ Bj)
  case first =>
    go_region_held3 (fun w' => w'.cell? ⟨kb, 1, none⟩ = some (.slice (some ⟨rb, 0, none⟩) D.rel.length cR) ∧ w'.cell? ⟨rb, k, none⟩ = some (.int .i64 y))
      (first | with_reducible exact HS.out _ hB2 | with_reducible exact HS.out _ (hB2a _) | with_reducible exact HS.out _ (hB2c _ _ _ _ _ _) | with_reducible exact HS.out _ hbz | with_reducible exact HS.out _ hbz2 | go_keep)
      (first
        | (go_at_call 99; with_reducible refine Calls.mono (C99.out _ hbz) ?_; rintro e w2 ⟨rfl, hb2⟩; have hB2 := btrans hbz hb2; have hB2a : ∀ o, Below w.heap.size w (w2.alloc o) := fun o => btrans hB2 (below_new _ o))
        | (go_at_call 99; with_reducible refine Calls.mono (C99.out _ hbz2) ?_; rintro e w2 ⟨rfl, hb2⟩; have hB2 := btrans hbz2 hb2; have HZ := hid (RZ.out.below hb2 (Nat.le_refl _)); have u0 := HZ.out.cell 0 _ rfl; have u1 := HZ.out.cell 1 _ rfl; have u2 := HZ.out.cell 2 _ rfl; have u3 := HZ.out.cell 3 _ rfl; have u4 := HZ.out.cell 4 _ rfl; have u5 := HZ.out.cell 5 _ rfl; have f0 := HZ.out.frozen 0; have f1 := HZ.out.frozen 1; have f2 := HZ.out.frozen 2; have f3 := HZ.out.frozen 3; have f4 := HZ.out.frozen 4; have f5 := HZ.out.frozen 5; have hB2c : ∀ v0 v1 v2 v3 v4 v5, Below w.heap.size w ((((((w2.setCell ⟨w.heap.size, 0, none⟩ v0).setCell ⟨w.heap.size, 1, none⟩ v1).setCell ⟨w.heap.size, 2, none⟩ v2).setCell ⟨w.heap.size, 3, none⟩ v3).setCell ⟨w.heap.size, 4, none⟩ v4).setCell ⟨w.heap.size, 5, none⟩ v5) := fun v0 v1 v2 v3 v4 v5 => (((((hB2.setCell (p := ⟨w.heap.size, 0, none⟩) (Nat.le_refl _) _).setCell (p := ⟨w.heap.size, 1, none⟩) (Nat.le_refl _) _).setCell (p := ⟨w.heap.size, 2, none⟩) (Nat.le_refl _) _).setCell (p := ⟨w.heap.size, 3, none⟩) (Nat.le_refl _) _).setCell (p := ⟨w.heap.size, 4, none⟩) (Nat.le_refl _) _).setCell (p := ⟨w.heap.size, 5, none⟩) (Nat.le_refl _) _))
    all_goals
      go_wp2
      go_meet
      case rel =>
        first
          | (have hM := hB2a; exact ⟨w2.heap.size, rfl, btrans hB2 (below_new _ _), rowAt_new2 w2 _ [.int .i64 (k : Int), .int .i64 y, .int .i64 c, .int .i64 0, .bool false, .bool false] 106 rfl, hB2.size⟩)
          | (have hM := hB2c; exact ⟨w.heap.size, rfl, hM _ _ _ _ _ _, rowAt_set1 (rowAt_set1 (rowAt_set1 (rowAt_set1 (rowAt_set1 (rowAt_set1 HZ.out 0 _) 1 _) 2 _) 3 _) 4 _) 5 _, Nat.le_refl _⟩)
  case rest =>
    obtain ⟨Bj, rfl, hB, hrow, hBj⟩ := hcut
    have hK1 := HH.out.below hB
    have c1 := hK1.row.cell 1 _ rfl
    have cr : wc.cell? ⟨rb, k, none⟩ = some (.int .i64 y) := (HS.out _ hB).2
    have fr := owns_frozen hK1.r k
    have hK2 := hK1.setRel (g := rb) rfl k (y + 1)
    have R2 := hid (show RowAt (wc.setCell ⟨rb, k, none⟩ (.int .i64 (y + 1))) Bj 106 _ from (heap_set_ne _ _ _ _ Bj (by omega)).trans hrow)
    have HK2 := hid hK2
    have HO2 := hid ((keepsOthers_below hB).trans (KeepsOthers.setCell wc ⟨rb, k, none⟩ (.int .i64 (y + 1))))
    have hs2 : w.heap.size ≤ (wc.setCell ⟨rb, k, none⟩ (.int .i64 (y + 1))).heap.size := Nat.le_trans hB.size (by simp)
    have cj := hK2.row.cell 0 _ rfl
    clear HS C99 RZ hbz hbz2 hK1 hK2 hrow hB HH
    dsimp only at cj
    go_upto_region 2 with fail
    clear c1 cr fr
    generalize wc.setCell ⟨rb, k, none⟩ (.int .i64 (y + 1)) = W2 at *
    by_cases h20 : D.jobs.length = 20
    · have h20' : (D.jobs.length : Int) = 20 := by omega
      have HF : Hid (∃ A', KO w0 X base kb W2 (relStep C k D) A' C B dn) := hid ⟨_, by rw [HRS.out, if_pos h20]; exact HK2.out⟩
      clear h20 HK2 R2
      go_wp2
      refine bodyPost_ret (results_none rfl _ _ _) rfl ?_
      exact ⟨rfl, HF.out, HO2.out⟩
    · have h20' : ¬ (D.jobs.length : Int) = 20 := by omega
      rw [if_neg h20] at HRS
      have h19 : D.jobs.length ≤ 19 := by omega
      clear h20 hj
      have hbA : Below W2.heap.size W2 (W2.alloc (.cells #[.int .i64 (k : Int), .int .i64 y, .int .i64 c, .int .i64 0, .bool false, .bool false] 106)).drew := (below_new _ _).drew
      have HA := hid (HK2.out.below hbA)
      have HKB := hid (keepsOthers_below hbA)
      have RE : Hid (RowAt (W2.alloc (.cells #[.int .i64 (k : Int), .int .i64 y, .int .i64 c, .int .i64 0, .bool false, .bool false] 106)).drew W2.heap.size 106 (jc ((k : Int), y, c, 0, false, false))) := hid (rowAt_new2 W2 W2.heap.size [.int .i64 (k : Int), .int .i64 y, .int .i64 c, .int .i64 0, .bool false, .bool false] 106 rfl)
      have RA := hid (R2.out.below hbA (Nat.le_refl _))
      have cj' : ∀ o, (W2.alloc o).cell? ⟨kb, 0, none⟩ = some (.slice aJ D.jobs.length cJ) := fun o => cell_old o cj
      have r0 := R2.out.cell 0 _ rfl
      have r1 := R2.out.cell 1 _ rfl
      have r2 := R2.out.cell 2 _ rfl
      have r3 := R2.out.cell 3 _ rfl
      have r4 := R2.out.cell 4 _ rfl
      have r5 := R2.out.cell 5 _ rfl
      have hbs : base ≤ W2.heap.size := by have := HK2.out.base_kb; have := HK2.out.kb_lt; omega
      have hjx : ∀ x, (Value.slice aJ D.jobs.length cJ).ownBlock = some x → x < Bj := fun x hx => by have := HJX.out x hx; omega
      have HJX2 := hid hjx
      have hBl : Bj < W2.heap.size := R2.out.lt
      have hBl2 : Bj < (W2.alloc (.cells #[.int .i64 (k : Int), .int .i64 y, .int .i64 c, .int .i64 0, .bool false, .bool false] 106)).drew.heap.size := RA.out.lt
      have HBl2 := hid hBl2
      clear hbA R2 HK2 HJX hjx hBl2 HY HKR
      go_upto_region 3 with fail
      go_region_law (first
        | (refine step_appG (by rfl) _ _ 86 106 (by rfl) _ 6 40 Try.underlying86 Try.info106x rfl (by omega) base (.slice aJ D.jobs.length cJ) D.jobs.length (fJ D.jobs) (by rfl) HA.out.j W2.heap.size 1 1 (fJ [((k : Int), y, c, 0, false, false)]) (by rfl) rfl (fun j u hu => RE.out.cell j u (by simpa [fJ] using hu)) (fJ_one _) (by omega) (by simp [maxLen]; omega) (by omega) (by simp; omega) ?_; intro g cap w4 hown4 hgrow4 hat4; have r4x : RowAt w4 kb 140 _ := (hgrow4.block kb HA.out.kb_lt (fun e => owns_ne HA.out.j HA.out.row (by decide) kb e.symm rfl)).trans HA.out.row; have RB4 := hid (show RowAt w4 Bj 106 _ from (hgrow4.block Bj HBl2.out (fun e => by have := HJX2.out Bj e.symm; omega)).trans RA.out); have e0 := r4x.cell 0 _ rfl; have f0 := r4x.frozen 0; have HO4 := hid hown4; have HG4 := hid hgrow4; have HT4 := hid hat4; clear hown4 hgrow4 r4x hat4))
      all_goals
        have HE : Hid (KO w0 X base kb (w4.setCell ⟨kb, 0, none⟩ (.slice (some ⟨g, 0, none⟩) (D.jobs.length + 1) cap)) ⟨D.jobs ++ [((k : Int), y, c, 0, false, false)], D.rel.set k (y + 1), D.nxt, D.ins, D.tak, D.out, D.evs⟩ ⟨some ⟨g, 0, none⟩, some ⟨rb, 0, none⟩, aI, aT, aO, aE, cap, cR, cI, cT, cO, cE⟩ C B dn) := by
          have := HA.out.pushed (J := D.jobs ++ [((k : Int), y, c, 0, false, false)]) (a' := some ⟨g, 0, none⟩) (c' := cap) HG4.out (by rw [fJ_app, List.length_append]; exact HO4.out) (fun x hx => by
            simp only [Value.ownBlock, Option.some.injEq] at hx
            subst hx
            rcases HT4.out with h' | h'
            · exact .inl h'
            · exact .inr (by omega))
          rw [List.length_append] at this
          exact hid this
        have HK : Hid (KeepsOthers w (w4.setCell ⟨kb, 0, none⟩ (.slice (some ⟨g, 0, none⟩) (D.jobs.length + 1) cap))) := hid (((HO2.out.trans HKB.out).trans (keepsOthers_own HG4.out HA.out.j)).trans (KeepsOthers.setCell _ _ _))
        have R5 := hid (show RowAt (w4.setCell ⟨kb, 0, none⟩ (.slice (some ⟨g, 0, none⟩) (D.jobs.length + 1) cap)) Bj 106 _ from (heap_set_ne _ _ _ _ Bj (fun e => by
          have h1 : w4.heap[Bj]? = _ := RB4.out
          have h2 := (HA.out.row)
          have h3 : w4.heap[kb]? = _ := (HG4.out.block kb HA.out.kb_lt (fun e => owns_ne HA.out.j HA.out.row (by decide) kb e.symm rfl)).trans HA.out.row
          rw [e, h3] at h1
          simp at h1)).trans RB4.out)
        clear HA HO4 HG4 HT4 cj cj' r0 r1 r2 r3 r4 r5 HKB HO2 RB4 RA RE HBl2 HJX2
        go_upto_region 4 with fail
        clear e0 f0
        generalize w4.setCell ⟨kb, 0, none⟩ (.slice (some ⟨g, 0, none⟩) (D.jobs.length + 1) cap) = W5 at *
        have r0 := R5.out.cell 0 _ rfl
        have r1 := R5.out.cell 1 _ rfl
        have r2 := R5.out.cell 2 _ rfl
        have r3 := R5.out.cell 3 _ rfl
        have r4 := R5.out.cell 4 _ rfl
        have r5 := R5.out.cell 5 _ rfl
        go_wp2_with fail
        refine (tell_ok w0 X base kb _ _ C B dn c 2 ((k : Int), y, c, 0, false, false) _ HE.out hl).mono ?_
        rintro e w6 ⟨rfl, ⟨a', c', h6⟩, hk6⟩
        have H6 := hid h6
        have HO6 := hid (HK.out.trans hk6)
        clear h6 hk6 HE HK r0 r1 r2 r3 r4 r5 R5
        go_wp2
        go_end0
        exact ⟨rfl, ⟨_, by rw [HRS.out]; exact H6.out⟩, HO6.out⟩

end Go.Proofs.Ytaellaconpaejaa
