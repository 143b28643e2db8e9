/- Walks: a job ends. Walks: send. Walks: receive. -/
import Derived.Test.YtildebflnmbefaaGreatKv
import Derived.Test.YtildebflnmbefaaGreatKq
import Derived.Test.YtildebflnmbefaaGreatKp
import Derived.Test.YtildebflnmbefaaGreatKr
import Derived.Test.YtildebflnmbefaaGreatKe
set_option linter.unusedVariables false
namespace Go.Proofs.YtildebflnmbefaaGreat
open Go.RowKit

set_option maxRecDepth 100000 in
set_option maxHeartbeats 2000000 in
theorem endW_ok (X : RC) (M : RM) (D : Dom) (K : KT) (now : Int) (k : Nat) (a : ActT) (w : World) (h : RO X w M D K now) (hk : k < D.jobs.length) (hl : D.evs.length ≤ 1000000000000) (ht : 0 ≤ (jat D k).1 ∧ (jat D k).1 < X.C.ta.length) :
    Calls Tryz.prog 47 #[.pointer (some ⟨X.rb, 0, none⟩), .int .i64 (k : Int), av a] w fun e w' => e = .returned (.tuple #[]) ∧ ∃ M', RO X w' M' (endD X.C D now k a) K now := by
  obtain ⟨ak, an, av'⟩ := a
  have q1 := below_new w (.cells #[.int .i64 ak, .int .i64 an, .int .i64 av'] 53)
  have HB0 := hid q1
  have R1 := hid (rowAt_new w _ [.int .i64 ak, .int .i64 an, .int .i64 av'] 53 rfl)
  have h1 := h.below q1
  have c0 := h1.row.cell 0 _ rfl
  obtain ⟨g, hg, hgl, hgb, hne, hfz, j0, j1, j2, j3, j4, j5⟩ := h1.jobAt k hk
  rw [hg] at c0
  have a0 := R1.out.cell 0 _ rfl
  have hrb : X.rb < w.heap.size := h.row.lt
  have hki : (k : Int) < (D.jobs.length : Int) := by omega
  have hlJ := (owns_in h.px.jobs).2.2
  have HH := hid h
  have HD : Hid (endD X.C D now k (ak, an, av') = if ak = 8 then dropD (tellE D (now, 4, (jat D k).1, (jat D k).2.1)) k else if (tk X.C (jat D k).1.toNat).2.2.1 ≤ (jat D k).2.2.2.1 then dropD (tellE D (now, 5, (jat D k).1, (jat D k).2.1)) k else D) := hid rfl
  have CT : Hid (∀ kd wx, Below w.heap.size w wx → Calls Tryz.prog 72 #[.pointer (some ⟨X.rb, 0, none⟩), .int .i64 kd, .int .i64 (jat D k).1, .int .i64 (jat D k).2.1] wx fun e w' => e = .returned (.tuple #[]) ∧ ∃ a' c', RO X w' (evM M a' c') (tellE D (now, kd, (jat D k).1, (jat D k).2.1)) K now) := hid fun kd wx hb => tellW_ok X M D K now kd _ _ wx (h.below hb) hl
  have CD : Hid (∀ kd M' wx, RO X wx M' (tellE D (now, kd, (jat D k).1, (jat D k).2.1)) K now → Calls Tryz.prog 78 #[.pointer (some ⟨X.rb, 0, none⟩), .int .i64 (k : Int)] wx fun e w' => e = .returned (.tuple #[]) ∧ ∃ a' c', RO X w' (jM M' a' c') (dropD (tellE D (now, kd, (jat D k).1, (jat D k).2.1)) k) K now) := hid fun kd M' wx hx => dropW_ok X M' _ K now k wx hx hk
  have CB : Hid (∀ wx, Below w.heap.size w wx → Calls Tryz.prog 77 #[.pointer (some ⟨X.rb, 0, none⟩), .agg #[.int .i64 (jat D k).1, .int .i64 (jat D k).2.1, .int .i64 (jat D k).2.2.1, .int .i64 (jat D k).2.2.2.1, .bool (jat D k).2.2.2.2.1, .bool (jat D k).2.2.2.2.2]] wx fun e w' => e = .returned (.int .i64 (tk X.C (jat D k).1.toNat).2.2.1) ∧ Below wx.heap.size wx w') := hid fun wx hb => budgetW_ok X M D K now (jat D k) wx (h.below hb) ht.1 ht.2
  clear h h1 q1 ht
  generalize (tk X.C (jat D k).1.toNat).2.2.1 = bg at *
  generalize jat D k = j at *
  obtain ⟨x0, x1, x2, x3, x4, x5⟩ := j
  dsimp only at *
  go_enter Tryz.func47, Tryz.ntmps47
  by_cases h8 : ak = 8
  · subst h8
    rw [if_pos rfl] at HD
    go_wp2_with fail
    generalize hW : World.alloc (World.alloc w _) _ = W at *
    have HBW : Hid (Below w.heap.size w W) := by rw [← hW]; exact hid (btrans HB0.out (below_new _ _))
    clear hW
    refine Calls.mono (CT.out 4 W HBW.out) ?_
    rintro e w1 ⟨rfl, a', c', h1⟩
    have H1 := hid h1
    have hr1 := h1.row.lt
    clear h1
    go_wp2_with fail
    refine Calls.mono (CD.out 4 _ _ H1.out) ?_
    rintro e w2 ⟨rfl, a2', c2', h2⟩
    have H2 := hid h2
    clear h2
    go_wp2
    go_end0
    exact ⟨rfl, _, by rw [HD.out]; exact H2.out⟩
  · rw [if_neg h8] at HD
    have h8b : (ak == 8) = false := by simp [h8]
    have RJ := hid (rowAt_new (w.alloc (.cells #[.int .i64 ak, .int .i64 an, .int .i64 av'] 53)) (w.heap.size + 1) [.int .i64 x0, .int .i64 x1, .int .i64 x2, .int .i64 x3, .bool x4, .bool x5] 79 (by simp))
    go_wp2_with fail
    have HBW : Hid (Below w.heap.size w ((w.alloc (.cells #[.int .i64 ak, .int .i64 an, .int .i64 av'] 53)).alloc (.cells #[.int .i64 x0, .int .i64 x1, .int .i64 x2, .int .i64 x3, .bool x4, .bool x5] 79))) := hid (btrans HB0.out (below_new _ _))
    generalize hW : World.alloc (World.alloc w _) _ = W at *
    clear hW
    have HS : Hid (∀ w', Below W.heap.size W w' → w'.cell? ⟨w.heap.size + 1, 0, none⟩ = some (.int .i64 x0) ∧ w'.cell? ⟨w.heap.size + 1, 1, none⟩ = some (.int .i64 x1) ∧ w'.cell? ⟨w.heap.size + 1, 2, none⟩ = some (.int .i64 x2) ∧ w'.cell? ⟨w.heap.size + 1, 3, none⟩ = some (.int .i64 x3) ∧ w'.cell? ⟨w.heap.size + 1, 4, none⟩ = some (.bool x4) ∧ w'.cell? ⟨w.heap.size + 1, 5, none⟩ = some (.bool x5)) := hid fun w' hb => ⟨bkeep hb (RJ.out.cell 0 _ rfl) (Nat.le_refl _), bkeep hb (RJ.out.cell 1 _ rfl) (Nat.le_refl _), bkeep hb (RJ.out.cell 2 _ rfl) (Nat.le_refl _), bkeep hb (RJ.out.cell 3 _ rfl) (Nat.le_refl _), bkeep hb (RJ.out.cell 4 _ rfl) (Nat.le_refl _), bkeep hb (RJ.out.cell 5 _ rfl) (Nat.le_refl _)⟩
    have hB : Below W.heap.size W W.drew := (Below.refl _ _).drew
    have CB2 : Hid (∀ wx, Below W.heap.size W wx → Calls Tryz.prog 77 #[.pointer (some ⟨X.rb, 0, none⟩), .agg #[.int .i64 x0, .int .i64 x1, .int .i64 x2, .int .i64 x3, .bool x4, .bool x5]] wx fun e w' => e = .returned (.int .i64 bg) ∧ Below wx.heap.size wx w') := hid fun wx hb => CB.out wx (btrans HBW.out hb)
    go_region_held3 (fun w' => w'.cell? ⟨w.heap.size + 1, 0, none⟩ = some (.int .i64 x0) ∧ w'.cell? ⟨w.heap.size + 1, 1, none⟩ = some (.int .i64 x1) ∧ w'.cell? ⟨w.heap.size + 1, 2, none⟩ = some (.int .i64 x2) ∧ w'.cell? ⟨w.heap.size + 1, 3, none⟩ = some (.int .i64 x3) ∧ w'.cell? ⟨w.heap.size + 1, 4, none⟩ = some (.bool x4) ∧ w'.cell? ⟨w.heap.size + 1, 5, none⟩ = some (.bool x5))
      (first | with_reducible exact HS.out _ hB | with_reducible exact HS.out _ hB2 | go_keep)
      (first
        | (go_at_call 77; with_reducible refine Calls.mono (CB2.out _ hB) ?_; rintro e w2 ⟨rfl, hb2⟩; have hB2 := btrans hB hb2; clear hb2))
    all_goals
      have s0 := (HS.out _ hB2).1
      have s1 := (HS.out _ hB2).2.1
      have HB2 := hid (btrans HBW.out hB2)
      clear HS CB CB2 hB hB2
      by_cases hbg : bg ≤ x3
      · rw [if_pos hbg] at HD
        go_wp2_with fail
        refine Calls.mono (CT.out 5 w2 HB2.out) ?_
        rintro e w3 ⟨rfl, a', c', h3⟩
        have H3 := hid h3
        clear h3
        go_wp2_with fail
        refine Calls.mono (CD.out 5 _ _ H3.out) ?_
        rintro e w4 ⟨rfl, a4', c4', h4⟩
        have H4 := hid h4
        clear h4
        go_wp2
        go_end0
        exact ⟨rfl, _, by rw [HD.out]; exact H4.out⟩
      · rw [if_neg hbg] at HD
        go_wp2
        exact bodyPost_ret (v := .tuple #[]) (by simp [results, Tryz.results47, go_sem]) rfl ⟨rfl, M, by rw [HD.out]; exact HH.out.below HB2.out⟩

end Go.Proofs.YtildebflnmbefaaGreat

namespace Go.Proofs.YtildebflnmbefaaGreat
open Go.RowKit

theorem Tryz.info3w : (Tryz.prog.info? 3).map (fun i => (i.zero, i.size, i.bytes)) = some (some (.int .i64 0), 1, 8) := by kernel_rfl
theorem ivs_one (L : List Int) : ∀ u ∈ ivs L, u.oneCell' = true := fun u hu => by
  simp only [ivs, List.mem_map] at hu
  obtain ⟨x, _, rfl⟩ := hu
  rfl

set_option maxRecDepth 100000 in
set_option maxHeartbeats 1000000 in
theorem sendW_ok (X : RC) (M : RM) (D : Dom) (K : KT) (now v : Int) (c : Nat) (w : World) (h : RO X w M D K now) (hc : c < D.out.length) (hl : D.out[c].length ≤ 1000000000) :
    Calls Tryz.prog 74 #[.pointer (some ⟨X.rb, 0, none⟩), .int .i64 (c : Int), .int .i64 v] w fun e w' => e = .returned (.tuple #[]) ∧ ∃ M', M'.A = M.A ∧ RO X w' M' (sendD D c v) K now := by
  have hbs : X.w0.heap.size ≤ w.heap.size := h.ag.size
  have c5 := h.row.cell 5 _ rfl
  have HaO := hid h.aO
  rw [h.aO] at c5
  have hrb := h.row.lt
  have hgo := h.px.outr.lt
  dsimp only at hgo
  obtain ⟨g1, o⟩ := h.outAt c hc
  obtain ⟨a, cp, ev, hcp, _, _, _⟩ := owns_cells o
  have hne := h.px.ne_ints (2 * c + 3)
  dsimp only at hne
  have HN := hid hne
  have HV := hid ev
  rw [ev] at g1 o
  have hO := h.lO
  have hcI : (c : Int) < (D.out.length : Int) := by omega
  have hbA : Below w.heap.size w (w.alloc (.cells #[.int .i64 v] 3)).drew := (below_new _ _).drew
  have HA := hid (h.below hbA)
  have HO := hid (owns_below o hbA)
  have RE : Hid (RowAt (w.alloc (.cells #[.int .i64 v] 3)).drew w.heap.size 3 [.int .i64 v]) := hid (rowAt_new2 w w.heap.size [.int .i64 v] 3 rfl)
  have c5' : ∀ o, (w.alloc o).cell? ⟨X.rb, 5, none⟩ = some (.slice (some ⟨M.gO, 0, none⟩) D.out.length M.A.cO) := fun o => cell_old o c5
  have g1' : ∀ o, (w.alloc o).cell? ⟨M.gO, c, none⟩ = some (.slice a D.out[c].length cp) := fun o => cell_old o g1
  clear hbA h hne ev o
  go_enter Tryz.func74, Tryz.ntmps74
  go_wp2
  go_region_law (first
    | (refine step_appG (by rfl) _ _ 23 3 (by rfl) _ 1 8 Tryz.underlying23 Tryz.info3w rfl (by omega) X.w0.heap.size (.slice a D.out[c].length cp) D.out[c].length (ivs D.out[c]) (by rfl) HO.out w.heap.size 1 1 (ivs [v]) (by rfl) rfl (fun j u hu => RE.out.cell j u hu) (ivs_one _) (by omega) (by simp [maxLen]; omega) (by omega) (by simp; omega) ?_; intro g cap w4 hown4 hgrow4 hat4; have r4 : RowAt w4 M.gO 23 _ := (hgrow4.block M.gO HA.out.px.outr.lt (fun e => (HN.out M.gO (by rw [HV.out]; exact e.symm)).2.2 rfl)).trans HA.out.px.outr; have q4 : RowAt w4 X.rb 64 _ := (hgrow4.block X.rb HA.out.row.lt (fun e => (HN.out X.rb (by rw [HV.out]; exact e.symm)).1 rfl)).trans HA.out.row; have e0 := r4.cell c _ (outC_at M.V _ c hc); have f0 := r4.frozen c; have e5 := q4.cell 5 _ rfl; rw [HaO.out] at e5; have HO4 := hid hown4; have HG4 := hid hgrow4; have HT4 := hid hat4; clear hown4 hgrow4 r4 hat4 q4))
  all_goals
    have HE : Hid (RO X (w4.setCell ⟨M.gO, c, none⟩ (.slice (some ⟨g, 0, none⟩) (D.out[c].length + 1) cap)) (vM M (2 * c + 3) (.slice (some ⟨g, 0, none⟩) (D.out[c].length + 1) cap)) (sendD D c v) K now) := by
      have := HA.out.sent c hc (v := .slice (some ⟨g, 0, none⟩) (D.out[c].length + 1) cap) (L := D.out[c] ++ [v]) (w1 := w4) (by rw [HV.out]; exact HG4.out) (by rw [ivs_app, List.length_append]; exact HO4.out) (fun x hx => by
        simp only [Value.ownBlock, Option.some.injEq] at hx
        subst hx
        rw [HV.out]
        rcases HT4.out with h' | h'
        · exact .inl h'
        · exact .inr (by omega))
      unfold sendD
      rw [show D.out.getD c [] = D.out[c] by simp [hc]]
      exact hid this
    clear HA HO4 HG4 HT4 c5 c5' HO
    go_wp2
    go_end0
    exact ⟨rfl, vM M _ _, rfl, HE.out⟩

end Go.Proofs.YtildebflnmbefaaGreat

namespace Go.Proofs.YtildebflnmbefaaGreat
open Go.RowKit

set_option maxRecDepth 100000 in
set_option maxHeartbeats 2000000 in
theorem receiveW_ok (X : RC) (M : RM) (D : Dom) (K : KT) (now : Int) (c : Nat) (w : World) (h : RO X w M D K now) (hc : c < D.ins.length) (hch : c < X.C.ch.length) :
    Calls Tryz.prog 75 #[.pointer (some ⟨X.rb, 0, none⟩), .int .i64 (c : Int)] w fun e w' => e = .returned (.int .i64 (recvZ X.C D c)) ∧ ∃ M', M'.A = M.A ∧ RO X w' M' (recvD X.C D c) K now := by
  have hbs : X.w0.heap.size ≤ w.heap.size := h.ag.size
  have c3 := h.row.cell 3 _ rfl
  have c14 := h.row.cell 14 _ rfl
  rw [h.aI] at c3
  have hrb := h.row.lt
  have hgi := h.px.inr.lt
  dsimp only at hgi
  obtain ⟨a, cp, ev, g1, g2, hI, hcp, hmx⟩ := h.ringAt c hc
  obtain ⟨b, o, e1, t0, t1, t2⟩ := h.confIn.ch c hch
  have hb : b < w.heap.size := World.block_lt_of_cell? _ _ t0
  rw [e1] at c14
  have l7 := h.confIn.l7
  have hO := h.lI
  have hcI : (c : Int) < (D.ins.length : Int) := by omega
  have hcC : (c : Int) < (X.C.ch.length : Int) := by omega
  have HH := hid h
  have CX : Hid (∀ wx, Below w.heap.size w wx → Calls Tryz.prog 94 #[.agg #[.slice a D.ins[c].1.length cp, .int .i64 D.ins[c].2], .int .i64 X.C.ch[c].2.2] wx fun e w' => ∃ v, e = .returned (.tuple #[.agg #[v, .int .i64 (recvL D.ins[c].1 D.ins[c].2 X.C.ch[c].2.2)], .int .i64 (recvX D.ins[c].1 D.ins[c].2 X.C.ch[c].2.2), .int .i64 (ckR D.ins[c].1 D.ins[c].2 X.C.ch[c].2.2)]) ∧ w'.ownsRow wx.heap.size 3 1 v (recvV D.ins[c].1 D.ins[c].2 X.C.ch[c].2.2).length (ivs (recvV D.ins[c].1 D.ins[c].2 X.C.ch[c].2.2)) ∧ Below wx.heap.size wx w') := hid fun wx hbx => receive_any a D.ins[c].1 cp D.ins[c].2 X.C.ch[c].2.2 wx (hI.keep hbx) hmx hcp
  have HR : Hid (recvR X.C D c = (recvV D.ins[c].1 D.ins[c].2 X.C.ch[c].2.2, recvL D.ins[c].1 D.ins[c].2 X.C.ch[c].2.2) ∧ recvZ X.C D c = recvX D.ins[c].1 D.ins[c].2 X.C.ch[c].2.2) := by
    refine hid ⟨?_, ?_⟩
    · unfold recvR; rw [show D.ins.getD c ([], 0) = D.ins[c] by simp [hc], show X.C.ch.getD c (0, 0, 0) = X.C.ch[c] by simp [hch]]
    · unfold recvZ; rw [show D.ins.getD c ([], 0) = D.ins[c] by simp [hc], show X.C.ch.getD c (0, 0, 0) = X.C.ch[c] by simp [hch]]
  generalize recvV D.ins[c].1 D.ins[c].2 X.C.ch[c].2.2 = rv at *
  generalize recvL D.ins[c].1 D.ins[c].2 X.C.ch[c].2.2 = rL at *
  generalize recvX D.ins[c].1 D.ins[c].2 X.C.ch[c].2.2 = rx at *
  generalize ckR D.ins[c].1 D.ins[c].2 X.C.ch[c].2.2 = rk at *
  have HS : Hid (∀ w', Below w.heap.size w w' → w'.cell? ⟨X.rb, 3, none⟩ = some (.slice (some ⟨M.gI, 0, none⟩) D.ins.length M.A.cI) ∧ w'.cell? ⟨X.rb, 14, none⟩ = some (.slice (some ⟨b, o, none⟩) X.C.ch.length X.B.c7) ∧ w'.cell? ⟨M.gI, c * 2, none⟩ = some (.slice a D.ins[c].1.length cp) ∧ w'.cell? ⟨M.gI, c * 2 + 1, none⟩ = some (.int .i64 D.ins[c].2) ∧ w'.cell? ⟨b, o + c * 3 + 2, none⟩ = some (.int .i64 X.C.ch[c].2.2)) := hid fun w' hb' => ⟨bkeep hb' c3 (Nat.le_refl _), bkeep hb' c14 (Nat.le_refl _), bkeep hb' g1 (Nat.le_refl _), bkeep hb' g2 (Nat.le_refl _), bkeep hb' t2 (Nat.le_refl _)⟩
  have hbz : Below w.heap.size w w.drew := (Below.refl _ _).drew
  have hbz2 : Below w.heap.size w (w.alloc (.cells #[.slice none 0 0, .int .i64 0] 83)).drew := (below_new _ _).drew
  have RZ : Hid (RowAt (w.alloc (.cells #[.slice none 0 0, .int .i64 0] 83)).drew w.heap.size 83 [.slice none 0 0, .int .i64 0]) := hid (rowAt_new2 w w.heap.size [.slice none 0 0, .int .i64 0] 83 rfl)
  clear h hI t0 t1
  go_enter Tryz.func75, Tryz.ntmps75
  go_upto_region 1 with fail
  go_cut [5, 6] (fun t u wx => ∃ Br v, t = .pointer (some ⟨Br, 0, none⟩) ∧ u = .int .i64 rx ∧ Below w.heap.size w wx ∧ RowAt wx Br 83 [v, .int .i64 rL] ∧ wx.ownsRow w.heap.size 3 1 v rv.length (ivs rv) ∧ w.heap.size ≤ Br)
  case first =>
    go_region_held3 (fun w' => w'.cell? ⟨X.rb, 3, none⟩ = some (.slice (some ⟨M.gI, 0, none⟩) D.ins.length M.A.cI) ∧ w'.cell? ⟨X.rb, 14, none⟩ = some (.slice (some ⟨b, o, none⟩) X.C.ch.length X.B.c7) ∧ w'.cell? ⟨M.gI, c * 2, none⟩ = some (.slice a D.ins[c].1.length cp) ∧ w'.cell? ⟨M.gI, c * 2 + 1, none⟩ = some (.int .i64 D.ins[c].2) ∧ w'.cell? ⟨b, o + c * 3 + 2, none⟩ = some (.int .i64 X.C.ch[c].2.2))
      (first | with_reducible exact HS.out _ hB2 | with_reducible exact HS.out _ (hB2a _) | with_reducible exact HS.out _ (hB2c _ _) | with_reducible exact HS.out _ hbz | with_reducible exact HS.out _ hbz2 | go_keep)
      (first
        | (go_at_call 94; with_reducible refine Calls.mono (CX.out _ hbz) ?_; rintro e w2 ⟨v, rfl, ho2, hb2⟩; obtain ⟨va, vc, rfl, _⟩ := owns_cells ho2; have hB2 := btrans hbz hb2; have HO2 := hid ho2; have hB2a : ∀ o, Below w.heap.size w (w2.alloc o) := fun o => btrans hB2 (below_new _ o))
        | (go_at_call 94; with_reducible refine Calls.mono (CX.out _ hbz2) ?_; rintro e w2 ⟨v, rfl, ho2, hb2⟩; obtain ⟨va, vc, rfl, _⟩ := owns_cells ho2; have hB2 := btrans hbz2 hb2; have HO2 := hid ho2; have HZ := hid (RZ.out.below hb2 (Nat.le_refl _)); have u0 := HZ.out.cell 0 _ rfl; have u1 := HZ.out.cell 1 _ rfl; have f0 := HZ.out.frozen 0; have f1 := HZ.out.frozen 1; have hB2c : ∀ v0 v1, Below w.heap.size w ((w2.setCell ⟨w.heap.size, 0, none⟩ v0).setCell ⟨w.heap.size, 1, none⟩ v1) := fun v0 v1 => (hB2.setCell (p := ⟨w.heap.size, 0, none⟩) (Nat.le_refl _) _).setCell (p := ⟨w.heap.size, 1, none⟩) (Nat.le_refl _) _))
    all_goals
      go_wp2
      go_meet
      case rel =>
        first
          | (have hM := hB2a; exact ⟨w2.heap.size, .slice va rv.length vc, rfl, rfl, btrans hB2 (below_new _ _), rowAt_new2 w2 _ [.slice va rv.length vc, .int .i64 rL] 83 rfl, owns_below HO2.out (below_new _ _), hB2.size⟩)
          | (have hM := hB2c; exact ⟨w.heap.size, .slice va rv.length vc, rfl, rfl, hM _ _, rowAt_set1 (rowAt_set1 HZ.out 0 _) 1 _, owns_base (owns_agree HO2.out (fun x hx => (heap_set_ne _ _ _ _ x (owns_ne HO2.out HZ.out (by decide) x hx)).trans (heap_set_ne _ _ _ _ x (owns_ne HO2.out HZ.out (by decide) x hx)))) (by simp), Nat.le_refl _⟩)
  case rest =>
    obtain ⟨Br, v, rfl, rfl, hbx, hRx, hOx, hge⟩ := hcut
    have HX := hid (HH.out.below hbx)
    have HOX := hid hOx
    obtain ⟨va, vc, rfl, _⟩ := owns_cells hOx
    have x3 := HX.out.row.cell 3 _ rfl
    have HaI := HX.out.aI
    rw [HaI] at x3
    have y0 := hRx.cell 0 _ rfl
    have y1 := hRx.cell 1 _ rfl
    have ri := HX.out.px.inr
    dsimp only at ri
    have i0 := ri.cell (c * 2) _ (inC_at M.V D.ins c hc).1
    have i1 := ri.cell (c * 2 + 1) _ (inC_at M.V D.ins c hc).2
    have k0 := ri.frozen (c * 2)
    have k1 := ri.frozen (c * 2 + 1)
    have HB := hid hbx
    have HE : Hid (RO X ((wc.setCell ⟨M.gI, c * 2, none⟩ (.slice va rv.length vc)).setCell ⟨M.gI, c * 2 + 1, none⟩ (.int .i64 rL)) (vM M (2 * c + 2) (.slice va rv.length vc)) (recvD X.C D c) K now) := by
      have := HH.out.received c hc (v := .slice va rv.length vc) (r := (rv, rL)) hbx hOx
      unfold recvD
      rw [HR.out.1]
      exact hid this
    clear hOx HOX hbx hRx ri HS CX RZ hbz hbz2 HX
    go_wp2
    go_region
    all_goals
      go_wp2
      go_ret
      exact ⟨ret_int HR.out.2.symm, vM M _ _, rfl, HE.out.below (Below.refl _ _).drew⟩

end Go.Proofs.YtildebflnmbefaaGreat
