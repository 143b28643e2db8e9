/- Walks: one step of a window. Walks: one step of a window. Walks: one step of a window. -/
import Derived.Test.YtildebflnmbefaaGreatKu
import Derived.Test.YtildebflnmbefaaGreatKv
import Derived.Test.YtildebflnmbefaaGreatKw
import Derived.Test.YtildebflnmbefaaGreatWr1J
import Derived.Test.YtildebflnmbefaaGreatWr2J
import Derived.Test.YtildebflnmbefaaGreatWr3J
set_option linter.unusedVariables false
namespace Go.Proofs.YtildebflnmbefaaGreat
open Go.RowKit

set_option maxRecDepth 100000 in
set_option maxHeartbeats 2000000 in
theorem step_idle (X : RC) (M : RM) (D : Dom) (K : KT) (now : Int) (w : World) (h : RO X w M D K now) (hz : ckD X.C X.dn (shownD D) = 0) (hp : pickI X.C D.jobs < 0) :
    Calls Tryz.prog 28 #[.pointer (some ⟨X.rb, 0, none⟩)] w fun e w' => e = .returned (.tuple #[]) ∧ RO X w' M D K (dueW X.C X.dn D X.to) := by
  have hrb : X.rb < w.heap.size := h.row.lt
  have HH := hid h
  have CP := hid (pickW_ok X M D K now w h hz)
  have CD : Hid (∀ wx, Below w.heap.size w wx → Calls Tryz.prog 43 #[.pointer (some ⟨X.rb, 0, none⟩), .int .i64 X.to] wx fun e w' => e = .returned (.int .i64 (dueW X.C X.dn D X.to)) ∧ Below wx.heap.size wx w') := hid fun wx hb => dueW_ok X M D K now wx (h.below hb) hz
  have HR : Hid (∀ wx, Below w.heap.size w wx → RowAt wx X.rb 64 (rl X M D K now)) := hid fun wx hb => (h.below hb).row
  clear h
  generalize pickI X.C D.jobs = p at *
  generalize dueW X.C X.dn D X.to = du at *
  go_enter Tryz.func28, Tryz.ntmps28
  go_wp2_with fail
  refine Calls.mono CP.out ?_
  rintro e w1 ⟨rfl, hb1⟩
  have hB : Below w.heap.size w w1.drew := hb1.drew
  have HS : Hid (∀ w', Below w.heap.size w w' → w'.cell? ⟨X.rb, 20, none⟩ = some (.int .i64 X.to)) := hid fun w' hb => (HR.out w' hb).cell 20 _ rfl
  clear hb1 CP
  go_wp2_with fail
  go_region_held3 (fun w' => w'.cell? ⟨X.rb, 20, none⟩ = some (.int .i64 X.to))
    (first | with_reducible exact HS.out _ hB | with_reducible exact HS.out _ hB2 | exact z20 _ | go_keep)
    (first
      | (go_at_call 43; with_reducible refine Calls.mono (CD.out _ hB) ?_; rintro e w2 ⟨rfl, hb2⟩; have hB2 := btrans hB hb2; have R2 := HR.out _ hB2; have y19 := R2.cell 19 _ rfl; have g19 := R2.frozen 19; have z20 : ∀ u, (w2.setCell ⟨X.rb, 19, none⟩ u).cell? ⟨X.rb, 20, none⟩ = some (.int .i64 X.to) := fun u => (rowAt_set1 R2 19 u).cell 20 _ rfl; clear R2 hb2))
  all_goals
    have HE := hid ((HH.out.below hB2).setNow du)
    clear hB hB2 HS CD HR
    go_wp2
    exact bodyPost_ret (v := .tuple #[]) (by simp [results, Tryz.results28, go_sem]) rfl ⟨rfl, HE.out⟩

set_option maxRecDepth 100000 in
set_option maxHeartbeats 2000000 in
theorem step_done (X : RC) (M : RM) (D : Dom) (K : KT) (now : Int) (w : World) (h : RO X w M D K now) (hz : ckD X.C X.dn (shownD D) = 0) (hp : 0 ≤ pickI X.C D.jobs) (hx : (X.L.length : Int) ≤ D.nxt) :
    Calls Tryz.prog 28 #[.pointer (some ⟨X.rb, 0, none⟩)] w fun e w' => e = .returned (.tuple #[]) ∧ RO X w' M D K X.to := by
  have hrb : X.rb < w.heap.size := h.row.lt
  have hlL := h.lL
  have HH := hid h
  have CP := hid (pickW_ok X M D K now w h hz)
  have HR : Hid (∀ wx, Below w.heap.size w wx → RowAt wx X.rb 64 (rl X M D K now)) := hid fun wx hb => (h.below hb).row
  have hp' : ¬ pickI X.C D.jobs < 0 := by omega
  clear h
  generalize pickI X.C D.jobs = p at *
  go_enter Tryz.func28, Tryz.ntmps28
  go_wp2_with fail
  refine Calls.mono CP.out ?_
  rintro e w1 ⟨rfl, hb1⟩
  have HB1 := hid hb1
  have R1 := HR.out _ hb1
  have x2 := R1.cell 2 _ rfl
  have x18 := R1.cell 18 _ rfl
  have x19 := R1.cell 19 _ rfl
  have x20 := R1.cell 20 _ rfl
  have g19 := R1.frozen 19
  have HE := hid ((HH.out.below hb1).setNow X.to)
  clear hb1 CP R1 HR
  go_wp2_with fail
  go_quiet (fail)
  go_wp2
  exact bodyPost_ret (v := .tuple #[]) (by simp [results, Tryz.results28, go_sem]) rfl ⟨rfl, (HH.out.below (below_drewN HB1.out _)).setNow X.to⟩

end Go.Proofs.YtildebflnmbefaaGreat

namespace Go.Proofs.YtildebflnmbefaaGreat
open Go.RowKit

set_option maxRecDepth 100000 in
set_option maxHeartbeats 2000000 in
theorem step_late (X : RC) (M : RM) (D : Dom) (K : KT) (now : Int) (m : Nat) (w : World) (h : RO X w M D K now) (hz : ckD X.C X.dn (shownD D) = 0) (hp : 0 ≤ pickI X.C D.jobs) (hm : D.nxt = (m : Int)) (hx : m < X.L.length) (hn : 0 ≤ now ∧ now ≤ 100000) (hto : 0 ≤ X.to ∧ X.to ≤ 100000) (hw : X.to - now < wstA X.L[m]) :
    Calls Tryz.prog 28 #[.pointer (some ⟨X.rb, 0, none⟩)] w fun e w' => e = .returned (.tuple #[]) ∧ RO X w' M D K X.to := by
  have hrb : X.rb < w.heap.size := h.row.lt
  have hlL := h.lL
  have HH := hid h
  have CP := hid (pickW_ok X M D K now w h hz)
  have HR : Hid (∀ wx, Below w.heap.size w wx → RowAt wx X.rb 64 (rl X M D K now)) := hid fun wx hb => (h.below hb).row
  have hp' : ¬ pickI X.C D.jobs < 0 := by omega
  obtain ⟨bA, oA, eA, t0, t1, t2⟩ := h.acts m hx
  have hbA : bA < w.heap.size := World.block_lt_of_cell? _ _ t0
  have hxI : (m : Int) < (X.L.length : Int) := by omega
  have hxI' : ¬ (X.L.length : Int) ≤ (m : Int) := by omega
  generalize hA : X.L[m] = a0 at *
  obtain ⟨ak, an, av'⟩ := a0
  dsimp only at *
  have HAm := hid hA
  have HM := hid hm
  clear h hA
  generalize hpk : pickI X.C D.jobs = p at *
  have HPK := hid hpk
  clear hpk
  go_enter Tryz.func28, Tryz.ntmps28
  go_wp2_with fail
  refine Calls.mono CP.out ?_
  rintro e w1 ⟨rfl, hb1⟩
  have HB1 := hid hb1
  have R1 := HR.out _ hb1
  have x2 := R1.cell 2 _ rfl
  rw [hm] at x2
  have x18 := R1.cell 18 _ rfl
  rw [eA] at x18
  have s0 := bkeep hb1 t0 (Nat.le_refl _)
  have s1 := bkeep hb1 t1 (Nat.le_refl _)
  have s2 := bkeep hb1 t2 (Nat.le_refl _)
  clear hb1 CP R1 t0 t1 t2 hm
  go_wp2_with fail
  go_quiet (fail)
  go_upto_region 5 with fail
  generalize hW : World.drewN w1 _ = W at *
  have HBW : Hid (Below w.heap.size w W) := by rw [← hW]; exact hid (below_drewN HB1.out _)
  have X2 : W.cell? ⟨X.rb, 2, none⟩ = some (.int .i64 (m : Int)) := by rw [← hW]; exact x2
  have X18 : W.cell? ⟨X.rb, 18, none⟩ = some (.slice (some ⟨bA, oA, none⟩) X.L.length X.cL) := by rw [← hW]; exact x18
  have S0 : W.cell? ⟨bA, oA + m * 3, none⟩ = some (.int .i64 ak) := by rw [← hW]; exact s0
  have S1 : W.cell? ⟨bA, oA + m * 3 + 1, none⟩ = some (.int .i64 an) := by rw [← hW]; exact s1
  have S2 : W.cell? ⟨bA, oA + m * 3 + 2, none⟩ = some (.int .i64 av') := by rw [← hW]; exact s2
  have hrbW : X.rb < W.heap.size := Nat.lt_of_lt_of_le hrb HBW.out.size
  have hbAW : bA < W.heap.size := Nat.lt_of_lt_of_le hbA HBW.out.size
  clear hW x2 x18 s0 s1 s2 HB1
  go_cut [3] (fun q wx => ∃ b, q = .pointer (some ⟨b, 0, none⟩) ∧ RO (X.more b (.cells #[.int .i64 ak, .int .i64 an, .int .i64 av'] 53)) wx M D K now)
  case first =>
    go_region
    all_goals
      go_wp2
      go_meet
      case rel => exact ⟨_, rfl, ((HH.out.below HBW.out).push _).below (Below.refl _ _).drew⟩
  case rest =>
    obtain ⟨b, rfl, hX1⟩ := hcut
    have HX1 := hid hX1
    clear hX1 X2 X18 S0 S1 S2
    have HS : Hid (∀ w', Below wc.heap.size wc w' → w'.cell? ⟨b, 0, none⟩ = some (.int .i64 ak) ∧ w'.cell? ⟨b, 1, none⟩ = some (.int .i64 an) ∧ w'.cell? ⟨b, 2, none⟩ = some (.int .i64 av') ∧ w'.cell? ⟨X.rb, 19, none⟩ = some (.int .i64 now) ∧ w'.cell? ⟨X.rb, 20, none⟩ = some (.int .i64 X.to)) := hid fun w' hb => ⟨bkeep hb (HX1.out.topRow.cell 0 _ rfl) (Nat.le_refl _), bkeep hb (HX1.out.topRow.cell 1 _ rfl) (Nat.le_refl _), bkeep hb (HX1.out.topRow.cell 2 _ rfl) (Nat.le_refl _), bkeep hb (HX1.out.row.cell 19 _ rfl) (Nat.le_refl _), bkeep hb (HX1.out.row.cell 20 _ rfl) (Nat.le_refl _)⟩
    have hB : Below wc.heap.size wc wc.drew := (Below.refl _ _).drew
    have CW : Hid (∀ wx, Calls Tryz.prog 21 #[.agg #[.int .i64 ak, .int .i64 an, .int .i64 av']] wx fun e w' => e = .returned (.int .i64 (wstA (ak, an, av'))) ∧ Below wx.heap.size wx w') := hid fun wx => worst_any (ak, an, av') wx
    have wr1 : IntKind.i64.wrap (X.to - now) = X.to - now := by rw [IntKind.wrap_i64]; omega
    generalize hws : wstA (ak, an, av') = ws at *
    clear hws
    go_wp2_with fail
    go_region_held3 (fun w' => w'.cell? ⟨b, 0, none⟩ = some (.int .i64 ak) ∧ w'.cell? ⟨b, 1, none⟩ = some (.int .i64 an) ∧ w'.cell? ⟨b, 2, none⟩ = some (.int .i64 av') ∧ w'.cell? ⟨X.rb, 19, none⟩ = some (.int .i64 now) ∧ w'.cell? ⟨X.rb, 20, none⟩ = some (.int .i64 X.to))
      (first | with_reducible exact HS.out _ hB | with_reducible exact HS.out _ hB2 | go_keep)
      (first
        | (go_at_call 21; with_reducible refine Calls.mono (CW.out _) ?_; rintro e w2 ⟨rfl, hb2⟩; have hB2 := btrans hB hb2; clear hb2))
    all_goals
      have H2 := hid (HX1.out.below hB2)
      have y := HS.out _ hB2
      have y0 := y.1
      have y1 := y.2.1
      have y2 := y.2.2.1
      have y19 := y.2.2.2.1
      have y20 := y.2.2.2.2
      have g19 := H2.out.row.frozen 19
      clear y hB hB2 HS CW wr1
      have HE := hid ((H2.out.setNow X.to).pop)
      go_wp2
      exact bodyPost_ret (v := .tuple #[]) (by simp [results, Tryz.results28, go_sem]) rfl ⟨rfl, HE.out⟩

end Go.Proofs.YtildebflnmbefaaGreat

namespace Go.Proofs.YtildebflnmbefaaGreat
open Go.RowKit

theorem actW_ok (X : RC) (M : RM) (D : Dom) (K : KT) (now : Int) (a : ActT) (cost : Int) (w : World) (h : RO X w M D K now) (hA : ckA a = 0) (hl : D.evs.length ≤ 1000000000000) (hI : D.ins.length = X.C.ch.length) (hO : D.out.length = X.C.ch.length) (hT : D.tak.length = X.C.ow.length) (hout : ∀ l ∈ D.out, l.length ≤ 1000000000) (hq : 1 ≤ X.C.q ∧ X.C.q ≤ 100) (hn : 0 ≤ now ∧ now ≤ 1000000) :
    Calls Tryz.prog 46 #[.pointer (some ⟨X.rb, 0, none⟩), av a, .int .i64 cost] w fun e w' => e = .returned (.tuple #[]) ∧ ∃ M', RO X w' M' (actD X.C X.dn D now a cost) K now := by
  obtain ⟨k, n, v⟩ := a
  obtain ⟨h1, h2, h3, _, _⟩ := ckA_ok hA
  dsimp only at h1 h2 h3
  obtain ⟨m, rfl⟩ : ∃ m : Nat, n = (m : Int) := ⟨n.toNat, by omega⟩
  cases hm : mayA X.C X.dn (k, (m : Int), v) with
  | false =>
    have e : actD X.C X.dn D now (k, (m : Int), v) cost = tellE D (now, 12, D.nxt, 0) := by unfold actD; rw [if_pos hm]
    rw [e]
    exact act_no X M D K now k m v cost w h hl hm
  | true =>
    have hm' : ¬ mayA X.C X.dn (k, (m : Int), v) = false := by rw [hm]; decide
    have hk : k = 1 ∨ k = 2 ∨ k = 3 ∨ k = 4 ∨ k = 5 ∨ k = 6 ∨ k = 7 ∨ k = 8 := by omega
    rcases hk with rfl | rfl | rfl | rfl | rfl | rfl | rfl | rfl
    · have e : actD X.C X.dn D now (1, (m : Int), v) cost = tellE D (now, 11, cost, 0) := by unfold actD; rw [if_neg hm']; rfl
      rw [e]; exact act_1 X M D K now m v cost w h hl hm
    · have e : actD X.C X.dn D now (2, (m : Int), v) cost = tellE D (now, 11, cost, 0) := by unfold actD; rw [if_neg hm']; rfl
      rw [e]; exact act_2 X M D K now m v cost w h hl hm
    · have e : actD X.C X.dn D now (3, (m : Int), v) cost = tellE D (now, 11, cost, 0) := by unfold actD; rw [if_neg hm']; rfl
      rw [e]; exact act_3 X M D K now m v cost w h hl hm
    · have e : actD X.C X.dn D now (4, (m : Int), v) cost = tellE (sendD D m v) (now, 9, (m : Int), 0) := by unfold actD; rw [if_neg hm']; simp
      rw [e]; exact act_4 X M D K now m v cost w h hl hm hO hout
    · have e : actD X.C X.dn D now (5, (m : Int), v) cost = tellE (recvD X.C D m) (now, 8, (m : Int), recvZ X.C D m) := by unfold actD; rw [if_neg hm']; simp
      rw [e]; exact act_5 X M D K now m v cost w h hl hm hI
    · have e : actD X.C X.dn D now (6, (m : Int), v) cost = tellE D (now, 7, now - now.tmod X.C.q, 0) := by unfold actD; rw [if_neg hm']; simp
      rw [e]; exact act_6 X M D K now m v cost w h hl hm hq hn
    · have e : actD X.C X.dn D now (7, (m : Int), v) cost = tellE (takeD D m) (now, 10, (m : Int), D.tak.getD m 0) := by unfold actD; rw [if_neg hm']; simp
      rw [e]; exact act_7 X M D K now m v cost w h hl hm hT
    · have e : actD X.C X.dn D now (8, (m : Int), v) cost = D := by unfold actD; rw [if_neg hm']; simp
      rw [e]; exact act_8 X M D K now m v cost w h hl hm

end Go.Proofs.YtildebflnmbefaaGreat
