/- Walks: the check of a config. -/
import Derived.Test.YtaellaconpaejaaNe
set_option linter.unusedVariables false
namespace Go.Proofs.Ytaellaconpaejaa
open Go.RowKit

theorem step7_any (k : Nat) (hk : k < 7) (C : Conf) (A : Mem) (w : World) (hC : ConfIn w A C) (hno : ∀ j, j < k → ck7 C j = 0) :
    Calls Try.prog (80 + k) #[cv C A] w fun e w' => e = .returned (.int .i64 (ck7 C k)) ∧ Below w.heap.size w w' := by
  match k, hk with
  | 0, _ => exact checkNumbers_any C A w
  | 1, _ =>
    obtain ⟨h1, h2, h3, h4, _⟩ := num_ok (hno 0 (by omega))
    exact checkPad_any C A w h1 h2 h3 h4
  | 2, _ => exact checkCounts_any C A w hC
  | 3, _ =>
    obtain ⟨_, _, _, _, h1, h2, _⟩ := num_ok (hno 0 (by omega))
    exact checkSlots_any C A w hC h1 h2
  | 4, _ =>
    obtain ⟨_, _, _, _, h1, h2, _⟩ := num_ok (hno 0 (by omega))
    exact checkOwners_any C A w hC h1 h2
  | 5, _ =>
    obtain ⟨_, _, _, _, h1, h2, _⟩ := num_ok (hno 0 (by omega))
    exact checkChannels_any C A w hC h1 h2
  | 6, _ =>
    obtain ⟨_, _, _, _, h1, h2, _⟩ := num_ok (hno 0 (by omega))
    exact checkTasks_any C A w hC h1 h2

theorem tab7 (k : Nat) (hk : k < 7) : ([.func (.func 80) #[] #[], .func (.func 81) #[] #[], .func (.func 82) #[] #[], .func (.func 83) #[] #[], .func (.func 84) #[] #[], .func (.func 85) #[] #[], .func (.func 86) #[] #[]] : List Value)[k]? = some (.func (.func (80 + k)) #[] #[]) := by
  match k, hk with
  | 0, _ => rfl
  | 1, _ => rfl
  | 2, _ => rfl
  | 3, _ => rfl
  | 4, _ => rfl
  | 5, _ => rfl
  | 6, _ => rfl

set_option maxHeartbeats 2000000 in
theorem checkC_any (C : Conf) (A : Mem) (w : World) (hC : ConfIn w A C) :
    Calls Try.prog 28 #[cv C A] w fun e w' => e = .returned (.int .i64 (ckC C)) ∧ Below w.heap.size w w' := by
  have q1 := below_new w (.cells (cl C A) 46)
  have B1 := hid (boxC_new w C A)
  have hS := hid (hC.keep q1)
  clear hC
  dsimp only [cv, cl] at *
  go_enter Try.func28, Try.ntmps28
  go_wp2
  generalize hW1 : World.alloc w _ = W1 at *
  have q2 := below_new W1 (.cells #[.func (.func 80) #[] #[], .func (.func 81) #[] #[], .func (.func 82) #[] #[], .func (.func 83) #[] #[], .func (.func 84) #[] #[], .func (.func 85) #[] #[], .func (.func 86) #[] #[]] 52)
  have hsz : W1.heap.size = w.heap.size + 1 := by rw [← hW1]; simp
  have R1 := hid (rowAt_new2 W1 (w.heap.size + 1) [.func (.func 80) #[] #[], .func (.func 81) #[] #[], .func (.func 82) #[] #[], .func (.func 83) #[] #[], .func (.func 84) #[] #[], .func (.func 85) #[] #[], .func (.func 86) #[] #[]] 52 hsz)
  have B2 := hid (B1.out.keep q2)
  have hS2 := hid (hS.out.keep q2)
  have q3 := btrans q1 q2
  clear hW1 hS B1 q1 q2 hsz
  generalize hW2 : World.alloc W1 _ = W2 at *
  have R1' : RowAt W2 (w.heap.size + 1) 52 [.func (.func 80) #[] #[], .func (.func 81) #[] #[], .func (.func 82) #[] #[], .func (.func 83) #[] #[], .func (.func 84) #[] #[], .func (.func 85) #[] #[], .func (.func 86) #[] #[]] := R1.out
  have R2 := hid R1'
  clear R1 R1' hW2
  go_loopw [10] (fun i wr => ∃ k : Nat, k ≤ 7 ∧ i = .int .i64 k ∧ Below W2.heap.size W2 wr ∧ ∀ j, j < k → ck7 C j = 0) (fun i _ => 7 - (intOf i).toNat)
  case atStart => exact ⟨0, Nat.zero_le _, rfl, Below.refl _ _, by omega⟩
  case round =>
    obtain ⟨k, hk, rfl, hbl, hno⟩ := hrel
    have Hno := hid hno
    clear hno
    by_cases hlt : k < 7
    · have hc := (R2.out.below hbl (Nat.le_refl _)).cell k _ (tab7 k hlt)
      have hlt' : (k : Int) < 7 := by omega
      obtain ⟨g0, g1, g2, g3, g4, g5, g6, g7, g8⟩ := B2.out.keep hbl
      have hcs : k = 0 ∨ k = 1 ∨ k = 2 ∨ k = 3 ∨ k = 4 ∨ k = 5 ∨ k = 6 := by omega
      rcases hcs with rfl | rfl | rfl | rfl | rfl | rfl | rfl
      · simp only [Nat.reduceAdd] at hc
        go_wp2_with fail
        refine (step7_any 0 hlt C A _ (hS2.out.keep hbl) Hno.out).mono ?_
        rintro e w3 ⟨rfl, hb3⟩
        by_cases hx : ck7 C 0 = 0
        · have HX := hid hx
          rw [hx]
          clear hx
          go_wp2
          go_roundw
          case rel =>
            refine ⟨1, by omega, by go_num, btrans hbl hb3, fun j hj => ?_⟩
            by_cases e : j = 0
            · subst e; exact HX.out
            · exact Hno.out j (by omega)
          case measure => simp [intOf]
        · have HE := hid (fe_at 7 0 (ck7 C) hlt hx Hno.out)
          have hx' : (ck7 C 0 != 0) = true := by simp [hx]
          clear hx
          generalize ck7 C 0 = q at *
          go_wp2
          go_ret
          exact ⟨ret_int HE.out.symm, btrans q3 (btrans hbl hb3)⟩
      · simp only [Nat.reduceAdd] at hc
        go_wp2_with fail
        refine (step7_any 1 hlt C A _ (hS2.out.keep hbl) Hno.out).mono ?_
        rintro e w3 ⟨rfl, hb3⟩
        by_cases hx : ck7 C 1 = 0
        · have HX := hid hx
          rw [hx]
          clear hx
          go_wp2
          go_roundw
          case rel =>
            refine ⟨2, by omega, by go_num, btrans hbl hb3, fun j hj => ?_⟩
            by_cases e : j = 1
            · subst e; exact HX.out
            · exact Hno.out j (by omega)
          case measure => simp [intOf]
        · have HE := hid (fe_at 7 1 (ck7 C) hlt hx Hno.out)
          have hx' : (ck7 C 1 != 0) = true := by simp [hx]
          clear hx
          generalize ck7 C 1 = q at *
          go_wp2
          go_ret
          exact ⟨ret_int HE.out.symm, btrans q3 (btrans hbl hb3)⟩
      · simp only [Nat.reduceAdd] at hc
        go_wp2_with fail
        refine (step7_any 2 hlt C A _ (hS2.out.keep hbl) Hno.out).mono ?_
        rintro e w3 ⟨rfl, hb3⟩
        by_cases hx : ck7 C 2 = 0
        · have HX := hid hx
          rw [hx]
          clear hx
          go_wp2
          go_roundw
          case rel =>
            refine ⟨3, by omega, by go_num, btrans hbl hb3, fun j hj => ?_⟩
            by_cases e : j = 2
            · subst e; exact HX.out
            · exact Hno.out j (by omega)
          case measure => simp [intOf]
        · have HE := hid (fe_at 7 2 (ck7 C) hlt hx Hno.out)
          have hx' : (ck7 C 2 != 0) = true := by simp [hx]
          clear hx
          generalize ck7 C 2 = q at *
          go_wp2
          go_ret
          exact ⟨ret_int HE.out.symm, btrans q3 (btrans hbl hb3)⟩
      · simp only [Nat.reduceAdd] at hc
        go_wp2_with fail
        refine (step7_any 3 hlt C A _ (hS2.out.keep hbl) Hno.out).mono ?_
        rintro e w3 ⟨rfl, hb3⟩
        by_cases hx : ck7 C 3 = 0
        · have HX := hid hx
          rw [hx]
          clear hx
          go_wp2
          go_roundw
          case rel =>
            refine ⟨4, by omega, by go_num, btrans hbl hb3, fun j hj => ?_⟩
            by_cases e : j = 3
            · subst e; exact HX.out
            · exact Hno.out j (by omega)
          case measure => simp [intOf]
        · have HE := hid (fe_at 7 3 (ck7 C) hlt hx Hno.out)
          have hx' : (ck7 C 3 != 0) = true := by simp [hx]
          clear hx
          generalize ck7 C 3 = q at *
          go_wp2
          go_ret
          exact ⟨ret_int HE.out.symm, btrans q3 (btrans hbl hb3)⟩
      · simp only [Nat.reduceAdd] at hc
        go_wp2_with fail
        refine (step7_any 4 hlt C A _ (hS2.out.keep hbl) Hno.out).mono ?_
        rintro e w3 ⟨rfl, hb3⟩
        by_cases hx : ck7 C 4 = 0
        · have HX := hid hx
          rw [hx]
          clear hx
          go_wp2
          go_roundw
          case rel =>
            refine ⟨5, by omega, by go_num, btrans hbl hb3, fun j hj => ?_⟩
            by_cases e : j = 4
            · subst e; exact HX.out
            · exact Hno.out j (by omega)
          case measure => simp [intOf]
        · have HE := hid (fe_at 7 4 (ck7 C) hlt hx Hno.out)
          have hx' : (ck7 C 4 != 0) = true := by simp [hx]
          clear hx
          generalize ck7 C 4 = q at *
          go_wp2
          go_ret
          exact ⟨ret_int HE.out.symm, btrans q3 (btrans hbl hb3)⟩
      · simp only [Nat.reduceAdd] at hc
        go_wp2_with fail
        refine (step7_any 5 hlt C A _ (hS2.out.keep hbl) Hno.out).mono ?_
        rintro e w3 ⟨rfl, hb3⟩
        by_cases hx : ck7 C 5 = 0
        · have HX := hid hx
          rw [hx]
          clear hx
          go_wp2
          go_roundw
          case rel =>
            refine ⟨6, by omega, by go_num, btrans hbl hb3, fun j hj => ?_⟩
            by_cases e : j = 5
            · subst e; exact HX.out
            · exact Hno.out j (by omega)
          case measure => simp [intOf]
        · have HE := hid (fe_at 7 5 (ck7 C) hlt hx Hno.out)
          have hx' : (ck7 C 5 != 0) = true := by simp [hx]
          clear hx
          generalize ck7 C 5 = q at *
          go_wp2
          go_ret
          exact ⟨ret_int HE.out.symm, btrans q3 (btrans hbl hb3)⟩
      · simp only [Nat.reduceAdd] at hc
        go_wp2_with fail
        refine (step7_any 6 hlt C A _ (hS2.out.keep hbl) Hno.out).mono ?_
        rintro e w3 ⟨rfl, hb3⟩
        by_cases hx : ck7 C 6 = 0
        · have HX := hid hx
          rw [hx]
          clear hx
          go_wp2
          go_roundw
          case rel =>
            refine ⟨7, by omega, by go_num, btrans hbl hb3, fun j hj => ?_⟩
            by_cases e : j = 6
            · subst e; exact HX.out
            · exact Hno.out j (by omega)
          case measure => simp [intOf]
        · have HE := hid (fe_at 7 6 (ck7 C) hlt hx Hno.out)
          have hx' : (ck7 C 6 != 0) = true := by simp [hx]
          clear hx
          generalize ck7 C 6 = q at *
          go_wp2
          go_ret
          exact ⟨ret_int HE.out.symm, btrans q3 (btrans hbl hb3)⟩
    · have hk7 : k = 7 := by omega
      subst hk7
      go_wp2
      go_ret
      exact ⟨ret_int (fe_zero _ _ (fun j hj => Hno.out j (by omega))).symm, btrans q3 hbl⟩

end Go.Proofs.Ytaellaconpaejaa
