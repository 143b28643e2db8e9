/- Walks: a step, and all of a window's steps. -/
import Derived.Test.YtildebflnmbefaaGreatWqJ
import Derived.Test.YtildebflnmbefaaGreatKy
import Derived.Test.YtildebflnmbefaaGreatWs4J
import Derived.Deep.LoopGhost
set_option linter.unusedVariables false
namespace Go.Proofs.YtildebflnmbefaaGreat
open Go.RowKit

theorem stepW_ok (X : RC) (M : RM) (D : Dom) (K : KT) (now : Int) (w : World) (h : RO X w M D K now) (hz : ckD X.C X.dn (shownD D) = 0) (hK : ck K = 0) (hAs : ∀ a ∈ X.L, ckA a = 0) (hn : 0 ≤ now ∧ now ≤ 100000) (hto : 0 ≤ X.to ∧ X.to ≤ 100000) (hl : D.evs.length ≤ 100000000000) (hout : ∀ l ∈ D.out, l.length ≤ 100000000) :
    Calls Tryz.prog 28 #[.pointer (some ⟨X.rb, 0, none⟩)] w fun e w' => e = .returned (.tuple #[]) ∧ ∃ M', RO X w' M' (stD X.C X.dn X.L X.to D K now) (stK X.C X.L X.to D K now) (stN X.C X.dn X.L X.to D K now) := by
  have hnx := (ckNums_iff.1 (ckD_iff.1 hz).2.2.1).2.1
  simp only [shownD, inR, Bool.and_eq_true] at hnx
  have hnx0 : 0 ≤ D.nxt := of_decide_eq_true hnx.1
  obtain ⟨m, hm⟩ : ∃ m : Nat, D.nxt = (m : Int) := ⟨D.nxt.toNat, by omega⟩
  by_cases hp : pickI X.C D.jobs < 0
  · have hd : does X.C X.L X.to D now = false := by unfold does; simp; intro h'; omega
    unfold stD stK stN
    simp only [hd, Bool.false_eq_true, if_false, if_pos hp]
    exact (step_idle X M D K now w h hz hp).mono fun e w' ⟨h1, h2⟩ => ⟨h1, M, h2⟩
  · have hp' : 0 ≤ pickI X.C D.jobs := by omega
    by_cases hx : (X.L.length : Int) ≤ D.nxt
    · have hd : does X.C X.L X.to D now = false := by unfold does; simp; intro _ h'; omega
      unfold stD stK stN
      simp only [hd, Bool.false_eq_true, if_false, if_neg hp]
      exact (step_done X M D K now w h hz hp' hx).mono fun e w' ⟨h1, h2⟩ => ⟨h1, M, h2⟩
    · have hml : m < X.L.length := by omega
      have ha : aAt X.L D = X.L[m] := by unfold aAt; rw [hm]; simp [hml]
      by_cases hw : X.to - now < wstA X.L[m]
      · have hd : does X.C X.L X.to D now = false := by unfold does; rw [ha]; simp; intro _ _; omega
        unfold stD stK stN
        simp only [hd, Bool.false_eq_true, if_false, if_neg hp]
        exact (step_late X M D K now m w h hz hp' hm hml hn hto hw).mono fun e w' ⟨h1, h2⟩ => ⟨h1, M, h2⟩
      · have hd : does X.C X.L X.to D now = true := by
          unfold does
          rw [ha]
          simp only [Bool.and_eq_true, decide_eq_true_eq]
          omega
        obtain ⟨k, hk, hpk⟩ : ∃ k : Nat, k < D.jobs.length ∧ pickI X.C D.jobs = (k : Int) := by
          rcases pickI_spec X.C D.jobs with ⟨_, h'⟩ | ⟨k, h1, h2, _⟩
          · omega
          · exact ⟨k, h1, h2⟩
        unfold stD stK stN
        simp only [hd, if_true]
        rw [ha, hpk, Int.toNat_natCast]
        exact step_act X M D K now m w h hz hp' hm hml hn hto k hpk hk hK (hAs _ (List.getElem_mem hml)) (by omega) hl hout

/-- All steps of a window. -/
def runD (C : Conf) (dn : Int) (L : List ActT) (te : Int) : Nat → Dom → KT → Int → Dom × KT
  | 0, D, K, _ => (relW C dn te D, K)
  | n + 1, D, K, now => if now < te then runD C dn L te n (stD C dn L te (relW C dn now D) K now) (stK C L te (relW C dn now D) K now) (stN C dn L te (relW C dn now D) K now) else (relW C dn te D, K)
theorem runD_end (C : Conf) (dn : Int) (L : List ActT) (te : Int) (n : Nat) (D : Dom) (K : KT) (now : Int) (h : ¬ now < te) : runD C dn L te n D K now = (relW C dn te D, K) := by
  cases n with
  | zero => rfl
  | succ n => unfold runD; rw [if_neg h]

set_option maxRecDepth 100000 in
set_option maxHeartbeats 2000000 in
theorem runW_ok (X : RC) (M : RM) (D D0 : Dom) (K : KT) (fr : Int) (w : World) (h : RO X w M D K fr) (hS : SI X.C X.dn D0 fr X.to 0 D K fr) (hAs : ∀ a ∈ X.L, ckA a = 0) (hL : X.L.length ≤ 60) (hfr : 0 ≤ fr) (hto : X.to ≤ 100000) (hD0 : D0.evs.length ≤ 10000000000) :
    Calls Tryz.prog 14 #[.pointer (some ⟨X.rb, 0, none⟩)] w fun e w' => e = .returned (.tuple #[]) ∧ ∃ M', RO X w' M' (runD X.C X.dn X.L X.to (X.to - fr).toNat D K fr).1 (runD X.C X.dn X.L X.to (X.to - fr).toNat D K fr).2 X.to ∧ SI X.C X.dn D0 fr X.to 40 (runD X.C X.dn X.L X.to (X.to - fr).toNat D K fr).1 (runD X.C X.dn X.L X.to (X.to - fr).toNat D K fr).2 X.to := by
  have hlo0 : fr ≤ X.to := hS.win.hi
  have HH := hid h
  have HSS := hid hS
  have HAs := hid hAs
  clear h hS hAs
  generalize hN : (X.to - fr).toNat = N at *
  generalize hR : runD X.C X.dn X.L X.to N D K fr = R at *
  have HN := hid hN
  have HR := hid hR
  clear hN hR
  go_enter Tryz.func14, Tryz.ntmps14
  go_wp2
  go_loopg [] N (fun gk wr => ∃ M' D' K' now', RO X wr M' D' K' now' ∧ SI X.C X.dn D0 fr X.to 0 D' K' now' ∧ (X.to - now').toNat ≤ gk ∧ runD X.C X.dn X.L X.to gk D' K' now' = R)
  case atStart => exact ⟨M, D, K, fr, HH.out, HSS.out, by rw [HN.out]; exact Nat.le_refl _, HR.out⟩
  case round =>
    obtain ⟨M1, D1, K1, n1, h1, hS1, hg1, hR1⟩ := hrel
    have hlo := hS1.win.lo
    have hhi := hS1.win.hi
    have hev := hS1.ev
    have hrb : X.rb < wr.heap.size := h1.row.lt
    have x19 := h1.row.cell 19 _ rfl
    have x20 := h1.row.cell 20 _ rfl
    have H1 := hid h1
    have HS1 := hid hS1
    have hnx := hS1.nx
    have hout : ∀ l ∈ D1.out, l.length ≤ 100000000 := fun l hl => by have := hS1.out l hl; omega
    have HZ := hid hS1.win.ck
    have HR1 := hid hR1
    have HOut := hid hout
    have CR : Hid (∀ t wx, 0 ≤ t → t ≤ 100000 → Below wr.heap.size wr wx → Calls Tryz.prog 27 #[.pointer (some ⟨X.rb, 0, none⟩), .int .i64 t] wx fun e w' => e = .returned (.tuple #[]) ∧ ∃ M', RO X w' M' (relW X.C X.dn t D1) K1 n1) := hid fun t wx h0 h9 hb => releaseW_ok X M1 D1 K1 n1 t wx (H1.out.below hb) HZ.out (by simp [inR, h0, h9]) (by omega)
    clear h1 hS1 hR1 hout
    by_cases hlt : n1 < X.to
    · have hin : inR n1 0 100000 = true := by simp [inR]; omega
      have SR := HS1.out.release hin (by omega)
      have hevR := SR.ev
      have CS : Hid (∀ M' wx, RO X wx M' (relW X.C X.dn n1 D1) K1 n1 → Calls Tryz.prog 28 #[.pointer (some ⟨X.rb, 0, none⟩)] wx fun e w' => e = .returned (.tuple #[]) ∧ ∃ M', RO X w' M' (stD X.C X.dn X.L X.to (relW X.C X.dn n1 D1) K1 n1) (stK X.C X.L X.to (relW X.C X.dn n1 D1) K1 n1) (stN X.C X.dn X.L X.to (relW X.C X.dn n1 D1) K1 n1)) := hid fun M' wx hx => stepW_ok X M' _ K1 n1 wx hx SR.win.ck SR.ck HAs.out (by omega) (by omega) (by omega) HOut.out
      have HST := hid (SI.step (L := X.L) SR HZ.out hfr hlt hto hL HAs.out)
      obtain ⟨g, hg⟩ : ∃ g, gk = g + 1 := ⟨gk - 1, by omega⟩
      have HG := hid hg
      have HRn : Hid (runD X.C X.dn X.L X.to g (stD X.C X.dn X.L X.to (relW X.C X.dn n1 D1) K1 n1) (stK X.C X.L X.to (relW X.C X.dn n1 D1) K1 n1) (stN X.C X.dn X.L X.to (relW X.C X.dn n1 D1) K1 n1) = R) := by
        have := HR1.out
        rw [hg] at this
        unfold runD at this
        rw [if_pos hlt] at this
        exact hid this
      have hg1' : (X.to - n1).toNat ≤ g + 1 := by omega
      have CR2 : Hid (∀ wx, Below wr.heap.size wr wx → Calls Tryz.prog 27 #[.pointer (some ⟨X.rb, 0, none⟩), .int .i64 n1] wx fun e w' => e = .returned (.tuple #[]) ∧ ∃ M', RO X w' M' (relW X.C X.dn n1 D1) K1 n1) := hid fun wx hb => CR.out n1 wx (by omega) (by omega) hb
      clear SR hevR hg hg1 CR
      generalize relW X.C X.dn n1 D1 = DR at *
      generalize stD X.C X.dn X.L X.to DR K1 n1 = D2 at *
      generalize stK X.C X.L X.to DR K1 n1 = K2 at *
      generalize stN X.C X.dn X.L X.to DR K1 n1 = n2 at *
      go_wp2_with fail
      go_quiet (fail)
      go_upto_region 1 with fail
      generalize hW : World.drewN wr _ = W at *
      have HBW : Hid (Below wr.heap.size wr W) := by rw [← hW]; exact hid (below_drewN (Below.refl _ _) _)
      clear hW
      have hB : Below wr.heap.size wr W.drew := HBW.out.drew
      have z19 : W.cell? ⟨X.rb, 19, none⟩ = some (.int .i64 n1) := bkeep HBW.out x19 (Nat.le_refl _)
      clear x19 x20
      go_region_held3 (fun w' => w'.cell? ⟨X.rb, 19, none⟩ = some (.int .i64 n1))
        (first | exact z19 | exact y19 | go_keep)
        (first
          | (go_at_call 27; with_reducible refine Calls.mono (CR2.out _ hB) ?_; rintro e w2 ⟨rfl, M2, h2⟩; have y19 := h2.row.cell 19 _ rfl; have H2 := hid h2; clear h2))
      all_goals
        clear z19 hB CR2
        go_wp2_with fail
        refine Calls.mono (CS.out _ _ H2.out) ?_
        rintro e w3 ⟨rfl, M3, h3⟩
        have H3 := hid h3
        clear h3 CS
        go_wp2
        go_roundg g
        case measure => have := HG.out; omega
        case rel => exact ⟨M3, D2, K2, n2, H3.out, HST.out.1, by have := HST.out.2; omega, HRn.out⟩
    · have he : n1 = X.to := by omega
      subst he
      have hin : inR X.to 0 100000 = true := by simp [inR]; omega
      have HSR := hid (HS1.out.release hin (Int.le_refl _))
      have CR2 : Hid (∀ wx, Below wr.heap.size wr wx → Calls Tryz.prog 27 #[.pointer (some ⟨X.rb, 0, none⟩), .int .i64 X.to] wx fun e w' => e = .returned (.tuple #[]) ∧ ∃ M', RO X w' M' (relW X.C X.dn X.to D1) K1 X.to) := hid fun wx hb => CR.out X.to wx (by omega) (by omega) hb
      have HRe : Hid (R = (relW X.C X.dn X.to D1, K1)) := hid (by rw [← HR1.out, runD_end _ _ _ _ _ _ _ _ hlt])
      clear CR
      go_wp2_with fail
      go_quiet (fail)
      go_upto_region 3 with fail
      generalize hW : World.drewN wr _ = W at *
      have HBW : Hid (Below wr.heap.size wr W) := by rw [← hW]; exact hid (below_drewN (Below.refl _ _) _)
      clear hW
      have hB : Below wr.heap.size wr W.drew := HBW.out.drew
      have z20 : W.cell? ⟨X.rb, 20, none⟩ = some (.int .i64 X.to) := bkeep HBW.out x20 (Nat.le_refl _)
      clear x19 x20
      go_region_held3 (fun w' => w'.cell? ⟨X.rb, 20, none⟩ = some (.int .i64 X.to))
        (first | exact z20 | exact y20 | go_keep)
        (first
          | (go_at_call 27; with_reducible refine Calls.mono (CR2.out _ hB) ?_; rintro e w2 ⟨rfl, M2, h2⟩; have y20 := h2.row.cell 20 _ rfl; have H2 := hid h2; clear h2))
      all_goals
        clear z20 hB CR2
        go_wp2
        go_end0
        exact ⟨rfl, M2, by rw [HRe.out]; exact H2.out, by rw [HRe.out]; exact HSR.out⟩

end Go.Proofs.YtildebflnmbefaaGreat
