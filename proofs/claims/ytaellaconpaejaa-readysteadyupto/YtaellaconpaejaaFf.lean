/- Walks: the jobs that are not done at their deadline are marked. -/
import Derived.Test.YtaellaconpaejaaFe
import Derived.Deep.DeepCutAuto
set_option linter.unusedVariables false
namespace Go.Proofs.Ytaellaconpaejaa
open Go.RowKit

set_option maxRecDepth 100000 in
set_option maxHeartbeats 4000000 in
theorem miss_ok (w0 : World) (X : Nat → Prop) (base kb : Nat) (D : Dom) (A : DMem) (C : Conf) (B : Mem) (dn now : Int) (w : World) (h : KO w0 X base kb w D A C B dn) (hz : ckD C dn D = 0) (hl : D.evs.length ≤ 900000000) :
    Calls Try.prog 101 #[.pointer (some ⟨kb, 0, none⟩), .int .i64 now] w fun e w' => e = .returned (.tuple #[]) ∧ (∃ A', KO w0 X base kb w' (missN C now D.jobs.length D) A' C B dn) ∧ KeepsOthers w w' := by
  have HH := hid h
  have HZ := hid hz
  have hj20 := jobs20 hz
  have c0 := h.row.cell 0 _ rfl
  clear h hz
  obtain ⟨aJ, aR, aI, aT, aO, aE, cJ, cR, cI, cT, cO, cE⟩ := A
  dsimp only at *
  go_enter Try.func101, Try.ntmps101
  go_wp2
  go_loopw [13] (fun i wr => ∃ k : Nat, k ≤ D.jobs.length ∧ i = .int .i64 k ∧ (∃ aE' cE', KO w0 X base kb wr (missN C now k D) ⟨aJ, aR, aI, aT, aO, aE', cJ, cR, cI, cT, cO, cE'⟩ C B dn) ∧ KeepsOthers w wr) (fun i _ => D.jobs.length - (intOf i).toNat)
  case atStart => exact ⟨0, Nat.zero_le _, rfl, ⟨aE, cE, HH.out⟩, KeepsOthers.refl _⟩
  case round =>
    obtain ⟨k, hk, rfl, ⟨aE', cE', hK⟩, hO⟩ := hrel
    have HO := hid hO
    have HN : Hid ((missN C now k D).jobs.length = D.jobs.length) := hid (missN_len C now k D)
    have HEV : Hid ((missN C now k D).evs.length ≤ 900000020) := hid (by have := missN_evs C now k D; omega)
    have HZ1 : Hid (ckD C dn (missN C now k D) = 0) := hid (missN_ok HZ.out k)
    have HS : Hid (missN C now (k + 1) D = missStep C now k (missN C now k D)) := hid (missN_succ C now k D)
    clear hO c0
    by_cases hlt : k < D.jobs.length
    · generalize missN C now k D = M at *
      have hkM : k < M.jobs.length := by have := HN.out; omega
      obtain ⟨g, hg, _, _⟩ := owns_zero hK.j (by omega)
      dsimp only at hg
      subst hg
      have hT := tasksOk_of HZ1.out k hkM
      obtain ⟨b', o', e', p0, p1, p2, p3, p4, p5⟩ := hK.keepIn.dom.jobs k hkM
      dsimp only at e'
      simp only [Option.some.injEq, Addr.mk.injEq, and_true] at e'
      obtain ⟨rfl, rfl⟩ := e'
      rw [Nat.zero_add] at p0 p1 p2 p3 p4 p5
      have HJ : Hid (M.jobs[k]? = some M.jobs[k]) := hid (List.getElem?_eq_getElem hkM)
      have hk1 : (k : Int) < (D.jobs.length : Int) := by omega
      have hk2 : (k : Int) < (M.jobs.length : Int) := by omega
      have hk0 : (0 : Int) ≤ (k : Int) := by omega
      have hgl : g < wr.heap.size := owns_lt hK.j g rfl
      generalize M.jobs[k] = jj at *
      obtain ⟨j0, j1, j2, j3, j4, j5⟩ := jj
      dsimp only at *
      have q1 := below_new wr (.cells #[.int .i64 j0, .int .i64 j1, .int .i64 j2, .int .i64 j3, .bool j4, .bool j5] 106)
      have HK1 := hid (hK.below q1)
      have HQ1 := hid q1
      have R1 := hid (rowAt_new2 wr wr.heap.size [.int .i64 j0, .int .i64 j1, .int .i64 j2, .int .i64 j3, .bool j4, .bool j5] 106 rfl)
      clear q1 hK
      go_wp2_with fail
      refine (deadline_any kb M _ C B dn (j0, j1, j2, j3, j4, j5) _ HK1.out.keepIn hT.1 hT.2).mono ?_
      rintro e w1 ⟨rfl, hb1⟩
      have HK2 := hid (HK1.out.below hb1)
      have HO2 := hid (HO.out.trans ((keepsOthers_below HQ1.out).trans (keepsOthers_below hb1)))
      have R2 := hid (R1.out.below hb1 (Nat.le_refl _))
      clear HK1 HO R1 HQ1 hb1 p0 p1 p2 p3 p4 p5
      generalize hdue : dueAt C (j0, j1, j2, j3, j4, j5) = du at *
      have HDU := hid hdue
      clear hdue
      have r0 := R2.out.cell 0 _ rfl
      have r1 := R2.out.cell 1 _ rfl
      have r2 := R2.out.cell 2 _ rfl
      have r3 := R2.out.cell 3 _ rfl
      have r4 := R2.out.cell 4 _ rfl
      have r5 := R2.out.cell 5 _ rfl
      cases j5 with
      | true =>
        have HE : Hid (missStep C now k M = M) := hid (by simp [missStep, HJ.out, late])
        clear R2
        go_wp2
        go_roundw
        case rel => exact ⟨k + 1, by omega, by go_num, ⟨aE', cE', by rw [HS.out, HE.out]; exact HK2.out⟩, HO2.out⟩
        case measure => simp [intOf]; omega
      | false =>
        by_cases hdn : du ≤ now
        · have HE : Hid (missStep C now k M = ⟨M.jobs.set k (markJ (j0, j1, j2, j3, j4, false)), M.rel, M.nxt, M.ins, M.tak, M.out, M.evs ++ [(du, 6, j0, j1)]⟩) := hid (by simp [missStep, HJ.out, late, HDU.out, hdn])
          have k0 := HK2.out.row.cell 0 _ rfl
          have pj := HK2.out.keepIn.dom.jobs k hkM
          obtain ⟨b', o', e', -, -, -, -, -, p5⟩ := pj
          dsimp only at e'
          simp only [Option.some.injEq, Addr.mk.injEq, and_true] at e'
          obtain ⟨rfl, rfl⟩ := e'
          rw [Nat.zero_add] at p5
          have fz := owns_frozen HK2.out.j (k * 6 + 5)
          have HK3 := hid (HK2.out.setJob (g := g) rfl k _ HJ.out)
          have HO3 := hid (HO2.out.trans (KeepsOthers.setCell w1 ⟨g, k * 6 + 5, none⟩ (.bool true)))
          have R3 := hid (show RowAt (w1.setCell ⟨g, k * 6 + 5, none⟩ (.bool true)) wr.heap.size 106 _ from (heap_set_ne _ _ _ _ wr.heap.size (by omega)).trans R2.out)
          clear r0 r1 r2 r3 r4 HK2 HO2 R2
          dsimp only at k0
          go_upto_region 6 with fail
          clear p5 fz k0 r5
          generalize w1.setCell ⟨g, k * 6 + 5, none⟩ (.bool true) = W3 at *
          have r0 := R3.out.cell 0 _ rfl
          have r1 := R3.out.cell 1 _ rfl
          have r2 := R3.out.cell 2 _ rfl
          have r3 := R3.out.cell 3 _ rfl
          have r4 := R3.out.cell 4 _ rfl
          have r5 := R3.out.cell 5 _ rfl
          go_wp2_with fail
          refine (tell_ok w0 X base kb _ _ C B dn du 6 (j0, j1, j2, j3, j4, false) _ HK3.out (by have := HEV.out; simp only; omega)).mono ?_
          rintro e w6 ⟨rfl, ⟨a', c', h6⟩, hk6⟩
          have H6 := hid h6
          have HO6 := hid (HO3.out.trans hk6)
          clear h6 hk6 HK3 HO3 r0 r1 r2 r3 r4 r5 R3
          go_wp2
          go_roundw
          case rel => exact ⟨k + 1, by omega, by go_num, ⟨a', c', by rw [HS.out, HE.out]; exact H6.out⟩, HO6.out⟩
          case measure => simp [intOf]; omega
        · have HE : Hid (missStep C now k M = M) := hid (by simp [missStep, HJ.out, late, HDU.out, hdn])
          clear R2
          go_wp2
          go_roundw
          case rel => exact ⟨k + 1, by omega, by go_num, ⟨aE', cE', by rw [HS.out, HE.out]; exact HK2.out⟩, HO2.out⟩
          case measure => simp [intOf]; omega
    · obtain rfl : k = D.jobs.length := by omega
      go_wp2
      go_end0
      exact ⟨rfl, ⟨_, hK⟩, HO.out⟩

end Go.Proofs.Ytaellaconpaejaa
