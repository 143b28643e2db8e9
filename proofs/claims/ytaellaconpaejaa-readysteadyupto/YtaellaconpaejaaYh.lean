/- Walks: the check of a domain's jobs. -/
import Derived.Test.YtaellaconpaejaaYg
set_option linter.unusedVariables false
namespace Go.Proofs.Ytaellaconpaejaa
open Go.RowKit

abbrev jv (j : JobT) : Value := .agg #[.int .i64 j.1, .int .i64 j.2.1, .int .i64 j.2.2.1, .int .i64 j.2.2.2.1, .bool j.2.2.2.2.1, .bool j.2.2.2.2.2]
/-- What is wrong with a job. -/
def ckJob (C : Conf) (dn : Int) (j : JobT) : Int :=
  if 0 ≤ j.1 ∧ j.1 < C.ta.length ∧ (C.ta.getD j.1.toNat (0, 0, 0, 0)).1 = dn then
    (if inR j.2.1 0 100000 && inR j.2.2.1 0 100000 && inR j.2.2.2.1 0 (wrap64 ((C.ta.getD j.1.toNat (0, 0, 0, 0)).2.2.1 - 1)) then 0 else 3) else 5

theorem tasksIn_lt {w : World} {C : Conf} {a : Option Addr} (h : TasksIn w a C.ta) : ∀ b o, a = some ⟨b, o, none⟩ → 0 < C.ta.length → b < w.heap.size := by
  intro b o e h0
  obtain ⟨b', o', e', p, _⟩ := h 0 h0
  rw [e] at e'
  cases e'
  exact World.block_lt_of_cell? _ _ p

set_option maxRecDepth 100000 in
set_option maxHeartbeats 2000000 in
theorem checkJob_any (kb : Nat) (D : Dom) (A : DMem) (C : Conf) (B : Mem) (dn : Int) (j : JobT) (w : World) (hK : KeepIn w kb D A C B dn) :
    Calls Try.prog 143 #[.pointer (some ⟨kb, 0, none⟩), jv j] w fun e w' => e = .returned (.int .i64 (ckJob C dn j)) ∧ Below w.heap.size w w' := by
  obtain ⟨j0, j1, j2, j3, j4, j5⟩ := j
  dsimp only [jv]
  have q1 := below_new w (.cells #[.int .i64 j0, .int .i64 j1, .int .i64 j2, .int .i64 j3, .bool j4, .bool j5] 106)
  have HK := hid (hK.keep q1)
  have HB := hid q1
  clear q1 hK
  go_enter Try.func143, Try.ntmps143
  go_wp2_with fail
  refine (own_ok kb C B.a8 B.c8 dn j0 HK.out.con.l8 _ HK.out.row.lt (HK.out.row.cell 15 _ rfl) (HK.out.row.cell 16 _ rfl) HK.out.con.ta (tasksIn_lt HK.out.con.ta)).mono ?_
  rintro e w1 ⟨rfl, hb1⟩
  have HB1 := hid (btrans HB.out hb1)
  have s1 : w1.cell? ⟨w.heap.size, 1, none⟩ = some (.int .i64 j1) := bkeep hb1 (by simp) (Nat.le_refl _)
  have s2 : w1.cell? ⟨w.heap.size, 2, none⟩ = some (.int .i64 j2) := bkeep hb1 (by simp) (Nat.le_refl _)
  have s3 : w1.cell? ⟨w.heap.size, 3, none⟩ = some (.int .i64 j3) := bkeep hb1 (by simp) (Nat.le_refl _)
  have hsz := (HB1.out).size
  clear hb1 HB HK
  by_cases hO : 0 ≤ j0 ∧ j0 < C.ta.length ∧ (C.ta.getD j0.toNat (0, 0, 0, 0)).1 = dn
  · have HE : Hid (ckJob C dn (j0, j1, j2, j3, j4, j5) = if inR j1 0 100000 && inR j2 0 100000 && inR j3 0 (wrap64 ((C.ta.getD j0.toNat (0, 0, 0, 0)).2.2.1 - 1)) then 0 else 3) := hid (by rw [ckJob, if_pos hO])
    rw [ownV, if_pos hO]
    dsimp only
    clear hO
    generalize C.ta.getD j0.toNat (0, 0, 0, 0) = tk at *
    obtain ⟨t0, t1, t2, t3⟩ := tk
    dsimp only at *
    have q2 := below_new w1 (.cells #[.int .i64 t0, .int .i64 t1, .int .i64 t2, .int .i64 t3] 108)
    have HB2 := hid (btrans HB1.out q2)
    have r1 := bkeep q2 s1 (Nat.le_refl _)
    have r2 := bkeep q2 s2 (Nat.le_refl _)
    have r3 := bkeep q2 s3 (Nat.le_refl _)
    clear q2
    go_wp2_with fail
    refine (within_any _ _ _ _).mono ?_
    rintro e w' ⟨rfl, rfl⟩
    cases h1 : inR j1 0 100000 with
    | false =>
      go_wp2
      go_ret
      exact ⟨ret_int (by simp [HE.out, h1]), HB2.out⟩
    | true =>
      have H1 := hid h1
      clear h1
      go_wp2_with fail
      refine (within_any _ _ _ _).mono ?_
      rintro e w' ⟨rfl, rfl⟩
      cases h2 : inR j2 0 100000 with
      | false =>
        go_wp2
        go_ret
        exact ⟨ret_int (by simp [HE.out, h2]), HB2.out⟩
      | true =>
        have H2 := hid h2
        clear h2
        go_wp2_with fail
        refine (within_any _ _ _ _).mono ?_
        rintro e w' ⟨rfl, rfl⟩
        cases h3 : inR j3 0 (wrap64 (t2 - 1)) with
        | false =>
          go_wp2
          go_ret
          exact ⟨ret_int (by simp [HE.out, h3]), HB2.out⟩
        | true =>
          go_wp2
          go_ret
          exact ⟨ret_int (by simp [HE.out, H1.out, H2.out, h3]), HB2.out⟩
  · have HE : Hid (ckJob C dn (j0, j1, j2, j3, j4, j5) = 5) := hid (by rw [ckJob, if_neg hO])
    rw [ownV, if_neg hO]
    clear hO
    have q2 := below_new w1 (.cells #[.int .i64 0, .int .i64 0, .int .i64 0, .int .i64 0] 108)
    have HB2 := hid (btrans HB1.out q2)
    clear q2
    go_wp2
    go_ret
    exact ⟨ret_int HE.out.symm, HB2.out⟩

/-- What is wrong with the jobs. -/
def ckJobs (C : Conf) (dn : Int) (D : Dom) : Int := if 20 < D.jobs.length then 2 else fe D.jobs.length fun i => ckJob C dn (D.jobs.getD i (0, 0, 0, 0, false, false))

set_option maxRecDepth 100000 in
set_option maxHeartbeats 2000000 in
theorem checkJobs_any (kb : Nat) (D : Dom) (A : DMem) (C : Conf) (B : Mem) (dn : Int) (w : World) (hK : KeepIn w kb D A C B dn) :
    Calls Try.prog 107 #[.pointer (some ⟨kb, 0, none⟩)] w fun e w' => e = .returned (.int .i64 (ckJobs C dn D)) ∧ Below w.heap.size w w' := by
  have HK := hid hK
  have c0 := hK.row.cell 0 _ rfl
  have lJ := hK.dom.lJ
  clear hK
  obtain ⟨aJ, aR, aI, aT, aO, aE, cJ, cR, cI, cT, cO, cE⟩ := A
  dsimp only at *
  by_cases h20 : 20 < D.jobs.length
  · have HE : Hid (ckJobs C dn D = 2) := hid (by rw [ckJobs, if_pos h20])
    have hz : (20 : Int) < (D.jobs.length : Int) := by omega
    go_enter Try.func107, Try.ntmps107
    go_wp2
    go_ret
    exact ⟨ret_int HE.out.symm, Below.refl _ _⟩
  · have hz : (D.jobs.length : Int) ≤ 20 := by omega
    have HE : Hid (ckJobs C dn D = fe D.jobs.length fun i => ckJob C dn (D.jobs.getD i (0, 0, 0, 0, false, false))) := hid (by rw [ckJobs, if_neg h20])
    clear h20
    go_enter Try.func107, Try.ntmps107
    go_wp2
    go_loopw [19] (fun i wr => ∃ k : Nat, k ≤ D.jobs.length ∧ i = .int .i64 k ∧ Below w.heap.size w wr ∧ ∀ j, j < k → ckJob C dn (D.jobs.getD j (0, 0, 0, 0, false, false)) = 0) (fun i _ => D.jobs.length - (intOf i).toNat)
    case atStart => exact ⟨0, Nat.zero_le _, rfl, Below.refl _ _, by omega⟩
    case round =>
      obtain ⟨k, hk, rfl, hbl, hno⟩ := hrel
      have Hno := hid hno
      clear hno
      by_cases hlt : k < D.jobs.length
      · obtain ⟨b1, o1, rfl, p0, p1, p2, p3, p4, p5⟩ := (HK.out.dom.keep hbl).jobs k hlt
        have HV : Hid (D.jobs.getD k (0, 0, 0, 0, false, false) = D.jobs[k]) := hid (by simp [hlt])
        have hk1 : (k : Int) < (D.jobs.length : Int) := by omega
        have hk0 : (0 : Int) ≤ (k : Int) := by omega
        have HKr := hid (HK.out.keep hbl)
        generalize D.jobs[k] = j at *
        obtain ⟨j0, j1, j2, j3, j4, j5⟩ := j
        dsimp only at *
        have q := below_new wr (.cells #[.int .i64 j0, .int .i64 j1, .int .i64 j2, .int .i64 j3, .bool j4, .bool j5] 106)
        have HKq := hid (HKr.out.keep q)
        have HQ := hid (btrans hbl q)
        clear q hbl HKr
        go_wp2_with fail
        refine (checkJob_any kb D _ C B dn (j0, j1, j2, j3, j4, j5) _ HKq.out).mono ?_
        rintro e w3 ⟨rfl, hb3⟩
        have HB3 := hid (btrans HQ.out hb3)
        clear hb3 HQ HKq p0 p1 p2 p3 p4 p5
        by_cases h0 : ckJob C dn (j0, j1, j2, j3, j4, j5) = 0
        · have H0 := hid h0
          rw [h0]
          clear h0
          go_wp2
          go_roundw
          case rel =>
            refine ⟨k + 1, by omega, by go_num, HB3.out, fun j hj => ?_⟩
            by_cases e : j = k
            · subst e; rw [HV.out]; exact H0.out
            · exact Hno.out j (by omega)
          case measure => simp [intOf]; omega
        · have HE2 : Hid (ckJobs C dn D = ckJob C dn (j0, j1, j2, j3, j4, j5)) := hid (by rw [HE.out, fe_at _ k _ hlt (by rw [HV.out]; exact h0) (fun j hj => Hno.out j hj), HV.out])
          have hx : (ckJob C dn (j0, j1, j2, j3, j4, j5) != 0) = true := by simp [h0]
          clear h0 HV
          generalize ckJob C dn (j0, j1, j2, j3, j4, j5) = q at *
          go_wp2
          go_ret
          exact ⟨ret_int HE2.out.symm, HB3.out⟩
      · go_wp2
        go_ret
        exact ⟨ret_int (by rw [HE.out]; exact (fe_zero _ _ (fun j hj => Hno.out j (by omega))).symm), hbl⟩

end Go.Proofs.Ytaellaconpaejaa
