/- Domains in memory: jobs, numbers, rings, lists, events; and two domains that are the same. -/
import Derived.Test.YtaellaconpaejaaXi
set_option linter.unusedVariables false
namespace Go.Proofs.Ytaellaconpaejaa
open Go.RowKit

/-- A job: task, number, released, used, ran, missed. -/
abbrev JobT := Int × Int × Int × Int × Bool × Bool
/-- An event: at, kind, a, b. -/
abbrev EvT := Int × Int × Int × Int

structure Dom where
  jobs : List JobT
  rel : List Int
  nxt : Int
  ins : List (List Int × Int)
  tak : List Int
  out : List (List Int)
  evs : List EvT

/-- Where the lists of a domain lie. -/
structure DMem where
  aJ : Option Addr
  aR : Option Addr
  aI : Option Addr
  aT : Option Addr
  aO : Option Addr
  aE : Option Addr
  cJ : Nat
  cR : Nat
  cI : Nat
  cT : Nat
  cO : Nat
  cE : Nat

abbrev dl (D : Dom) (A : DMem) : Array Value := #[.slice A.aJ D.jobs.length A.cJ, .slice A.aR D.rel.length A.cR, .int .i64 D.nxt, .slice A.aI D.ins.length A.cI, .slice A.aT D.tak.length A.cT, .slice A.aO D.out.length A.cO, .slice A.aE D.evs.length A.cE]
abbrev dv (D : Dom) (A : DMem) : Value := .agg (dl D A)

def JobsIn (w : World) (a : Option Addr) (ls : List JobT) : Prop :=
  ∀ i (h : i < ls.length), ∃ b o, a = some ⟨b, o, none⟩ ∧ w.cell? ⟨b, o + i * 6, none⟩ = some (.int .i64 ls[i].1) ∧ w.cell? ⟨b, o + i * 6 + 1, none⟩ = some (.int .i64 ls[i].2.1) ∧ w.cell? ⟨b, o + i * 6 + 2, none⟩ = some (.int .i64 ls[i].2.2.1) ∧ w.cell? ⟨b, o + i * 6 + 3, none⟩ = some (.int .i64 ls[i].2.2.2.1) ∧ w.cell? ⟨b, o + i * 6 + 4, none⟩ = some (.bool ls[i].2.2.2.2.1) ∧ w.cell? ⟨b, o + i * 6 + 5, none⟩ = some (.bool ls[i].2.2.2.2.2)
def EvsIn (w : World) (a : Option Addr) (ls : List EvT) : Prop :=
  ∀ i (h : i < ls.length), ∃ b o, a = some ⟨b, o, none⟩ ∧ w.cell? ⟨b, o + i * 4, none⟩ = some (.int .i64 ls[i].1) ∧ w.cell? ⟨b, o + i * 4 + 1, none⟩ = some (.int .i64 ls[i].2.1) ∧ w.cell? ⟨b, o + i * 4 + 2, none⟩ = some (.int .i64 ls[i].2.2.1) ∧ w.cell? ⟨b, o + i * 4 + 3, none⟩ = some (.int .i64 ls[i].2.2.2)
def RingsIn (w : World) (a : Option Addr) (ls : List (List Int × Int)) : Prop :=
  ∀ i (h : i < ls.length), ∃ b o a' c', a = some ⟨b, o, none⟩ ∧ w.cell? ⟨b, o + i * 2, none⟩ = some (.slice a' ls[i].1.length c') ∧ w.cell? ⟨b, o + i * 2 + 1, none⟩ = some (.int .i64 ls[i].2) ∧ IntsIn w a' ls[i].1 ∧ ls[i].1.length ≤ c' ∧ ls[i].1.length ≤ 9223372036854775807
def ListsIn (w : World) (a : Option Addr) (ls : List (List Int)) : Prop :=
  ∀ i (h : i < ls.length), ∃ b o a' c', a = some ⟨b, o, none⟩ ∧ w.cell? ⟨b, o + i, none⟩ = some (.slice a' ls[i].length c') ∧ IntsIn w a' ls[i] ∧ ls[i].length ≤ c' ∧ ls[i].length ≤ 9223372036854775807

section
variable {w w' : World} {a : Option Addr}
theorem JobsIn.keep {ls : List JobT} (h : JobsIn w a ls) (hb : Below w.heap.size w w') : JobsIn w' a ls := by
  intro i hi
  obtain ⟨b, o, e, h1, h2, h3, h4, h5, h6⟩ := h i hi
  exact ⟨b, o, e, bkeep hb h1 (Nat.le_refl _), bkeep hb h2 (Nat.le_refl _), bkeep hb h3 (Nat.le_refl _), bkeep hb h4 (Nat.le_refl _), bkeep hb h5 (Nat.le_refl _), bkeep hb h6 (Nat.le_refl _)⟩
theorem EvsIn.keep {ls : List EvT} (h : EvsIn w a ls) (hb : Below w.heap.size w w') : EvsIn w' a ls := by
  intro i hi
  obtain ⟨b, o, e, h1, h2, h3, h4⟩ := h i hi
  exact ⟨b, o, e, bkeep hb h1 (Nat.le_refl _), bkeep hb h2 (Nat.le_refl _), bkeep hb h3 (Nat.le_refl _), bkeep hb h4 (Nat.le_refl _)⟩
theorem RingsIn.keep {ls : List (List Int × Int)} (h : RingsIn w a ls) (hb : Below w.heap.size w w') : RingsIn w' a ls := by
  intro i hi
  obtain ⟨b, o, a', c', e, h1, h2, h3, h4⟩ := h i hi
  exact ⟨b, o, a', c', e, bkeep hb h1 (Nat.le_refl _), bkeep hb h2 (Nat.le_refl _), h3.keep hb, h4⟩
theorem ListsIn.keep {ls : List (List Int)} (h : ListsIn w a ls) (hb : Below w.heap.size w w') : ListsIn w' a ls := by
  intro i hi
  obtain ⟨b, o, a', c', e, h1, h2, h3⟩ := h i hi
  exact ⟨b, o, a', c', e, bkeep hb h1 (Nat.le_refl _), h2.keep hb, h3⟩
end

/-- A domain's lists lie in memory. -/
structure DomIn (w : World) (A : DMem) (D : Dom) : Prop where
  jobs : JobsIn w A.aJ D.jobs
  rel : IntsIn w A.aR D.rel
  ins : RingsIn w A.aI D.ins
  tak : IntsIn w A.aT D.tak
  out : ListsIn w A.aO D.out
  evs : EvsIn w A.aE D.evs
  lJ : D.jobs.length ≤ 9223372036854775807
  lR : D.rel.length ≤ 9223372036854775807
  lI : D.ins.length ≤ 9223372036854775807
  lT : D.tak.length ≤ 9223372036854775807
  lO : D.out.length ≤ 9223372036854775807
  lE : D.evs.length ≤ 9223372036854775807

theorem DomIn.keep {w w' : World} {A : DMem} {D : Dom} (h : DomIn w A D) (hb : Below w.heap.size w w') : DomIn w' A D :=
  ⟨h.jobs.keep hb, h.rel.keep hb, h.ins.keep hb, h.tak.keep hb, h.out.keep hb, h.evs.keep hb, h.lJ, h.lR, h.lI, h.lT, h.lO, h.lE⟩

theorem eq106 (x y z u : Int) (p q : Bool) (w : World) : (Op.equalIn 10000 106 (.agg #[.int .i64 x, .int .i64 y, .int .i64 z, .int .i64 u, .bool p, .bool q]) (.agg #[.int .i64 x, .int .i64 y, .int .i64 z, .int .i64 u, .bool p, .bool q])).run Try.prog w = .ok true w := by
  have u3 := Try.underlying3
  have a3 := Try.isAgg3
  have z3 := Try.sizeOf3
  have u4 := Try.underlying4
  have a4 := Try.isAgg4
  have z4 := Try.sizeOf4
  have hS : Try.prog.underlying 106 = some (.struct (Try.prog.fieldsOf 106)) := by kernel_rfl
  have hp : Try.prog.stoodInHeld 106 = false := by kernel_rfl
  rw [show (10000 : Nat) = 9999 + 1 from rfl, run_equalIn_agg w 9999 106 _ _ hS hp]
  simp only [Program.fieldsOf, Try.underlying106]
  go_simp

theorem eq146 (x y z u : Int) (w : World) : (Op.equalIn 10000 150 (.agg #[.int .i64 x, .int .i64 y, .int .i64 z, .int .i64 u]) (.agg #[.int .i64 x, .int .i64 y, .int .i64 z, .int .i64 u])).run Try.prog w = .ok true w := by
  have u3 := Try.underlying3
  have a3 := Try.isAgg3
  have z3 := Try.sizeOf3
  have hS : Try.prog.underlying 150 = some (.struct (Try.prog.fieldsOf 150)) := by kernel_rfl
  have hp : Try.prog.stoodInHeld 150 = false := by kernel_rfl
  rw [show (10000 : Nat) = 9999 + 1 from rfl, run_equalIn_agg w 9999 150 _ _ hS hp]
  simp only [Program.fieldsOf, Try.underlying150]
  go_simp

set_option maxRecDepth 100000 in
set_option maxHeartbeats 4000000 in
theorem sameDomain_true (D : Dom) (A A' : DMem) (w : World) (h1 : DomIn w A D) (h2 : DomIn w A' D) :
    Calls Try.prog 62 #[dv D A, dv D A'] w fun e w' => e = .returned (.bool true) ∧ Below w.heap.size w w' := by
  have q1 := below_new w (.cells (dl D A) 90)
  have q2 := below_new (w.alloc (.cells (dl D A) 90)) (.cells (dl D A') 90)
  have HQ := hid (btrans q1 q2)
  have HC1 := hid (h1.keep (btrans q1 q2))
  have HC2 := hid (h2.keep (btrans q1 q2))
  have R1 : Hid (RowAt ((w.alloc (.cells (dl D A) 90)).alloc (.cells (dl D A') 90)) w.heap.size 90 (dl D A).toList) := hid ((rowAt_new2 w _ (dl D A).toList 90 rfl).alloc _)
  have R2 : Hid (RowAt ((w.alloc (.cells (dl D A) 90)).alloc (.cells (dl D A') 90)) (w.heap.size + 1) 90 (dl D A').toList) := hid (rowAt_new2 _ _ (dl D A').toList 90 (by simp))
  have n106 := eq106
  have n146 := eq146
  have gu106 : Try.prog.eqGuardType Try.prog.depth 106 = false := by kernel_rfl
  have gu146 : Try.prog.eqGuardType Try.prog.depth 150 = false := by kernel_rfl
  have lJ := h1.lJ
  have lR := h1.lR
  have lI := h1.lI
  have lT := h1.lT
  have lO := h1.lO
  have lE := h1.lE
  clear q1 q2 h1 h2
  obtain ⟨aJ, aR, aI, aT, aO, aE, cJ, cR, cI, cT, cO, cE⟩ := A
  obtain ⟨bJ, bR, bI, bT, bO, bE, dJ, dR, dI, dT, dO, dE⟩ := A'
  dsimp only [dv, dl] at *
  go_enter Try.func62, Try.ntmps62
  go_wp2_with fail
  refine (sameIntsx_true aR bR D.rel cR dR _ HC1.out.rel HC2.out.rel lR).mono ?_
  rintro e w1 ⟨rfl, hb1⟩
  replace HQ := hid (btrans HQ.out hb1)
  replace HC1 := hid (HC1.out.keep hb1)
  replace HC2 := hid (HC2.out.keep hb1)
  replace R1 := hid (R1.out.below hb1 (Nat.le_refl _))
  replace R2 := hid (R2.out.below hb1 (Nat.le_refl _))
  clear hb1
  have k0 := R1.out.cell 0 _ rfl
  have k3 := R1.out.cell 3 _ rfl
  have k4 := R1.out.cell 4 _ rfl
  have k5 := R1.out.cell 5 _ rfl
  have k6 := R1.out.cell 6 _ rfl
  have m0 := R2.out.cell 0 _ rfl
  have m3 := R2.out.cell 3 _ rfl
  have m4 := R2.out.cell 4 _ rfl
  have m5 := R2.out.cell 5 _ rfl
  have m6 := R2.out.cell 6 _ rfl
  go_wp2_with fail
  refine (sameIntsx_true aT bT D.tak cT dT _ HC1.out.tak HC2.out.tak lT).mono ?_
  rintro e w2 ⟨rfl, hb2⟩
  replace HQ := hid (btrans HQ.out hb2)
  replace HC1 := hid (HC1.out.keep hb2)
  replace HC2 := hid (HC2.out.keep hb2)
  replace R1 := hid (R1.out.below hb2 (Nat.le_refl _))
  replace R2 := hid (R2.out.below hb2 (Nat.le_refl _))
  clear hb2 k0 k3 k4 k5 k6 m0 m3 m4 m5 m6
  have k0 := R1.out.cell 0 _ rfl
  have k3 := R1.out.cell 3 _ rfl
  have k5 := R1.out.cell 5 _ rfl
  have k6 := R1.out.cell 6 _ rfl
  have m0 := R2.out.cell 0 _ rfl
  have m3 := R2.out.cell 3 _ rfl
  have m5 := R2.out.cell 5 _ rfl
  have m6 := R2.out.cell 6 _ rfl
  have hlt1 := R1.out.lt
  have hlt2 := R2.out.lt
  go_wp2
  go_loopw [5] (fun i wr => (∃ n, wr = w2.drewN n) ∧ ∃ k : Nat, k ≤ D.jobs.length ∧ i = .int .i64 k) (fun i _ => D.jobs.length - (intOf i).toNat)
  case atStart => exact ⟨⟨0, rfl⟩, 0, Nat.zero_le _, rfl⟩
  case round =>
    obtain ⟨⟨nd, rfl⟩, k, hk, rfl⟩ := hrel
    by_cases hlt : k < D.jobs.length
    · obtain ⟨b1, o1, rfl, p0, p1, p2, p3, p4, p5⟩ := HC1.out.jobs k hlt
      obtain ⟨b2, o2, rfl, q0, q1, q2, q3, q4, q5⟩ := HC2.out.jobs k hlt
      have hk1 : (k : Int) < D.jobs.length := by omega
      have hk0 : (0 : Int) ≤ k := by omega
      generalize D.jobs[k].1 = y0 at *
      generalize D.jobs[k].2.1 = y1 at *
      generalize D.jobs[k].2.2.1 = y2 at *
      generalize D.jobs[k].2.2.2.1 = y3 at *
      generalize D.jobs[k].2.2.2.2.1 = y4 at *
      generalize D.jobs[k].2.2.2.2.2 = y5 at *
      go_wp2
      go_quiet (fail)
      go_wp2
      go_roundw
      case rel => exact ⟨⟨_, rfl⟩, k + 1, by omega, by go_num⟩
      case measure => simp [intOf]; omega
    · go_wp2
      go_loopw [6] (fun i wr => Below w2.heap.size w2 wr ∧ ∃ k : Nat, k ≤ D.ins.length ∧ i = .int .i64 k) (fun i _ => D.ins.length - (intOf i).toNat)
      case atStart => exact ⟨below_drewN (Below.refl _ _) _, 0, Nat.zero_le _, rfl⟩
      case round =>
        obtain ⟨hbl, k, hk, rfl⟩ := hrel
        have HBL := hid hbl
        clear hlt
        by_cases hlt : k < D.ins.length
        · obtain ⟨b1, o1, a1, c1, rfl, p0, p1, p2, p3, p4⟩ := (HC1.out.keep hbl).ins k hlt
          obtain ⟨b2, o2, a2, c2, rfl, q0, q1, q2, q3, q4⟩ := (HC2.out.keep hbl).ins k hlt
          have hk1 : (k : Int) < D.ins.length := by omega
          have hk0 : (0 : Int) ≤ k := by omega
          have k3' := bkeep hbl k3 (Nat.le_refl _)
          have m3' := bkeep hbl m3 (Nat.le_refl _)
          have P2 := hid p2
          have Q2 := hid q2
          clear p2 q2 hbl
          generalize D.ins[k].1 = V at *
          generalize D.ins[k].2 = l at *
          have HS : Hid (∀ w', Below wr.heap.size wr w' → w'.cell? ⟨w.heap.size, 3, none⟩ = some (.slice (some ⟨b1, o1, none⟩) D.ins.length cI) ∧ w'.cell? ⟨w.heap.size + 1, 3, none⟩ = some (.slice (some ⟨b2, o2, none⟩) D.ins.length dI) ∧ w'.cell? ⟨b1, o1 + k * 2, none⟩ = some (.slice a1 V.length c1) ∧ w'.cell? ⟨b1, o1 + k * 2 + 1, none⟩ = some (.int .i64 l) ∧ w'.cell? ⟨b2, o2 + k * 2, none⟩ = some (.slice a2 V.length c2) ∧ w'.cell? ⟨b2, o2 + k * 2 + 1, none⟩ = some (.int .i64 l)) := hid fun w' hb => ⟨bkeep hb k3' (Nat.le_refl _), bkeep hb m3' (Nat.le_refl _), bkeep hb p0 (Nat.le_refl _), bkeep hb p1 (Nat.le_refl _), bkeep hb q0 (Nat.le_refl _), bkeep hb q1 (Nat.le_refl _)⟩
          have hbz : Below wr.heap.size wr wr.drew := (Below.refl _ _).drew
          go_wp2_with fail
          go_region_held3 (fun w' => w'.cell? ⟨w.heap.size, 3, none⟩ = some (.slice (some ⟨b1, o1, none⟩) D.ins.length cI) ∧ w'.cell? ⟨w.heap.size + 1, 3, none⟩ = some (.slice (some ⟨b2, o2, none⟩) D.ins.length dI) ∧ w'.cell? ⟨b1, o1 + k * 2, none⟩ = some (.slice a1 V.length c1) ∧ w'.cell? ⟨b1, o1 + k * 2 + 1, none⟩ = some (.int .i64 l) ∧ w'.cell? ⟨b2, o2 + k * 2, none⟩ = some (.slice a2 V.length c2) ∧ w'.cell? ⟨b2, o2 + k * 2 + 1, none⟩ = some (.int .i64 l))
            (first | exact HS.out _ hB3 | exact HS.out _ hbz | go_keep)
            (first | (go_at_call 94; refine (sameRing_true a1 a2 V c1 c2 l _ (P2.out.keep hbz) (Q2.out.keep hbz) p4).mono ?_; rintro e w3 ⟨rfl, hb3⟩; have hB3 := btrans hbz hb3))
          have HB3 := hid (btrans HBL.out hB3)
          clear HS hB3 hbz k3' m3' p0 p1 q0 q1
          go_wp2
          go_roundw
          case rel => exact ⟨HB3.out, k + 1, by omega, by go_num⟩
          case measure => simp [intOf]; omega
        · have k3' := bkeep hbl k3 (Nat.le_refl _)
          have k5' := bkeep hbl k5 (Nat.le_refl _)
          clear hbl
          go_wp2
          go_loopw [7] (fun i wr => Below w2.heap.size w2 wr ∧ ∃ k : Nat, k ≤ D.out.length ∧ i = .int .i64 k) (fun i _ => D.out.length - (intOf i).toNat)
          case atStart => exact ⟨HBL.out, 0, Nat.zero_le _, rfl⟩
          case round =>
            clear HBL k3' k5'
            obtain ⟨hbl, k, hk, rfl⟩ := hrel
            have HBL := hid hbl
            clear hlt
            by_cases hlt : k < D.out.length
            · obtain ⟨b1, o1, a1, c1, rfl, p0, p2, p3, p4⟩ := (HC1.out.keep hbl).out k hlt
              obtain ⟨b2, o2, a2, c2, rfl, q0, q2, q3, q4⟩ := (HC2.out.keep hbl).out k hlt
              have hk1 : (k : Int) < D.out.length := by omega
              have hk0 : (0 : Int) ≤ k := by omega
              have k5' := bkeep hbl k5 (Nat.le_refl _)
              have m5' := bkeep hbl m5 (Nat.le_refl _)
              have P2 := hid p2
              have Q2 := hid q2
              clear p2 q2 hbl
              generalize D.out[k] = V at *
              have HS : Hid (∀ w', Below wr.heap.size wr w' → w'.cell? ⟨w.heap.size, 5, none⟩ = some (.slice (some ⟨b1, o1, none⟩) D.out.length cO) ∧ w'.cell? ⟨w.heap.size + 1, 5, none⟩ = some (.slice (some ⟨b2, o2, none⟩) D.out.length dO) ∧ w'.cell? ⟨b1, o1 + k, none⟩ = some (.slice a1 V.length c1) ∧ w'.cell? ⟨b2, o2 + k, none⟩ = some (.slice a2 V.length c2)) := hid fun w' hb => ⟨bkeep hb k5' (Nat.le_refl _), bkeep hb m5' (Nat.le_refl _), bkeep hb p0 (Nat.le_refl _), bkeep hb q0 (Nat.le_refl _)⟩
              have hbz : Below wr.heap.size wr wr.drew := (Below.refl _ _).drew
              go_wp2_with fail
              go_region_held3 (fun w' => w'.cell? ⟨w.heap.size, 5, none⟩ = some (.slice (some ⟨b1, o1, none⟩) D.out.length cO) ∧ w'.cell? ⟨w.heap.size + 1, 5, none⟩ = some (.slice (some ⟨b2, o2, none⟩) D.out.length dO) ∧ w'.cell? ⟨b1, o1 + k, none⟩ = some (.slice a1 V.length c1) ∧ w'.cell? ⟨b2, o2 + k, none⟩ = some (.slice a2 V.length c2))
                (first | exact HS.out _ hB3 | exact HS.out _ hbz | go_keep)
                (first | (go_at_call 47; refine (sameIntsx_true a1 a2 V c1 c2 _ (P2.out.keep hbz) (Q2.out.keep hbz) p4).mono ?_; rintro e w3 ⟨rfl, hb3⟩; have hB3 := btrans hbz hb3))
              have HB3 := hid (btrans HBL.out hB3)
              clear HS hB3 hbz k5' m5' p0 q0
              go_wp2
              go_roundw
              case rel => exact ⟨HB3.out, k + 1, by omega, by go_num⟩
              case measure => simp [intOf]; omega
            · have k5' := bkeep hbl k5 (Nat.le_refl _)
              have k6' := bkeep hbl k6 (Nat.le_refl _)
              clear hbl
              go_wp2
              go_loopw [8] (fun i wr => Below w2.heap.size w2 wr ∧ ∃ k : Nat, k ≤ D.evs.length ∧ i = .int .i64 k) (fun i _ => D.evs.length - (intOf i).toNat)
              case atStart => exact ⟨HBL.out, 0, Nat.zero_le _, rfl⟩
              case round =>
                clear HBL k5' k6'
                obtain ⟨hbl, k, hk, rfl⟩ := hrel
                have HBL := hid hbl
                have k6' := bkeep hbl k6 (Nat.le_refl _)
                have m6' := bkeep hbl m6 (Nat.le_refl _)
                clear hlt
                by_cases hlt : k < D.evs.length
                · obtain ⟨b1, o1, rfl, p0, p1, p2, p3⟩ := (HC1.out.keep hbl).evs k hlt
                  obtain ⟨b2, o2, rfl, q0, q1, q2, q3⟩ := (HC2.out.keep hbl).evs k hlt
                  have hk1 : (k : Int) < D.evs.length := by omega
                  have hk0 : (0 : Int) ≤ k := by omega
                  generalize D.evs[k].1 = y0 at *
                  generalize D.evs[k].2.1 = y1 at *
                  generalize D.evs[k].2.2.1 = y2 at *
                  generalize D.evs[k].2.2.2 = y3 at *
                  clear hbl
                  go_wp2
                  go_quiet (fail)
                  go_wp2
                  go_roundw
                  case rel => exact ⟨below_drewN HBL.out _, k + 1, by omega, by go_num⟩
                  case measure => simp [intOf]; omega
                · clear hbl
                  go_wp2
                  go_ret
                  exact ⟨rfl, HQ.out.trans (HBL.out.mono HQ.out.size)⟩

end Go.Proofs.Ytaellaconpaejaa
