/- Walks: the first job, that no other one is ahead of. -/
import Derived.Test.YtaellaconpaejaaYk
set_option linter.unusedVariables false
namespace Go.Proofs.Ytaellaconpaejaa
open Go.RowKit

/-- The number of the first one for which p holds, or -1. -/
def idxP {α : Type} (p : α → Bool) (l : List α) : Int :=
  match l.findIdx? p with
  | some k => k
  | none => -1
theorem idxP_at {α : Type} (p : α → Bool) (l : List α) (k : Nat) (h : k < l.length) (he : p l[k] = true) (hno : ∀ j (hj : j < l.length), j < k → p l[j] = false) : idxP p l = k := by
  have : l.findIdx? p = some k := List.findIdx?_eq_some_iff_getElem.2 ⟨h, he, fun j hj => by simp [hno j (by omega) hj]⟩
  simp [idxP, this]
theorem idxP_none {α : Type} (p : α → Bool) (l : List α) (hno : ∀ j (hj : j < l.length), p l[j] = false) : idxP p l = -1 := by
  have : l.findIdx? p = none := List.findIdx?_eq_none_iff.2 fun x hx => by
    obtain ⟨j, hj, rfl⟩ := List.getElem_of_mem hx
    exact hno j hj
  simp [idxP, this]
theorem idxP_any {α : Type} (p : α → Bool) (l : List α) : 0 ≤ idxP p l ↔ l.any p = true := by
  unfold idxP
  cases h : l.findIdx? p with
  | none => simp [List.findIdx?_eq_none_iff] at h; simp; exact h
  | some k =>
    obtain ⟨hk, he, _⟩ := List.findIdx?_eq_some_iff_getElem.1 h
    simp only [List.any_eq_true]
    exact ⟨fun _ => ⟨_, List.getElem_mem hk, he⟩, fun _ => by omega⟩

/-- Is another one ahead? -/
def anyA (C : Conf) (J : List JobT) (y : JobT) : Bool := J.any fun x => aheadB C x y
/-- Which job is picked. -/
def pickI (C : Conf) (J : List JobT) : Int := idxP (fun y => !anyA C J y) J

def TasksOk (C : Conf) (J : List JobT) : Prop := ∀ i (h : i < J.length), 0 ≤ J[i].1 ∧ J[i].1 < C.ta.length

set_option maxRecDepth 100000 in
set_option maxHeartbeats 1000000 in
theorem first11_any (kb cb jb : Nat) (D : Dom) (A : DMem) (C : Conf) (B : Mem) (dn : Int) (x y : JobT) (w : World) (hK : KeepIn w kb D A C B dn) (hc : w.cell? ⟨cb, 0, none⟩ = some (.pointer (some ⟨kb, 0, none⟩))) (hy : RowAt w jb 106 [.int .i64 y.1, .int .i64 y.2.1, .int .i64 y.2.2.1, .int .i64 y.2.2.2.1, .bool y.2.2.2.2.1, .bool y.2.2.2.2.2])
    (hx0 : 0 ≤ x.1) (hx1 : x.1 < C.ta.length) (hy0 : 0 ≤ y.1) (hy1 : y.1 < C.ta.length) :
    Calls Try.prog 141 #[jv x, .pointer (some ⟨cb, 0, none⟩), .pointer (some ⟨jb, 0, none⟩)] w fun e w' => e = .returned (.bool (aheadB C x y)) ∧ Below w.heap.size w w' := by
  obtain ⟨x0, x1, x2, x3, x4, x5⟩ := x
  obtain ⟨y0, y1, y2, y3, y4, y5⟩ := y
  dsimp only [jv] at *
  have q1 := below_new w (.cells #[.int .i64 x0, .int .i64 x1, .int .i64 x2, .int .i64 x3, .bool x4, .bool x5] 106)
  have HK := hid (hK.keep q1)
  have HB := hid q1
  have hc1 := bkeep q1 hc (Nat.le_refl _)
  have hy1' := hy.below q1 (Nat.le_refl _)
  have d0 := hy1'.cell 0 _ rfl
  have d1 := hy1'.cell 1 _ rfl
  have d2 := hy1'.cell 2 _ rfl
  have d3 := hy1'.cell 3 _ rfl
  have d4 := hy1'.cell 4 _ rfl
  have d5 := hy1'.cell 5 _ rfl
  clear hc hy hy1' q1 hK
  go_enter Try.func141, Try.ntmps141
  go_wp2_with fail
  refine (ahead_any kb D A C B dn (x0, x1, x2, x3, x4, x5) (y0, y1, y2, y3, y4, y5) _ HK.out hx0 hx1 hy0 hy1).mono ?_
  rintro e w1 ⟨rfl, hb1⟩
  generalize hq : aheadB C (x0, x1, x2, x3, x4, x5) (y0, y1, y2, y3, y4, y5) = q at *
  have HQ := hid hq
  clear hq
  go_wp2
  go_ret
  exact ⟨ret_bool HQ.out.symm, btrans HB.out hb1⟩

set_option maxRecDepth 100000 in
set_option maxHeartbeats 1000000 in
theorem index128_131 (kb cb jb : Nat) (D : Dom) (A : DMem) (C : Conf) (B : Mem) (dn : Int) (y : JobT) (w : World) (hK : KeepIn w kb D A C B dn) (hc : w.cell? ⟨cb, 0, none⟩ = some (.pointer (some ⟨kb, 0, none⟩))) (hy : RowAt w jb 106 [.int .i64 y.1, .int .i64 y.2.1, .int .i64 y.2.2.1, .int .i64 y.2.2.2.1, .bool y.2.2.2.2.1, .bool y.2.2.2.2.2])
    (hJ : TasksOk C D.jobs) (hy0 : 0 ≤ y.1) (hy1 : y.1 < C.ta.length) :
    Calls Try.prog 138 #[.slice A.aJ D.jobs.length A.cJ, .func (.func 141) #[] #[.pointer (some ⟨cb, 0, none⟩), .pointer (some ⟨jb, 0, none⟩)]] w fun e w' => e = .returned (.int .i64 (idxP (fun x => aheadB C x y) D.jobs)) ∧ Below w.heap.size w w' := by
  have HK := hid hK
  have HC := hid hc
  have HY := hid hy
  have hl := hK.dom.lJ
  have hw := hK.dom.jobs
  clear hK hc hy
  go_enter Try.func138, Try.ntmps138
  go_wp2
  go_loopw [8] (fun i wr => ∃ k : Nat, k ≤ D.jobs.length ∧ i = .int .i64 k ∧ Below w.heap.size w wr ∧ ∀ j (hj : j < D.jobs.length), j < k → aheadB C D.jobs[j] y = false) (fun i _ => D.jobs.length - (intOf i).toNat)
  case atStart => exact ⟨0, Nat.zero_le _, rfl, Below.refl _ _, by omega⟩
  case round =>
    obtain ⟨k, hk, rfl, hbl, hno⟩ := hrel
    have Hno := hid hno
    clear hno
    by_cases hlt : k < D.jobs.length
    · obtain ⟨b', o', e', c0, c1, c2, c3, c4, c5⟩ := hw k hlt
      have hj := hJ k hlt
      rw [e']
      replace c0 := bkeep hbl c0 (Nat.le_refl _)
      replace c1 := bkeep hbl c1 (Nat.le_refl _)
      replace c2 := bkeep hbl c2 (Nat.le_refl _)
      replace c3 := bkeep hbl c3 (Nat.le_refl _)
      replace c4 := bkeep hbl c4 (Nat.le_refl _)
      replace c5 := bkeep hbl c5 (Nat.le_refl _)
      go_wp2_with fail
      refine (first11_any kb cb jb D A C B dn D.jobs[k] y _ (HK.out.keep hbl) (bkeep hbl HC.out (Nat.le_refl _)) (HY.out.below hbl (Nat.le_refl _)) hj.1 hj.2 hy0 hy1).mono ?_
      rintro e w' ⟨rfl, hb2⟩
      cases hx : aheadB C D.jobs[k] y with
      | true =>
        have HX := hid (idxP_at (fun x => aheadB C x y) D.jobs k hlt hx Hno.out)
        clear hx
        go_wp2
        go_ret
        exact ⟨ret_int HX.out.symm, btrans hbl hb2⟩
      | false =>
        have HX := hid hx
        clear hx
        go_wp2
        go_roundw
        case rel =>
          refine ⟨k + 1, by omega, by go_num, btrans hbl hb2, fun j hj hlt2 => ?_⟩
          by_cases e : j = k
          · subst e; exact HX.out
          · exact Hno.out j hj (by omega)
        case measure => simp [intOf]; omega
    · go_wp2
      go_ret
      exact ⟨ret_int (idxP_none _ _ (fun j hj => Hno.out j hj (by omega))).symm, hbl⟩

set_option maxRecDepth 100000 in
set_option maxHeartbeats 1000000 in
theorem contains130_any (kb cb jb : Nat) (D : Dom) (A : DMem) (C : Conf) (B : Mem) (dn : Int) (y : JobT) (w : World) (hK : KeepIn w kb D A C B dn) (hc : w.cell? ⟨cb, 0, none⟩ = some (.pointer (some ⟨kb, 0, none⟩))) (hy : RowAt w jb 106 [.int .i64 y.1, .int .i64 y.2.1, .int .i64 y.2.2.1, .int .i64 y.2.2.2.1, .bool y.2.2.2.2.1, .bool y.2.2.2.2.2])
    (hJ : TasksOk C D.jobs) (hy0 : 0 ≤ y.1) (hy1 : y.1 < C.ta.length) :
    Calls Try.prog 140 #[.slice A.aJ D.jobs.length A.cJ, .func (.func 141) #[] #[.pointer (some ⟨cb, 0, none⟩), .pointer (some ⟨jb, 0, none⟩)]] w fun e w' => e = .returned (.bool (anyA C D.jobs y)) ∧ Below w.heap.size w w' := by
  have HK := hid hK
  have HC := hid hc
  have HY := hid hy
  clear hK hc hy
  go_enter Try.func140, Try.ntmps140
  go_wp2_with fail
  refine (index128_131 kb cb jb D A C B dn y _ HK.out HC.out HY.out hJ hy0 hy1).mono ?_
  rintro e w' ⟨rfl, hb⟩
  have HR := hid (idxP_any (fun x => aheadB C x y) D.jobs)
  generalize idxP (fun x => aheadB C x y) D.jobs = r at *
  go_wp2
  go_ret
  exact ⟨ret_bool (by rw [Bool.eq_iff_iff]; simpa [anyA] using HR.out), hb⟩

set_option maxRecDepth 100000 in
set_option maxHeartbeats 1000000 in
theorem first1_any (kb cb : Nat) (D : Dom) (A : DMem) (C : Conf) (B : Mem) (dn : Int) (y : JobT) (w : World) (hK : KeepIn w kb D A C B dn) (hc : w.cell? ⟨cb, 0, none⟩ = some (.pointer (some ⟨kb, 0, none⟩)))
    (hJ : TasksOk C D.jobs) (hy0 : 0 ≤ y.1) (hy1 : y.1 < C.ta.length) :
    Calls Try.prog 139 #[jv y, .pointer (some ⟨cb, 0, none⟩)] w fun e w' => e = .returned (.bool (!anyA C D.jobs y)) ∧ Below w.heap.size w w' := by
  obtain ⟨y0, y1, y2, y3, y4, y5⟩ := y
  dsimp only [jv] at *
  have q1 := below_new w (.cells #[.int .i64 y0, .int .i64 y1, .int .i64 y2, .int .i64 y3, .bool y4, .bool y5] 106)
  have hK1 := hK.keep q1
  have HK := hid hK1
  have HB := hid q1
  have HY := hid (rowAt_new2 w w.heap.size [.int .i64 y0, .int .i64 y1, .int .i64 y2, .int .i64 y3, .bool y4, .bool y5] 106 rfl)
  have hc1 := bkeep q1 hc (Nat.le_refl _)
  have c0 := hK1.row.cell 0 _ rfl
  have HC1 := hid hc1
  have hmf : ∀ (fn : Fn) (first cap : Array Value) (w : World), (Instr.makeFunc fn first cap).run Try.prog w = .ok (.func fn first cap) w := fun _ _ _ _ => rfl
  clear hc q1 hK hK1
  go_enter Try.func139, Try.ntmps139
  go_wp2_with fail
  refine (contains130_any kb cb w.heap.size D A C B dn (y0, y1, y2, y3, y4, y5) _ HK.out HC1.out HY.out hJ hy0 hy1).mono ?_
  rintro e w1 ⟨rfl, hb1⟩
  generalize hq : anyA C D.jobs (y0, y1, y2, y3, y4, y5) = q at *
  have HQ := hid hq
  clear hq
  go_wp2
  go_ret
  exact ⟨ret_bool (by rw [HQ.out]), btrans HB.out hb1⟩

set_option maxRecDepth 100000 in
set_option maxHeartbeats 1000000 in
theorem index128_129 (kb cb : Nat) (D : Dom) (A : DMem) (C : Conf) (B : Mem) (dn : Int) (w : World) (hK : KeepIn w kb D A C B dn) (hc : w.cell? ⟨cb, 0, none⟩ = some (.pointer (some ⟨kb, 0, none⟩))) (hJ : TasksOk C D.jobs) :
    Calls Try.prog 138 #[.slice A.aJ D.jobs.length A.cJ, .func (.func 139) #[] #[.pointer (some ⟨cb, 0, none⟩)]] w fun e w' => e = .returned (.int .i64 (pickI C D.jobs)) ∧ Below w.heap.size w w' := by
  have HK := hid hK
  have HC := hid hc
  have hl := hK.dom.lJ
  have hw := hK.dom.jobs
  clear hK hc
  go_enter Try.func138, Try.ntmps138
  go_wp2
  go_loopw [8] (fun i wr => ∃ k : Nat, k ≤ D.jobs.length ∧ i = .int .i64 k ∧ Below w.heap.size w wr ∧ ∀ j (hj : j < D.jobs.length), j < k → (!anyA C D.jobs D.jobs[j]) = false) (fun i _ => D.jobs.length - (intOf i).toNat)
  case atStart => exact ⟨0, Nat.zero_le _, rfl, Below.refl _ _, by omega⟩
  case round =>
    obtain ⟨k, hk, rfl, hbl, hno⟩ := hrel
    have Hno := hid hno
    clear hno
    by_cases hlt : k < D.jobs.length
    · obtain ⟨b', o', e', c0, c1, c2, c3, c4, c5⟩ := hw k hlt
      have hj := hJ k hlt
      rw [e']
      replace c0 := bkeep hbl c0 (Nat.le_refl _)
      replace c1 := bkeep hbl c1 (Nat.le_refl _)
      replace c2 := bkeep hbl c2 (Nat.le_refl _)
      replace c3 := bkeep hbl c3 (Nat.le_refl _)
      replace c4 := bkeep hbl c4 (Nat.le_refl _)
      replace c5 := bkeep hbl c5 (Nat.le_refl _)
      go_wp2_with fail
      refine (first1_any kb cb D A C B dn D.jobs[k] _ (HK.out.keep hbl) (bkeep hbl HC.out (Nat.le_refl _)) hJ hj.1 hj.2).mono ?_
      rintro e w' ⟨rfl, hb2⟩
      cases hx : !anyA C D.jobs D.jobs[k] with
      | true =>
        have HX := hid (idxP_at (fun y => !anyA C D.jobs y) D.jobs k hlt hx Hno.out)
        clear hx
        go_wp2
        go_ret
        exact ⟨ret_int HX.out.symm, btrans hbl hb2⟩
      | false =>
        have HX := hid hx
        clear hx
        go_wp2
        go_roundw
        case rel =>
          refine ⟨k + 1, by omega, by go_num, btrans hbl hb2, fun j hj hlt2 => ?_⟩
          by_cases e : j = k
          · subst e; exact HX.out
          · exact Hno.out j hj (by omega)
        case measure => simp [intOf]; omega
    · go_wp2
      go_ret
      exact ⟨ret_int (idxP_none (fun y => !anyA C D.jobs y) _ (fun j hj => Hno.out j hj (by omega))).symm, hbl⟩

set_option maxRecDepth 100000 in
set_option maxHeartbeats 1000000 in
theorem first_any (kb : Nat) (D : Dom) (A : DMem) (C : Conf) (B : Mem) (dn : Int) (w : World) (hK : KeepIn w kb D A C B dn) (hJ : TasksOk C D.jobs) :
    Calls Try.prog 102 #[.pointer (some ⟨kb, 0, none⟩)] w fun e w' => e = .returned (.int .i64 (pickI C D.jobs)) ∧ Below w.heap.size w w' := by
  have q1 := below_new w (.cells #[.pointer (some ⟨kb, 0, none⟩)] 178)
  have hK1 := hK.keep q1
  have HK := hid hK1
  have HB := hid q1
  have HC := hid ((rowAt_new2 w w.heap.size [.pointer (some ⟨kb, 0, none⟩)] 178 rfl).cell 0 _ rfl)
  have c0 := hK1.row.cell 0 _ rfl
  have hmf : ∀ (fn : Fn) (first cap : Array Value) (w : World), (Instr.makeFunc fn first cap).run Try.prog w = .ok (.func fn first cap) w := fun _ _ _ _ => rfl
  clear q1 hK hK1
  go_enter Try.func102, Try.ntmps102
  go_wp2_with fail
  refine (index128_129 kb w.heap.size D A C B dn _ HK.out HC.out hJ).mono ?_
  rintro e w1 ⟨rfl, hb1⟩
  generalize hq : pickI C D.jobs = q at *
  have HQ := hid hq
  clear hq
  go_wp2
  go_ret
  exact ⟨ret_int HQ.out.symm, btrans HB.out hb1⟩

end Go.Proofs.Ytaellaconpaejaa
