/- Walks: what Receive comes to. -/
import Derived.Test.YtaellaconpaejaaXd
import Derived.Test.YtaellaconpaejaaOc
set_option linter.unusedVariables false
namespace Go.Proofs.Ytaellaconpaejaa
open Go.RowKit

/-- What Receive answers: what waits, the value, the error (Lost beside it). -/
def recvV (V : List Int) (lost size : Int) : List Int := if ckR V lost size = 0 then V.drop 1 else []
def recvL (V : List Int) (lost size : Int) : Int := if ckR V lost size = 0 then lost else 0
def recvX (V : List Int) (lost size : Int) : Int := if ckR V lost size = 0 then V.headD (-1) else 0

set_option maxRecDepth 100000 in
set_option maxHeartbeats 1000000 in
theorem receive_bad (a : Option Addr) (V : List Int) (cap : Nat) (lost size : Int) (w : World) (hw : IntsIn w a V) (hl : V.length ≤ 9223372036854775807) (h0 : ckR V lost size ≠ 0) :
    Calls Try.prog 35 #[.agg #[.slice a V.length cap, .int .i64 lost], .int .i64 size] w fun e w' => e = .returned (.tuple #[.agg #[.slice none 0 0, .int .i64 0], .int .i64 0, .int .i64 (ckR V lost size)]) ∧ Below w.heap.size w w' := by
  have q1 := below_new w (.cells #[.slice a V.length cap, .int .i64 lost] 63)
  have q2 := below_new (w.alloc (.cells #[.slice a V.length cap, .int .i64 lost] 63)) (.cells #[.slice none 0 0, .int .i64 0] 63)
  have HB := hid (btrans q1 q2)
  have HW := hid (hw.keep (btrans q1 q2))
  have R4 : Hid (RowAt ((w.alloc (.cells #[.slice a V.length cap, .int .i64 lost] 63)).alloc (.cells #[.slice none 0 0, .int .i64 0] 63)) (w.heap.size + 1) 63 [.slice none 0 0, .int .i64 0]) := hid (rowAt_new2 _ _ [.slice none 0 0, .int .i64 0] 63 (by simp))
  clear q1 q2 hw
  go_enter Try.func35, Try.ntmps35
  go_wp2_with fail
  refine (ringCheck_any a V cap lost size _ HW.out hl).mono ?_
  rintro e w2 ⟨rfl, hb2⟩
  have hx : (ckR V lost size != 0) = true := by simp [h0]
  have R5 := hid (R4.out.below hb2 (Nat.le_refl _))
  have B5 := hid (btrans HB.out hb2)
  have x0 := R5.out.cell 0 _ rfl
  have y0 := R5.out.frozen 0
  have x1 := R5.out.cell 1 _ rfl
  have y1 := R5.out.frozen 1
  clear h0 hb2 HB HW R4
  generalize hq : ckR V lost size = q at *
  have HQ := hid hq
  clear hq
  have R6 := hid ((R5.out.setCell 0 (.slice none 0 0)).setCell 1 (.int .i64 0))
  have B6 := hid ((B5.out.setCell (p := ⟨w.heap.size + 1, 0, none⟩) (by show w.heap.size ≤ w.heap.size + 1; omega) (.slice none 0 0)).setCell (p := ⟨w.heap.size + 1, 1, none⟩) (by show w.heap.size ≤ w.heap.size + 1; omega) (.int .i64 0))
  clear R5 B5
  go_wp2
  have d0 := R6.out.cell 0 _ rfl
  have d1 := R6.out.cell 1 _ rfl
  exact bodyPost_ret (v := .tuple #[.agg #[.slice none 0 0, .int .i64 0], .int .i64 0, .int .i64 q]) (by simp [results, Try.results35, go_sem, d0, d1]) rfl ⟨by rw [HQ.out], B6.out⟩

set_option maxRecDepth 100000 in
set_option maxHeartbeats 1000000 in
theorem receive_none (a : Option Addr) (cap : Nat) (lost size : Int) (w : World) (h0 : ckR [] lost size = 0) :
    Calls Try.prog 35 #[.agg #[.slice a 0 cap, .int .i64 lost], .int .i64 size] w fun e w' => e = .returned (.tuple #[.agg #[.slice none 0 0, .int .i64 lost], .int .i64 (-1), .int .i64 0]) ∧ Below w.heap.size w w' := by
  have q1 := below_new w (.cells #[.slice a 0 cap, .int .i64 lost] 63)
  have q2 := below_new (w.alloc (.cells #[.slice a 0 cap, .int .i64 lost] 63)) (.cells #[.slice none 0 0, .int .i64 0] 63)
  have HB := hid (btrans q1 q2)
  have R2 : Hid (RowAt ((w.alloc (.cells #[.slice a 0 cap, .int .i64 lost] 63)).alloc (.cells #[.slice none 0 0, .int .i64 0] 63)) w.heap.size 63 [.slice a 0 cap, .int .i64 lost]) := hid ((rowAt_new2 w _ [.slice a 0 cap, .int .i64 lost] 63 rfl).alloc _)
  have R4 : Hid (RowAt ((w.alloc (.cells #[.slice a 0 cap, .int .i64 lost] 63)).alloc (.cells #[.slice none 0 0, .int .i64 0] 63)) (w.heap.size + 1) 63 [.slice none 0 0, .int .i64 0]) := hid (rowAt_new2 _ _ [.slice none 0 0, .int .i64 0] 63 (by simp))
  clear q1 q2
  go_enter Try.func35, Try.ntmps35
  go_wp2_with fail
  refine (ringCheck_any a [] cap lost size _ (fun i hi => absurd hi (by simp)) (by simp)).mono ?_
  rintro e w2 ⟨rfl, hb2⟩
  rw [h0]
  have R3 := hid (R2.out.below hb2 (Nat.le_refl _))
  have R5 := hid (R4.out.below hb2 (Nat.le_refl _))
  have B5 := hid (btrans HB.out hb2)
  have z0 := R3.out.cell 0 _ rfl
  have z1 := R3.out.cell 1 _ rfl
  have x0 := R5.out.cell 0 _ rfl
  have y0 := R5.out.frozen 0
  have x1 := R5.out.cell 1 _ rfl
  have y1 := R5.out.frozen 1
  clear h0 hb2 HB R4 R2
  have R6 := hid ((R5.out.setCell 0 (.slice none 0 0)).setCell 1 (.int .i64 lost))
  have B6 := hid ((B5.out.setCell (p := ⟨w.heap.size + 1, 0, none⟩) (by show w.heap.size ≤ w.heap.size + 1; omega) (.slice none 0 0)).setCell (p := ⟨w.heap.size + 1, 1, none⟩) (by show w.heap.size ≤ w.heap.size + 1; omega) (.int .i64 lost))
  clear R5 B5
  go_wp2
  have d0 := R6.out.cell 0 _ rfl
  have d1 := R6.out.cell 1 _ rfl
  exact bodyPost_ret (v := .tuple #[.agg #[.slice none 0 0, .int .i64 lost], .int .i64 (-1), .int .i64 0]) (by simp [results, Try.results35, go_sem, d0, d1]) rfl ⟨rfl, B6.out⟩

set_option maxRecDepth 100000 in
set_option maxHeartbeats 2000000 in
theorem receive_one (b o : Nat) (x : Int) (V : List Int) (cap : Nat) (lost size : Int) (w : World) (hw : IntsIn w (some ⟨b, o, none⟩) (x :: V)) (hl : (x :: V).length ≤ cap) (h0 : ckR (x :: V) lost size = 0) :
    Calls Try.prog 35 #[.agg #[.slice (some ⟨b, o, none⟩) (x :: V).length cap, .int .i64 lost], .int .i64 size] w fun e w' => ∃ v, e = .returned (.tuple #[.agg #[v, .int .i64 lost], .int .i64 x, .int .i64 0]) ∧ w'.ownsRow w.heap.size 3 1 v V.length (ivs V) ∧ Below w.heap.size w w' := by
  have q1 := below_new w (.cells #[.slice (some ⟨b, o, none⟩) (x :: V).length cap, .int .i64 lost] 63)
  have q2 := below_new (w.alloc (.cells #[.slice (some ⟨b, o, none⟩) (x :: V).length cap, .int .i64 lost] 63)) (.cells #[.slice none 0 0, .int .i64 0] 63)
  have HB := hid (btrans q1 q2)
  have HW := hid (hw.keep (btrans q1 q2))
  have R2 : Hid (RowAt ((w.alloc (.cells #[.slice (some ⟨b, o, none⟩) (x :: V).length cap, .int .i64 lost] 63)).alloc (.cells #[.slice none 0 0, .int .i64 0] 63)) w.heap.size 63 [.slice (some ⟨b, o, none⟩) (x :: V).length cap, .int .i64 lost]) := hid ((rowAt_new2 w _ [.slice (some ⟨b, o, none⟩) (x :: V).length cap, .int .i64 lost] 63 rfl).alloc _)
  have R4 : Hid (RowAt ((w.alloc (.cells #[.slice (some ⟨b, o, none⟩) (x :: V).length cap, .int .i64 lost] 63)).alloc (.cells #[.slice none 0 0, .int .i64 0] 63)) (w.heap.size + 1) 63 [.slice none 0 0, .int .i64 0]) := hid (rowAt_new2 _ _ [.slice none 0 0, .int .i64 0] 63 (by simp))
  have hk := ckR_ok h0
  have h4 : V.length + 1 ≤ 4 := by have := hk.1.2; have := hk.2.1; simp at this; omega
  have hbl : b < w.heap.size := by
    obtain ⟨b', o', e, hc⟩ := hw 0 (by simp)
    simp only [Option.some.injEq, Addr.mk.injEq, and_true] at e
    obtain ⟨rfl, rfl⟩ := e
    exact World.block_lt_of_cell? _ _ hc
  simp only [List.length_cons] at *
  clear q1 q2 hw hk
  go_enter Try.func35, Try.ntmps35
  go_wp2_with fail
  refine (ringCheck_any (some ⟨b, o, none⟩) (x :: V) cap lost size _ HW.out (by simp; omega)).mono ?_
  rintro e w2 ⟨rfl, hb2⟩
  rw [h0]
  have R3 := hid (R2.out.below hb2 (Nat.le_refl _))
  have R5 := hid (R4.out.below hb2 (Nat.le_refl _))
  have B5 := hid (btrans HB.out hb2)
  have W5 := hid (HW.out.keep hb2)
  have z0 := R3.out.cell 0 _ rfl
  have z1 := R3.out.cell 1 _ rfl
  have hc0 : w2.cell? ⟨b, o, none⟩ = some (.int .i64 x) := by
    obtain ⟨b', o', e, hc⟩ := W5.out 0 (by simp)
    simp only [Option.some.injEq, Addr.mk.injEq, and_true] at e
    obtain ⟨rfl, rfl⟩ := e
    simpa using hc
  have W6 : Hid (IntsIn w2 (some ⟨b, o + 1, none⟩) V) := hid (by
    intro i hi
    obtain ⟨b', o', e, hc⟩ := W5.out (i + 1) (by simp; omega)
    simp only [Option.some.injEq, Addr.mk.injEq, and_true] at e
    obtain ⟨rfl, rfl⟩ := e
    exact ⟨b, o + 1, rfl, by simpa [Nat.add_assoc, Nat.add_comm 1] using hc⟩)
  have hi1 : (1 : Int) ≤ ((V.length + 1 : Nat) : Int) := by omega
  have hi2 : ((V.length + 1 : Nat) : Int) ≤ (cap : Int) := by omega
  have hi3 : (0 : Int) < ((V.length + 1 : Nat) : Int) := by omega
  have hi4 : (1 : Int) ≤ (V.length : Int) + 1 := by omega
  have hi5 : (0 : Int) < (V.length : Int) + 1 := by omega
  clear h0 hb2 HB HW R4 R2
  have hbz : Below w2.heap.size w2 w2.drew := (Below.refl _ _).drew
  have hne : ¬ w.heap.size + 1 = w.heap.size := by omega
  have hneb : ¬ w.heap.size + 1 = b := by omega
  have HS : Hid (∀ w', Below w2.heap.size w2 w' → w'.cell? ⟨w.heap.size, 0, none⟩ = some (.slice (some ⟨b, o, none⟩) (V.length + 1) cap) ∧ w'.cell? ⟨w.heap.size, 1, none⟩ = some (.int .i64 lost) ∧ w'.cell? ⟨b, o, none⟩ = some (.int .i64 x)) := hid fun w' hb => ⟨bkeep hb z0 (Nat.le_refl _), bkeep hb z1 (Nat.le_refl _), bkeep hb hc0 (Nat.le_refl _)⟩
  have HR : Hid (∀ w', Below w2.heap.size w2 w' → RowAt w' (w.heap.size + 1) 63 [.slice none 0 0, .int .i64 0]) := hid fun w' hb => R5.out.below hb (Nat.le_refl _)
  have hsz2 : w.heap.size ≤ w2.heap.size := B5.out.size
  by_cases hcap : cap = 1
  · subst hcap
    obtain rfl : V = [] := List.eq_nil_of_length_eq_zero (by omega)
    have W7 : Hid (IntsIn w2 (some ⟨b, o, none⟩) []) := hid fun i hi => absurd hi (by simp)
    simp only [List.length_nil, Nat.zero_add] at *
    go_wp2_with fail
    go_region_held3 (fun w' => w'.cell? ⟨w.heap.size, 0, none⟩ = some (.slice (some ⟨b, o, none⟩) 1 1) ∧ w'.cell? ⟨w.heap.size, 1, none⟩ = some (.int .i64 lost) ∧ w'.cell? ⟨b, o, none⟩ = some (.int .i64 x))
      (first | exact HS.out _ hB3 | exact HS.out _ hbz | go_keep)
      (first
        | (go_at_call 93; refine (clone87_any (some ⟨b, o, none⟩) [] _ _ (by exact W7.out) (by simp) (by simp)).mono ?_; rintro e w3 ⟨v, rfl, hown3, hb3⟩; have hB3 := btrans hbz hb3; have u0 := (HR.out _ hB3).cell 0 _ rfl; have u1 := (HR.out _ hB3).cell 1 _ rfl; have f0 := (HR.out _ hB3).frozen 0; have f1 := (HR.out _ hB3).frozen 1; have HO3 := hid hown3; obtain ⟨a3, k3, rfl, -, -, -, -, -⟩ := ints_own hown3; clear hown3))
    have hlt5 := R5.out.lt
    have R6 := hid (((HR.out _ hB3).setCell 0 (.slice a3 0 k3)).setCell 1 (.int .i64 lost))
    have B6 := hid (((btrans B5.out hB3).setCell (p := ⟨w.heap.size + 1, 0, none⟩) (by show w.heap.size ≤ w.heap.size + 1; omega) (.slice a3 0 k3)).setCell (p := ⟨w.heap.size + 1, 1, none⟩) (by show w.heap.size ≤ w.heap.size + 1; omega) (.int .i64 lost))
    have O6 := hid (ownsx_mono (ownsx_set (ownsx_set HO3.out 0 (.slice a3 0 k3) (b := w.heap.size + 1) hlt5) 1 (.int .i64 lost) (b := w.heap.size + 1) hlt5) (base' := w.heap.size) hsz2)
    clear HO3 HR HS u0 u1 f0 f1
    go_wp2
    have d0 := R6.out.cell 0 _ rfl
    have d1 := R6.out.cell 1 _ rfl
    exact bodyPost_ret (v := .tuple #[.agg #[.slice a3 0 k3, .int .i64 lost], .int .i64 x, .int .i64 0]) (by simp [results, Try.results35, go_sem, d0, d1]) rfl ⟨_, rfl, O6.out, B6.out⟩
  · go_wp2_with fail
    go_region_held3 (fun w' => w'.cell? ⟨w.heap.size, 0, none⟩ = some (.slice (some ⟨b, o, none⟩) (V.length + 1) cap) ∧ w'.cell? ⟨w.heap.size, 1, none⟩ = some (.int .i64 lost) ∧ w'.cell? ⟨b, o, none⟩ = some (.int .i64 x))
      (first | exact HS.out _ hB3 | exact HS.out _ hbz | go_keep)
      (first
        | (go_at_call 93; refine (clone87_any (some ⟨b, o + 1, none⟩) V _ _ (by exact W6.out) (by omega) (by simp)).mono ?_; rintro e w3 ⟨v, rfl, hown3, hb3⟩; have hB3 := btrans hbz hb3; have u0 := (HR.out _ hB3).cell 0 _ rfl; have u1 := (HR.out _ hB3).cell 1 _ rfl; have f0 := (HR.out _ hB3).frozen 0; have f1 := (HR.out _ hB3).frozen 1; have HO3 := hid hown3; obtain ⟨a3, k3, rfl, -, -, -, -, -⟩ := ints_own hown3; clear hown3))
    have hlt5 := R5.out.lt
    have R6 := hid (((HR.out _ hB3).setCell 0 (.slice a3 V.length k3)).setCell 1 (.int .i64 lost))
    have B6 := hid (((btrans B5.out hB3).setCell (p := ⟨w.heap.size + 1, 0, none⟩) (by show w.heap.size ≤ w.heap.size + 1; omega) (.slice a3 V.length k3)).setCell (p := ⟨w.heap.size + 1, 1, none⟩) (by show w.heap.size ≤ w.heap.size + 1; omega) (.int .i64 lost))
    have O6 := hid (ownsx_mono (ownsx_set (ownsx_set HO3.out 0 (.slice a3 V.length k3) (b := w.heap.size + 1) hlt5) 1 (.int .i64 lost) (b := w.heap.size + 1) hlt5) (base' := w.heap.size) hsz2)
    clear HO3 HR HS u0 u1 f0 f1
    go_wp2
    have d0 := R6.out.cell 0 _ rfl
    have d1 := R6.out.cell 1 _ rfl
    exact bodyPost_ret (v := .tuple #[.agg #[.slice a3 V.length k3, .int .i64 lost], .int .i64 x, .int .i64 0]) (by simp [results, Try.results35, go_sem, d0, d1]) rfl ⟨_, rfl, O6.out, B6.out⟩

/-- What Receive comes to. -/
theorem receive_any (a : Option Addr) (V : List Int) (cap : Nat) (lost size : Int) (w : World) (hw : IntsIn w a V) (hl : V.length ≤ 9223372036854775807) (hc : V.length ≤ cap) :
    Calls Try.prog 35 #[.agg #[.slice a V.length cap, .int .i64 lost], .int .i64 size] w fun e w' => ∃ v, e = .returned (.tuple #[.agg #[v, .int .i64 (recvL V lost size)], .int .i64 (recvX V lost size), .int .i64 (ckR V lost size)]) ∧ w'.ownsRow w.heap.size 3 1 v (recvV V lost size).length (ivs (recvV V lost size)) ∧ Below w.heap.size w w' := by
  by_cases h0 : ckR V lost size = 0
  · cases V with
    | nil =>
      refine (receive_none a cap lost size w h0).mono ?_
      rintro e w' ⟨rfl, hb⟩
      exact ⟨.slice none 0 0, by simp [recvL, recvX, h0], by simp [recvV, ivs]; exact World.ownsRow_nil _ _ _ _, hb⟩
    | cons x V =>
      obtain ⟨b, o, rfl, _⟩ := hw 0 (by simp)
      refine (receive_one b o x V cap lost size w hw hc h0).mono ?_
      rintro e w' ⟨v, rfl, ho, hb⟩
      exact ⟨v, by simp [recvL, recvX, h0], by simp only [recvV, h0, if_true]; exact ho, hb⟩
  · refine (receive_bad a V cap lost size w hw hl h0).mono ?_
    rintro e w' ⟨rfl, hb⟩
    exact ⟨.slice none 0 0, by simp [recvL, recvX, h0], by simp [recvV, h0, ivs]; exact World.ownsRow_nil _ _ _ _, hb⟩

end Go.Proofs.Ytaellaconpaejaa
