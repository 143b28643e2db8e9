/- Walks: the checks of a config's lists. -/
import Derived.Test.YtaellaconpaejaaNb
set_option linter.unusedVariables false
namespace Go.Proofs.Ytaellaconpaejaa
open Go.RowKit

theorem BoxC.lt {w : World} {b : Nat} {A : Mem} {C : Conf} (h : BoxC w b C A) : b < w.heap.size := World.block_lt_of_cell? _ _ h.h0

theorem rowAt_new2 (w : World) (n : Nat) (L : List Value) (t : TypeId) (h : w.heap.size = n) : RowAt (w.alloc (.cells L.toArray t)) n t L := by
  subst h; exact heap_alloc_new _ _

theorem cell_old {w : World} {p : Addr} {v : Value} (o : Obj) (h : w.cell? p = some v) : (w.alloc o).cell? p = some v := bkeep (below_new w o) h (Nat.le_refl _)

set_option maxHeartbeats 1000000 in
theorem checkSlots_any (C : Conf) (A : Mem) (w : World) (hC : ConfIn w A C) (hd1 : 1 ≤ C.d) (hd4 : C.d ≤ 4) :
    Calls Try.prog 83 #[cv C A] w fun e w' => e = .returned (.int .i64 (ckSlots C)) ∧ Below w.heap.size w w' := by
  have l5 := hC.l5
  have q1 := below_new w (.cells (cl C A) 46)
  have B1 := hid (boxC_new w C A)
  have hS := hC.sl.keep q1
  obtain ⟨a5, a6, a7, a8, c5, c6, c7, c8⟩ := A
  dsimp only [cv, cl] at *
  go_enter Try.func83, Try.ntmps83
  go_wp2
  generalize hW : World.alloc _ _ = W at *
  clear hW hC
  go_loopw [8] (fun i wr => ∃ k : Nat, k ≤ C.sl.length ∧ i = .int .i64 k ∧ Below W.heap.size W wr ∧ ∀ j, j < k → ckSl C.d (C.sl.getD j (0, 0)) = 0) (fun i _ => C.sl.length - (intOf i).toNat)
  case atStart => exact ⟨0, Nat.zero_le _, rfl, Below.refl _ _, by omega⟩
  case round =>
    obtain ⟨k, hk, rfl, hbl, hno⟩ := hrel
    have Hno := hid hno
    clear hno
    by_cases hlt : k < C.sl.length
    · obtain ⟨b', o', rfl, hc1, hc2⟩ := hS k hlt
      have hc1' := bkeep hbl hc1 (Nat.le_refl _)
      have hc2' := bkeep hbl hc2 (Nat.le_refl _)
      have HD : Hid (C.sl.getD k (0, 0) = C.sl[k]) := getD_of _ _ hlt _
      have hbx := (B1.out.keep hbl).lt
      obtain ⟨g0, g1, g2, g3, g4, g5, g6, g7, g8⟩ := B1.out.keep hbl
      dsimp only at g5 g6 g7 g8
      have HF : Hid (ckSl C.d C.sl[k] ≠ 0 → ckSlots C = ckSl C.d C.sl[k]) := by
        intro h0
        show fe _ _ = _
        have := fe_at C.sl.length k (fun i => ckSl C.d (C.sl.getD i (0, 0))) hlt (by simp only [getD_of _ _ hlt]; exact h0) Hno.out
        rw [this]; simp only [getD_of _ _ hlt]
      generalize C.sl[k] = x at *
      obtain ⟨x1, x2⟩ := x
      simp only at hc1' hc2'
      clear hc1 hc2
      have q3 := below_new wr (.cells #[.int .i64 x1, .int .i64 x2] 114)
      have r3 : RowAt (wr.alloc (.cells #[.int .i64 x1, .int .i64 x2] 114)) wr.heap.size 114 [.int .i64 x1, .int .i64 x2] := rowAt_new2 wr _ [.int .i64 x1, .int .i64 x2] 114 rfl
      go_wp2_with fail
      refine (isDomain_any _ _ _ _ _ _ _ _ C.d x1 hd1 hd4 _).mono ?_
      rintro e w2 ⟨rfl, hb2⟩
      have hc4 := (r3.below hb2 (Nat.le_refl _)).cell 1 _ rfl
      have q2 := btrans q3 hb2
      clear hb2 q3 r3
      cases hx : isD C.d x1 with
      | false =>
        have e1 : ckSl C.d (x1, x2) = 5 := by simp [ckSl, hx]
        have HE := HF.out (by rw [e1]; decide)
        rw [e1] at HE
        clear HF hx e1
        have HE := hid HE
        go_wp2
        go_ret
        exact ⟨ret_int HE.out.symm, btrans q1 (btrans hbl q2)⟩
      | true =>
        have HX := hid hx
        clear hx
        go_wp2_with fail
        refine (within_any _ _ _ _).mono ?_
        rintro e w' ⟨rfl, rfl⟩
        cases hy : inR x2 100 1000 with
        | false =>
          have e1 : ckSl C.d (x1, x2) = 3 := by simp [ckSl, HX.out, hy]
          have HE := HF.out (by rw [e1]; decide)
          rw [e1] at HE
          clear HF hy e1
          have HE := hid HE
          go_wp2
          go_ret
          exact ⟨ret_int HE.out.symm, btrans q1 (btrans hbl q2)⟩
        | true =>
          have HY := hid hy
          clear hy
          go_wp2
          go_roundw
          case rel =>
            refine ⟨k + 1, by omega, by go_num, btrans hbl q2, fun j hj => ?_⟩
            by_cases e : j = k
            · subst e; rw [HD.out]; simp [ckSl, HX.out, HY.out]
            · exact Hno.out j (by omega)
          case measure => simp [intOf]; omega
    · go_wp2
      go_ret
      exact ⟨ret_int (fe_zero _ _ (fun j hj => Hno.out j (by omega))).symm, btrans q1 hbl⟩

end Go.Proofs.Ytaellaconpaejaa
