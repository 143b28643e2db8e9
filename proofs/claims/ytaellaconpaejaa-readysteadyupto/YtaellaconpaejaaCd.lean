/- Walks: what a check of a cache comes to. -/
import Derived.Test.YtaellaconpaejaaCc
set_option linter.unusedVariables false
namespace Go.Proofs.Ytaellaconpaejaa
open Go.RowKit

theorem ckSet_def (C : List (List (Int × Bool))) (j : Nat) (h : j < C.length) : ckSet C j = fe C[j].length fun i => ckWay C[j] i j C.length := by
  have e : C.getD j [] = C[j] := by simp [h]
  rw [ckSet, e]

set_option maxHeartbeats 1000000 in
theorem check_any (a : Option Addr) (C : List (List (Int × Bool))) (cap : Nat) (w : World) (hw : CacheIn w a C) (hl : C.length ≤ 9223372036854775807) :
    Calls Try.prog 23 #[.agg #[.slice a C.length cap]] w fun e w' => e = .returned (.int .i64 (ck C)) ∧ Below w.heap.size w w' := by
  have h1 : Below w.heap.size w (w.alloc (.cells #[.slice a C.length cap] 24)) := (Below.refl _ _).alloc (Nat.le_refl _) _
  have hw1 := hw.keep h1
  have hc : (w.alloc (.cells #[.slice a C.length cap] 24)).cell? ⟨w.heap.size, 0, none⟩ = some (.slice a C.length cap) := by simp
  go_enter Try.func23, Try.ntmps23
  go_wp2_with fail
  refine (checkShape_any a C cap _ hw1 hl).mono ?_
  rintro e w2 ⟨rfl, hb2⟩
  by_cases hs : ckShape C = 0
  · have HS := hid hs
    have hlen4 : (C.length : Int) ≤ 4 ∧ (1 : Int) ≤ C.length := by
      unfold ckShape at hs
      split at hs
      · omega
      · rename_i h; simp [inR] at h; omega
    obtain ⟨hl4, hl1⟩ := hlen4
    rw [hs]
    clear hs
    have hc2 := bkeep hb2 hc (by simp)
    have hw2 := hw1.keep hb2
    have h2 := btrans h1 hb2
    clear hw1 hb2 h1 hc
    go_wp2
    go_loopw [17] (fun i wr => ∃ k : Nat, k ≤ C.length ∧ i = .int .i64 k ∧ Below w2.heap.size w2 wr ∧ ∀ j, j < k → ckSet C j = 0) (fun i _ => C.length - (intOf i).toNat)
    case atStart => exact ⟨0, Nat.zero_le _, rfl, Below.refl _ _, by omega⟩
    case round =>
      obtain ⟨k, hk, rfl, hbl, hno⟩ := hrel
      have Hno := hid hno
      clear hno
      have hc3 := bkeep hbl hc2 (Nat.le_refl _)
      by_cases hlt : k < C.length
      · obtain ⟨b', o', a2, cap2, rfl, hc1, hws, hcap, hlen⟩ := hw2 k hlt
        have hc1' := bkeep hbl hc1 (Nat.le_refl _)
        have hws' := hws.keep hbl
        go_wp2
        go_loopw [24] (fun i wi => ∃ m : Nat, m ≤ C[k].length ∧ i = .int .i64 m ∧ Below wr.heap.size wr wi ∧ ∀ j, j < m → ckWay C[k] j k C.length = 0) (fun i _ => C[k].length - (intOf i).toNat)
        case atStart => exact ⟨0, Nat.zero_le _, rfl, Below.refl _ _, by omega⟩
        case round =>
          obtain ⟨m, hm, rfl, hbi, hno2⟩ := hrel
          have Hno2 := hid hno2
          clear hno2
          by_cases hlm : m < C[k].length
          · obtain ⟨b2, o2, e2, hd1, hd2⟩ := hws m hlm
            subst e2
            have hc4 := bkeep hbi hc3 (Nat.le_refl _)
            go_wp2_with fail
            refine (checkWay_any b2 o2 C[k] cap2 m k C.length _ (hws'.keep hbi) hlm hcap hlen hl1 hl4).mono ?_
            rintro e w5 ⟨rfl, hb5⟩
            by_cases hx : ckWay C[k] m k C.length = 0
            · have HX := hid hx
              rw [hx]
              clear hx
              go_wp2
              go_roundw
              case rel =>
                refine ⟨m + 1, by omega, by go_num, btrans hbi hb5, fun j hj => ?_⟩
                by_cases e : j = m
                · subst e; exact HX.out
                · exact Hno2.out j (by omega)
              case measure => simp [intOf]; omega
            · have HX := hid hx
              have hx' : (ckWay C[k] m k C.length != 0) = true := by simp [hx]
              have HX2 : Hid (ck C = ckWay C[k] m k C.length) := by
                have e1 : ckSet C k = ckWay C[k] m k C.length := by
                  rw [ckSet_def C k hlt]
                  exact fe_at _ m _ hlm hx (fun j hj => Hno2.out j hj)
                show ck C = _
                rw [ck, HS.out]
                simp only [ne_eq, not_true_eq_false, if_false]
                rw [fe_at C.length k (ckSet C) hlt (by rw [e1]; exact hx) (fun j hj => Hno.out j hj), e1]
              clear hx
              generalize ckWay C[k] m k C.length = q at *
              go_wp2
              go_ret
              exact ⟨ret_int HX2.out.symm, btrans h2 (btrans hbl (btrans hbi hb5))⟩
          · go_wp2
            go_roundw
            case rel =>
              refine ⟨k + 1, by omega, by go_num, btrans hbl hbi, fun j hj => ?_⟩
              by_cases e : j = k
              · subst e
                rw [ckSet_def C j hlt]
                exact fe_zero _ _ (fun i hi => Hno2.out i (by omega))
              · exact Hno.out j (by omega)
            case measure => simp [intOf]; omega
      · go_wp2
        go_ret
        exact ⟨ret_int (by rw [ck, HS.out]; simp [fe_zero C.length _ (fun j hj => Hno.out j (by omega))]), btrans h2 hbl⟩
  · have HS : Hid (ck C = ckShape C) := by show ck C = _; rw [ck]; simp [hs]
    have hs' : (ckShape C != 0) = true := by simp [hs]
    clear hs
    generalize ckShape C = q at *
    go_wp2
    go_ret
    exact ⟨ret_int HS.out.symm, btrans h1 hb2⟩

end Go.Proofs.Ytaellaconpaejaa
