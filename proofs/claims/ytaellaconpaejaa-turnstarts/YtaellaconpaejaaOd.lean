/- Walks: Encode; a channel followed. -/
import Derived.Test.YtaellaconpaejaaOc
set_option linter.unusedVariables false
namespace Go.Proofs.Ytaellaconpaejaa
open Go.RowKit

/-- What Encode answers. -/
def encA (C : Conf) : Value := .tuple #[.string (if ckC C = 0 then bstr (en C) else ⟨#[]⟩), .int .i64 (ckC C)]

set_option maxHeartbeats 1000000 in
theorem encode_any (C : Conf) (A : Mem) (w : World) (hC : ConfIn w A C) :
    Calls Try.prog 24 #[cv C A] w fun e w' => e = .returned (encA C) ∧ Below w.heap.size w w' := by
  have q1 := below_new w (.cells (cl C A) 46)
  have HC := hid (hC.keep q1)
  have HB := hid (boxC_new w C A)
  have HQ := hid q1
  clear q1 hC
  obtain ⟨a5, a6, a7, a8, c5, c6, c7, c8⟩ := A
  dsimp only [cv, cl] at *
  go_enter Try.func24, Try.ntmps24
  go_wp2_with fail
  refine (checkC_any C ⟨a5, a6, a7, a8, c5, c6, c7, c8⟩ _ HC.out).mono ?_
  rintro e w1 ⟨rfl, hb1⟩
  have HC1 := hid (HC.out.keep hb1)
  have HB1 := hid (HB.out.keep hb1)
  have HQ1 := hid (btrans HQ.out hb1)
  clear hb1 HB HC HQ
  obtain ⟨g0, g1, g2, g3, g4, g5, g6, g7, g8⟩ := HB1.out
  dsimp only at g5 g6 g7 g8
  by_cases h0 : ckC C = 0
  · have HF := hid (fits_of h0)
    have H0 := hid h0
    rw [h0]
    clear h0
    go_wp2_with fail
    refine (image_any C ⟨a5, a6, a7, a8, c5, c6, c7, c8⟩ _ HC1.out HF.out).mono ?_
    rintro e w2 ⟨rfl, hb2⟩
    have HQ2 := hid (btrans HQ1.out hb2)
    clear hb2 g0 g1 g2 g3 g4 g5 g6 g7 g8
    go_wp2
    exact bodyPost_ret (v := encA C) (by simp [results, Try.results24, go_sem, encA, H0.out]) rfl ⟨rfl, HQ2.out⟩
  · have H0 := hid h0
    have hx' : (ckC C != 0) = true := by simp [h0]
    clear h0
    generalize hq : ckC C = q at *
    have HE := hid hq
    clear hq
    go_wp2
    exact bodyPost_ret (v := encA C) (by simp [results, Try.results24, go_sem, encA, HE.out, H0.out]) rfl ⟨rfl, HQ1.out⟩

/-- A row of bools. -/
abbrev bl (l : List Bool) : List Value := l.map Value.bool

theorem orR_snoc (F T : List Bool) (x y : Bool) (h : F.length = T.length) : orR (F ++ [x]) (T ++ [y]) = orR F T ++ [x || y] := by
  simp only [orR]
  rw [List.zipWith_append h]
  rfl

set_option maxRecDepth 100000 in
set_option maxHeartbeats 1000000 in
theorem follow_any (f t : Nat) (F T : List Bool) (c1 c2 : Nat) (w : World) (hF : RowAt w f 4 (bl F)) (hT : RowAt w t 4 (bl T)) (hl : F.length = T.length) (hne : f ≠ t) (h4 : T.length ≤ 4) :
    Calls Try.prog 78 #[.slice (some ⟨f, 0, none⟩) F.length c1, .slice (some ⟨t, 0, none⟩) T.length c2] w fun e w' => e = .returned (.tuple #[]) ∧ RowAt w' f 4 (bl (orR F T)) ∧ w.grownBy w' (some f) := by
  have HF := hid hF
  have HT := hid hT
  clear hF hT
  go_enter Try.func78, Try.ntmps78
  go_wp2
  go_loopw [8] (fun i wr => ∃ k : Nat, k ≤ T.length ∧ i = .int .i64 k ∧ RowAt wr f 4 (bl (orR (F.take k) (T.take k) ++ F.drop k)) ∧ w.grownBy wr (some f)) (fun i _ => T.length - (intOf i).toNat)
  case atStart => exact ⟨0, Nat.zero_le _, rfl, by simpa [orR] using HF.out, ⟨rfl, rfl, rfl, Nat.le_refl _, fun _ _ _ => rfl⟩⟩
  case round =>
    obtain ⟨k, hk, rfl, hR, hg⟩ := hrel
    have HR := hid hR
    have HG := hid hg
    clear hR hg
    by_cases hlt : k < T.length
    · have hkF : k < F.length := by omega
      have hT1 := (HT.out.grown' HG.out (by simp; omega)).cell k (.bool T[k]) (by simp [hlt])
      have hf1 := HR.out.frozen k
      have hF1 := HR.out.cell k (.bool F[k]) (by
        have e : (orR (F.take k) (T.take k)).length = k := by rw [orR_len (by simp; omega)]; simp; omega
        simp only [bl, List.getElem?_map]
        rw [List.getElem?_append_right (by omega), e]
        simp [hkF])
      have HR2 : Hid (RowAt (wr.setCell ⟨f, k, none⟩ (.bool (F[k] || T[k]))) f 4 (bl (orR (F.take (k + 1)) (T.take (k + 1)) ++ F.drop (k + 1)))) := by
        have q := HR.out.setCell k (.bool (F[k] || T[k]))
        have e : (orR (F.take k) (T.take k)).length = k := by rw [orR_len (by simp; omega)]; simp; omega
        have e2 : (bl (orR (F.take k) (T.take k) ++ F.drop k)).set k (.bool (F[k] || T[k])) = bl (orR (F.take (k + 1)) (T.take (k + 1)) ++ F.drop (k + 1)) := by
          rw [List.take_succ_eq_append_getElem hlt, List.take_succ_eq_append_getElem hkF, orR_snoc _ _ _ _ (by simp; omega)]
          rw [List.drop_eq_getElem_cons hkF]
          simp only [bl, List.map_append, List.map_cons, List.append_assoc, List.cons_append, List.nil_append]
          rw [List.set_append_right _ _ (by simp [e])]
          simp [e]
        rw [e2] at q
        exact q
      have HG2 : Hid (w.grownBy (wr.setCell ⟨f, k, none⟩ (.bool (F[k] || T[k]))) (some f)) :=
        ⟨HG.out.os, HG.out.tape, HG.out.output, by simpa [World.setCell] using HG.out.size, fun j h1 h2 => by rw [Below.heap_setCell _ _ _ _ (by intro e; exact h2 (by rw [e]))]; exact HG.out.block j h1 h2⟩
      clear HR HG
      generalize hfk : F[k] = x at *
      generalize htk : T[k] = y at *
      clear hfk htk
      cases x <;> cases y <;>
      · go_wp2
        go_roundw
        case rel => exact ⟨k + 1, by omega, by go_num, HR2.out, HG2.out⟩
        case measure => simp [intOf]; omega
    · obtain rfl : k = T.length := by omega
      go_wp2
      go_end0
      refine ⟨rfl, ?_, HG.out⟩
      have := HR.out
      rw [List.take_length, ← hl, List.take_length, List.drop_length, List.append_nil] at this
      exact this
end Go.Proofs.Ytaellaconpaejaa
