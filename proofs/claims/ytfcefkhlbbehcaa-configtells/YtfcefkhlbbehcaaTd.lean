/- Walks of the document's answer: who is reached, over and over. -/
import Derived.Test.YtfcefkhlbbehcaaOe
import Derived.Test.YtfcefkhlbbehcaaPe
set_option linter.unusedVariables false
namespace Go.Proofs.Ytfcefkhlbbehcaa
open Go.RowKit

def isNo : Value → Bool
  | .bool false => true
  | _ => false
/-- How many of a row of bools are false. -/
def lackW (w : World) (r : Nat) : Nat :=
  match w.heap[r]? with
  | some (.cells cs _ _) => cs.toList.countP isNo
  | _ => 0
def bit : Value → Nat
  | .bool true => 1
  | _ => 0

theorem lackW_row {w : World} {r : Nat} {S : List Bool} (h : RowAt w r 4 (bl S)) : lackW w r = lacks S := by
  unfold lackW
  rw [show w.heap[r]? = _ from h]
  simp only [bl, lacks, List.countP_map]
  congr 1
  funext b
  cases b <;> rfl

theorem bl_set (S : List Bool) (j : Nat) (b : Bool) : (bl S).set j (.bool b) = bl (S.set j b) := by simp [bl, List.map_set]

/-- Memory while it is looked who is reached. -/
structure Rs (w wr : World) (C : Conf) (A : Mem) (S : List Bool) : Prop where
  row : RowAt wr (w.heap.size + 1) 4 (bl S)
  below : Below w.heap.size w wr
  box : BoxC wr w.heap.size C A

theorem Rs.set {w wr : World} {C : Conf} {A : Mem} {S : List Bool} (h : Rs w wr C A S) (j : Nat) (b : Bool) : Rs w (wr.setCell ⟨w.heap.size + 1, j, none⟩ (.bool b)) C A (S.set j b) := by
  refine ⟨?_, h.below.setCell (by show w.heap.size ≤ w.heap.size + 1; omega) _, h.box.same (Below.heap_setCell _ _ _ _ (by show w.heap.size ≠ w.heap.size + 1; omega))⟩
  rw [← bl_set]
  exact h.row.setCell j (.bool b)

set_option maxRecDepth 100000 in
set_option maxHeartbeats 2000000 in
theorem reachOf_any (C : Conf) (A : Mem) (w : World) (hC : ConfIn w A C) (h0 : ckC C = 0) (D : Nat) (hD : C.d = D) (i k : Nat) (hi : i < D) (hk : k < D) :
    Calls Try.prog 24 #[cv C A, .int .i64 i, .int .i64 k] w fun e w' => e = .returned (.bool ((itM C.ch (idM D) D i).getD k false)) ∧ Below w.heap.size w w' := by
  have HF := hid (fits_of h0)
  have HD := hid hD
  have hD4 : D ≤ 4 := by have := HF.out.d; omega
  have l7 := HF.out.l7
  have hmk54 := make54 D hD4
  have Hch : Hid (∀ x ∈ C.ch, 0 ≤ x.1 ∧ x.1.toNat < D ∧ 0 ≤ x.2.1 ∧ x.2.1.toNat < D) := hid fun x hx => by
    have := ch_ok (ck_ok h0).2.2.2.2.2.1 x hx
    omega
  have q1 := below_new w (.cells (cl C A) 46)
  have HC := hid hC
  have B1 := hid (boxC_new w C A)
  have HZ : Hid (Got C.ch D i (idM D i)) := by
    refine hid ⟨by simp [idM], by simp [idM, List.getD_eq_getElem?_getD, hi], fun j hj => ?_⟩
    simp only [idM, List.getD_eq_getElem?_getD, List.getElem?_set, List.getElem?_replicate] at hj
    by_cases e : i = j
    · subst e; exact Rch.refl _ _
    · rw [if_neg e] at hj
      split at hj <;> simp at hj
  have R0 : Hid (Rs w ((w.alloc (.cells (cl C A) 46)).alloc (.cells ((Array.replicate D (Value.bool false)).setIfInBounds i (.bool true)) 4)) C A (idM D i)) := by
    have q2 := below_new (w.alloc (.cells (cl C A) 46)) (.cells ((Array.replicate D (Value.bool false)).setIfInBounds i (.bool true)) 4)
    refine hid ⟨?_, btrans q1 q2, B1.out.keep q2⟩
    rw [idM_arr]
    exact rowAt_new2 _ _ _ _ (by simp)
  clear q1 hC B1 h0 hD
  have hi1 : (i : Int) < (D : Int) := by omega
  have hi0 : (0 : Int) ≤ (i : Int) := by omega
  have hk1 : (k : Int) < (D : Int) := by omega
  have hk0 : (0 : Int) ≤ (k : Int) := by omega
  obtain ⟨a5, a6, a7, a8, c5, c6, c7, c8⟩ := A
  obtain ⟨cs, cw, cd, cp, cq, csl, cow, cch, cta⟩ := C
  dsimp only [cv, cl] at *
  obtain rfl : cd = (D : Int) := HD.out
  go_enter Try.func24, Try.ntmps24
  go_wp2
  go_loopw [8] (fun c wr => ∃ (S : List Bool) (b : Bool), c = .bool b ∧ Got cch D i S ∧ Rs w wr ⟨cs, cw, D, cp, cq, csl, cow, cch, cta⟩ ⟨a5, a6, a7, a8, c5, c6, c7, c8⟩ S ∧ (b = false → ∀ x ∈ cch, S.getD x.1.toNat false = true → S.getD x.2.1.toNat false = true)) (fun c wr => 2 * lackW wr (w.heap.size + 1) + bit c)
  case atStart => exact ⟨idM D i, true, rfl, HZ.out, R0.out, by simp⟩
  case round =>
    clear R0 HZ hmk54
    obtain ⟨S, b, rfl, hG, hR, hcl⟩ := hrel
    have HG := hid hG
    have HR := hid hR
    have HCL := hid hcl
    clear hG hR hcl
    have HLW := hid (lackW_row HR.out.row)
    cases b with
    | true =>
      go_wp2
      go_loopw [8, 9] (fun c iv wi => ∃ (m : Nat) (T : List Bool) (b : Bool), m ≤ cch.length ∧ iv = .int .i64 m ∧ c = .bool b ∧ Got cch D i T ∧ Rs w wi ⟨cs, cw, D, cp, cq, csl, cow, cch, cta⟩ ⟨a5, a6, a7, a8, c5, c6, c7, c8⟩ T ∧ (b = false → T = S ∧ ∀ j (h : j < cch.length), j < m → S.getD cch[j].1.toNat false = true → S.getD cch[j].2.1.toNat false = true) ∧ (b = true → lacks T < lacks S)) (fun c iv _ => cch.length - (intOf iv).toNat)
      case atStart => exact ⟨0, S, false, Nat.zero_le _, rfl, rfl, HG.out, HR.out, fun _ => ⟨rfl, by omega⟩, by simp⟩
      case round =>
        obtain ⟨m, T, b, hm, rfl, rfl, hG2, hR2, hf, ht⟩ := hrel
        have HG2 := hid hG2
        have HR2 := hid hR2
        have HFF := hid hf
        have HTT := hid ht
        have hlen : T.length = D := hG2.len
        clear hG2 hR2 hf ht
        obtain ⟨g0, g1, g2, g3, g4, g5, g6, g7, g8⟩ := HR2.out.box
        dsimp only at g0 g1 g2 g3 g4 g5 g6 g7 g8
        by_cases hlt : m < cch.length
        · obtain ⟨b', o', rfl, hc1, hc2, hc3⟩ := (HC.out.keep HR2.out.below).ch m hlt
          have hin := Hch.out _ (List.getElem_mem hlt)
          have HMM := hid (List.getElem_mem hlt)
          have hm1 : (m : Int) < cch.length := by omega
          have hm0 : (0 : Int) ≤ m := by omega
          have HXX := hid (rfl : cch[m] = cch[m])
          generalize hx : cch[m] = x at hin hc1 hc2 HMM
          have HX := hid hx
          clear hx HXX
          obtain ⟨x1, x2, x3⟩ := x
          dsimp only at hin hc1 hc2
          obtain ⟨f, rfl⟩ : ∃ f : Nat, x1 = f := ⟨x1.toNat, by omega⟩
          obtain ⟨t, rfl⟩ : ∃ t : Nat, x2 = t := ⟨x2.toNat, by omega⟩
          simp only [Int.toNat_natCast] at hin
          have hfD : f < T.length := by omega
          have htD : t < T.length := by omega
          have hf1 : (f : Int) < (D : Int) := by omega
          have ht1 : (t : Int) < (D : Int) := by omega
          have hf0 : (0 : Int) ≤ (f : Int) := by omega
          have ht0 : (0 : Int) ≤ (t : Int) := by omega
          have r1 := HR2.out.row.cell f (.bool T[f]) (by simp [hfD])
          have r2 := HR2.out.row.cell t (.bool T[t]) (by simp [htD])
          have r3 := HR2.out.row.frozen t
          have EF : Hid (T.getD f false = T[f]) := hid (by simp [hfD])
          have ET : Hid (T.getD t false = T[t]) := hid (by simp [htD])
          have HLS := hid (fun h => lacks_set (S := T) htD h)
          generalize hTf : T[f] = bf at *
          generalize hTt : T[t] = bt at *
          clear hTf hTt hin
          have keepF : Hid ((bf = true → bt = true) → b = false → T = S ∧ ∀ j (h : j < cch.length), j < m + 1 → S.getD cch[j].1.toNat false = true → S.getD cch[j].2.1.toNat false = true) := by
            refine hid fun hh hb => ?_
            obtain ⟨e1, e2⟩ := HFF.out hb
            refine ⟨e1, fun j hj hj2 => ?_⟩
            by_cases e : j = m
            · subst e
              rw [HX.out, ← e1]
              simp only [Int.toNat_natCast]
              rw [EF.out, ET.out]
              exact hh
            · exact e2 j hj (by omega)
          cases bf with
          | false =>
            go_wp2
            go_roundw
            case rel => exact ⟨m + 1, T, b, by omega, by go_num, rfl, HG2.out, HR2.out, keepF.out (by simp), HTT.out⟩
            case measure => simp [intOf]; omega
          | true =>
            cases bt with
            | true =>
              go_wp2
              go_roundw
              case rel => exact ⟨m + 1, T, b, by omega, by go_num, rfl, HG2.out, HR2.out, keepF.out (by simp), HTT.out⟩
              case measure => simp [intOf]; omega
            | false =>
              have HG3 : Hid (Got cch D i (T.set t true)) := hid (HG2.out.set ((f : Int), (t : Int), x3) HMM.out EF.out)
              have HR3 := hid (HR2.out.set t true)
              have HL3 : Hid (lacks (T.set t true) < lacks S) := by
                have e := HLS.out rfl
                cases b with
                | true => exact hid (Nat.lt_trans e (HTT.out rfl))
                | false => obtain ⟨e1, _⟩ := HFF.out rfl; subst e1; exact hid e
              go_wp2
              go_roundw
              case rel => exact ⟨m + 1, T.set t true, true, by omega, by go_num, rfl, HG3.out, HR3.out, by simp, fun _ => HL3.out⟩
              case measure => simp [intOf]; omega
        · obtain rfl : m = cch.length := by omega
          have HM2 : Hid (2 * lacks T + bit (.bool b) < 2 * lacks S + 1) := by
            cases b with
            | true => have := HTT.out rfl; exact hid (by simp only [bit]; omega)
            | false => obtain ⟨e1, _⟩ := HFF.out rfl; subst e1; exact hid (by simp [bit])
          have HLW2 := hid (lackW_row HR2.out.row)
          go_wp2
          go_roundw
          case rel =>
            refine ⟨T, b, rfl, HG2.out, HR2.out, fun hb x hx => ?_⟩
            obtain ⟨e1, e2⟩ := HFF.out hb
            obtain ⟨j, hj, rfl⟩ := List.getElem_of_mem hx
            rw [e1]
            exact e2 j hj hj
          case measure =>
            have e1 := HLW.out
            have e2 := HLW2.out
            have e3 := HM2.out
            simp [e1, e2]
            exact e3
    | false =>
      have hlen : S.length = D := HG.out.len
      have r1 := HR.out.row.cell k (.bool S[k]) (by simp [hlen, hk])
      have HE : Hid (S[k] = (itM cch (idM D) D i).getD k false) := by
        have e1 := got_reach (k := k) HG.out (HCL.out rfl)
        have e2 := rows_reach cch D (fun x hx => ⟨(Hch.out x hx).2.1, (Hch.out x hx).2.2.2⟩) i k hk
        have e3 : S.getD k false = S[k] := by simp [hlen, hk]
        rw [e3] at e1
        refine hid ?_
        rw [Bool.eq_iff_iff, e1, e2]
      go_wp2
      go_ret
      refine ⟨?_, HR.out.below⟩
      have e9 := HE.out
      simp only [List.getD_eq_getElem?_getD] at e9
      show Ending.returned (Value.bool S[k]) = _
      rw [e9]
end Go.Proofs.Ytfcefkhlbbehcaa
