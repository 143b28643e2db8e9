/- Walks: how long slots are, when they begin. -/
import Derived.Test.YtaellaconpaejaaNf
import Derived.Test.YtaellaconpaejaaSx
import Derived.Test.YtaellaconpaejaaTa
import Derived.Test.YtaellaconpaejaaSd
set_option linter.unusedVariables false
namespace Go.Proofs.Ytaellaconpaejaa
open Go.RowKit

/-- How long slots are together. -/
def sumS (l : List (Int × Int)) : Int := (l.map (·.2)).sum
theorem sumS_take (l : List (Int × Int)) (k : Nat) (h : k < l.length) : sumS (l.take (k + 1)) = sumS (l.take k) + l[k].2 := by
  rw [List.take_add_one, List.getElem?_eq_getElem h]
  simp only [sumS, List.map_append, List.sum_append, Option.toList, List.map_cons, List.map_nil, List.sum_cons, List.sum_nil]
  omega
def SmallS (l : List (Int × Int)) : Prop := l.length ≤ 6 ∧ ∀ i (h : i < l.length), 0 ≤ l[i].2 ∧ l[i].2 ≤ 1000
theorem sumS_bound {l : List (Int × Int)} (h : SmallS l) : ∀ k, k ≤ l.length → 0 ≤ sumS (l.take k) ∧ sumS (l.take k) ≤ 1000 * k := by
  intro k
  induction k with
  | zero => intro _; simp [sumS]
  | succ k ih =>
    intro hk
    have h1 := ih (by omega)
    have h2 := h.2 k (by omega)
    rw [sumS_take l k (by omega)]
    omega

theorem small_of {C : Conf} (h : ckC C = 0) : SmallS C.sl ∧ 1 ≤ C.sl.length := by
  obtain ⟨_, _, h2, h3, _⟩ := ck_ok h
  have hl : 1 ≤ C.sl.length ∧ C.sl.length ≤ 6 := by
    unfold ckCnt at h2
    split at h2
    · rename_i hx; simp [inR] at hx; omega
    · omega
  refine ⟨⟨hl.2, fun i hi => ?_⟩, hl.1⟩
  have := fe_eq_zero h3 i hi
  simp only [getD_of _ _ hi, ckSl] at this
  split at this
  · split at this
    · rename_i hx; simp [inR] at hx; omega
    · omega
  · omega

set_option maxRecDepth 100000 in
set_option maxHeartbeats 1000000 in
theorem together_any (a : Option Addr) (l : List (Int × Int)) (cap : Nat) (w : World) (hw : SlotsIn w a l) (hs : SmallS l) :
    Calls Try.prog 110 #[.slice a l.length cap] w fun e w' => e = .returned (.int .i64 (sumS l)) ∧ Below w.heap.size w w' := by
  have hl := hs.1
  go_enter Try.func110, Try.ntmps110
  go_wp2
  go_loopw [3, 8] (fun s i wr => ∃ k : Nat, k ≤ l.length ∧ i = .int .i64 k ∧ s = .int .i64 (sumS (l.take k)) ∧ Below w.heap.size w wr) (fun _ i _ => l.length - (intOf i).toNat)
  case atStart => exact ⟨0, Nat.zero_le _, rfl, rfl, Below.refl _ _⟩
  case round =>
    obtain ⟨k, hk, rfl, rfl, hbl⟩ := hrel
    by_cases hlt : k < l.length
    · obtain ⟨b', o', rfl, c0, c1⟩ := hw k hlt
      replace c0 := bkeep hbl c0 (Nat.le_refl _)
      replace c1 := bkeep hbl c1 (Nat.le_refl _)
      have h1 := sumS_bound hs k hk
      have h2 := hs.2 k hlt
      have hwr : wrap64 (sumS (l.take k) + l[k].2) = sumS (l.take (k + 1)) := by rw [sumS_take l k hlt]; unfold wrap64; omega
      have HB := hid (btrans hbl (below_new wr (.cells #[.int .i64 l[k].1, .int .i64 l[k].2] 114)))
      clear h1 h2
      go_wp2
      go_roundw
      case rel => exact ⟨k + 1, by omega, by go_num, by simp [hwr], HB.out⟩
      case measure => simp [intOf]; omega
    · have hkn : k = l.length := by omega
      subst hkn
      go_wp2
      go_ret
      exact ⟨ret_int (by rw [List.take_length]), hbl⟩

theorem SmallS.take {l : List (Int × Int)} (h : SmallS l) (k : Nat) : SmallS (l.take k) := by
  refine ⟨by rw [List.length_take]; have := h.1; omega, fun i hi => ?_⟩
  have hi' : i < l.length := by rw [List.length_take] at hi; omega
  rw [List.getElem_take]
  exact h.2 i hi'
theorem SlotsIn.take {w : World} {a : Option Addr} {l : List (Int × Int)} (h : SlotsIn w a l) (k : Nat) : SlotsIn w a (l.take k) := by
  intro i hi
  have hi' : i < l.length := by rw [List.length_take] at hi; omega
  simp only [List.getElem_take]
  exact h i hi'

/-- What is wrong with a slot's number. -/
def ckSlot (C : Conf) (s : Int) : Int := if ckC C = 0 then (if inR s 0 ((C.sl.length : Int) - 1) then 0 else 5) else ckC C

set_option maxRecDepth 100000 in
set_option maxHeartbeats 1000000 in
theorem checkSlot_any (C : Conf) (B : Mem) (s : Int) (w : World) (hC : ConfIn w B C) :
    Calls Try.prog 111 #[cv C B, .int .i64 s] w fun e w' => e = .returned (.int .i64 (ckSlot C s)) ∧ Below w.heap.size w w' := by
  have q1 := below_new w (.cells (cl C B) 46)
  have HC := hid (hC.keep q1)
  have HX := hid (boxC_new w C B)
  have HB := hid q1
  clear q1 hC
  obtain ⟨a5, a6, a7, a8, c5, c6, c7, c8⟩ := B
  dsimp only [cv, cl] at *
  go_enter Try.func111, Try.ntmps111
  go_wp2_with fail
  refine (checkC_any C ⟨a5, a6, a7, a8, c5, c6, c7, c8⟩ _ HC.out).mono ?_
  rintro e w1 ⟨rfl, hb1⟩
  have HB1 := hid (btrans HB.out hb1)
  have g5 := (HX.out.keep hb1).h5
  by_cases h0 : ckC C = 0
  · have H0 := hid h0
    have hs := (small_of h0).1.1
    rw [h0]
    clear h0 hb1 HX HC HB
    have hw1 : wrap64 ((C.sl.length : Int) - 1) = (C.sl.length : Int) - 1 := by unfold wrap64; omega
    go_wp2_with fail
    refine (within_any _ _ _ _).mono ?_
    rintro e w' ⟨rfl, rfl⟩
    cases h1 : inR s 0 ((C.sl.length : Int) - 1) with
    | true =>
      go_wp2
      go_ret
      exact ⟨ret_int (by simp [ckSlot, H0.out, h1]), HB1.out⟩
    | false =>
      go_wp2
      go_ret
      exact ⟨ret_int (by simp [ckSlot, H0.out, h1]), HB1.out⟩
  · have hx : (ckC C != 0) = true := by simp [h0]
    have HE : Hid (ckSlot C s = ckC C) := hid (by simp [ckSlot, h0])
    clear h0 hb1 HX HC HB g5
    generalize ckC C = q at *
    go_wp2
    go_ret
    exact ⟨ret_int HE.out.symm, HB1.out⟩

/-- Length's answer. -/
def lenV (C : Conf) : Value := .tuple #[.int .i64 (if ckC C = 0 then sumS C.sl else 0), .int .i64 (ckC C)]
set_option maxRecDepth 100000 in
set_option maxHeartbeats 1000000 in
theorem length_any (C : Conf) (B : Mem) (w : World) (hC : ConfIn w B C) :
    Calls Try.prog 63 #[cv C B] w fun e w' => e = .returned (lenV C) ∧ Below w.heap.size w w' := by
  have q1 := below_new w (.cells (cl C B) 46)
  have HC := hid (hC.keep q1)
  have HX := hid (boxC_new w C B)
  have HB := hid q1
  clear q1 hC
  obtain ⟨a5, a6, a7, a8, c5, c6, c7, c8⟩ := B
  dsimp only [cv, cl] at *
  go_enter Try.func63, Try.ntmps63
  go_wp2_with fail
  refine (checkC_any C ⟨a5, a6, a7, a8, c5, c6, c7, c8⟩ _ HC.out).mono ?_
  rintro e w1 ⟨rfl, hb1⟩
  have HB1 := hid (btrans HB.out hb1)
  have HC1 := hid (HC.out.keep hb1)
  have g5 := (HX.out.keep hb1).h5
  by_cases h0 : ckC C = 0
  · have HE : Hid (lenV C = .tuple #[.int .i64 (sumS C.sl), .int .i64 0]) := hid (by simp [lenV, h0])
    have HS := hid (small_of h0).1
    rw [h0]
    clear h0 hb1 HX HC HB
    go_wp2_with fail
    refine (together_any a5 C.sl c5 _ HC1.out.sl HS.out).mono ?_
    rintro e w2 ⟨rfl, hb2⟩
    generalize sumS C.sl = q at *
    go_wp2
    go_ret2
    exact ⟨by rw [HE.out]; rfl, btrans HB1.out hb2⟩
  · have hx : (ckC C != 0) = true := by simp [h0]
    have HE : Hid (lenV C = .tuple #[.int .i64 0, .int .i64 (ckC C)]) := hid (by simp [lenV, h0])
    clear h0 hb1 HX HC HB g5 HC1
    generalize ckC C = q at *
    go_wp2
    go_ret2
    exact ⟨by rw [HE.out]; rfl, HB1.out⟩

/-- What is wrong with a round and a slot. -/
def ckRS (C : Conf) (r s : Int) : Int := if ckC C = 0 then (if inR r 0 8 then (if inR s 0 ((C.sl.length : Int) - 1) then 0 else 5) else 3) else ckC C
/-- When a slot of a round begins. -/
def startI (C : Conf) (r s : Int) : Int := r * sumS C.sl + sumS (C.sl.take s.toNat)
def startV (C : Conf) (r s : Int) : Value := .tuple #[.int .i64 (if ckRS C r s = 0 then startI C r s else 0), .int .i64 (ckRS C r s)]

theorem start_wrap {l : List (Int × Int)} (h : SmallS l) (r : Int) (h0 : 0 ≤ r) (h8 : r ≤ 8) (k : Nat) (hk : k ≤ l.length) : wrap64 (r * sumS l) = r * sumS l ∧ wrap64 (r * sumS l + sumS (l.take k)) = r * sumS l + sumS (l.take k) ∧ 0 ≤ r * sumS l ∧ r * sumS l ≤ 48000 ∧ 0 ≤ sumS (l.take k) ∧ sumS (l.take k) ≤ 6000 := by
  have h1 := sumS_bound h l.length (Nat.le_refl _)
  rw [List.take_length] at h1
  have h2 := sumS_bound h k hk
  have h6 := h.1
  have h3 : 0 ≤ r * sumS l := Int.mul_nonneg h0 h1.1
  have h4 : r * sumS l ≤ 8 * sumS l := Int.mul_le_mul_of_nonneg_right h8 h1.1
  refine ⟨?_, ?_, h3, by omega, h2.1, by omega⟩ <;> (unfold wrap64; omega)

set_option maxRecDepth 100000 in
set_option maxHeartbeats 2000000 in
theorem start_any (C : Conf) (B : Mem) (r s : Int) (w : World) (hC : ConfIn w B C) (hc5 : C.sl.length ≤ B.c5) :
    Calls Try.prog 64 #[cv C B, .int .i64 r, .int .i64 s] w fun e w' => e = .returned (startV C r s) ∧ Below w.heap.size w w' := by
  have q1 := below_new w (.cells (cl C B) 46)
  have HC := hid (hC.keep q1)
  have HX := hid (boxC_new w C B)
  have HB := hid q1
  clear q1 hC
  obtain ⟨a5, a6, a7, a8, c5, c6, c7, c8⟩ := B
  dsimp only [cv, cl] at *
  go_enter Try.func64, Try.ntmps64
  go_wp2_with fail
  refine (checkC_any C ⟨a5, a6, a7, a8, c5, c6, c7, c8⟩ _ HC.out).mono ?_
  rintro e w1 ⟨rfl, hb1⟩
  have HB1 := hid (btrans HB.out hb1)
  have HC1 := hid (HC.out.keep hb1)
  have HX1 := hid (HX.out.keep hb1)
  by_cases h0 : ckC C = 0
  · have H0 := hid h0
    have HS := hid (small_of h0).1
    rw [h0]
    clear h0 hb1 HX HC HB
    go_wp2_with fail
    refine (within_any _ _ _ _).mono ?_
    rintro e w' ⟨rfl, rfl⟩
    cases h1 : inR r 0 8 with
    | false =>
      have HE : Hid (startV C r s = .tuple #[.int .i64 0, .int .i64 3]) := hid (by simp [startV, ckRS, H0.out, h1])
      clear h1
      go_wp2
      go_ret2
      exact ⟨by rw [HE.out]; rfl, HB1.out⟩
    | true =>
      have H1 := hid h1
      clear h1
      obtain ⟨g0, g1, g2, g3, g4, g5, g6, g7, g8⟩ := HX1.out
      go_wp2_with fail
      refine (checkSlot_any C ⟨a5, a6, a7, a8, c5, c6, c7, c8⟩ s _ HC1.out).mono ?_
      rintro e w2 ⟨rfl, hb2⟩
      clear g0 g1 g2 g3 g4 g5 g6 g7 g8
      have HB2 := hid (btrans HB1.out hb2)
      have HC2 := hid (HC1.out.keep hb2)
      have g5 := (HX1.out.keep hb2).h5
      by_cases h3 : inR s 0 ((C.sl.length : Int) - 1) = true
      · have hz : ckSlot C s = 0 := by simp [ckSlot, H0.out, h3]
        rw [hz]
        have HE : Hid (startV C r s = .tuple #[.int .i64 (startI C r s), .int .i64 0]) := hid (by simp [startV, ckRS, H0.out, H1.out, h3])
        simp [inR] at h3
        obtain ⟨k, rfl⟩ : ∃ k : Nat, s = k := ⟨s.toNat, by omega⟩
        have hk : k < C.sl.length := by omega
        have HW := hid (start_wrap HS.out r (by have := H1.out; simp [inR] at this; omega) (by have := H1.out; simp [inR] at this; omega) k (by omega))
        have HE2 : Hid (startI C r k = r * sumS C.sl + sumS (C.sl.take k)) := hid (by simp [startI])
        have hlk : (C.sl.take k).length = k := by simp; omega
        have hkc : (k : Int) ≤ (c5 : Int) := by omega
        have hk0 : (0 : Int) ≤ (k : Int) := by omega
        have CX : Hid (∀ wx, Below w2.heap.size w2 wx → Calls Try.prog 110 #[.slice a5 C.sl.length c5] wx fun e w' => e = .returned (.int .i64 (sumS C.sl)) ∧ Below wx.heap.size wx w') := hid fun wx h => together_any a5 C.sl c5 wx (HC2.out.keep h).sl HS.out
        have CY : Hid (∀ wx, Below w2.heap.size w2 wx → Calls Try.prog 110 #[.slice a5 k c5] wx fun e w' => e = .returned (.int .i64 (sumS (C.sl.take k))) ∧ Below wx.heap.size wx w') := hid fun wx h => by
          have := together_any a5 (C.sl.take k) c5 wx ((HC2.out.keep h).sl.take k) (HS.out.take k)
          rw [hlk] at this
          exact this
        have HS5 : Hid (∀ wx, Below w2.heap.size w2 wx → wx.cell? ⟨w.heap.size, 5, none⟩ = some (.slice a5 C.sl.length c5)) := hid fun wx h => bkeep h g5 (Nat.le_refl _)
        have W1 : Hid (IntKind.i64.wrap (r * sumS C.sl) = r * sumS C.sl) := hid (by rw [IntKind.wrap_i64]; have := HW.out.2.2; omega)
        have W2 : Hid (IntKind.i64.wrap (r * sumS C.sl + sumS (C.sl.take k)) = r * sumS C.sl + sumS (C.sl.take k)) := hid (by rw [IntKind.wrap_i64]; have := HW.out.2.2; omega)
        have hB : Below w2.heap.size w2 w2.drew := (Below.refl _ _).drew
        have HST : Hid (startV C r k = .tuple #[.int .i64 (r * sumS C.sl + sumS (C.sl.take k)), .int .i64 0]) := hid (by rw [HE.out, HE2.out])
        clear hz h3 hb2 HE HE2 HW HX1 HC1 HC2 g5
        generalize sumS C.sl = q1 at *
        generalize sumS (C.sl.take k) = q2 at *
        go_wp2
        go_region_held3 (fun w' => w'.cell? ⟨w.heap.size, 5, none⟩ = some (.slice a5 C.sl.length c5))
          (first | exact HS5.out _ hB | go_keep)
          (first
            | (go_at_call 110; with_reducible refine Calls.mono (CX.out _ hB) ?_; rintro e w3 ⟨rfl, hb3⟩; have hB := btrans hB hb3)
            | (go_at_call 110; with_reducible refine Calls.mono (CY.out _ hB) ?_; rintro e w3 ⟨rfl, hb3⟩; have hB := btrans hB hb3))
        have HF := hid (btrans HB2.out hB)
        clear hB
        go_wp2
        go_ret2
        refine ⟨?_, HF.out⟩
        rw [HST.out]
        show Ending.returned (.tuple #[.int .i64 (IntKind.i64.wrap (IntKind.i64.wrap (r * q1) + q2)), .int .i64 0]) = _
        rw [W1.out, W2.out]
      · have hz : ckSlot C s = 5 := by simp [ckSlot, H0.out, h3]
        rw [hz]
        have HE : Hid (startV C r s = .tuple #[.int .i64 0, .int .i64 5]) := hid (by simp [startV, ckRS, H0.out, H1.out, h3])
        clear hz h3
        go_wp2
        go_ret2
        exact ⟨by rw [HE.out]; rfl, HB2.out⟩
  · have hx : (ckC C != 0) = true := by simp [h0]
    have HE : Hid (startV C r s = .tuple #[.int .i64 0, .int .i64 (ckC C)]) := hid (by simp [startV, ckRS, h0])
    clear h0 hb1 HX HC HB HC1 HX1
    generalize ckC C = q at *
    go_wp2
    go_ret2
    exact ⟨by rw [HE.out]; rfl, HB1.out⟩

set_option maxRecDepth 100000 in
set_option maxHeartbeats 1000000 in
theorem roundOf_any (C : Conf) (B : Mem) (w : World) (hC : ConfIn w B C) (hs : SmallS C.sl) :
    Calls Try.prog 65 #[cv C B] w fun e w' => e = .returned (.int .i64 (sumS C.sl)) ∧ Below w.heap.size w w' := by
  have q1 := below_new w (.cells (cl C B) 46)
  have HC := hid (hC.keep q1)
  have HX := hid (boxC_new w C B)
  have HB := hid q1
  have hl := hs.1
  clear q1 hC
  obtain ⟨a5, a6, a7, a8, c5, c6, c7, c8⟩ := B
  dsimp only [cv, cl] at *
  go_enter Try.func65, Try.ntmps65
  go_wp2
  generalize World.alloc w _ = W at *
  go_loopw [3, 4] (fun s i wr => ∃ k : Nat, k ≤ C.sl.length ∧ i = .int .i64 k ∧ s = .int .i64 (sumS (C.sl.take k)) ∧ Below W.heap.size W wr) (fun _ i _ => C.sl.length - (intOf i).toNat)
  case atStart => exact ⟨0, Nat.zero_le _, rfl, rfl, Below.refl _ _⟩
  case round =>
    obtain ⟨k, hk, rfl, rfl, hbl⟩ := hrel
    have g5 := (HX.out.keep hbl).h5
    by_cases hlt : k < C.sl.length
    · obtain ⟨b', o', e', c0, c1⟩ := HC.out.sl k hlt
      dsimp only at e'
      rw [e'] at g5
      replace c0 := bkeep hbl c0 (Nat.le_refl _)
      replace c1 := bkeep hbl c1 (Nat.le_refl _)
      have h1 := sumS_bound hs k hk
      have h2 := hs.2 k hlt
      have hwr : wrap64 (sumS (C.sl.take k) + C.sl[k].2) = sumS (C.sl.take (k + 1)) := by rw [sumS_take C.sl k hlt]; unfold wrap64; omega
      have hlt' : (k : Int) < C.sl.length := by omega
      have hk0 : (0 : Int) ≤ k := by omega
      clear h1 h2 e'
      go_wp2
      go_roundw
      case rel => exact ⟨k + 1, by omega, by go_num, by simp [hwr], hbl⟩
      case measure => simp [intOf]; omega
    · have hkn : k = C.sl.length := by omega
      subst hkn
      go_wp2
      go_ret
      exact ⟨ret_int (by first | rfl | rw [List.take_length]), btrans HB.out hbl⟩

set_option maxRecDepth 100000 in
set_option maxHeartbeats 1000000 in
theorem startOf_any (C : Conf) (B : Mem) (r : Int) (m : Nat) (w : World) (hC : ConfIn w B C) (hs : SmallS C.sl) (h0 : 0 ≤ r) (h8 : r ≤ 8) (hm : m < C.sl.length) :
    Calls Try.prog 66 #[cv C B, .int .i64 r, .int .i64 m] w fun e w' => e = .returned (.int .i64 (startI C r m)) ∧ Below w.heap.size w w' := by
  have q1 := below_new w (.cells (cl C B) 46)
  have HC := hid (hC.keep q1)
  have HX := hid (boxC_new w C B)
  have HB := hid q1
  have hl := hs.1
  have hw1 : wrap64 (r * sumS C.sl) = r * sumS C.sl := (start_wrap hs r h0 h8 m (by omega)).1
  have HS0 : Hid (sumS ([] : List (Int × Int)) = 0) := hid rfl
  clear q1 hC
  obtain ⟨a5, a6, a7, a8, c5, c6, c7, c8⟩ := B
  dsimp only [cv, cl] at *
  go_enter Try.func66, Try.ntmps66
  go_wp2_with fail
  refine (roundOf_any C ⟨a5, a6, a7, a8, c5, c6, c7, c8⟩ _ HC.out hs).mono ?_
  rintro e W ⟨rfl, hbW⟩
  go_wp2
  go_loopw [7, 8] (fun s i wr => ∃ k : Nat, k ≤ m ∧ i = .int .i64 k ∧ s = .int .i64 (r * sumS C.sl + sumS (C.sl.take k)) ∧ Below W.heap.size W wr) (fun _ i _ => m - (intOf i).toNat)
  case atStart => exact ⟨0, Nat.zero_le _, rfl, by rw [List.take_zero, HS0.out, Int.add_zero, hw1], Below.refl _ _⟩
  case round =>
    obtain ⟨k, hk, rfl, rfl, hbl⟩ := hrel
    have g5 := ((HX.out.keep hbW).keep hbl).h5
    by_cases hlt : k < m
    · have hlt2 : k < C.sl.length := by omega
      obtain ⟨b', o', e', c0, c1⟩ := HC.out.sl k hlt2
      dsimp only at e'
      rw [e'] at g5
      replace c0 := bkeep (btrans hbW hbl) c0 (Nat.le_refl _)
      replace c1 := bkeep (btrans hbW hbl) c1 (Nat.le_refl _)
      have h1 := (start_wrap hs r h0 h8 (k + 1) (by omega)).2.1
      have hwr : wrap64 (r * sumS C.sl + sumS (C.sl.take k) + C.sl[k].2) = r * sumS C.sl + sumS (C.sl.take (k + 1)) := by rw [sumS_take C.sl k hlt2] at h1 ⊢; rw [← Int.add_assoc] at h1 ⊢; exact h1
      have hlt' : (k : Int) < C.sl.length := by omega
      have hltm : (k : Int) < m := by omega
      have hk0 : (0 : Int) ≤ k := by omega
      clear h1 e'
      go_wp2
      go_roundw
      case rel => exact ⟨k + 1, by omega, by go_num, by simp [hwr], hbl⟩
      case measure => simp [intOf]; omega
    · have hkn : k = m := by omega
      subst hkn
      go_wp2
      go_ret
      exact ⟨ret_int (by simp [startI]), btrans HB.out (btrans hbW hbl)⟩

end Go.Proofs.Ytaellaconpaejaa
