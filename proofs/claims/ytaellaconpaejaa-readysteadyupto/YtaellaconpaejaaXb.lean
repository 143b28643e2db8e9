/- Walks: what the check of a list of numbers and of a ring comes to. -/
import Derived.Test.YtaellaconpaejaaNd
import Derived.Test.YtaellaconpaejaaXa
set_option linter.unusedVariables false
namespace Go.Proofs.Ytaellaconpaejaa
open Go.RowKit

set_option maxHeartbeats 400000 in
theorem all1_any (x l m : Int) (b1 b2 : Nat) (w : World) (h1 : w.cell? ⟨b1, 0, none⟩ = some (.int .i64 l)) (h2 : w.cell? ⟨b2, 0, none⟩ = some (.int .i64 m)) :
    Calls Try.prog 128 #[.int .i64 x, .pointer (some ⟨b1, 0, none⟩), .pointer (some ⟨b2, 0, none⟩)] w fun e w' => e = .returned (.bool (!inR x l m)) ∧ Below w.heap.size w w' := by
  go_enter Try.func128, Try.ntmps128
  go_wp2_with fail
  refine (within_any _ _ _ _).mono ?_
  rintro e w' ⟨rfl, rfl⟩
  go_wp2
  go_ret
  exact ⟨rfl, Below.refl _ _⟩

set_option maxHeartbeats 400000 in
theorem index140_118 (l m : Int) (b1 b2 : Nat) (a : Option Addr) (L : List Int) (cap : Nat) (w : World) (hw : IntsIn w a L) (hl : L.length ≤ 9223372036854775807) (h1 : w.cell? ⟨b1, 0, none⟩ = some (.int .i64 l)) (h2 : w.cell? ⟨b2, 0, none⟩ = some (.int .i64 m)) :
    Calls Try.prog 152 #[.slice a L.length cap, .func (.func 128) #[] #[.pointer (some ⟨b1, 0, none⟩), .pointer (some ⟨b2, 0, none⟩)]] w fun e w' => (∃ r : Int, e = .returned (.int .i64 r) ∧ (0 ≤ r ↔ (L.any fun x => !inR x l m) = true)) ∧ Below w.heap.size w w' := by
  have H1 := hid h1
  have H2 := hid h2
  clear h1 h2
  go_enter Try.func152, Try.ntmps152
  go_wp2
  go_loopw [8] (fun i wr => ∃ k : Nat, k ≤ L.length ∧ i = .int .i64 k ∧ Below w.heap.size w wr ∧ ∀ j (hj : j < L.length), j < k → (!inR L[j] l m) = false) (fun i _ => L.length - (intOf i).toNat)
  case atStart => exact ⟨0, Nat.zero_le _, rfl, Below.refl _ _, by omega⟩
  case round =>
    obtain ⟨k, hk, rfl, hbl, hno⟩ := hrel
    have Hno := hid hno
    clear hno
    by_cases hlt : k < L.length
    · obtain ⟨b', o', rfl, hc1⟩ := hw k hlt
      have hc1' := bkeep hbl hc1 (Nat.le_refl _)
      go_wp2_with fail
      refine (all1_any L[k] l m b1 b2 _ (bkeep hbl H1.out (Nat.le_refl _)) (bkeep hbl H2.out (Nat.le_refl _))).mono ?_
      rintro e w' ⟨rfl, hb2⟩
      cases hx : !inR L[k] l m with
      | true =>
        have HX := hid hx
        clear hx
        go_wp2
        go_ret
        refine ⟨⟨k, rfl, ?_⟩, btrans hbl hb2⟩
        exact ⟨fun _ => List.any_eq_true.2 ⟨_, List.getElem_mem hlt, HX.out⟩, fun _ => by omega⟩
      | false =>
        have HX := hid hx
        clear hx
        go_wp2
        go_roundw
        case rel =>
          refine ⟨k + 1, by omega, by go_num, btrans hbl hb2, fun j hj hlt2 => ?_⟩
          by_cases e : j = k
          · subst e; exact HX.out
          · exact Hno.out j hj (by omega)
        case measure => simp [intOf]; omega
    · go_wp2
      go_ret
      refine ⟨⟨-1, rfl, ?_⟩, hbl⟩
      refine ⟨fun h => absurd h (by omega), fun h => ?_⟩
      obtain ⟨x, hx, hp⟩ := List.any_eq_true.1 h
      obtain ⟨j, hj, rfl⟩ := List.getElem_of_mem hx
      rw [Hno.out j hj (by omega)] at hp
      exact absurd hp (by simp)

set_option maxHeartbeats 400000 in
theorem contains112_118 (l m : Int) (b1 b2 : Nat) (a : Option Addr) (L : List Int) (cap : Nat) (w : World) (hw : IntsIn w a L) (hl : L.length ≤ 9223372036854775807) (h1 : w.cell? ⟨b1, 0, none⟩ = some (.int .i64 l)) (h2 : w.cell? ⟨b2, 0, none⟩ = some (.int .i64 m)) :
    Calls Try.prog 122 #[.slice a L.length cap, .func (.func 128) #[] #[.pointer (some ⟨b1, 0, none⟩), .pointer (some ⟨b2, 0, none⟩)]] w fun e w' => e = .returned (.bool (L.any fun x => !inR x l m)) ∧ Below w.heap.size w w' := by
  have H1 := hid h1
  have H2 := hid h2
  clear h1 h2
  go_enter Try.func122, Try.ntmps122
  go_wp2_with fail
  refine (index140_118 l m b1 b2 a L cap _ hw hl H1.out H2.out).mono ?_
  rintro e w' ⟨⟨r, rfl, hr⟩, hb⟩
  have HR := hid hr
  clear hr
  go_wp2
  go_ret
  exact ⟨ret_bool (by rw [Bool.eq_iff_iff]; simpa using HR.out), hb⟩

set_option maxHeartbeats 400000 in
theorem all_any (l m : Int) (a : Option Addr) (L : List Int) (cap : Nat) (w : World) (hw : IntsIn w a L) (hl : L.length ≤ 9223372036854775807) :
    Calls Try.prog 91 #[.slice a L.length cap, .int .i64 l, .int .i64 m] w fun e w' => e = .returned (.bool (allR L l m)) ∧ Below w.heap.size w w' := by
  have q1 := below_new w (.cells #[.int .i64 l] 3)
  have q2 := below_new (w.alloc (.cells #[.int .i64 l] 3)) (.cells #[.int .i64 m] 3)
  have HB := hid (btrans q1 q2)
  have HW := hid (hw.keep (btrans q1 q2))
  have hmf : ∀ (fn : Fn) (first cap : Array Value) (w : World), (Instr.makeFunc fn first cap).run Try.prog w = .ok (.func fn first cap) w := fun _ _ _ _ => rfl
  clear q1 q2 hw
  go_enter Try.func91, Try.ntmps91
  go_wp2_with fail
  refine (contains112_118 l m w.heap.size (w.heap.size + 1) a L cap _ HW.out hl (by simp) (by simp)).mono ?_
  rintro e w' ⟨rfl, hb⟩
  have HQ := hid (allR_any L l m)
  generalize (L.any fun x => !inR x l m) = q at *
  go_wp2
  go_ret
  exact ⟨ret_bool HQ.out, btrans HB.out hb⟩

set_option maxHeartbeats 1000000 in
theorem ringCheck_any (a : Option Addr) (V : List Int) (cap : Nat) (lost size : Int) (w : World) (hw : IntsIn w a V) (hl : V.length ≤ 9223372036854775807) :
    Calls Try.prog 41 #[.agg #[.slice a V.length cap, .int .i64 lost], .int .i64 size] w fun e w' => e = .returned (.int .i64 (ckR V lost size)) ∧ Below w.heap.size w w' := by
  have q1 := below_new w (.cells #[.slice a V.length cap, .int .i64 lost] 63)
  have HW := hid (hw.keep q1)
  have HB := hid q1
  clear hw q1
  go_enter Try.func41, Try.ntmps41
  go_wp2_with fail
  refine (within_any _ _ _ _).mono ?_
  rintro e w' ⟨rfl, rfl⟩
  cases h1 : inR size 1 4 with
  | false =>
    go_wp2
    go_ret
    exact ⟨ret_int (by simp [ckR, h1]), HB.out⟩
  | true =>
    have H1 := hid h1
    clear h1
    by_cases h2 : size < (V.length : Int)
    · have h2' : (V.length : Int) > size := h2
      go_wp2
      go_ret
      exact ⟨ret_int (by simp [ckR, H1.out, h2]), HB.out⟩
    · have h2' : ¬ (V.length : Int) > size := h2
      have H2 := hid h2
      clear h2
      go_wp2_with fail
      refine (all_any 0 255 a V cap _ HW.out hl).mono ?_
      rintro e w2 ⟨rfl, hb2⟩
      have c1 := bkeep hb2 (show (w.alloc (.cells #[.slice a V.length cap, .int .i64 lost] 63)).cell? ⟨w.heap.size, 1, none⟩ = some (.int .i64 lost) by simp) (Nat.le_refl _)
      have HB2 := hid (btrans HB.out hb2)
      cases h3 : allR V 0 255 with
      | false =>
        go_wp2
        go_ret
        exact ⟨ret_int (by simp [ckR, H1.out, H2.out, h3]), HB2.out⟩
      | true =>
        have H3 := hid h3
        clear h3
        go_wp2_with fail
        refine (within_any _ _ _ _).mono ?_
        rintro e w' ⟨rfl, rfl⟩
        cases h4 : inR lost 0 100000 with
        | false =>
          go_wp2
          go_ret
          exact ⟨ret_int (by simp [ckR, H1.out, H2.out, H3.out, h4]), HB2.out⟩
        | true =>
          go_wp2
          go_ret
          exact ⟨ret_int (by simp [ckR, H1.out, H2.out, H3.out, h4]), HB2.out⟩

set_option maxHeartbeats 400000 in
theorem areValues_any (a : Option Addr) (L : List Int) (cap : Nat) (w : World) (hw : IntsIn w a L) (hl : L.length ≤ 9223372036854775807) :
    Calls Try.prog 37 #[.slice a L.length cap] w fun e w' => e = .returned (.bool (allR L 0 255)) ∧ Below w.heap.size w w' := by
  go_enter Try.func37, Try.ntmps37
  go_wp2
  go_loopw [3] (fun i wr => ∃ k : Nat, k ≤ L.length ∧ i = .int .i64 k ∧ Below w.heap.size w wr ∧ ∀ j (hj : j < L.length), j < k → inR L[j] 0 255 = true) (fun i _ => L.length - (intOf i).toNat)
  case atStart => exact ⟨0, Nat.zero_le _, rfl, Below.refl _ _, by omega⟩
  case round =>
    obtain ⟨k, hk, rfl, hbl, hno⟩ := hrel
    have Hno := hid hno
    clear hno
    by_cases hlt : k < L.length
    · obtain ⟨b', o', rfl, hc1⟩ := hw k hlt
      have hc1' := bkeep hbl hc1 (Nat.le_refl _)
      have hk1 : (k : Int) < L.length := by omega
      go_wp2_with fail
      refine (between_any _ _ _ _).mono ?_
      rintro e w' ⟨rfl, rfl⟩
      cases hx : inR L[k] 0 255 with
      | false =>
        have HX := hid (allR_false k hlt hx)
        clear hx
        go_wp2
        go_ret
        exact ⟨ret_bool HX.out.symm, hbl⟩
      | true =>
        have HX := hid hx
        clear hx
        go_wp2
        go_roundw
        case rel =>
          refine ⟨k + 1, by omega, by go_num, hbl, fun j hj hlt2 => ?_⟩
          by_cases e : j = k
          · subst e; exact HX.out
          · exact Hno.out j hj (by omega)
        case measure => simp [intOf]; omega
    · go_wp2
      go_ret
      exact ⟨ret_bool (allR_true (fun j hj => Hno.out j hj (by omega))).symm, hbl⟩

set_option maxHeartbeats 1000000 in
theorem checkRing_any (a : Option Addr) (V : List Int) (cap : Nat) (lost size : Int) (w : World) (hw : IntsIn w a V) (hl : V.length ≤ 9223372036854775807) :
    Calls Try.prog 36 #[.agg #[.slice a V.length cap, .int .i64 lost], .int .i64 size] w fun e w' => e = .returned (.int .i64 (ckR V lost size)) ∧ Below w.heap.size w w' := by
  have q1 := below_new w (.cells #[.slice a V.length cap, .int .i64 lost] 63)
  have HW := hid (hw.keep q1)
  have HB := hid q1
  clear hw q1
  go_enter Try.func36, Try.ntmps36
  go_wp2_with fail
  refine (between_any _ _ _ _).mono ?_
  rintro e w' ⟨rfl, rfl⟩
  cases h1 : inR size 1 4 with
  | false =>
    go_wp2
    go_ret
    exact ⟨ret_int (by simp [ckR, h1]), HB.out⟩
  | true =>
    have H1 := hid h1
    clear h1
    by_cases h2 : size < (V.length : Int)
    · have h2' : (V.length : Int) > size := h2
      go_wp2
      go_ret
      exact ⟨ret_int (by simp [ckR, H1.out, h2]), HB.out⟩
    · have h2' : ¬ (V.length : Int) > size := h2
      have H2 := hid h2
      clear h2
      go_wp2_with fail
      refine (areValues_any a V cap _ HW.out hl).mono ?_
      rintro e w2 ⟨rfl, hb2⟩
      have c1 := bkeep hb2 (show (w.alloc (.cells #[.slice a V.length cap, .int .i64 lost] 63)).cell? ⟨w.heap.size, 1, none⟩ = some (.int .i64 lost) by simp) (Nat.le_refl _)
      have HB2 := hid (btrans HB.out hb2)
      cases h3 : allR V 0 255 with
      | false =>
        go_wp2
        go_ret
        exact ⟨ret_int (by simp [ckR, H1.out, H2.out, h3]), HB2.out⟩
      | true =>
        have H3 := hid h3
        clear h3
        go_wp2_with fail
        refine (between_any _ _ _ _).mono ?_
        rintro e w' ⟨rfl, rfl⟩
        cases h4 : inR lost 0 100000 with
        | false =>
          go_wp2
          go_ret
          exact ⟨ret_int (by simp [ckR, H1.out, H2.out, H3.out, h4]), HB2.out⟩
        | true =>
          go_wp2
          go_ret
          exact ⟨ret_int (by simp [ckR, H1.out, H2.out, H3.out, h4]), HB2.out⟩

end Go.Proofs.Ytaellaconpaejaa
