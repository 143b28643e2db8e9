/- Walks: the checks of a config's owners, channels and tasks. -/
import Derived.Test.YtaellaconpaejaaNc
set_option linter.unusedVariables false
namespace Go.Proofs.Ytaellaconpaejaa
open Go.RowKit

set_option maxHeartbeats 1000000 in
theorem owners1_any (C : Conf) (A : Mem) (b : Nat) (x : Int) (w : World) (hd1 : 1 ≤ C.d) (hd4 : C.d ≤ 4) (hB : BoxC w b C A) :
    Calls Try.prog 123 #[.int .i64 x, .pointer (some ⟨b, 0, none⟩)] w fun e w' => e = .returned (.bool (!isD C.d x)) ∧ Below w.heap.size w w' := by
  have hbx := hB.lt
  obtain ⟨g0, g1, g2, g3, g4, g5, g6, g7, g8⟩ := hB
  go_enter Try.func123, Try.ntmps123
  go_wp2_with fail
  refine (isDomain_any _ _ _ _ _ _ _ _ C.d x hd1 hd4 _).mono ?_
  rintro e w2 ⟨rfl, hb2⟩
  go_wp2
  go_ret
  exact ⟨rfl, hb2⟩

set_option maxHeartbeats 400000 in
theorem index70_any (p : Int → Bool) (b : Nat) (a : Option Addr) (L : List Int) (cap : Nat) (w : World) (hw : IntsIn w a L) (hl : L.length ≤ 9223372036854775807)
    (hF : ∀ (x : Int) (wr : World), Below w.heap.size w wr → Calls Try.prog 123 #[.int .i64 x, .pointer (some ⟨b, 0, none⟩)] wr fun e w' => e = .returned (.bool (p x)) ∧ Below wr.heap.size wr w') :
    Calls Try.prog 152 #[.slice a L.length cap, .func (.func 123) #[] #[.pointer (some ⟨b, 0, none⟩)]] w fun e w' => (∃ r : Int, e = .returned (.int .i64 r) ∧ (0 ≤ r ↔ L.any p = true)) ∧ Below w.heap.size w w' := by
  have HF := hid hF
  clear hF
  go_enter Try.func152, Try.ntmps152
  go_wp2
  go_loopw [8] (fun i wr => ∃ k : Nat, k ≤ L.length ∧ i = .int .i64 k ∧ Below w.heap.size w wr ∧ ∀ j (hj : j < L.length), j < k → p L[j] = false) (fun i _ => L.length - (intOf i).toNat)
  case atStart => exact ⟨0, Nat.zero_le _, rfl, Below.refl _ _, by omega⟩
  case round =>
    obtain ⟨k, hk, rfl, hbl, hno⟩ := hrel
    have Hno : Hid (∀ j (hj : j < L.length), j < k → p L[j] = false) := hno
    clear hno
    by_cases hlt : k < L.length
    · obtain ⟨b', o', rfl, hc1⟩ := hw k hlt
      have hc1' := bkeep hbl hc1 (Nat.le_refl _)
      go_wp2_with fail
      refine (HF.out L[k] _ hbl).mono ?_
      rintro e w' ⟨rfl, hb2⟩
      cases hx : p L[k] with
      | true =>
        have HX := hid hx
        clear hx
        go_wp2
        go_ret
        refine ⟨⟨k, rfl, ?_⟩, btrans hbl hb2⟩
        exact ⟨fun _ => List.any_eq_true.2 ⟨_, List.getElem_mem hlt, HX.out⟩, fun _ => by omega⟩
      | false =>
        have HX := hid hx
        clear hx
        go_wp2
        go_roundw
        case rel =>
          refine ⟨k + 1, by omega, by go_num, btrans hbl hb2, fun j hj hlt2 => ?_⟩
          by_cases e : j = k
          · subst e; exact HX.out
          · exact Hno.out j hj (by omega)
        case measure => simp [intOf]; omega
    · go_wp2
      go_ret
      refine ⟨⟨-1, rfl, ?_⟩, hbl⟩
      refine ⟨fun h => absurd h (by omega), fun h => ?_⟩
      obtain ⟨x, hx, hp⟩ := List.any_eq_true.1 h
      obtain ⟨j, hj, rfl⟩ := List.getElem_of_mem hx
      rw [Hno.out j hj (by omega)] at hp
      exact absurd hp (by simp)

set_option maxHeartbeats 400000 in
theorem contains61_any (p : Int → Bool) (b : Nat) (a : Option Addr) (L : List Int) (cap : Nat) (w : World) (hw : IntsIn w a L) (hl : L.length ≤ 9223372036854775807)
    (hF : ∀ (x : Int) (wr : World), Below w.heap.size w wr → Calls Try.prog 123 #[.int .i64 x, .pointer (some ⟨b, 0, none⟩)] wr fun e w' => e = .returned (.bool (p x)) ∧ Below wr.heap.size wr w') :
    Calls Try.prog 122 #[.slice a L.length cap, .func (.func 123) #[] #[.pointer (some ⟨b, 0, none⟩)]] w fun e w' => e = .returned (.bool (L.any p)) ∧ Below w.heap.size w w' := by
  have HF := hid hF
  clear hF
  go_enter Try.func122, Try.ntmps122
  go_wp2_with fail
  refine (index70_any p b a L cap _ hw hl HF.out).mono ?_
  rintro e w' ⟨⟨r, rfl, hr⟩, hb⟩
  have HR := hid hr
  clear hr
  go_wp2
  go_ret
  exact ⟨ret_bool (by rw [Bool.eq_iff_iff]; simpa using HR.out), hb⟩

set_option maxHeartbeats 1000000 in
theorem checkOwners_any (C : Conf) (A : Mem) (w : World) (hC : ConfIn w A C) (hd1 : 1 ≤ C.d) (hd4 : C.d ≤ 4) :
    Calls Try.prog 84 #[cv C A] w fun e w' => e = .returned (.int .i64 (ckOw C)) ∧ Below w.heap.size w w' := by
  have l6 := hC.l6
  have q1 := below_new w (.cells (cl C A) 46)
  have B1 := hid (boxC_new w C A)
  have hS := hC.ow.keep q1
  dsimp only [cv, cl] at *
  go_enter Try.func84, Try.ntmps84
  go_wp2_with fail
  refine (contains61_any (fun x => !isD C.d x) w.heap.size _ C.ow _ _ hS l6 (fun x wr hwr => owners1_any C A w.heap.size x wr hd1 hd4 (B1.out.keep hwr))).mono ?_
  rintro e w2 ⟨rfl, hb2⟩
  cases hx : C.ow.any fun x => !isD C.d x with
  | true =>
    go_wp2
    go_ret
    exact ⟨ret_int (by rw [ckOw, if_pos hx]), btrans q1 hb2⟩
  | false =>
    go_wp2
    go_ret
    exact ⟨ret_int (by rw [ckOw, hx]; rfl), btrans q1 hb2⟩

set_option maxHeartbeats 1000000 in
theorem chans1_any (y1 y2 y3 x1 x2 x3 : Int) (b : Nat) (w : World) (h1 : w.cell? ⟨b, 0, none⟩ = some (.int .i64 x1)) (h2 : w.cell? ⟨b, 1, none⟩ = some (.int .i64 x2)) :
    Calls Try.prog 124 #[.agg #[.int .i64 y1, .int .i64 y2, .int .i64 y3], .pointer (some ⟨b, 0, none⟩)] w fun e w' => e = .returned (.bool (twin (x1, x2, x3) (y1, y2, y3))) ∧ Below w.heap.size w w' := by
  have hbx := World.block_lt_of_cell? _ _ h1
  go_enter Try.func124, Try.ntmps124
  by_cases h : y1 = x1
  · subst h
    go_wp2
    go_ret
    exact ⟨ret_bool (by simp [twin]), below_new _ _⟩
  · have h' : (y1 == x1) = false := by simp [h]
    go_wp2
    go_ret
    exact ⟨ret_bool (by simp [twin, h]), below_new _ _⟩

set_option maxHeartbeats 400000 in
theorem index71_any (p : Int × Int × Int → Bool) (b : Nat) (a : Option Addr) (L : List (Int × Int × Int)) (cap : Nat) (w : World) (hw : ChansIn w a L) (hl : L.length ≤ 9223372036854775807)
    (hF : ∀ (x : Int × Int × Int) (wr : World), Below w.heap.size w wr → Calls Try.prog 124 #[.agg #[.int .i64 x.1, .int .i64 x.2.1, .int .i64 x.2.2], .pointer (some ⟨b, 0, none⟩)] wr fun e w' => e = .returned (.bool (p x)) ∧ Below wr.heap.size wr w') :
    Calls Try.prog 153 #[.slice a L.length cap, .func (.func 124) #[] #[.pointer (some ⟨b, 0, none⟩)]] w fun e w' => (∃ r : Int, e = .returned (.int .i64 r) ∧ (0 ≤ r ↔ L.any p = true)) ∧ Below w.heap.size w w' := by
  have HF := hid hF
  clear hF
  go_enter Try.func153, Try.ntmps153
  go_wp2
  go_loopw [8] (fun i wr => ∃ k : Nat, k ≤ L.length ∧ i = .int .i64 k ∧ Below w.heap.size w wr ∧ ∀ j (hj : j < L.length), j < k → p L[j] = false) (fun i _ => L.length - (intOf i).toNat)
  case atStart => exact ⟨0, Nat.zero_le _, rfl, Below.refl _ _, by omega⟩
  case round =>
    obtain ⟨k, hk, rfl, hbl, hno⟩ := hrel
    have Hno : Hid (∀ j (hj : j < L.length), j < k → p L[j] = false) := hno
    clear hno
    by_cases hlt : k < L.length
    · obtain ⟨b', o', rfl, hc1, hc2, hc3⟩ := hw k hlt
      have hc1' := bkeep hbl hc1 (Nat.le_refl _)
      have hc2' := bkeep hbl hc2 (Nat.le_refl _)
      have hc3' := bkeep hbl hc3 (Nat.le_refl _)
      go_wp2_with fail
      refine (HF.out L[k] _ hbl).mono ?_
      rintro e w' ⟨rfl, hb2⟩
      cases hx : p L[k] with
      | true =>
        have HX := hid hx
        clear hx
        go_wp2
        go_ret
        refine ⟨⟨k, rfl, ?_⟩, btrans hbl hb2⟩
        exact ⟨fun _ => List.any_eq_true.2 ⟨_, List.getElem_mem hlt, HX.out⟩, fun _ => by omega⟩
      | false =>
        have HX := hid hx
        clear hx
        go_wp2
        go_roundw
        case rel =>
          refine ⟨k + 1, by omega, by go_num, btrans hbl hb2, fun j hj hlt2 => ?_⟩
          by_cases e : j = k
          · subst e; exact HX.out
          · exact Hno.out j hj (by omega)
        case measure => simp [intOf]; omega
    · go_wp2
      go_ret
      refine ⟨⟨-1, rfl, ?_⟩, hbl⟩
      refine ⟨fun h => absurd h (by omega), fun h => ?_⟩
      obtain ⟨x, hx, hp⟩ := List.any_eq_true.1 h
      obtain ⟨j, hj, rfl⟩ := List.getElem_of_mem hx
      rw [Hno.out j hj (by omega)] at hp
      exact absurd hp (by simp)

set_option maxHeartbeats 400000 in
theorem contains64_any (p : Int × Int × Int → Bool) (b : Nat) (a : Option Addr) (L : List (Int × Int × Int)) (cap : Nat) (w : World) (hw : ChansIn w a L) (hl : L.length ≤ 9223372036854775807)
    (hF : ∀ (x : Int × Int × Int) (wr : World), Below w.heap.size w wr → Calls Try.prog 124 #[.agg #[.int .i64 x.1, .int .i64 x.2.1, .int .i64 x.2.2], .pointer (some ⟨b, 0, none⟩)] wr fun e w' => e = .returned (.bool (p x)) ∧ Below wr.heap.size wr w') :
    Calls Try.prog 125 #[.slice a L.length cap, .func (.func 124) #[] #[.pointer (some ⟨b, 0, none⟩)]] w fun e w' => e = .returned (.bool (L.any p)) ∧ Below w.heap.size w w' := by
  have HF := hid hF
  clear hF
  go_enter Try.func125, Try.ntmps125
  go_wp2_with fail
  refine (index71_any p b a L cap _ hw hl HF.out).mono ?_
  rintro e w' ⟨⟨r, rfl, hr⟩, hb⟩
  have HR := hid hr
  clear hr
  go_wp2
  go_ret
  exact ⟨ret_bool (by rw [Bool.eq_iff_iff]; simpa using HR.out), hb⟩

theorem ChansIn.take {w : World} {a : Option Addr} {ls : List (Int × Int × Int)} (h : ChansIn w a ls) (k : Nat) : ChansIn w a (ls.take k) := by
  intro i hi
  have : i < ls.length := by simp at hi; omega
  obtain ⟨b, o, e, h1, h2, h3⟩ := h i this
  exact ⟨b, o, e, by simpa using h1, by simpa using h2, by simpa using h3⟩

theorem contains64_take (x : Int × Int × Int) (b : Nat) (a : Option Addr) (L : List (Int × Int × Int)) (k cap : Nat) (w : World) (hw : ChansIn w a L) (hk : k ≤ L.length) (hl : L.length ≤ 9223372036854775807)
    (h1 : w.cell? ⟨b, 0, none⟩ = some (.int .i64 x.1)) (h2 : w.cell? ⟨b, 1, none⟩ = some (.int .i64 x.2.1)) :
    Calls Try.prog 125 #[.slice a k cap, .func (.func 124) #[] #[.pointer (some ⟨b, 0, none⟩)]] w fun e w' => e = .returned (.bool ((L.take k).any (twin x))) ∧ Below w.heap.size w w' := by
  have e : (L.take k).length = k := by simp; omega
  have := contains64_any (twin x) b a (L.take k) cap w (hw.take k) (by omega) (fun y wr hwr => chans1_any y.1 y.2.1 y.2.2 x.1 x.2.1 x.2.2 b wr (bkeep hwr h1 (Nat.le_refl _)) (bkeep hwr h2 (Nat.le_refl _)))
  rw [e] at this
  exact this

end Go.Proofs.Ytaellaconpaejaa
