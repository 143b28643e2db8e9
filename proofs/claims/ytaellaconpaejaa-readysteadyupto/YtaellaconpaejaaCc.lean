/- Walks: what a check of a cache's shape comes to. -/
import Derived.Test.YtaellaconpaejaaCb
set_option linter.unusedVariables false
namespace Go.Proofs.Ytaellaconpaejaa
open Go.RowKit

/-- The sets of a row of cells. -/
def CacheIn (w : World) (a : Option Addr) (C : List (List (Int × Bool))) : Prop :=
  ∀ j (h : j < C.length), ∃ b o a' cap, a = some ⟨b, o, none⟩ ∧ w.cell? ⟨b, o + j, none⟩ = some (.slice a' C[j].length cap) ∧ WaysIn w a' C[j] ∧ C[j].length ≤ cap ∧ C[j].length ≤ 9223372036854775807

theorem CacheIn.keep {w w' : World} {a : Option Addr} {C : List (List (Int × Bool))} (h : CacheIn w a C) (hb : Below w.heap.size w w') : CacheIn w' a C := by
  intro i hi
  obtain ⟨b, o, a', cap, e, h1, h2, h3, h4⟩ := h i hi
  exact ⟨b, o, a', cap, e, bkeep hb h1 (Nat.le_refl _), h2.keep hb, h3, h4⟩

set_option maxHeartbeats 400000 in
theorem shape1_any (a : Option Addr) (n cap : Nat) (hn : n ≤ 9223372036854775807) (w : World) :
    Calls Try.prog 117 #[.slice a n cap] w fun e w' => e = .returned (.bool (!inR n 1 3)) ∧ Below w.heap.size w w' := by
  go_enter Try.func117, Try.ntmps117
  go_wp2_with fail
  refine (within_any _ _ _ _).mono ?_
  rintro e w' ⟨rfl, rfl⟩
  go_wp2
  go_ret
  exact ⟨rfl, Below.refl _ _⟩

set_option maxHeartbeats 400000 in
theorem shape2_any (a : Option Addr) (n cap : Nat) (hn : n ≤ 9223372036854775807) (pb po b o N Ncap : Nat) (a' : Option Addr) (n' cap' : Nat) (hn' : n' ≤ 9223372036854775807) (w : World)
    (h1 : w.cell? ⟨pb, po, none⟩ = some (.slice (some ⟨b, o, none⟩) N Ncap)) (hN : 0 < (N : Int)) (h2 : w.cell? ⟨b, o, none⟩ = some (.slice a' n' cap')) :
    Calls Try.prog 118 #[.slice a n cap, .pointer (some ⟨pb, po, none⟩)] w fun e w' => e = .returned (.bool (n != n')) ∧ Below w.heap.size w w' := by
  go_enter Try.func118, Try.ntmps118
  go_wp2
  go_ret
  exact ⟨ret_bool (by rw [Bool.eq_iff_iff]; simp; omega), Below.refl _ _⟩

set_option maxHeartbeats 400000 in
theorem index69_56 (p : List (Int × Bool) → Bool) (a : Option Addr) (C : List (List (Int × Bool))) (cap : Nat) (w : World) (hw : CacheIn w a C) (hl : C.length ≤ 9223372036854775807)
    (hF : ∀ (ls : List (Int × Bool)) (a' : Option Addr) (cap' : Nat) (wr : World), ls ∈ C → ls.length ≤ 9223372036854775807 → Below w.heap.size w wr → Calls Try.prog 117 #[.slice a' ls.length cap'] wr fun e w' => e = .returned (.bool (p ls)) ∧ Below wr.heap.size wr w') :
    Calls Try.prog 151 #[.slice a C.length cap, .func (.func 117) #[] #[]] w fun e w' => (∃ r : Int, e = .returned (.int .i64 r) ∧ (0 ≤ r ↔ C.any p = true)) ∧ Below w.heap.size w w' := by
  have HF := hid hF
  clear hF
  go_enter Try.func151, Try.ntmps151
  go_wp2
  go_loopw [8] (fun i wr => ∃ k : Nat, k ≤ C.length ∧ i = .int .i64 k ∧ Below w.heap.size w wr ∧ ∀ j (hj : j < C.length), j < k → p C[j] = false) (fun i _ => C.length - (intOf i).toNat)
  case atStart => exact ⟨0, Nat.zero_le _, rfl, Below.refl _ _, by omega⟩
  case round =>
    obtain ⟨k, hk, rfl, hbl, hno⟩ := hrel
    have Hno : Hid (∀ j (hj : j < C.length), j < k → p C[j] = false) := hno
    clear hno
    by_cases hlt : k < C.length
    · obtain ⟨b', o', a2, cap2, rfl, hc1, hws, hcap, hlen⟩ := hw k hlt
      have hc1' := bkeep hbl hc1 (Nat.le_refl _)
      go_wp2_with fail
      refine (HF.out C[k] a2 cap2 _ (List.getElem_mem hlt) hlen hbl).mono ?_
      rintro e w' ⟨rfl, hb2⟩
      cases hx : p C[k] with
      | true =>
        have HX := hid hx
        clear hx
        go_wp2
        go_ret
        refine ⟨⟨k, rfl, ?_⟩, btrans hbl hb2⟩
        exact ⟨fun _ => List.any_eq_true.2 ⟨_, List.getElem_mem hlt, HX.out⟩, fun _ => by omega⟩
      | false =>
        have HX := hid hx
        clear hx
        go_wp2
        go_roundw
        case rel =>
          refine ⟨k + 1, by omega, by go_num, btrans hbl hb2, fun j hj hlt2 => ?_⟩
          by_cases e : j = k
          · subst e; exact HX.out
          · exact Hno.out j hj (by omega)
        case measure => simp [intOf]; omega
    · go_wp2
      go_ret
      refine ⟨⟨-1, rfl, ?_⟩, hbl⟩
      refine ⟨fun h => absurd h (by omega), fun h => ?_⟩
      obtain ⟨x, hx, hp⟩ := List.any_eq_true.1 h
      obtain ⟨j, hj, rfl⟩ := List.getElem_of_mem hx
      rw [Hno.out j hj (by omega)] at hp
      exact absurd hp (by simp)

set_option maxHeartbeats 400000 in
theorem contains55_56 (p : List (Int × Bool) → Bool) (a : Option Addr) (C : List (List (Int × Bool))) (cap : Nat) (w : World) (hw : CacheIn w a C) (hl : C.length ≤ 9223372036854775807)
    (hF : ∀ (ls : List (Int × Bool)) (a' : Option Addr) (cap' : Nat) (wr : World), ls ∈ C → ls.length ≤ 9223372036854775807 → Below w.heap.size w wr → Calls Try.prog 117 #[.slice a' ls.length cap'] wr fun e w' => e = .returned (.bool (p ls)) ∧ Below wr.heap.size wr w') :
    Calls Try.prog 116 #[.slice a C.length cap, .func (.func 117) #[] #[]] w fun e w' => e = .returned (.bool (C.any p)) ∧ Below w.heap.size w w' := by
  have HF := hid hF
  clear hF
  go_enter Try.func116, Try.ntmps116
  go_wp2_with fail
  refine (index69_56 p  a C cap _ hw hl HF.out).mono ?_
  rintro e w' ⟨⟨r, rfl, hr⟩, hb⟩
  have HR := hid hr
  clear hr
  go_wp2
  go_ret
  exact ⟨ret_bool (by rw [Bool.eq_iff_iff]; simpa using HR.out), hb⟩

set_option maxHeartbeats 400000 in
theorem index69_57 (p : List (Int × Bool) → Bool) (pb po : Nat) (a : Option Addr) (C : List (List (Int × Bool))) (cap : Nat) (w : World) (hw : CacheIn w a C) (hl : C.length ≤ 9223372036854775807)
    (hF : ∀ (ls : List (Int × Bool)) (a' : Option Addr) (cap' : Nat) (wr : World), ls ∈ C → ls.length ≤ 9223372036854775807 → Below w.heap.size w wr → Calls Try.prog 118 #[.slice a' ls.length cap', .pointer (some ⟨pb, po, none⟩)] wr fun e w' => e = .returned (.bool (p ls)) ∧ Below wr.heap.size wr w') :
    Calls Try.prog 151 #[.slice a C.length cap, .func (.func 118) #[] #[.pointer (some ⟨pb, po, none⟩)]] w fun e w' => (∃ r : Int, e = .returned (.int .i64 r) ∧ (0 ≤ r ↔ C.any p = true)) ∧ Below w.heap.size w w' := by
  have HF := hid hF
  clear hF
  go_enter Try.func151, Try.ntmps151
  go_wp2
  go_loopw [8] (fun i wr => ∃ k : Nat, k ≤ C.length ∧ i = .int .i64 k ∧ Below w.heap.size w wr ∧ ∀ j (hj : j < C.length), j < k → p C[j] = false) (fun i _ => C.length - (intOf i).toNat)
  case atStart => exact ⟨0, Nat.zero_le _, rfl, Below.refl _ _, by omega⟩
  case round =>
    obtain ⟨k, hk, rfl, hbl, hno⟩ := hrel
    have Hno : Hid (∀ j (hj : j < C.length), j < k → p C[j] = false) := hno
    clear hno
    by_cases hlt : k < C.length
    · obtain ⟨b', o', a2, cap2, rfl, hc1, hws, hcap, hlen⟩ := hw k hlt
      have hc1' := bkeep hbl hc1 (Nat.le_refl _)
      go_wp2_with fail
      refine (HF.out C[k] a2 cap2 _ (List.getElem_mem hlt) hlen hbl).mono ?_
      rintro e w' ⟨rfl, hb2⟩
      cases hx : p C[k] with
      | true =>
        have HX := hid hx
        clear hx
        go_wp2
        go_ret
        refine ⟨⟨k, rfl, ?_⟩, btrans hbl hb2⟩
        exact ⟨fun _ => List.any_eq_true.2 ⟨_, List.getElem_mem hlt, HX.out⟩, fun _ => by omega⟩
      | false =>
        have HX := hid hx
        clear hx
        go_wp2
        go_roundw
        case rel =>
          refine ⟨k + 1, by omega, by go_num, btrans hbl hb2, fun j hj hlt2 => ?_⟩
          by_cases e : j = k
          · subst e; exact HX.out
          · exact Hno.out j hj (by omega)
        case measure => simp [intOf]; omega
    · go_wp2
      go_ret
      refine ⟨⟨-1, rfl, ?_⟩, hbl⟩
      refine ⟨fun h => absurd h (by omega), fun h => ?_⟩
      obtain ⟨x, hx, hp⟩ := List.any_eq_true.1 h
      obtain ⟨j, hj, rfl⟩ := List.getElem_of_mem hx
      rw [Hno.out j hj (by omega)] at hp
      exact absurd hp (by simp)

set_option maxHeartbeats 400000 in
theorem contains55_57 (p : List (Int × Bool) → Bool) (pb po : Nat) (a : Option Addr) (C : List (List (Int × Bool))) (cap : Nat) (w : World) (hw : CacheIn w a C) (hl : C.length ≤ 9223372036854775807)
    (hF : ∀ (ls : List (Int × Bool)) (a' : Option Addr) (cap' : Nat) (wr : World), ls ∈ C → ls.length ≤ 9223372036854775807 → Below w.heap.size w wr → Calls Try.prog 118 #[.slice a' ls.length cap', .pointer (some ⟨pb, po, none⟩)] wr fun e w' => e = .returned (.bool (p ls)) ∧ Below wr.heap.size wr w') :
    Calls Try.prog 116 #[.slice a C.length cap, .func (.func 118) #[] #[.pointer (some ⟨pb, po, none⟩)]] w fun e w' => e = .returned (.bool (C.any p)) ∧ Below w.heap.size w w' := by
  have HF := hid hF
  clear hF
  go_enter Try.func116, Try.ntmps116
  go_wp2_with fail
  refine (index69_57 p pb po a C cap _ hw hl HF.out).mono ?_
  rintro e w' ⟨⟨r, rfl, hr⟩, hb⟩
  have HR := hid hr
  clear hr
  go_wp2
  go_ret
  exact ⟨ret_bool (by rw [Bool.eq_iff_iff]; simpa using HR.out), hb⟩

set_option maxHeartbeats 400000 in
theorem checkShape_any (a : Option Addr) (C : List (List (Int × Bool))) (cap : Nat) (w : World) (hw : CacheIn w a C) (hl : C.length ≤ 9223372036854775807) :
    Calls Try.prog 75 #[.slice a C.length cap] w fun e w' => e = .returned (.int .i64 (ckShape C)) ∧ Below w.heap.size w w' := by
  have h1 : Below w.heap.size w (w.alloc (.cells #[.slice a C.length cap] 22)) := (Below.refl _ _).alloc (Nat.le_refl _) _
  have hw1 := hw.keep h1
  go_enter Try.func75, Try.ntmps75
  go_wp2_with fail
  refine (within_any _ _ _ _).mono ?_
  rintro e w' ⟨rfl, rfl⟩
  cases hr : inR C.length 1 4 with
  | false =>
    go_wp2
    go_ret
    exact ⟨ret_int (by simp [ckShape, hr]), h1⟩
  | true =>
    have HR := hid hr
    have hpos : 0 < C.length := by simp [inR] at hr; omega
    clear hr
    go_wp2_with fail
    refine (contains55_56 (fun l => !inR l.length 1 3) a C cap _ hw1 hl (fun ls a' cap' wr _ hls _ => shape1_any a' ls.length cap' hls wr)).mono ?_
    rintro e w2 ⟨rfl, hb2⟩
    cases hr2 : C.any (fun l => !inR l.length 1 3) with
    | true =>
      go_wp2
      go_ret
      exact ⟨ret_int (by simp only [ckShape, HR.out, hr2]; simp), btrans h1 hb2⟩
    | false =>
      have HR2 := hid hr2
      clear hr2
      have hc : (w.alloc (.cells #[.slice a C.length cap] 22)).cell? ⟨w.heap.size, 0, none⟩ = some (.slice a C.length cap) := by simp
      have hc2 := bkeep hb2 hc (by simp)
      have hw2 := hw1.keep hb2
      obtain ⟨b', o', a2, cap2, rfl, hc1, hws, hcap, hlen⟩ := hw2 0 hpos
      have hpos' : 0 < (C.length : Int) := by omega
      have H0 : Hid ((C.headD []).length = C[0].length) := by
        cases C with
        | nil => simp at hpos
        | cons x r => rfl
      go_wp2_with fail
      refine (contains55_57 (fun l => l.length != C[0].length) w.heap.size 0 _ C cap _ hw2 hl (fun ls a' cap' wr _ hls hwr =>
        shape2_any a' ls.length cap' hls w.heap.size 0 b' o' C.length cap a2 C[0].length cap2 hlen wr (bkeep hwr hc2 (Nat.le_refl _)) hpos' (bkeep hwr (by simpa using hc1) (Nat.le_refl _)))).mono ?_
      rintro e w3 ⟨rfl, hb3⟩
      cases hr3 : C.any (fun l => l.length != C[0].length) with
      | true =>
        go_wp2
        go_ret
        exact ⟨ret_int (by simp only [ckShape, HR.out, HR2.out, H0.out, hr3]; simp), btrans h1 (btrans hb2 hb3)⟩
      | false =>
        go_wp2
        go_ret
        exact ⟨ret_int (by simp only [ckShape, HR.out, HR2.out, H0.out, hr3]; simp), btrans h1 (btrans hb2 hb3)⟩

end Go.Proofs.Ytaellaconpaejaa
