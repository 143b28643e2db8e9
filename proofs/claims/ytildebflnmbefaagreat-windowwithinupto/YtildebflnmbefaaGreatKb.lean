/- Walks: what a number's bounds and the search of a line in a set come to. Walks: what a check of a way comes to. Walks: what a check of a cache's shape comes to. Walks: what a check of a cache comes to. -/
import Derived.Test.YtildebflnmbefaaGreatRows
import Derived.Test.YtildebflnmbefaaGreatKa
import Derived.WalkKit
import Derived.WalkSpells
import Derived.WalkLawsBesides
import Derived.Deep.QuietTactic
import Derived.BigQuiet
set_option linter.unusedVariables false
namespace Go.Proofs.YtildebflnmbefaaGreat
open Go.RowKit

theorem ret_bool {a b : Bool} (h : a = b) : Ending.returned (.bool a) = .returned (.bool b) := by rw [h]
theorem ret_int {k : IntKind} {a b : Int} (h : a = b) : Ending.returned (.int k a) = .returned (.int k b) := by rw [h]

theorem hid {p : Prop} (h : p) : Hid p := h

theorem bkeep {B : Nat} {w w' : World} {p : Addr} {v : Value} (h : Below B w w') (hc : w.cell? p = some v) (hB : w.heap.size ≤ B) : w'.cell? p = some v := by
  rw [h.cell (Nat.lt_of_lt_of_le (World.block_lt_of_cell? _ _ hc) hB)]; exact hc

theorem btrans {w w1 w2 : World} (h : Below w.heap.size w w1) (k : Below w1.heap.size w1 w2) : Below w.heap.size w w2 := h.trans (k.mono h.size)

set_option maxHeartbeats 400000 in
theorem within_any (n l m : Int) (w : World) :
    Calls Tryz.prog 16 #[.int .i64 n, .int .i64 l, .int .i64 m] w fun e w' => e = .returned (.bool (inR n l m)) ∧ w = w' := by
  go_enter Tryz.func16, Tryz.ntmps16
  go_wp2
  all_goals go_ret
  all_goals refine ⟨ret_bool ?_, rfl⟩
  all_goals (simp [inR]; try omega)

set_option maxHeartbeats 400000 in
theorem find1_any (l ln : Int) (d : Bool) (b o : Nat) (w : World) (h : w.cell? ⟨b, o, none⟩ = some (.int .i64 ln)) :
    Calls Tryz.prog 86 #[.agg #[.int .i64 l, .bool d], .pointer (some ⟨b, o, none⟩)] w fun e w' => e = .returned (.bool (l == ln)) ∧ Below w.heap.size w w' := by
  have hb : b < w.heap.size := World.block_lt_of_cell? _ _ h
  go_enter Tryz.func86, Tryz.ntmps86
  go_wp2
  go_ret
  exact ⟨rfl, (Below.refl _ _).alloc (Nat.le_refl _) _⟩

/-- The ways of a row of cells. -/
def WaysIn (w : World) (a : Option Addr) (ls : List (Int × Bool)) : Prop :=
  ∀ i (h : i < ls.length), ∃ b o, a = some ⟨b, o, none⟩ ∧ w.cell? ⟨b, o + i * 2, none⟩ = some (.int .i64 ls[i].1) ∧ w.cell? ⟨b, o + i * 2 + 1, none⟩ = some (.bool ls[i].2)

theorem WaysIn.keep {w w' : World} {a : Option Addr} {ls : List (Int × Bool)} (h : WaysIn w a ls) (hb : Below w.heap.size w w') : WaysIn w' a ls := by
  intro i hi
  obtain ⟨b, o, e, h1, h2⟩ := h i hi
  exact ⟨b, o, e, bkeep hb h1 (Nat.le_refl _), bkeep hb h2 (Nat.le_refl _)⟩

set_option maxHeartbeats 400000 in
theorem index67_any (a : Option Addr) (ls : List (Int × Bool)) (cap : Nat) (ln : Int) (b o : Nat) (w : World) (h : w.cell? ⟨b, o, none⟩ = some (.int .i64 ln)) (hw : WaysIn w a ls) (hl : ls.length ≤ 9223372036854775807) :
    Calls Tryz.prog 85 #[.slice a ls.length cap, .func (.func 86) #[] #[.pointer (some ⟨b, o, none⟩)]] w fun e w' => e = .returned (.int .i64 (idx ln ls)) ∧ Below w.heap.size w w' := by
  have hb : b < w.heap.size := World.block_lt_of_cell? _ _ h
  go_enter Tryz.func85, Tryz.ntmps85
  go_wp2
  go_loopw [8] (fun i wr => ∃ k : Nat, k ≤ ls.length ∧ i = .int .i64 k ∧ Below w.heap.size w wr ∧ ∀ j (hj : j < ls.length), j < k → ls[j].1 ≠ ln) (fun i _ => ls.length - (intOf i).toNat)
  case atStart => exact ⟨0, Nat.zero_le _, rfl, Below.refl _ _, by omega⟩
  case round =>
    obtain ⟨k, hk, rfl, hbl, hno⟩ := hrel
    have Hno := hno
    replace Hno : Hid (∀ j (hj : j < ls.length), j < k → ls[j].1 ≠ ln) := hno
    clear hno
    by_cases hlt : k < ls.length
    · obtain ⟨b', o', rfl, hc1, hc2⟩ := hw k hlt
      have hc1' := bkeep hbl hc1 (Nat.le_refl _)
      have hc2' := bkeep hbl hc2 (Nat.le_refl _)
      have h' := bkeep hbl h (Nat.le_refl _)
      go_wp2_with fail
      refine (find1_any _ ln _ b o _ h').mono ?_
      rintro e w' ⟨rfl, hb2⟩
      by_cases hx : ls[k].1 = ln
      · have hx' : (ls[k].1 == ln) = true := by simp [hx]
        rw [hx']
        have HX : Hid (ls[k].1 = ln) := hx
        clear hx hx'
        go_wp2
        go_ret
        exact ⟨ret_int (idx_at ln ls k hlt HX.out Hno.out).symm, btrans hbl hb2⟩
      · have hx' : (ls[k].1 == ln) = false := by simp [hx]
        rw [hx']
        have HX : Hid (ls[k].1 ≠ ln) := hx
        clear hx hx'
        go_wp2
        go_roundw
        case rel =>
          refine ⟨k + 1, by omega, by go_num, btrans hbl hb2, fun j hj hlt2 => ?_⟩
          by_cases e : j = k
          · subst e; exact HX.out
          · exact Hno.out j hj (by omega)
        case measure => simp [intOf]; omega
    · go_wp2
      go_ret
      exact ⟨ret_int (idx_none ln ls (fun j hj => Hno.out j hj (by omega))).symm, hbl⟩

set_option maxHeartbeats 400000 in
theorem find_any (a : Option Addr) (ls : List (Int × Bool)) (cap : Nat) (ln : Int) (w : World) (hw : WaysIn w a ls) (hl : ls.length ≤ 9223372036854775807) :
    Calls Tryz.prog 58 #[.slice a ls.length cap, .int .i64 ln] w fun e w' => e = .returned (.int .i64 (idx ln ls)) ∧ Below w.heap.size w w' := by
  go_enter Tryz.func58, Tryz.ntmps58
  go_wp2_with fail
  have h1 : Below w.heap.size w (w.alloc (.cells #[.int .i64 ln] 3)) := (Below.refl _ _).alloc (Nat.le_refl _) _
  refine (index67_any a ls cap ln w.heap.size 0 _ (by simp) (hw.keep h1) hl).mono ?_
  rintro e w' ⟨rfl, hb2⟩
  go_wp2
  go_ret
  exact ⟨rfl, btrans h1 hb2⟩

end Go.Proofs.YtildebflnmbefaaGreat

namespace Go.Proofs.YtildebflnmbefaaGreat
open Go.RowKit

theorem WaysIn.take {w : World} {a : Option Addr} {ls : List (Int × Bool)} (h : WaysIn w a ls) (k : Nat) : WaysIn w a (ls.take k) := by
  intro i hi
  have : i < ls.length := by simp at hi; omega
  obtain ⟨b, o, e, h1, h2⟩ := h i this
  exact ⟨b, o, e, by simpa using h1, by simpa using h2⟩

theorem find_take (a : Option Addr) (ls : List (Int × Bool)) (k cap : Nat) (ln : Int) (w : World) (hw : WaysIn w a ls) (hk : k ≤ ls.length) (hl : ls.length ≤ 9223372036854775807) :
    Calls Tryz.prog 58 #[.slice a k cap, .int .i64 ln] w fun e w' => e = .returned (.int .i64 (idx ln (ls.take k))) ∧ Below w.heap.size w w' := by
  have e : (ls.take k).length = k := by simp; omega
  have := find_any a (ls.take k) cap ln w (hw.take k) (by omega)
  rw [e] at this
  exact this

set_option maxHeartbeats 800000 in
theorem checkWay_any (b o : Nat) (ls : List (Int × Bool)) (cap i : Nat) (num sets : Int) (w : World) (hw : WaysIn w (some ⟨b, o, none⟩) ls) (hi : i < ls.length) (hcap : ls.length ≤ cap) (hl : ls.length ≤ 9223372036854775807) (hs : 1 ≤ sets) (hs2 : sets ≤ 4) :
    Calls Tryz.prog 31 #[.slice (some ⟨b, o, none⟩) ls.length cap, .int .i64 i, .int .i64 num, .int .i64 sets] w fun e w' => e = .returned (.int .i64 (ckWay ls i num sets)) ∧ Below w.heap.size w w' := by
  obtain ⟨b', o', e, h1, h2⟩ := hw i hi
  simp only [Option.some.injEq, Addr.mk.injEq, and_true] at e
  obtain ⟨rfl, rfl⟩ := e
  have hi' : (i : Int) < (ls.length : Int) := by omega
  have hcap' : (ls.length : Int) ≤ (cap : Int) := by omega
  have hicap : (i : Int) ≤ (cap : Int) := by omega
  generalize hx : ls[i] = x at h1 h2
  obtain ⟨l, d⟩ := x
  have Hx : Hid (ls[i]? = some (l, d)) := by show ls[i]? = _; rw [List.getElem?_eq_getElem hi, hx]
  clear hx
  simp only at h1 h2
  go_enter Tryz.func31, Tryz.ntmps31
  go_wp2
  go_quiet (fail)
  go_wp2_with fail
  refine (within_any _ _ _ _).mono ?_
  rintro e w' ⟨rfl, rfl⟩
  have hb0 : Below w.heap.size w (w.drewN nq) := below_drewN (Below.refl _ _) nq
  cases hr : inR l 0 1000 with
  | false =>
    go_wp2
    go_ret
    exact ⟨ret_int (by rw [ckWay, Hx.out]; simp [hr]), hb0⟩
  | true =>
    have Hr : Hid (inR l 0 1000 = true) := hr
    have hr1 : 0 ≤ l ∧ l ≤ 1000 := by simpa [inR] using hr
    obtain ⟨hl0, hl1⟩ := hr1
    clear hr
    by_cases hz : l = 0
    · subst hz
      cases d with
      | false => 
        go_wp2
        go_ret
        exact ⟨ret_int (by rw [ckWay, Hx.out]; simp [Hr.out]), hb0⟩
      | true => 
        go_wp2
        go_ret
        exact ⟨ret_int (by rw [ckWay, Hx.out]; simp [Hr.out]), hb0⟩
    · have hz' : (l == 0) = false := by simp [hz]
      have hw' := hw.keep hb0
      have Hz : Hid (¬ l = 0) := hz
      clear hz
      by_cases hm : l % sets = num
      · have hm' : (l % sets != num) = false := by simp [hm]
        have Hm : Hid (l % sets = num) := hm
        clear hm
        go_wp2_with fail
        refine (find_take _ ls i cap _ _ hw' (by omega) hl).mono ?_
        rintro e w1 ⟨rfl, hb1⟩
        by_cases h6 : 0 ≤ idx l (ls.take i)
        · go_wp2
          go_ret
          exact ⟨ret_int (by rw [ckWay, Hx.out]; simp [Hr.out, Hz.out, Hm.out, h6]), btrans hb0 hb1⟩
        · have h6' : ¬ idx l (ls.take i) ≥ 0 := h6
          go_wp2_with fail
          refine (find_take _ ls i cap _ _ (hw'.keep hb1) (by omega) hl).mono ?_
          rintro e w2 ⟨rfl, hb2⟩
          by_cases h4 : 0 ≤ idx 0 (ls.take i)
          · go_wp2
            go_ret
            exact ⟨ret_int (by rw [ckWay, Hx.out]; simp [Hr.out, Hz.out, Hm.out]; rw [if_neg (by omega), if_pos (by omega)]), btrans hb0 (btrans hb1 hb2)⟩
          · go_wp2
            go_ret
            exact ⟨ret_int (by rw [ckWay, Hx.out]; simp [Hr.out, Hz.out, Hm.out]; rw [if_neg (by omega), if_neg (by omega)]), btrans hb0 (btrans hb1 hb2)⟩
      · have hm' : (l % sets != num) = true := by simp [hm]
        have Hm : Hid (¬ l % sets = num) := hm
        clear hm
        go_wp2
        go_ret
        exact ⟨ret_int (by rw [ckWay, Hx.out]; simp [Hr.out, Hz.out, Hm.out]), hb0⟩

end Go.Proofs.YtildebflnmbefaaGreat

namespace Go.Proofs.YtildebflnmbefaaGreat
open Go.RowKit

/-- The sets of a row of cells. -/
def CacheIn (w : World) (a : Option Addr) (C : List (List (Int × Bool))) : Prop :=
  ∀ j (h : j < C.length), ∃ b o a' cap, a = some ⟨b, o, none⟩ ∧ w.cell? ⟨b, o + j, none⟩ = some (.slice a' C[j].length cap) ∧ WaysIn w a' C[j] ∧ C[j].length ≤ cap ∧ C[j].length ≤ 9223372036854775807

theorem CacheIn.keep {w w' : World} {a : Option Addr} {C : List (List (Int × Bool))} (h : CacheIn w a C) (hb : Below w.heap.size w w') : CacheIn w' a C := by
  intro i hi
  obtain ⟨b, o, a', cap, e, h1, h2, h3, h4⟩ := h i hi
  exact ⟨b, o, a', cap, e, bkeep hb h1 (Nat.le_refl _), h2.keep hb, h3, h4⟩

set_option maxHeartbeats 400000 in
theorem shape1_any (a : Option Addr) (n cap : Nat) (hn : n ≤ 9223372036854775807) (w : World) :
    Calls Tryz.prog 56 #[.slice a n cap] w fun e w' => e = .returned (.bool (!inR n 1 3)) ∧ Below w.heap.size w w' := by
  go_enter Tryz.func56, Tryz.ntmps56
  go_wp2_with fail
  refine (within_any _ _ _ _).mono ?_
  rintro e w' ⟨rfl, rfl⟩
  go_wp2
  go_ret
  exact ⟨rfl, Below.refl _ _⟩

set_option maxHeartbeats 400000 in
theorem shape2_any (a : Option Addr) (n cap : Nat) (hn : n ≤ 9223372036854775807) (pb po b o N Ncap : Nat) (a' : Option Addr) (n' cap' : Nat) (hn' : n' ≤ 9223372036854775807) (w : World)
    (h1 : w.cell? ⟨pb, po, none⟩ = some (.slice (some ⟨b, o, none⟩) N Ncap)) (hN : 0 < (N : Int)) (h2 : w.cell? ⟨b, o, none⟩ = some (.slice a' n' cap')) :
    Calls Tryz.prog 57 #[.slice a n cap, .pointer (some ⟨pb, po, none⟩)] w fun e w' => e = .returned (.bool (n != n')) ∧ Below w.heap.size w w' := by
  go_enter Tryz.func57, Tryz.ntmps57
  go_wp2
  go_ret
  exact ⟨ret_bool (by rw [Bool.eq_iff_iff]; simp; omega), Below.refl _ _⟩

set_option maxHeartbeats 400000 in
theorem index69_56 (p : List (Int × Bool) → Bool) (a : Option Addr) (C : List (List (Int × Bool))) (cap : Nat) (w : World) (hw : CacheIn w a C) (hl : C.length ≤ 9223372036854775807)
    (hF : ∀ (ls : List (Int × Bool)) (a' : Option Addr) (cap' : Nat) (wr : World), ls ∈ C → ls.length ≤ 9223372036854775807 → Below w.heap.size w wr → Calls Tryz.prog 56 #[.slice a' ls.length cap'] wr fun e w' => e = .returned (.bool (p ls)) ∧ Below wr.heap.size wr w') :
    Calls Tryz.prog 84 #[.slice a C.length cap, .func (.func 56) #[] #[]] w fun e w' => (∃ r : Int, e = .returned (.int .i64 r) ∧ (0 ≤ r ↔ C.any p = true)) ∧ Below w.heap.size w w' := by
  have HF := hid hF
  clear hF
  go_enter Tryz.func84, Tryz.ntmps84
  go_wp2
  go_loopw [8] (fun i wr => ∃ k : Nat, k ≤ C.length ∧ i = .int .i64 k ∧ Below w.heap.size w wr ∧ ∀ j (hj : j < C.length), j < k → p C[j] = false) (fun i _ => C.length - (intOf i).toNat)
  case atStart => exact ⟨0, Nat.zero_le _, rfl, Below.refl _ _, by omega⟩
  case round =>
    obtain ⟨k, hk, rfl, hbl, hno⟩ := hrel
    have Hno : Hid (∀ j (hj : j < C.length), j < k → p C[j] = false) := hno
    clear hno
    by_cases hlt : k < C.length
    · obtain ⟨b', o', a2, cap2, rfl, hc1, hws, hcap, hlen⟩ := hw k hlt
      have hc1' := bkeep hbl hc1 (Nat.le_refl _)
      go_wp2_with fail
      refine (HF.out C[k] a2 cap2 _ (List.getElem_mem hlt) hlen hbl).mono ?_
      rintro e w' ⟨rfl, hb2⟩
      cases hx : p C[k] with
      | true =>
        have HX := hid hx
        clear hx
        go_wp2
        go_ret
        refine ⟨⟨k, rfl, ?_⟩, btrans hbl hb2⟩
        exact ⟨fun _ => List.any_eq_true.2 ⟨_, List.getElem_mem hlt, HX.out⟩, fun _ => by omega⟩
      | false =>
        have HX := hid hx
        clear hx
        go_wp2
        go_roundw
        case rel =>
          refine ⟨k + 1, by omega, by go_num, btrans hbl hb2, fun j hj hlt2 => ?_⟩
          by_cases e : j = k
          · subst e; exact HX.out
          · exact Hno.out j hj (by omega)
        case measure => simp [intOf]; omega
    · go_wp2
      go_ret
      refine ⟨⟨-1, rfl, ?_⟩, hbl⟩
      refine ⟨fun h => absurd h (by omega), fun h => ?_⟩
      obtain ⟨x, hx, hp⟩ := List.any_eq_true.1 h
      obtain ⟨j, hj, rfl⟩ := List.getElem_of_mem hx
      rw [Hno.out j hj (by omega)] at hp
      exact absurd hp (by simp)

set_option maxHeartbeats 400000 in
theorem contains55_56 (p : List (Int × Bool) → Bool) (a : Option Addr) (C : List (List (Int × Bool))) (cap : Nat) (w : World) (hw : CacheIn w a C) (hl : C.length ≤ 9223372036854775807)
    (hF : ∀ (ls : List (Int × Bool)) (a' : Option Addr) (cap' : Nat) (wr : World), ls ∈ C → ls.length ≤ 9223372036854775807 → Below w.heap.size w wr → Calls Tryz.prog 56 #[.slice a' ls.length cap'] wr fun e w' => e = .returned (.bool (p ls)) ∧ Below wr.heap.size wr w') :
    Calls Tryz.prog 55 #[.slice a C.length cap, .func (.func 56) #[] #[]] w fun e w' => e = .returned (.bool (C.any p)) ∧ Below w.heap.size w w' := by
  have HF := hid hF
  clear hF
  go_enter Tryz.func55, Tryz.ntmps55
  go_wp2_with fail
  refine (index69_56 p  a C cap _ hw hl HF.out).mono ?_
  rintro e w' ⟨⟨r, rfl, hr⟩, hb⟩
  have HR := hid hr
  clear hr
  go_wp2
  go_ret
  exact ⟨ret_bool (by rw [Bool.eq_iff_iff]; simpa using HR.out), hb⟩

set_option maxHeartbeats 400000 in
theorem index69_57 (p : List (Int × Bool) → Bool) (pb po : Nat) (a : Option Addr) (C : List (List (Int × Bool))) (cap : Nat) (w : World) (hw : CacheIn w a C) (hl : C.length ≤ 9223372036854775807)
    (hF : ∀ (ls : List (Int × Bool)) (a' : Option Addr) (cap' : Nat) (wr : World), ls ∈ C → ls.length ≤ 9223372036854775807 → Below w.heap.size w wr → Calls Tryz.prog 57 #[.slice a' ls.length cap', .pointer (some ⟨pb, po, none⟩)] wr fun e w' => e = .returned (.bool (p ls)) ∧ Below wr.heap.size wr w') :
    Calls Tryz.prog 84 #[.slice a C.length cap, .func (.func 57) #[] #[.pointer (some ⟨pb, po, none⟩)]] w fun e w' => (∃ r : Int, e = .returned (.int .i64 r) ∧ (0 ≤ r ↔ C.any p = true)) ∧ Below w.heap.size w w' := by
  have HF := hid hF
  clear hF
  go_enter Tryz.func84, Tryz.ntmps84
  go_wp2
  go_loopw [8] (fun i wr => ∃ k : Nat, k ≤ C.length ∧ i = .int .i64 k ∧ Below w.heap.size w wr ∧ ∀ j (hj : j < C.length), j < k → p C[j] = false) (fun i _ => C.length - (intOf i).toNat)
  case atStart => exact ⟨0, Nat.zero_le _, rfl, Below.refl _ _, by omega⟩
  case round =>
    obtain ⟨k, hk, rfl, hbl, hno⟩ := hrel
    have Hno : Hid (∀ j (hj : j < C.length), j < k → p C[j] = false) := hno
    clear hno
    by_cases hlt : k < C.length
    · obtain ⟨b', o', a2, cap2, rfl, hc1, hws, hcap, hlen⟩ := hw k hlt
      have hc1' := bkeep hbl hc1 (Nat.le_refl _)
      go_wp2_with fail
      refine (HF.out C[k] a2 cap2 _ (List.getElem_mem hlt) hlen hbl).mono ?_
      rintro e w' ⟨rfl, hb2⟩
      cases hx : p C[k] with
      | true =>
        have HX := hid hx
        clear hx
        go_wp2
        go_ret
        refine ⟨⟨k, rfl, ?_⟩, btrans hbl hb2⟩
        exact ⟨fun _ => List.any_eq_true.2 ⟨_, List.getElem_mem hlt, HX.out⟩, fun _ => by omega⟩
      | false =>
        have HX := hid hx
        clear hx
        go_wp2
        go_roundw
        case rel =>
          refine ⟨k + 1, by omega, by go_num, btrans hbl hb2, fun j hj hlt2 => ?_⟩
          by_cases e : j = k
          · subst e; exact HX.out
          · exact Hno.out j hj (by omega)
        case measure => simp [intOf]; omega
    · go_wp2
      go_ret
      refine ⟨⟨-1, rfl, ?_⟩, hbl⟩
      refine ⟨fun h => absurd h (by omega), fun h => ?_⟩
      obtain ⟨x, hx, hp⟩ := List.any_eq_true.1 h
      obtain ⟨j, hj, rfl⟩ := List.getElem_of_mem hx
      rw [Hno.out j hj (by omega)] at hp
      exact absurd hp (by simp)

set_option maxHeartbeats 400000 in
theorem contains55_57 (p : List (Int × Bool) → Bool) (pb po : Nat) (a : Option Addr) (C : List (List (Int × Bool))) (cap : Nat) (w : World) (hw : CacheIn w a C) (hl : C.length ≤ 9223372036854775807)
    (hF : ∀ (ls : List (Int × Bool)) (a' : Option Addr) (cap' : Nat) (wr : World), ls ∈ C → ls.length ≤ 9223372036854775807 → Below w.heap.size w wr → Calls Tryz.prog 57 #[.slice a' ls.length cap', .pointer (some ⟨pb, po, none⟩)] wr fun e w' => e = .returned (.bool (p ls)) ∧ Below wr.heap.size wr w') :
    Calls Tryz.prog 55 #[.slice a C.length cap, .func (.func 57) #[] #[.pointer (some ⟨pb, po, none⟩)]] w fun e w' => e = .returned (.bool (C.any p)) ∧ Below w.heap.size w w' := by
  have HF := hid hF
  clear hF
  go_enter Tryz.func55, Tryz.ntmps55
  go_wp2_with fail
  refine (index69_57 p pb po a C cap _ hw hl HF.out).mono ?_
  rintro e w' ⟨⟨r, rfl, hr⟩, hb⟩
  have HR := hid hr
  clear hr
  go_wp2
  go_ret
  exact ⟨ret_bool (by rw [Bool.eq_iff_iff]; simpa using HR.out), hb⟩

set_option maxHeartbeats 400000 in
theorem checkShape_any (a : Option Addr) (C : List (List (Int × Bool))) (cap : Nat) (w : World) (hw : CacheIn w a C) (hl : C.length ≤ 9223372036854775807) :
    Calls Tryz.prog 30 #[.slice a C.length cap] w fun e w' => e = .returned (.int .i64 (ckShape C)) ∧ Below w.heap.size w w' := by
  have h1 : Below w.heap.size w (w.alloc (.cells #[.slice a C.length cap] 34)) := (Below.refl _ _).alloc (Nat.le_refl _) _
  have hw1 := hw.keep h1
  go_enter Tryz.func30, Tryz.ntmps30
  go_wp2_with fail
  refine (within_any _ _ _ _).mono ?_
  rintro e w' ⟨rfl, rfl⟩
  cases hr : inR C.length 1 4 with
  | false =>
    go_wp2
    go_ret
    exact ⟨ret_int (by simp [ckShape, hr]), h1⟩
  | true =>
    have HR := hid hr
    have hpos : 0 < C.length := by simp [inR] at hr; omega
    clear hr
    go_wp2_with fail
    refine (contains55_56 (fun l => !inR l.length 1 3) a C cap _ hw1 hl (fun ls a' cap' wr _ hls _ => shape1_any a' ls.length cap' hls wr)).mono ?_
    rintro e w2 ⟨rfl, hb2⟩
    cases hr2 : C.any (fun l => !inR l.length 1 3) with
    | true =>
      go_wp2
      go_ret
      exact ⟨ret_int (by simp only [ckShape, HR.out, hr2]; simp), btrans h1 hb2⟩
    | false =>
      have HR2 := hid hr2
      clear hr2
      have hc : (w.alloc (.cells #[.slice a C.length cap] 34)).cell? ⟨w.heap.size, 0, none⟩ = some (.slice a C.length cap) := by simp
      have hc2 := bkeep hb2 hc (by simp)
      have hw2 := hw1.keep hb2
      obtain ⟨b', o', a2, cap2, rfl, hc1, hws, hcap, hlen⟩ := hw2 0 hpos
      have hpos' : 0 < (C.length : Int) := by omega
      have H0 : Hid ((C.headD []).length = C[0].length) := by
        cases C with
        | nil => simp at hpos
        | cons x r => rfl
      go_wp2_with fail
      refine (contains55_57 (fun l => l.length != C[0].length) w.heap.size 0 _ C cap _ hw2 hl (fun ls a' cap' wr _ hls hwr =>
        shape2_any a' ls.length cap' hls w.heap.size 0 b' o' C.length cap a2 C[0].length cap2 hlen wr (bkeep hwr hc2 (Nat.le_refl _)) hpos' (bkeep hwr (by simpa using hc1) (Nat.le_refl _)))).mono ?_
      rintro e w3 ⟨rfl, hb3⟩
      cases hr3 : C.any (fun l => l.length != C[0].length) with
      | true =>
        go_wp2
        go_ret
        exact ⟨ret_int (by simp only [ckShape, HR.out, HR2.out, H0.out, hr3]; simp), btrans h1 (btrans hb2 hb3)⟩
      | false =>
        go_wp2
        go_ret
        exact ⟨ret_int (by simp only [ckShape, HR.out, HR2.out, H0.out, hr3]; simp), btrans h1 (btrans hb2 hb3)⟩

end Go.Proofs.YtildebflnmbefaaGreat

namespace Go.Proofs.YtildebflnmbefaaGreat
open Go.RowKit

theorem ckSet_def (C : List (List (Int × Bool))) (j : Nat) (h : j < C.length) : ckSet C j = fe C[j].length fun i => ckWay C[j] i j C.length := by
  have e : C.getD j [] = C[j] := by simp [h]
  rw [ckSet, e]

set_option maxHeartbeats 1000000 in
theorem check_any (a : Option Addr) (C : List (List (Int × Bool))) (cap : Nat) (w : World) (hw : CacheIn w a C) (hl : C.length ≤ 9223372036854775807) :
    Calls Tryz.prog 18 #[.agg #[.slice a C.length cap]] w fun e w' => e = .returned (.int .i64 (ck C)) ∧ Below w.heap.size w w' := by
  have h1 : Below w.heap.size w (w.alloc (.cells #[.slice a C.length cap] 36)) := (Below.refl _ _).alloc (Nat.le_refl _) _
  have hw1 := hw.keep h1
  have hc : (w.alloc (.cells #[.slice a C.length cap] 36)).cell? ⟨w.heap.size, 0, none⟩ = some (.slice a C.length cap) := by simp
  go_enter Tryz.func18, Tryz.ntmps18
  go_wp2_with fail
  refine (checkShape_any a C cap _ hw1 hl).mono ?_
  rintro e w2 ⟨rfl, hb2⟩
  by_cases hs : ckShape C = 0
  · have HS := hid hs
    have hlen4 : (C.length : Int) ≤ 4 ∧ (1 : Int) ≤ C.length := by
      unfold ckShape at hs
      split at hs
      · omega
      · rename_i h; simp [inR] at h; omega
    obtain ⟨hl4, hl1⟩ := hlen4
    rw [hs]
    clear hs
    have hc2 := bkeep hb2 hc (by simp)
    have hw2 := hw1.keep hb2
    have h2 := btrans h1 hb2
    clear hw1 hb2 h1 hc
    go_wp2
    go_loopw [17] (fun i wr => ∃ k : Nat, k ≤ C.length ∧ i = .int .i64 k ∧ Below w2.heap.size w2 wr ∧ ∀ j, j < k → ckSet C j = 0) (fun i _ => C.length - (intOf i).toNat)
    case atStart => exact ⟨0, Nat.zero_le _, rfl, Below.refl _ _, by omega⟩
    case round =>
      obtain ⟨k, hk, rfl, hbl, hno⟩ := hrel
      have Hno := hid hno
      clear hno
      have hc3 := bkeep hbl hc2 (Nat.le_refl _)
      by_cases hlt : k < C.length
      · obtain ⟨b', o', a2, cap2, rfl, hc1, hws, hcap, hlen⟩ := hw2 k hlt
        have hc1' := bkeep hbl hc1 (Nat.le_refl _)
        have hws' := hws.keep hbl
        go_wp2
        go_loopw [24] (fun i wi => ∃ m : Nat, m ≤ C[k].length ∧ i = .int .i64 m ∧ Below wr.heap.size wr wi ∧ ∀ j, j < m → ckWay C[k] j k C.length = 0) (fun i _ => C[k].length - (intOf i).toNat)
        case atStart => exact ⟨0, Nat.zero_le _, rfl, Below.refl _ _, by omega⟩
        case round =>
          obtain ⟨m, hm, rfl, hbi, hno2⟩ := hrel
          have Hno2 := hid hno2
          clear hno2
          by_cases hlm : m < C[k].length
          · obtain ⟨b2, o2, e2, hd1, hd2⟩ := hws m hlm
            subst e2
            have hc4 := bkeep hbi hc3 (Nat.le_refl _)
            go_wp2_with fail
            refine (checkWay_any b2 o2 C[k] cap2 m k C.length _ (hws'.keep hbi) hlm hcap hlen hl1 hl4).mono ?_
            rintro e w5 ⟨rfl, hb5⟩
            by_cases hx : ckWay C[k] m k C.length = 0
            · have HX := hid hx
              rw [hx]
              clear hx
              go_wp2
              go_roundw
              case rel =>
                refine ⟨m + 1, by omega, by go_num, btrans hbi hb5, fun j hj => ?_⟩
                by_cases e : j = m
                · subst e; exact HX.out
                · exact Hno2.out j (by omega)
              case measure => simp [intOf]; omega
            · have HX := hid hx
              have hx' : (ckWay C[k] m k C.length != 0) = true := by simp [hx]
              have HX2 : Hid (ck C = ckWay C[k] m k C.length) := by
                have e1 : ckSet C k = ckWay C[k] m k C.length := by
                  rw [ckSet_def C k hlt]
                  exact fe_at _ m _ hlm hx (fun j hj => Hno2.out j hj)
                show ck C = _
                rw [ck, HS.out]
                simp only [ne_eq, not_true_eq_false, if_false]
                rw [fe_at C.length k (ckSet C) hlt (by rw [e1]; exact hx) (fun j hj => Hno.out j hj), e1]
              clear hx
              generalize ckWay C[k] m k C.length = q at *
              go_wp2
              go_ret
              exact ⟨ret_int HX2.out.symm, btrans h2 (btrans hbl (btrans hbi hb5))⟩
          · go_wp2
            go_roundw
            case rel =>
              refine ⟨k + 1, by omega, by go_num, btrans hbl hbi, fun j hj => ?_⟩
              by_cases e : j = k
              · subst e
                rw [ckSet_def C j hlt]
                exact fe_zero _ _ (fun i hi => Hno2.out i (by omega))
              · exact Hno.out j (by omega)
            case measure => simp [intOf]; omega
      · go_wp2
        go_ret
        exact ⟨ret_int (by rw [ck, HS.out]; simp [fe_zero C.length _ (fun j hj => Hno.out j (by omega))]), btrans h2 hbl⟩
  · have HS : Hid (ck C = ckShape C) := by show ck C = _; rw [ck]; simp [hs]
    have hs' : (ckShape C != 0) = true := by simp [hs]
    clear hs
    generalize ckShape C = q at *
    go_wp2
    go_ret
    exact ⟨ret_int HS.out.symm, btrans h1 hb2⟩

end Go.Proofs.YtildebflnmbefaaGreat
