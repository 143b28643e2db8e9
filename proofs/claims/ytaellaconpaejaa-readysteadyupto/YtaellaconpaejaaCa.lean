/- Walks: what a number's bounds and the search of a line in a set come to. -/
import Derived.Test.YtaellaconpaejaaRows
import Derived.Test.YtaellaconpaejaaMa
import Derived.WalkKit
import Derived.WalkSpells
import Derived.WalkLawsBesides
import Derived.Deep.QuietTactic
import Derived.BigQuiet
set_option linter.unusedVariables false
namespace Go.Proofs.Ytaellaconpaejaa
open Go.RowKit

theorem ret_bool {a b : Bool} (h : a = b) : Ending.returned (.bool a) = .returned (.bool b) := by rw [h]
theorem ret_int {k : IntKind} {a b : Int} (h : a = b) : Ending.returned (.int k a) = .returned (.int k b) := by rw [h]

theorem hid {p : Prop} (h : p) : Hid p := h

theorem bkeep {B : Nat} {w w' : World} {p : Addr} {v : Value} (h : Below B w w') (hc : w.cell? p = some v) (hB : w.heap.size ≤ B) : w'.cell? p = some v := by
  rw [h.cell (Nat.lt_of_lt_of_le (World.block_lt_of_cell? _ _ hc) hB)]; exact hc

theorem btrans {w w1 w2 : World} (h : Below w.heap.size w w1) (k : Below w1.heap.size w1 w2) : Below w.heap.size w w2 := h.trans (k.mono h.size)

set_option maxHeartbeats 400000 in
theorem within_any (n l m : Int) (w : World) :
    Calls Try.prog 68 #[.int .i64 n, .int .i64 l, .int .i64 m] w fun e w' => e = .returned (.bool (inR n l m)) ∧ w = w' := by
  go_enter Try.func68, Try.ntmps68
  go_wp2
  all_goals go_ret
  all_goals refine ⟨ret_bool ?_, rfl⟩
  all_goals (simp [inR]; try omega)

set_option maxHeartbeats 400000 in
theorem between_any (n l m : Int) (w : World) :
    Calls Try.prog 73 #[.int .i64 n, .int .i64 l, .int .i64 m] w fun e w' => e = .returned (.bool (inR n l m)) ∧ w = w' := by
  go_enter Try.func73, Try.ntmps73
  go_wp2
  all_goals go_ret
  all_goals refine ⟨ret_bool ?_, rfl⟩
  all_goals (simp [inR]; try omega)

set_option maxHeartbeats 400000 in
theorem find1_any (l ln : Int) (d : Bool) (b o : Nat) (w : World) (h : w.cell? ⟨b, o, none⟩ = some (.int .i64 ln)) :
    Calls Try.prog 150 #[.agg #[.int .i64 l, .bool d], .pointer (some ⟨b, o, none⟩)] w fun e w' => e = .returned (.bool (l == ln)) ∧ Below w.heap.size w w' := by
  have hb : b < w.heap.size := World.block_lt_of_cell? _ _ h
  go_enter Try.func150, Try.ntmps150
  go_wp2
  go_ret
  exact ⟨rfl, (Below.refl _ _).alloc (Nat.le_refl _) _⟩

/-- The ways of a row of cells. -/
def WaysIn (w : World) (a : Option Addr) (ls : List (Int × Bool)) : Prop :=
  ∀ i (h : i < ls.length), ∃ b o, a = some ⟨b, o, none⟩ ∧ w.cell? ⟨b, o + i * 2, none⟩ = some (.int .i64 ls[i].1) ∧ w.cell? ⟨b, o + i * 2 + 1, none⟩ = some (.bool ls[i].2)

theorem WaysIn.keep {w w' : World} {a : Option Addr} {ls : List (Int × Bool)} (h : WaysIn w a ls) (hb : Below w.heap.size w w') : WaysIn w' a ls := by
  intro i hi
  obtain ⟨b, o, e, h1, h2⟩ := h i hi
  exact ⟨b, o, e, bkeep hb h1 (Nat.le_refl _), bkeep hb h2 (Nat.le_refl _)⟩

set_option maxHeartbeats 400000 in
theorem index67_any (a : Option Addr) (ls : List (Int × Bool)) (cap : Nat) (ln : Int) (b o : Nat) (w : World) (h : w.cell? ⟨b, o, none⟩ = some (.int .i64 ln)) (hw : WaysIn w a ls) (hl : ls.length ≤ 9223372036854775807) :
    Calls Try.prog 149 #[.slice a ls.length cap, .func (.func 150) #[] #[.pointer (some ⟨b, o, none⟩)]] w fun e w' => e = .returned (.int .i64 (idx ln ls)) ∧ Below w.heap.size w w' := by
  have hb : b < w.heap.size := World.block_lt_of_cell? _ _ h
  go_enter Try.func149, Try.ntmps149
  go_wp2
  go_loopw [8] (fun i wr => ∃ k : Nat, k ≤ ls.length ∧ i = .int .i64 k ∧ Below w.heap.size w wr ∧ ∀ j (hj : j < ls.length), j < k → ls[j].1 ≠ ln) (fun i _ => ls.length - (intOf i).toNat)
  case atStart => exact ⟨0, Nat.zero_le _, rfl, Below.refl _ _, by omega⟩
  case round =>
    obtain ⟨k, hk, rfl, hbl, hno⟩ := hrel
    have Hno := hno
    replace Hno : Hid (∀ j (hj : j < ls.length), j < k → ls[j].1 ≠ ln) := hno
    clear hno
    by_cases hlt : k < ls.length
    · obtain ⟨b', o', rfl, hc1, hc2⟩ := hw k hlt
      have hc1' := bkeep hbl hc1 (Nat.le_refl _)
      have hc2' := bkeep hbl hc2 (Nat.le_refl _)
      have h' := bkeep hbl h (Nat.le_refl _)
      go_wp2_with fail
      refine (find1_any _ ln _ b o _ h').mono ?_
      rintro e w' ⟨rfl, hb2⟩
      by_cases hx : ls[k].1 = ln
      · have hx' : (ls[k].1 == ln) = true := by simp [hx]
        rw [hx']
        have HX : Hid (ls[k].1 = ln) := hx
        clear hx hx'
        go_wp2
        go_ret
        exact ⟨ret_int (idx_at ln ls k hlt HX.out Hno.out).symm, btrans hbl hb2⟩
      · have hx' : (ls[k].1 == ln) = false := by simp [hx]
        rw [hx']
        have HX : Hid (ls[k].1 ≠ ln) := hx
        clear hx hx'
        go_wp2
        go_roundw
        case rel =>
          refine ⟨k + 1, by omega, by go_num, btrans hbl hb2, fun j hj hlt2 => ?_⟩
          by_cases e : j = k
          · subst e; exact HX.out
          · exact Hno.out j hj (by omega)
        case measure => simp [intOf]; omega
    · go_wp2
      go_ret
      exact ⟨ret_int (idx_none ln ls (fun j hj => Hno.out j hj (by omega))).symm, hbl⟩

set_option maxHeartbeats 400000 in
theorem find_any (a : Option Addr) (ls : List (Int × Bool)) (cap : Nat) (ln : Int) (w : World) (hw : WaysIn w a ls) (hl : ls.length ≤ 9223372036854775807) :
    Calls Try.prog 115 #[.slice a ls.length cap, .int .i64 ln] w fun e w' => e = .returned (.int .i64 (idx ln ls)) ∧ Below w.heap.size w w' := by
  go_enter Try.func115, Try.ntmps115
  go_wp2_with fail
  have h1 : Below w.heap.size w (w.alloc (.cells #[.int .i64 ln] 3)) := (Below.refl _ _).alloc (Nat.le_refl _) _
  refine (index67_any a ls cap ln w.heap.size 0 _ (by simp) (hw.keep h1) hl).mono ?_
  rintro e w' ⟨rfl, hb2⟩
  go_wp2
  go_ret
  exact ⟨rfl, btrans h1 hb2⟩

end Go.Proofs.Ytaellaconpaejaa
