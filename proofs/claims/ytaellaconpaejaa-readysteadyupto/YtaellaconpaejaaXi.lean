/- Walks: two rings that are the same, and what must be in any case. -/
import Derived.Test.YtaellaconpaejaaXf
set_option linter.unusedVariables false
namespace Go.Proofs.Ytaellaconpaejaa
open Go.RowKit

set_option maxRecDepth 100000 in
set_option maxHeartbeats 1000000 in
theorem sameIntsx_true (a a' : Option Addr) (L : List Int) (cap cap' : Nat) (w : World) (h1 : IntsIn w a L) (h2 : IntsIn w a' L) (hl : L.length ≤ 9223372036854775807) :
    Calls Try.prog 47 #[.slice a L.length cap, .slice a' L.length cap'] w fun e w' => e = .returned (.bool true) ∧ Below w.heap.size w w' := by
  go_enter Try.func47, Try.ntmps47
  go_wp2
  go_loopw [5] (fun i wr => (∃ n, wr = w.drewN n) ∧ ∃ k : Nat, k ≤ L.length ∧ i = .int .i64 k) (fun i _ => L.length - (intOf i).toNat)
  case atStart => exact ⟨⟨0, rfl⟩, 0, Nat.zero_le _, rfl⟩
  case round =>
    obtain ⟨⟨nd, rfl⟩, k, hk, rfl⟩ := hrel
    by_cases hlt : k < L.length
    · obtain ⟨b1, o1, rfl, e1⟩ := h1 k hlt
      obtain ⟨b2, o2, rfl, e2⟩ := h2 k hlt
      have hk1 : (k : Int) < L.length := by omega
      have hk0 : (0 : Int) ≤ k := by omega
      generalize L[k] = y at *
      go_wp2
      go_quiet (fail)
      go_wp2
      go_roundw
      case rel => exact ⟨⟨_, rfl⟩, k + 1, by omega, by go_num⟩
      case measure => simp [intOf]; omega
    · go_wp2
      go_ret
      exact ⟨rfl, below_drewN (Below.refl _ _) _⟩

set_option maxRecDepth 100000 in
set_option maxHeartbeats 1000000 in
theorem sameRing_true (a a' : Option Addr) (V : List Int) (cap cap' : Nat) (l : Int) (w : World) (h1 : IntsIn w a V) (h2 : IntsIn w a' V) (hl : V.length ≤ 9223372036854775807) :
    Calls Try.prog 94 #[.agg #[.slice a V.length cap, .int .i64 l], .agg #[.slice a' V.length cap', .int .i64 l]] w fun e w' => e = .returned (.bool true) ∧ Below w.heap.size w w' := by
  have q := btrans (below_new w (.cells #[.slice a V.length cap, .int .i64 l] 63)) (below_new (w.alloc (.cells #[.slice a V.length cap, .int .i64 l] 63)) (.cells #[.slice a' V.length cap', .int .i64 l] 63))
  have H1 := hid (h1.keep q)
  have H2 := hid (h2.keep q)
  have HB := hid q
  clear q h1 h2
  go_enter Try.func94, Try.ntmps94
  go_wp2_with fail
  refine (sameIntsx_true a a' V cap cap' _ H1.out H2.out hl).mono ?_
  rintro e w1 ⟨rfl, hb⟩
  have HB1 := hid (btrans HB.out hb)
  clear hb HB
  go_wp2
  go_ret
  exact ⟨rfl, HB1.out⟩

set_option maxRecDepth 100000 in
set_option maxHeartbeats 1000000 in
/-- A ring that is what it must be, or, beside an error, the empty one. -/
theorem ringIs_true (a a' : Option Addr) (V : List Int) (cap cap' : Nat) (l : Int) (q : Int) (w : World) (h1 : IntsIn w a V) (h2 : IntsIn w a' V) (hl : V.length ≤ 9223372036854775807) (h0 : q = 0) :
    Calls Try.prog 42 #[.agg #[.slice a V.length cap, .int .i64 l], .int .i64 q, .int .i64 q, .agg #[.slice a' V.length cap', .int .i64 l]] w fun e w' => e = .returned (.bool true) ∧ Below w.heap.size w w' := by
  subst h0
  have q := btrans (below_new w (.cells #[.slice a V.length cap, .int .i64 l] 63)) (below_new (w.alloc (.cells #[.slice a V.length cap, .int .i64 l] 63)) (.cells #[.slice a' V.length cap', .int .i64 l] 63))
  have H1 := hid (h1.keep q)
  have H2 := hid (h2.keep q)
  have HB := hid q
  clear q h1 h2
  go_enter Try.func42, Try.ntmps42
  go_wp2_with fail
  refine (sameRing_true a a' V cap cap' l _ H1.out H2.out hl).mono ?_
  rintro e w1 ⟨rfl, hb⟩
  have HB1 := hid (btrans HB.out hb)
  clear hb HB
  go_wp2
  go_ret
  exact ⟨rfl, HB1.out⟩

set_option maxRecDepth 100000 in
set_option maxHeartbeats 1000000 in
theorem ringIs_err (a a' : Option Addr) (cap cap' n : Nat) (l : Int) (q : Int) (w : World) (hq : q ≠ 0) :
    Calls Try.prog 42 #[.agg #[.slice a 0 cap, .int .i64 0], .int .i64 q, .int .i64 q, .agg #[.slice a' n cap', .int .i64 l]] w fun e w' => e = .returned (.bool true) ∧ Below w.heap.size w w' := by
  have hx : (q != 0) = true := by simp [hq]
  have HB : Hid (Below w.heap.size w ((w.alloc (.cells #[.slice a 0 cap, .int .i64 0] 63)).alloc (.cells #[.slice none 0 0, .int .i64 0] 63))) := hid (btrans (below_new _ _) (below_new _ _))
  clear hq
  go_enter Try.func42, Try.ntmps42
  go_wp2_with fail
  refine (sameRing_true a none [] cap 0 0 _ (fun i hi => absurd hi (by simp)) (fun i hi => absurd hi (by simp)) (by simp)).mono ?_
  rintro e w1 ⟨rfl, hb⟩
  have HB1 := hid (btrans HB.out hb)
  clear hb HB
  go_wp2
  go_ret
  exact ⟨rfl, HB1.out⟩

set_option maxRecDepth 100000 in
set_option maxHeartbeats 2000000 in
theorem mailBegun_any (w : World) : Calls Try.prog 40 #[] w fun e w' => e = .returned (.bool true) ∧ Below w.heap.size w w' := by
  have hE : comE [] 0 1 [7, 8] = 0 := by decide
  have hV : comRV [] 0 1 [7, 8] = [7] := by decide
  have hLo : comRL [] 0 1 [7, 8] = 1 := by decide
  have gV : recvV [7] 1 1 = [] := by decide
  have gL : recvL [7] 1 1 = 1 := by decide
  have gX : recvX [7] 1 1 = 7 := by decide
  have gC : ckR [7] 1 1 = 0 := by decide
  have H := hid (And.intro hE (And.intro hV (And.intro hLo (And.intro gV (And.intro gL (And.intro gX gC))))))
  clear hE hV hLo gV gL gX gC
  have B0 := hid (below_new w (.cells #[.int .i64 7, .int .i64 8] 3))
  have I0 : Hid (IntsIn (w.alloc (.cells #[.int .i64 7, .int .i64 8] 3)) (some ⟨w.heap.size, 0, none⟩) [7, 8]) := hid (by
    intro i hi
    refine ⟨w.heap.size, 0, rfl, ?_⟩
    rcases (by simp at hi; omega : i = 0 ∨ i = 1) with rfl | rfl <;> simp)
  go_enter Try.func40, Try.ntmps40
  go_wp2_with fail
  refine (commit_any none [] 0 0 1 (some ⟨w.heap.size, 0, none⟩) [7, 8] 2 _ (fun i hi => absurd hi (by simp)) (by simp) I0.out (by simp) (by simp)).mono ?_
  rintro e w1 ⟨v, rfl, ho, hb⟩
  obtain ⟨hE, hV, hLo, gV, gL, gX, gC⟩ := H.out
  rw [hV] at ho
  rw [hE, hLo]
  obtain ⟨a1, k1, rfl, -, hi1, hk1, -, -⟩ := ints_own ho
  have q1 := below_new w1 (.cells #[.slice a1 1 k1, .int .i64 1] 63)
  have B1 := hid (btrans B0.out (btrans hb q1))
  have I1 := hid (hi1.keep q1)
  clear hE hV hLo gV gL gX gC hb ho q1 B0 I0 hi1
  dsimp only [List.length_cons, List.length_nil] at *
  go_wp2_with fail
  refine (receive_any a1 [7] k1 1 1 _ I1.out (by simp) (by simpa using hk1)).mono ?_
  rintro e w2 ⟨v, rfl, ho, hb⟩
  obtain ⟨hE, hV, hLo, gV, gL, gX, gC⟩ := H.out
  rw [gV] at ho
  rw [gL, gX, gC]
  obtain ⟨a2, k2, rfl, -, -, hk2, -, -⟩ := ints_own ho
  have c0 := bkeep hb (show (w1.alloc (.cells #[.slice a1 1 k1, .int .i64 1] 63)).cell? ⟨w1.heap.size, 0, none⟩ = some (.slice a1 1 k1) by simp) (Nat.le_refl _)
  have c1 := bkeep hb (show (w1.alloc (.cells #[.slice a1 1 k1, .int .i64 1] 63)).cell? ⟨w1.heap.size, 1, none⟩ = some (.int .i64 1) by simp) (Nat.le_refl _)
  have q2 := below_new w2 (.cells #[.slice a2 0 k2, .int .i64 1] 63)
  have I2 := hid (I1.out.keep (btrans hb q2))
  have B2 := hid (btrans B1.out (btrans hb q2))
  have c0' := bkeep q2 c0 (Nat.le_refl _)
  have c1' := bkeep q2 c1 (Nat.le_refl _)
  have hl1 : w1.heap.size < w2.heap.size := World.block_lt_of_cell? _ _ c0
  clear hE hV hLo gV gL gX hb ho q2 c0 c1 I1 B1
  dsimp only [List.length_nil] at *
  have HC := hid gC
  clear gC
  go_wp2_with fail
  refine (ringCheck_any a1 [7] k1 1 1 _ I2.out (by simp)).mono ?_
  rintro e w3 ⟨rfl, hb⟩
  rw [HC.out]
  have B3 := hid (btrans B2.out hb)
  clear hb B2
  go_wp2
  go_ret
  exact ⟨rfl, B3.out⟩

end Go.Proofs.Ytaellaconpaejaa
