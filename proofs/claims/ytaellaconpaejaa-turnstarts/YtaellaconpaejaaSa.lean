/- Walks of the document's answer: two configs that are the same. -/
import Derived.Test.YtaellaconpaejaaQg
set_option linter.unusedVariables false
namespace Go.Proofs.Ytaellaconpaejaa
open Go.RowKit

theorem drewNN' (w : World) (a b : Nat) : ∃ n, (w.drewN a).drewN b = w.drewN n := ⟨a + b, by simp [World.drewN, Nat.add_assoc]⟩

theorem eq76 (x y : Int) (w : World) : (Op.equalIn 10000 114 (.agg #[.int .i64 x, .int .i64 y]) (.agg #[.int .i64 x, .int .i64 y])).run Try.prog w = .ok true w := by
  have u3 := Try.underlying3
  have a3 := Try.isAgg3
  have z3 := Try.sizeOf3
  have hS : Try.prog.underlying 114 = some (.struct (Try.prog.fieldsOf 114)) := by kernel_rfl
  have hp : Try.prog.stoodInHeld 114 = false := by kernel_rfl
  rw [show (10000 : Nat) = 9999 + 1 from rfl, run_equalIn_agg w 9999 114 _ _ hS hp]
  simp only [Program.fieldsOf, Try.underlying114]
  go_simp

theorem eq72 (x y z : Int) (w : World) : (Op.equalIn 10000 125 (.agg #[.int .i64 x, .int .i64 y, .int .i64 z]) (.agg #[.int .i64 x, .int .i64 y, .int .i64 z])).run Try.prog w = .ok true w := by
  have u3 := Try.underlying3
  have a3 := Try.isAgg3
  have z3 := Try.sizeOf3
  have hS : Try.prog.underlying 125 = some (.struct (Try.prog.fieldsOf 125)) := by kernel_rfl
  have hp : Try.prog.stoodInHeld 125 = false := by kernel_rfl
  rw [show (10000 : Nat) = 9999 + 1 from rfl, run_equalIn_agg w 9999 125 _ _ hS hp]
  simp only [Program.fieldsOf, Try.underlying125]
  go_simp

theorem eq78 (x y z u : Int) (w : World) : (Op.equalIn 10000 108 (.agg #[.int .i64 x, .int .i64 y, .int .i64 z, .int .i64 u]) (.agg #[.int .i64 x, .int .i64 y, .int .i64 z, .int .i64 u])).run Try.prog w = .ok true w := by
  have u3 := Try.underlying3
  have a3 := Try.isAgg3
  have z3 := Try.sizeOf3
  have hS : Try.prog.underlying 108 = some (.struct (Try.prog.fieldsOf 108)) := by kernel_rfl
  have hp : Try.prog.stoodInHeld 108 = false := by kernel_rfl
  rw [show (10000 : Nat) = 9999 + 1 from rfl, run_equalIn_agg w 9999 108 _ _ hS hp]
  simp only [Program.fieldsOf, Try.underlying108]
  go_simp

set_option maxRecDepth 100000 in
set_option maxHeartbeats 1000000 in
theorem sameInts_true (a a' : Option Addr) (L : List Int) (cap cap' : Nat) (w : World) (h1 : IntsIn w a L) (h2 : IntsIn w a' L) (hl : L.length ≤ 9223372036854775807) :
    Calls Try.prog 47 #[.slice a L.length cap, .slice a' L.length cap'] w fun e w' => e = .returned (.bool true) ∧ ∃ n, w' = w.drewN n := by
  go_enter Try.func47, Try.ntmps47
  go_wp2
  go_loopw [5] (fun i wr => (∃ n, wr = w.drewN n) ∧ ∃ k : Nat, k ≤ L.length ∧ i = .int .i64 k) (fun i _ => L.length - (intOf i).toNat)
  case atStart => exact ⟨⟨0, rfl⟩, 0, Nat.zero_le _, rfl⟩
  case round =>
    obtain ⟨⟨nd, rfl⟩, k, hk, rfl⟩ := hrel
    by_cases hlt : k < L.length
    · obtain ⟨b1, o1, rfl, e1⟩ := h1 k hlt
      obtain ⟨b2, o2, rfl, e2⟩ := h2 k hlt
      have hk1 : (k : Int) < L.length := by omega
      have hk0 : (0 : Int) ≤ k := by omega
      generalize L[k] = y at *
      go_wp2
      go_quiet (fail)
      go_wp2
      go_roundw
      case rel => exact ⟨⟨_, rfl⟩, k + 1, by omega, by go_num⟩
      case measure => simp [intOf]; omega
    · go_wp2
      go_ret
      exact ⟨rfl, _, rfl⟩

set_option maxRecDepth 100000 in
set_option maxHeartbeats 2000000 in
theorem sameConfig_true (C : Conf) (A A' : Mem) (w : World) (h1 : ConfIn w A C) (h2 : ConfIn w A' C) :
    Calls Try.prog 33 #[cv C A, cv C A'] w fun e w' => e = .returned (.bool true) ∧ Below w.heap.size w w' := by
  have q1 := below_new w (.cells (cl C A) 46)
  have q2 := below_new (w.alloc (.cells (cl C A) 46)) (.cells (cl C A') 46)
  have HQ := hid (btrans q1 q2)
  have HC1 := hid (h1.keep (btrans q1 q2))
  have HC2 := hid (h2.keep (btrans q1 q2))
  have HB1 := hid ((boxC_new w C A).keep q2)
  have HB2 := hid (boxC_new (w.alloc (.cells (cl C A) 46)) C A')
  have hs : (w.alloc (.cells (cl C A) 46)).heap.size = w.heap.size + 1 := by simp
  rw [hs] at HB2
  have l5 := h1.l5
  have l6 := h1.l6
  have l7 := h1.l7
  have l8 := h1.l8
  have n76 := eq76
  have n72 := eq72
  have n78 := eq78
  have gu76 : Try.prog.eqGuardType Try.prog.depth 114 = false := by kernel_rfl
  have gu72 : Try.prog.eqGuardType Try.prog.depth 125 = false := by kernel_rfl
  have gu78 : Try.prog.eqGuardType Try.prog.depth 108 = false := by kernel_rfl
  clear q1 q2 h1 h2 hs
  obtain ⟨a5, a6, a7, a8, c5, c6, c7, c8⟩ := A
  obtain ⟨b5, b6, b7, b8, d5, d6, d7, d8⟩ := A'
  dsimp only [cv, cl] at *
  go_enter Try.func33, Try.ntmps33
  go_wp2_with fail
  refine (sameInts_true a6 b6 C.ow c6 d6 _ HC1.out.ow HC2.out.ow l6).mono ?_
  rintro e w1 ⟨rfl, nn, rfl⟩
  generalize World.alloc _ _ = w0 at *
  obtain ⟨g0, g1, g2, g3, g4, g5, g6, g7, g8⟩ := HB1.out
  obtain ⟨k0, k1, k2, k3, k4, k5, k6, k7, k8⟩ := HB2.out
  dsimp only at g5 g6 g7 g8 k5 k6 k7 k8
  clear HB1 HB2
  go_wp2
  go_loopw [5] (fun i wr => (∃ n, wr = w0.drewN n) ∧ ∃ k : Nat, k ≤ C.sl.length ∧ i = .int .i64 k) (fun i _ => C.sl.length - (intOf i).toNat)
  case atStart => exact ⟨⟨_, rfl⟩, 0, Nat.zero_le _, rfl⟩
  case round =>
    obtain ⟨⟨nd5, rfl⟩, k, hk, rfl⟩ := hrel
    by_cases hlt : k < C.sl.length
    · obtain ⟨b1, o1, rfl, p0, p1⟩ := HC1.out.sl k hlt
      obtain ⟨b2, o2, rfl, q0, q1⟩ := HC2.out.sl k hlt
      have hk1 : (k : Int) < C.sl.length := by omega
      have hk0 : (0 : Int) ≤ k := by omega
      generalize C.sl[k].1 = y0 at *
      generalize C.sl[k].2 = y1 at *
      go_wp2
      go_quiet (fail)
      go_wp2
      go_roundw
      case rel => exact ⟨⟨_, rfl⟩, k + 1, by omega, by go_num⟩
      case measure => simp [intOf]; omega
    · go_wp2
      go_loopw [6] (fun i wr => (∃ n, wr = w0.drewN n) ∧ ∃ k : Nat, k ≤ C.ch.length ∧ i = .int .i64 k) (fun i _ => C.ch.length - (intOf i).toNat)
      case atStart => exact ⟨⟨_, rfl⟩, 0, Nat.zero_le _, rfl⟩
      case round =>
        obtain ⟨⟨nd7, rfl⟩, k, hk, rfl⟩ := hrel
        by_cases hlt : k < C.ch.length
        · obtain ⟨b1, o1, rfl, p0, p1, p2⟩ := HC1.out.ch k hlt
          obtain ⟨b2, o2, rfl, q0, q1, q2⟩ := HC2.out.ch k hlt
          have hk1 : (k : Int) < C.ch.length := by omega
          have hk0 : (0 : Int) ≤ k := by omega
          generalize C.ch[k].1 = y0 at *
          generalize C.ch[k].2.1 = y1 at *
          generalize C.ch[k].2.2 = y2 at *
          go_wp2
          go_quiet (fail)
          go_wp2
          go_roundw
          case rel => exact ⟨⟨_, rfl⟩, k + 1, by omega, by go_num⟩
          case measure => simp [intOf]; omega
        · go_wp2
          go_loopw [7] (fun i wr => (∃ n, wr = w0.drewN n) ∧ ∃ k : Nat, k ≤ C.ta.length ∧ i = .int .i64 k) (fun i _ => C.ta.length - (intOf i).toNat)
          case atStart => exact ⟨⟨_, rfl⟩, 0, Nat.zero_le _, rfl⟩
          case round =>
            obtain ⟨⟨nd8, rfl⟩, k, hk, rfl⟩ := hrel
            by_cases hlt : k < C.ta.length
            · obtain ⟨b1, o1, rfl, p0, p1, p2, p3⟩ := HC1.out.ta k hlt
              obtain ⟨b2, o2, rfl, q0, q1, q2, q3⟩ := HC2.out.ta k hlt
              have hk1 : (k : Int) < C.ta.length := by omega
              have hk0 : (0 : Int) ≤ k := by omega
              generalize C.ta[k].1 = y0 at *
              generalize C.ta[k].2.1 = y1 at *
              generalize C.ta[k].2.2.1 = y2 at *
              generalize C.ta[k].2.2.2 = y3 at *
              go_wp2
              go_quiet (fail)
              go_wp2
              go_roundw
              case rel => exact ⟨⟨_, rfl⟩, k + 1, by omega, by go_num⟩
              case measure => simp [intOf]; omega
            · go_wp2
              go_ret
              exact ⟨rfl, below_drewN HQ.out _⟩

end Go.Proofs.Ytaellaconpaejaa
