/- Walks of the document's answer: what a flush costs; whether two caches are the same. -/
import Derived.Test.YtaellaconpaejaaCn
set_option linter.unusedVariables false
namespace Go.Proofs.Ytaellaconpaejaa
open Go.RowKit

set_option maxRecDepth 100000 in
set_option maxHeartbeats 2000000 in
theorem flushOf_any (a : Option Addr) (C : List (List (Int × Bool))) (cap : Nat) (w : World) (hw : CacheIn w a C) (hC4 : C.length ≤ 4) (hCn : ∀ ls ∈ C, 0 < ls.length ∧ ls.length ≤ 3) :
    Calls Try.prog 20 #[.agg #[.slice a C.length cap]] w fun e w' => e = .returned (.int .i64 (2 + csum C)) ∧ Below w.heap.size w w' := by
  have h1 : Below w.heap.size w (w.alloc (.cells #[.slice a C.length cap] 24)) := (Below.refl _ _).alloc (Nat.le_refl _) _
  have hw1 := hw.keep h1
  have hc : (w.alloc (.cells #[.slice a C.length cap] 24)).cell? ⟨w.heap.size, 0, none⟩ = some (.slice a C.length cap) := by simp
  have hC4' : (C.length : Int) ≤ 4 := by omega
  have HCn := hid hCn
  clear hCn
  go_enter Try.func20, Try.ntmps20
  go_wp2
  generalize w.alloc (.cells #[.slice a C.length cap] 24) = w0 at *
  go_loopw [3, 4] (fun c i wr => wr = w0 ∧ ∃ k : Nat, k ≤ C.length ∧ i = .int .i64 k ∧ c = .int .i64 (2 + csum (C.take k))) (fun _ i _ => C.length - (intOf i).toNat)
  case atStart => exact ⟨rfl, 0, Nat.zero_le _, rfl, rfl⟩
  case round =>
    obtain ⟨rfl, k, hk, rfl, rfl⟩ := hrel
    obtain ⟨hcs1, hcs2⟩ := csum_take_le C k hC4 HCn.out
    by_cases hlt : k < C.length
    · obtain ⟨b', o', a2, cap2, rfl, hd1, hws, hcap, hlen⟩ := hw1 k hlt
      have h3k := (HCn.out C[k] (List.getElem_mem hlt)).2
      have Hct := hid (csum_take C k hlt)
      have hk1 : (k : Int) < C.length := by omega
      have hk0 : (0 : Int) ≤ k := by omega
      have h3k' : (C[k].length : Int) ≤ 3 := by omega
      generalize csum (C.take k) = cv at *
      go_wp2
      go_loopw [3, 5] (fun c i wi => wi = wr ∧ ∃ m : Nat, m ≤ C[k].length ∧ i = .int .i64 m ∧ c = .int .i64 (2 + cv + wsum (C[k].take m))) (fun _ i _ => C[k].length - (intOf i).toNat)
      case atStart => exact ⟨by trivial, 0, Nat.zero_le _, rfl, by simp [wsum]⟩
      case round =>
        obtain ⟨rfl, m, hm, rfl, rfl⟩ := hrel
        obtain ⟨hwq1, hwq2⟩ := wsum_take_le C[k] m h3k
        by_cases hlm : m < C[k].length
        · obtain ⟨b2, o2, rfl, he1, he2⟩ := hws m hlm
          have Hwt := hid (wsum_take C[k] m hlm)
          have hm1 : (m : Int) < C[k].length := by omega
          have hm0 : (0 : Int) ≤ m := by omega
          generalize wsum (C[k].take m) = wv at *
          generalize C[k][m].2 = dd at *
          cases dd
          · go_wp2
            go_roundw
            case rel => exact ⟨by trivial, m + 1, by omega, by go_num, by rw [Hwt.out]; simp [wb]⟩
            case measure => simp [intOf]; omega
          · go_wp2
            go_roundw
            case rel => exact ⟨by trivial, m + 1, by omega, by go_num, by rw [Hwt.out]; simp [wb]; omega⟩
            case measure => simp [intOf]; omega
        · obtain rfl : m = C[k].length := by omega
          have Hfull : Hid (2 + cv + wsum (C[k].take C[k].length) = 2 + csum (C.take (k + 1))) := by
            show _ = _
            rw [Hct.out, List.take_length]; omega
          go_wp2
          go_roundw
          case rel => exact ⟨by trivial, k + 1, by omega, by go_num, by rw [Hfull.out]⟩
          case measure => simp [intOf]; omega
    · obtain rfl : k = C.length := by omega
      go_wp2
      go_ret
      exact ⟨ret_int (by rw [List.take_length]), h1⟩

theorem drewNN (w : World) (a b : Nat) : ∃ n, (w.drewN a).drewN b = w.drewN n := ⟨a + b, by simp [World.drewN, Nat.add_assoc]⟩

theorem eqWay (l : Int) (d : Bool) (w : World) : (Op.equalIn 10000 119 (.agg #[.int .i64 l, .bool d]) (.agg #[.int .i64 l, .bool d])).run Try.prog w = .ok true w := by
  have u3 := Try.underlying3
  have a3 := Try.isAgg3
  have z3 := Try.sizeOf3
  have u4 := Try.underlying4
  have a4 := Try.isAgg4
  have z4 := Try.sizeOf4
  have hS : Try.prog.underlying 119 = some (.struct (Try.prog.fieldsOf 119)) := by kernel_rfl
  have hp : Try.prog.stoodInHeld 119 = false := by kernel_rfl
  rw [show (10000 : Nat) = 9999 + 1 from rfl, run_equalIn_agg w 9999 119 _ _ hS hp]
  simp only [Program.fieldsOf, Try.underlying119]
  go_simp

set_option maxRecDepth 100000 in
set_option maxHeartbeats 2000000 in
theorem sameCache_any (a a' : Option Addr) (C : List (List (Int × Bool))) (cap cap' : Nat) (w : World) (hw : CacheIn w a C) (hw' : CacheIn w a' C) (hl : C.length ≤ 9223372036854775807) :
    Calls Try.prog 74 #[.agg #[.slice a C.length cap], .agg #[.slice a' C.length cap']] w fun e w' => e = .returned (.bool true) ∧ Below w.heap.size w w' := by
  have h1 : Below w.heap.size w ((w.alloc (.cells #[.slice a C.length cap] 24)).alloc (.cells #[.slice a' C.length cap'] 24)) := ((Below.refl _ _).alloc (Nat.le_refl _) _).alloc (by simp) _
  have hw1 := hw.keep h1
  have hw1' := hw'.keep h1
  have hc : ((w.alloc (.cells #[.slice a C.length cap] 24)).alloc (.cells #[.slice a' C.length cap'] 24)).cell? ⟨w.heap.size, 0, none⟩ = some (.slice a C.length cap) := ((rowAt_new w _ [.slice a C.length cap] 24 rfl).alloc _).cell 0 _ rfl
  have hc' : ((w.alloc (.cells #[.slice a C.length cap] 24)).alloc (.cells #[.slice a' C.length cap'] 24)).cell? ⟨w.heap.size + 1, 0, none⟩ = some (.slice a' C.length cap') := (rowAt_new (w.alloc (.cells #[.slice a C.length cap] 24)) _ [.slice a' C.length cap'] 24 (by simp)).cell 0 _ rfl
  have hneq := eqWay
  have hguard : Try.prog.eqGuardType Try.prog.depth 119 = false := by kernel_rfl
  go_enter Try.func74, Try.ntmps74
  go_wp2
  generalize (w.alloc (.cells #[.slice a C.length cap] 24)).alloc (.cells #[.slice a' C.length cap'] 24) = w0 at *
  go_loopw [5] (fun i wr => (∃ n, wr = w0.drewN n) ∧ ∃ k : Nat, k ≤ C.length ∧ i = .int .i64 k) (fun i _ => C.length - (intOf i).toNat)
  case atStart => exact ⟨⟨0, rfl⟩, 0, Nat.zero_le _, rfl⟩
  case round =>
    obtain ⟨⟨nd, rfl⟩, k, hk, rfl⟩ := hrel
    by_cases hlt : k < C.length
    · obtain ⟨b1, o1, a1, cap1, rfl, hd1, hws1, hcap1, hlen1⟩ := hw1 k hlt
      obtain ⟨b2, o2, a2, cap2, rfl, hd2, hws2, hcap2, hlen2⟩ := hw1' k hlt
      have hk1 : (k : Int) < C.length := by omega
      have hk0 : (0 : Int) ≤ k := by omega
      go_wp2
      go_quiet (fail)
      go_wp2
      go_loopw [6] (fun i wi => (∃ n, wi = w0.drewN n) ∧ ∃ m : Nat, m ≤ C[k].length ∧ i = .int .i64 m) (fun i _ => C[k].length - (intOf i).toNat)
      case atStart => exact ⟨drewNN _ _ _, 0, Nat.zero_le _, rfl⟩
      case round =>
        obtain ⟨⟨nd2, rfl⟩, m, hm, rfl⟩ := hrel
        by_cases hlm : m < C[k].length
        · obtain ⟨b3, o3, rfl, he1, he2⟩ := hws1 m hlm
          obtain ⟨b4, o4, rfl, hf1, hf2⟩ := hws2 m hlm
          have hm1 : (m : Int) < C[k].length := by omega
          have hm0 : (0 : Int) ≤ m := by omega
          generalize C[k][m].1 = y1 at *
          generalize C[k][m].2 = y2 at *
          go_wp2
          go_quiet (fail)
          go_wp2
          go_roundw
          case rel => exact ⟨⟨_, rfl⟩, m + 1, by omega, by go_num⟩
          case measure => simp [intOf]; omega
        · go_wp2
          go_roundw
          case rel => exact ⟨⟨_, rfl⟩, k + 1, by omega, by go_num⟩
          case measure => simp [intOf]; omega
    · go_wp2
      go_ret
      exact ⟨rfl, below_drewN h1 _⟩

/-- Both are right, and the same. -/
theorem cacheIs_ok (a a' : Option Addr) (C : List (List (Int × Bool))) (cap cap' : Nat) (w : World) (hw : CacheIn w a C) (hw' : CacheIn w a' C) (hl : C.length ≤ 9223372036854775807) :
    Calls Try.prog 22 #[.agg #[.slice a C.length cap], .int .i64 0, .int .i64 0, .agg #[.slice a' C.length cap']] w fun e w' => e = .returned (.bool true) ∧ Below w.heap.size w w' := by
  have h1 : Below w.heap.size w ((w.alloc (.cells #[.slice a C.length cap] 24)).alloc (.cells #[.slice a' C.length cap'] 24)) := ((Below.refl _ _).alloc (Nat.le_refl _) _).alloc (by simp) _
  go_enter Try.func22, Try.ntmps22
  go_wp2_with fail
  refine (sameCache_any a a' C cap cap' _ (hw.keep h1) (hw'.keep h1) hl).mono ?_
  rintro e w1 ⟨rfl, hb1⟩
  go_wp2
  go_ret
  exact ⟨rfl, btrans h1 hb1⟩

/-- Both are the same error. -/
theorem cacheIs_err (q : Int) (hq : q ≠ 0) (w : World) :
    Calls Try.prog 22 #[.agg #[.slice none 0 0], .int .i64 q, .int .i64 q, .agg #[.slice none 0 0]] w fun e w' => e = .returned (.bool true) ∧ Below w.heap.size w w' := by
  have hq' : (q != 0) = true := by simp [hq]
  clear hq
  have h1 : Below w.heap.size w ((w.alloc (.cells #[.slice none 0 0] 24)).alloc (.cells #[.slice none 0 0] 24)) := ((Below.refl _ _).alloc (Nat.le_refl _) _).alloc (by simp) _
  go_enter Try.func22, Try.ntmps22
  go_wp2_with fail
  refine (sameCache_any none none [] 0 0 _ (fun j h => absurd h (by simp)) (fun j h => absurd h (by simp)) (by simp)).mono ?_
  rintro e w1 ⟨rfl, hb1⟩
  go_wp2
  go_ret
  exact ⟨rfl, btrans h1 hb1⟩

end Go.Proofs.Ytaellaconpaejaa
