/- Walks of the document's answer: the bytes of numbers. -/
import Derived.Test.YtfcefkhlbbehcaaOc
set_option linter.unusedVariables false
namespace Go.Proofs.Ytfcefkhlbbehcaa
open Go.RowKit

theorem bstr_snoc (l : List Int) (x : Int) : bstr (l ++ [x]) = bstr l ++ ⟨#[UInt8.ofNat x.toNat]⟩ := by
  apply ByteArray.ext
  simp [bstr, u8s]

set_option maxRecDepth 100000 in
set_option maxHeartbeats 1000000 in
theorem bytes_any (a : Option Addr) (L : List Int) (cap : Nat) (w : World) (hL : IntsIn w a L) (hlen : L.length ≤ 1000) (hin : ∀ x ∈ L, 0 ≤ x ∧ x ≤ 255) :
    Calls Try.prog 48 #[.slice a L.length cap] w fun e w' => e = .returned (.string (bstr L)) ∧ Below w.heap.size w w' := by
  have HL := hid hL
  have HI := hid hin
  clear hL hin
  have u9 := Try.underlying9
  go_enter Try.func48, Try.ntmps48
  go_wp2
  go_loopw [3, 4] (fun v i wr => ∃ k : Nat, k ≤ L.length ∧ i = .int .i64 k ∧ v = .string (bstr (L.take k)) ∧ Below w.heap.size w wr) (fun v i _ => L.length - (intOf i).toNat)
  case atStart => exact ⟨0, Nat.zero_le _, rfl, rfl, Below.refl _ _⟩
  case round =>
    obtain ⟨k, hk, rfl, rfl, hbl⟩ := hrel
    by_cases hlt : k < L.length
    · obtain ⟨b, o, rfl, hc⟩ := HL.out.keep hbl k hlt
      have hr := HI.out _ (List.getElem_mem hlt)
      have HX := hid (List.take_succ_eq_append_getElem hlt)
      have hk1 : (k : Int) < L.length := by omega
      have hk0 : (0 : Int) ≤ k := by omega
      generalize L[k] = x at *
      have hr1 := hr.1
      have hr2 := hr.2
      have hrw := rowAt_new2 wr _ [Value.int .u8 x] 5 rfl
      have hcv := run_convert_bytes_back (P := Try.prog) (wr.alloc (.cells #[.int .u8 x] 5)) 88 9 5 ⟨wr.heap.size, 0, none⟩ 1 [UInt8.ofNat x.toNat] Try.underlying88 Try.underlying5 Try.underlying9 (fun j hj => by
        have : j = 0 := by simpa using hj
        subst this
        rw [addZ, hrw.cell 0 _ rfl]
        simp
        omega)
      simp only [List.length_cons, List.length_nil, Nat.zero_add] at hcv
      have hsz : (bstr (L.take k)).size ≤ 1000 := by simp [bstr, u8s, ByteArray.size]; omega
      clear hr hrw
      go_wp2
      go_roundw
      case rel => exact ⟨k + 1, by omega, by go_num, by rw [HX.out, bstr_snoc], btrans hbl (below_new _ _)⟩
      case measure => simp [intOf]; omega
    · obtain rfl : k = L.length := by omega
      go_wp2
      go_ret
      refine ⟨?_, hbl⟩
      show Ending.returned (.string (bstr (L.take L.length))) = _
      rw [List.take_length]
end Go.Proofs.Ytfcefkhlbbehcaa
