/- Walks of the document's answer: a byte of an image, and two. -/
import Derived.Test.YtcdglnbkpklefaaQg
import Derived.Test.YtcdglnbkpklefaaPf
set_option linter.unusedVariables false
namespace Go.Proofs.Ytcdglnbkpklefaa
open Go.RowKit

theorem gb_at (s : ByteArray) (k : Nat) (h : k < s.size) : gb (nums s) k = ((s[k]'h).toNat : Int) := by
  rw [gb, List.getD_eq_getElem?_getD, nums_at s k h]
  rfl
theorem gb_byte (s : ByteArray) (k : Nat) : 0 ≤ gb (nums s) k ∧ gb (nums s) k ≤ 255 := by
  by_cases h : k < s.size
  · rw [gb_at s k h]
    have := (s[k]'h).toNat_lt
    omega
  · rw [gb, List.getD_eq_getElem?_getD, List.getElem?_eq_none (by rw [nums_len]; omega)]
    simp
theorem wrap_gb (s : ByteArray) (k : Nat) (h : k < s.size) : wrap64 ((s[k]'h).toNat : Int) = gb (nums s) k := by
  rw [gb_at s k h]
  have := (s[k]'h).toNat_lt
  unfold wrap64; omega

theorem wrapI_gb (s : ByteArray) (k : Nat) (h : k < s.size) : IntKind.i64.wrap ((s[k]'h).toNat : Int) = gb (nums s) k := by
  rw [gb_at s k h, IntKind.wrap_i64]
  have := (s[k]'h).toNat_lt
  omega

set_option maxRecDepth 100000 in
set_option maxHeartbeats 1000000 in
theorem b_any (s : ByteArray) (k bx : Nat) (w : World) (hc : w.cell? ⟨bx, 0, none⟩ = some (.string s)) (hk : k < s.size) (hs : s.size ≤ 200) :
    Calls Try.prog 83 #[.int .i64 k, .pointer (some ⟨bx, 0, none⟩)] w fun e w' => e = .returned (.int .i64 (gb (nums s) k)) ∧ w = w' := by
  have hk1 : (k : Int) < s.size := by omega
  have hk0 : (0 : Int) ≤ k := by omega
  have e1 := wrap_gb s k hk
  go_enter Try.func83, Try.ntmps83
  go_wp2
  go_ret
  refine ⟨?_, rfl⟩
  show Ending.returned (.int .i64 (wrap64 ((s[k]'hk).toNat : Int))) = _
  rw [e1]

set_option maxRecDepth 100000 in
set_option maxHeartbeats 1000000 in
theorem w_any (s : ByteArray) (k bx : Nat) (w : World) (hc : w.cell? ⟨bx, 0, none⟩ = some (.string s)) (hk : k + 1 < s.size) (hs : s.size ≤ 200) :
    Calls Try.prog 84 #[.int .i64 k, .pointer (some ⟨bx, 0, none⟩)] w fun e w' => e = .returned (.int .i64 (gw (nums s) k)) ∧ ∃ n, w' = w.drewN n := by
  have hk1 : (k : Int) < s.size := by omega
  have hk0 : (0 : Int) ≤ k := by omega
  have hk2 : (k : Int) + 1 < s.size := by omega
  have hka : k < s.size := by omega
  have e1 := wrap_gb s k hka
  have e2 := wrap_gb s (k + 1) hk
  have e3 := wrapI_gb s k hka
  have e4 := wrapI_gb s (k + 1) hk
  have r1 := gb_byte s k
  have r2 := gb_byte s (k + 1)
  have HW : Hid (gw (nums s) k = 256 * gb (nums s) k + gb (nums s) (k + 1)) := hid rfl
  generalize gb (nums s) k = x at *
  generalize gb (nums s) (k + 1) = y at *
  have r10 := r1.1
  have r11 := r1.2
  have r20 := r2.1
  have r21 := r2.2
  clear r1 r2
  have m1 : IntKind.i64.wrap (256 * x) = 256 * x := by rw [IntKind.wrap_i64]; omega
  have m2 : IntKind.i64.wrap ((k : Int) + 1) = (k : Int) + 1 := by rw [IntKind.wrap_i64]; omega
  have m3 : IntKind.i64.wrap (256 * x + y) = 256 * x + y := by rw [IntKind.wrap_i64]; omega
  have m5 : (0 : Int) ≤ (k : Int) + 1 := by omega
  have m6 : ((k : Int) + 1).toNat = k + 1 := by omega
  go_enter Try.func84, Try.ntmps84
  go_wp2_with fail
  go_quiet (fail)
  go_wp2
  go_ret
  exact ⟨by rw [HW.out]; rfl, _, rfl⟩

theorem bI_any (s : ByteArray) (n : Int) (k bx : Nat) (w : World) (hn : n = k) (hc : w.cell? ⟨bx, 0, none⟩ = some (.string s)) (hk : k < s.size) (hs : s.size ≤ 200) :
    Calls Try.prog 83 #[.int .i64 n, .pointer (some ⟨bx, 0, none⟩)] w fun e w' => e = .returned (.int .i64 (gb (nums s) k)) ∧ w = w' := by
  subst hn; exact b_any s k bx w hc hk hs
theorem wI_any (s : ByteArray) (n : Int) (k bx : Nat) (w : World) (hn : n = k) (hc : w.cell? ⟨bx, 0, none⟩ = some (.string s)) (hk : k + 1 < s.size) (hs : s.size ≤ 200) :
    Calls Try.prog 84 #[.int .i64 n, .pointer (some ⟨bx, 0, none⟩)] w fun e w' => e = .returned (.int .i64 (gw (nums s) k)) ∧ ∃ n, w' = w.drewN n := by
  subst hn; exact w_any s k bx w hc hk hs

end Go.Proofs.Ytcdglnbkpklefaa
