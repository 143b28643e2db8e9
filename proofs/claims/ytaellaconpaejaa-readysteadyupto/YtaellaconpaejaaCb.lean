/- Walks: what a check of a way comes to. -/
import Derived.Test.YtaellaconpaejaaCa
set_option linter.unusedVariables false
namespace Go.Proofs.Ytaellaconpaejaa
open Go.RowKit

theorem WaysIn.take {w : World} {a : Option Addr} {ls : List (Int × Bool)} (h : WaysIn w a ls) (k : Nat) : WaysIn w a (ls.take k) := by
  intro i hi
  have : i < ls.length := by simp at hi; omega
  obtain ⟨b, o, e, h1, h2⟩ := h i this
  exact ⟨b, o, e, by simpa using h1, by simpa using h2⟩

theorem find_take (a : Option Addr) (ls : List (Int × Bool)) (k cap : Nat) (ln : Int) (w : World) (hw : WaysIn w a ls) (hk : k ≤ ls.length) (hl : ls.length ≤ 9223372036854775807) :
    Calls Try.prog 115 #[.slice a k cap, .int .i64 ln] w fun e w' => e = .returned (.int .i64 (idx ln (ls.take k))) ∧ Below w.heap.size w w' := by
  have e : (ls.take k).length = k := by simp; omega
  have := find_any a (ls.take k) cap ln w (hw.take k) (by omega)
  rw [e] at this
  exact this

set_option maxHeartbeats 800000 in
theorem checkWay_any (b o : Nat) (ls : List (Int × Bool)) (cap i : Nat) (num sets : Int) (w : World) (hw : WaysIn w (some ⟨b, o, none⟩) ls) (hi : i < ls.length) (hcap : ls.length ≤ cap) (hl : ls.length ≤ 9223372036854775807) (hs : 1 ≤ sets) (hs2 : sets ≤ 4) :
    Calls Try.prog 76 #[.slice (some ⟨b, o, none⟩) ls.length cap, .int .i64 i, .int .i64 num, .int .i64 sets] w fun e w' => e = .returned (.int .i64 (ckWay ls i num sets)) ∧ Below w.heap.size w w' := by
  obtain ⟨b', o', e, h1, h2⟩ := hw i hi
  simp only [Option.some.injEq, Addr.mk.injEq, and_true] at e
  obtain ⟨rfl, rfl⟩ := e
  have hi' : (i : Int) < (ls.length : Int) := by omega
  have hcap' : (ls.length : Int) ≤ (cap : Int) := by omega
  have hicap : (i : Int) ≤ (cap : Int) := by omega
  generalize hx : ls[i] = x at h1 h2
  obtain ⟨l, d⟩ := x
  have Hx : Hid (ls[i]? = some (l, d)) := by show ls[i]? = _; rw [List.getElem?_eq_getElem hi, hx]
  clear hx
  simp only at h1 h2
  go_enter Try.func76, Try.ntmps76
  go_wp2
  go_quiet (fail)
  go_wp2_with fail
  refine (within_any _ _ _ _).mono ?_
  rintro e w' ⟨rfl, rfl⟩
  have hb0 : Below w.heap.size w (w.drewN nq) := below_drewN (Below.refl _ _) nq
  cases hr : inR l 0 1000 with
  | false =>
    go_wp2
    go_ret
    exact ⟨ret_int (by rw [ckWay, Hx.out]; simp [hr]), hb0⟩
  | true =>
    have Hr : Hid (inR l 0 1000 = true) := hr
    have hr1 : 0 ≤ l ∧ l ≤ 1000 := by simpa [inR] using hr
    obtain ⟨hl0, hl1⟩ := hr1
    clear hr
    by_cases hz : l = 0
    · subst hz
      cases d with
      | false => 
        go_wp2
        go_ret
        exact ⟨ret_int (by rw [ckWay, Hx.out]; simp [Hr.out]), hb0⟩
      | true => 
        go_wp2
        go_ret
        exact ⟨ret_int (by rw [ckWay, Hx.out]; simp [Hr.out]), hb0⟩
    · have hz' : (l == 0) = false := by simp [hz]
      have hw' := hw.keep hb0
      have Hz : Hid (¬ l = 0) := hz
      clear hz
      by_cases hm : l % sets = num
      · have hm' : (l % sets != num) = false := by simp [hm]
        have Hm : Hid (l % sets = num) := hm
        clear hm
        go_wp2_with fail
        refine (find_take _ ls i cap _ _ hw' (by omega) hl).mono ?_
        rintro e w1 ⟨rfl, hb1⟩
        by_cases h6 : 0 ≤ idx l (ls.take i)
        · go_wp2
          go_ret
          exact ⟨ret_int (by rw [ckWay, Hx.out]; simp [Hr.out, Hz.out, Hm.out, h6]), btrans hb0 hb1⟩
        · have h6' : ¬ idx l (ls.take i) ≥ 0 := h6
          go_wp2_with fail
          refine (find_take _ ls i cap _ _ (hw'.keep hb1) (by omega) hl).mono ?_
          rintro e w2 ⟨rfl, hb2⟩
          by_cases h4 : 0 ≤ idx 0 (ls.take i)
          · go_wp2
            go_ret
            exact ⟨ret_int (by rw [ckWay, Hx.out]; simp [Hr.out, Hz.out, Hm.out]; rw [if_neg (by omega), if_pos (by omega)]), btrans hb0 (btrans hb1 hb2)⟩
          · go_wp2
            go_ret
            exact ⟨ret_int (by rw [ckWay, Hx.out]; simp [Hr.out, Hz.out, Hm.out]; rw [if_neg (by omega), if_neg (by omega)]), btrans hb0 (btrans hb1 hb2)⟩
      · have hm' : (l % sets != num) = true := by simp [hm]
        have Hm : Hid (¬ l % sets = num) := hm
        clear hm
        go_wp2
        go_ret
        exact ⟨ret_int (by rw [ckWay, Hx.out]; simp [Hr.out, Hz.out, Hm.out]), hb0⟩

end Go.Proofs.Ytaellaconpaejaa
