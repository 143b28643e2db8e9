/- Walks: what a new cache, an access and a flush come to. -/
import Derived.Test.YtaellaconpaejaaCk
set_option linter.unusedVariables false
namespace Go.Proofs.Ytaellaconpaejaa
open Go.RowKit

theorem cacheIn_of_own {w : World} {g0 k : Nat} {C : List (List (Int × Bool))} (h : OwnC w g0 C k) (hk : C.length ≤ k) (hn : ∀ ls ∈ C, ls.length ≤ 3) : CacheIn w (some ⟨g0, 0, none⟩) C := by
  obtain ⟨L, G, cp, h1, h2, h3, h4⟩ := h
  intro j hj
  obtain ⟨e1, e2⟩ := h3 j hj (by omega)
  obtain ⟨r, _, _, q3, _, _⟩ := rowAt_of_owns e2
  exact ⟨g0, 0, some ⟨G j, 0, none⟩, cp j, rfl, by rw [Nat.zero_add]; exact h1.cell j _ e1, waysIn_of_owns e2, q3, by have := hn C[j] (List.getElem_mem hj); omega⟩

set_option maxRecDepth 100000 in
set_option maxHeartbeats 1000000 in
theorem new_bad (s n : Int) (w : World) (h : (inR s 1 4 && inR n 1 3) = false) :
    Calls Try.prog 14 #[.int .i64 s, .int .i64 n] w fun e w' => e = .returned (.tuple #[.agg #[.slice none 0 0], .int .i64 3]) ∧ Below w.heap.size w w' := by
  cases h1 : inR s 1 4 with
  | false =>
    clear h
    go_enter Try.func14, Try.ntmps14
    go_wp2_with fail
    refine (within_any _ _ _ _).mono ?_
    rintro e w' ⟨rfl, rfl⟩
    rw [h1]
    clear h1
    go_wp2
    exact bodyPost_ret (v := .tuple #[.agg #[.slice none 0 0], .int .i64 3]) (by simp [results, Try.results14, go_sem]) rfl ⟨rfl, (Below.refl _ _).alloc (Nat.le_refl _) _⟩
  | true =>
    have h2 : inR n 1 3 = false := by simpa [h1] using h
    clear h
    go_enter Try.func14, Try.ntmps14
    go_wp2_with fail
    refine (within_any _ _ _ _).mono ?_
    rintro e w' ⟨rfl, rfl⟩
    rw [h1]
    clear h1
    go_wp2_with fail
    refine (within_any _ _ _ _).mono ?_
    rintro e w' ⟨rfl, rfl⟩
    rw [h2]
    clear h2
    go_wp2
    exact bodyPost_ret (v := .tuple #[.agg #[.slice none 0 0], .int .i64 3]) (by simp [results, Try.results14, go_sem]) rfl ⟨rfl, (Below.refl _ _).alloc (Nat.le_refl _) _⟩

set_option maxRecDepth 100000 in
set_option maxHeartbeats 1000000 in
theorem new_ok (N n : Nat) (w : World) (hN1 : 1 ≤ N) (hN : N ≤ 4) (hn1 : 1 ≤ n) (hn : n ≤ 3) :
    Calls Try.prog 14 #[.int .i64 N, .int .i64 n] w fun e w' => ∃ g0, e = .returned (.tuple #[.agg #[.slice (some ⟨g0, 0, none⟩) N N], .int .i64 0]) ∧ OwnC w' g0 (emptyC N n) N ∧ w.heap.size ≤ g0 ∧ Below w.heap.size w w' := by
  have h1 : inR N 1 4 = true := by simp [inR]; omega
  have h2 : inR n 1 3 = true := by simp [inR]; omega
  go_enter Try.func14, Try.ntmps14
  go_wp2_with fail
  refine (within_any _ _ _ _).mono ?_
  rintro e w' ⟨rfl, rfl⟩
  rw [h1]
  clear h1
  go_wp2_with fail
  refine (within_any _ _ _ _).mono ?_
  rintro e w' ⟨rfl, rfl⟩
  rw [h2]
  clear h2
  go_wp2_with fail
  refine (empty_any N n _ (by omega) (by omega) hn1 hn).mono ?_
  rintro e w1 ⟨g0, rfl, hg0, hO, hb1⟩
  have HO := hid hO
  clear hO
  have hr : RowAt (w.alloc (.cells #[.slice none 0 0] 24)) w.heap.size 24 [.slice none 0 0] := rowAt_new w _ [.slice none 0 0] 24 rfl
  have hr1 := hr.below hb1 (Nat.le_refl _)
  have hc1 := hr1.cell 0 _ rfl
  have hf1 := hr1.frozen 0
  have hg1 : w.heap.size < g0 := by simp at hg0; omega
  have h0 : Below w.heap.size w (w.alloc (.cells #[.slice none 0 0] 24)) := (Below.refl _ _).alloc (Nat.le_refl _) _
  go_wp2
  exact bodyPost_ret (v := .tuple #[.agg #[.slice (some ⟨g0, 0, none⟩) N N], .int .i64 0]) (by simp [results, Try.results14, go_sem, World.cell?_setCell_same w1 _ _ hc1]) rfl ⟨_, rfl, HO.out.setOther _ _ hg1, by omega, (btrans h0 hb1).setCell (Nat.le_refl _) _⟩

end Go.Proofs.Ytaellaconpaejaa
