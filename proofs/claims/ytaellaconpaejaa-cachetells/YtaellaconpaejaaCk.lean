/- Walks: what an empty cache comes to. -/
import Derived.Test.YtaellaconpaejaaCj
set_option linter.unusedVariables false
namespace Go.Proofs.Ytaellaconpaejaa
open Go.RowKit

def emptyC (N n : Nat) : List (List (Int × Bool)) := List.replicate N (List.replicate n (0, false))

theorem emptyC_len (N n : Nat) : (emptyC N n).length = N := by simp [emptyC]
theorem emptyC_at (N n j : Nat) (h : j < (emptyC N n).length) : (emptyC N n)[j] = List.replicate n (0, false) := by simp [emptyC]

theorem make35_1 (w : World) : (Instr.makeSlice 35 (.int .i64 1) (.int .i64 1)).run Try.prog w = .ok (.slice (some ⟨w.heap.size, 0, none⟩) 1 1) (w.alloc (.cells (flat (List.replicate 1 (0, false))).toArray 119)) := by kernel_rfl
theorem make35_2 (w : World) : (Instr.makeSlice 35 (.int .i64 2) (.int .i64 2)).run Try.prog w = .ok (.slice (some ⟨w.heap.size, 0, none⟩) 2 2) (w.alloc (.cells (flat (List.replicate 2 (0, false))).toArray 119)) := by kernel_rfl
theorem make35_3 (w : World) : (Instr.makeSlice 35 (.int .i64 3) (.int .i64 3)).run Try.prog w = .ok (.slice (some ⟨w.heap.size, 0, none⟩) 3 3) (w.alloc (.cells (flat (List.replicate 3 (0, false))).toArray 119)) := by kernel_rfl

theorem make35 (n : Nat) (h1 : 1 ≤ n) (h3 : n ≤ 3) (w : World) :
    (Instr.makeSlice 35 (.int .i64 n) (.int .i64 n)).run Try.prog w = .ok (.slice (some ⟨w.heap.size, 0, none⟩) n n) (w.alloc (.cells (flat (List.replicate n (0, false))).toArray 119)) := by
  match n, h1, h3 with
  | 1, _, _ => exact make35_1 w
  | 2, _, _ => exact make35_2 w
  | 3, _, _ => exact make35_3 w

theorem owns_made (w : World) (n : Nat) (hn : n ≤ 3) : (w.alloc (.cells (flat (List.replicate n (0, false))).toArray 119)).ownsRow w.heap.size 119 2 (.slice (some ⟨w.heap.size, 0, none⟩) n n) n (flat (List.replicate n (0, false))) := by
  have h := rowAt_new w _ (flat (List.replicate n (0, false)) ++ []) 119 rfl
  rw [List.append_nil] at h
  refine owns_of_rowAt (r := []) (by rw [List.append_nil]; exact h) (by rw [List.append_nil, flat_len]; simp) (Nat.le_refl _) (by simp [maxLen]; omega) (Nat.le_refl _) (by simp)

set_option maxRecDepth 100000 in
set_option maxHeartbeats 1000000 in
theorem empty_any (N n : Nat) (w : World) (hl : (N : Int) ≤ 4) (hl1 : (1 : Int) ≤ N) (hn : 1 ≤ n) (hn3 : n ≤ 3) :
    Calls Try.prog 69 #[.int .i64 N, .int .i64 n] w fun e w' => ∃ g0, e = .returned (.agg #[.slice (some ⟨g0, 0, none⟩) N N]) ∧ w.heap.size ≤ g0 ∧ OwnC w' g0 (emptyC N n) N ∧ Below w.heap.size w w' := by
  have hmk22 := run_make_row' (P := Try.prog) 22 35 (.slice none 0 0) 24 Try.underlying22 Try.info35 rfl .i64 .i64 N (by omega) (by omega)
  have hmk35 := make35 n hn hn3
  go_enter Try.func69, Try.ntmps69
  go_wp2
  clear hmk22
  have HB0 : Hid (Below w.heap.size w (((w.alloc (Obj.cells #[Value.slice none 0 0] 24)).alloc (Obj.cells (madeCells #[Value.slice none 0 0] N) 35)).alloc (Obj.cells #[Value.slice (some ⟨w.heap.size + 1, 0, none⟩) N N] 24))) :=
    (((Below.refl _ _).alloc (Nat.le_refl _) _).alloc (by simp) _).alloc (by simp; omega) _
  have HO0 : Hid (OwnC (((w.alloc (Obj.cells #[Value.slice none 0 0] 24)).alloc (Obj.cells (madeCells #[Value.slice none 0 0] N) 35)).alloc (Obj.cells #[Value.slice (some ⟨w.heap.size + 1, 0, none⟩) N N] 24)) (w.heap.size + 1) (emptyC N n) 0) := by
    refine ⟨(madeCells #[Value.slice none 0 0] N).toList, fun _ => 0, fun _ => 0, ?_, by simp [madeCells, emptyC], fun j _ h => by omega, fun i j _ h => by omega⟩
    refine RowAt.alloc ?_ _
    have := rowAt_new (w.alloc (Obj.cells #[Value.slice none 0 0] 24)) (w.heap.size + 1) (madeCells #[Value.slice none 0 0] N).toList 35 (by simp)
    simpa using this
  have Hc30 : Hid ((((w.alloc (Obj.cells #[Value.slice none 0 0] 24)).alloc (Obj.cells (madeCells #[Value.slice none 0 0] N) 35)).alloc (Obj.cells #[Value.slice (some ⟨w.heap.size + 1, 0, none⟩) N N] 24)).cell? ⟨w.heap.size + 1 + 1, 0, none⟩ = some (.slice (some ⟨w.heap.size + 1, 0, none⟩) N N)) := by
    show _ = _
    rw [cell_new _ _ _ _ _ (by simp)]; rfl
  have Hr10 : Hid (RowAt (((w.alloc (Obj.cells #[Value.slice none 0 0] 24)).alloc (Obj.cells (madeCells #[Value.slice none 0 0] N) 35)).alloc (Obj.cells #[Value.slice (some ⟨w.heap.size + 1, 0, none⟩) N N] 24)) w.heap.size 24 [Value.slice none 0 0]) :=
    ((rowAt_new w w.heap.size [Value.slice none 0 0] 24 rfl).alloc _).alloc _
  go_loopw [13] (fun i wr => ∃ k : Nat, k ≤ N ∧ i = .int .i64 k ∧ Below w.heap.size w wr ∧ OwnC wr (w.heap.size + 1) (emptyC N n) k ∧ wr.cell? ⟨w.heap.size + 1 + 1, 0, none⟩ = some (.slice (some ⟨w.heap.size + 1, 0, none⟩) N N) ∧ wr.cell? ⟨w.heap.size, 0, none⟩ = some (.slice none 0 0) ∧ wr.frozen? ⟨w.heap.size, 0, none⟩ = false) (fun i _ => N - (intOf i).toNat)
  case atStart => exact ⟨0, Nat.zero_le _, rfl, HB0.out, HO0.out, Hc30.out, Hr10.out.cell 0 _ rfl, Hr10.out.frozen 0⟩
  case round =>
    clear HB0 HO0 Hc30 Hr10
    obtain ⟨k, hk, rfl, hbl, hO, hA, hR, hRf⟩ := hrel
    have HO := hid hO
    clear hO
    by_cases hlt : k < N
    · have hltC : k < (emptyC N n).length := by rw [emptyC_len]; exact hlt
      have hk4 : (k : Int) < (N : Int) := by omega
      have hk0 : (0 : Int) ≤ (k : Int) := by omega
      have hlt5 : w.heap.size < wr.heap.size := World.block_lt_of_cell? _ _ hR
      have hlt6 : w.heap.size + 1 + 1 < wr.heap.size := World.block_lt_of_cell? _ _ hA
      obtain ⟨⟨v5, hst5⟩, hfz5⟩ := HO.out.cellAt k hltC
      have hlt7 : w.heap.size + 1 < wr.heap.size := World.block_lt_of_cell? _ _ hst5
      have hst6 : ∀ o, (wr.alloc o).cell? ⟨w.heap.size + 1, k, none⟩ = some v5 := fun o => by rw [World.cell?_alloc_lt _ _ _ (by exact hlt7)]; exact hst5
      have hfz6 : ∀ o, (wr.alloc o).frozen? ⟨w.heap.size + 1, k, none⟩ = false := fun o => by rw [((Below.refl wr.heap.size wr).alloc (Nat.le_refl _) o).frozen (p := ⟨w.heap.size + 1, k, none⟩) hlt7]; exact hfz5
      go_wp2
      go_region_held3 (fun w' => w'.cell? ⟨w.heap.size + 1 + 1, 0, none⟩ = some (.slice (some ⟨w.heap.size + 1, 0, none⟩) N N)) (go_keep) (fail)
      have Hrel := hid (HO.out.drew.step hltC ((Below.refl _ _).alloc (Nat.le_refl _) _) (by rw [emptyC_at]; simpa using owns_made wr.drew n hn3))
      rw [World.setCell_alloc_past (w := wr.drew) _ _ _ _ (by exact hlt7), show (emptyC N n)[k].length = n by rw [emptyC_at]; simp] at Hrel
      have Hrel2 : Hid (Below w.heap.size w (((wr.drew.setCell ⟨w.heap.size + 1, k, none⟩ (.slice (some ⟨wr.heap.size, 0, none⟩) n n)).alloc (.cells (flat (List.replicate n (0, false))).toArray 119)))
          ∧ ((wr.drew.setCell ⟨w.heap.size + 1, k, none⟩ (.slice (some ⟨wr.heap.size, 0, none⟩) n n)).alloc (.cells (flat (List.replicate n (0, false))).toArray 119)).cell? ⟨w.heap.size + 1 + 1, 0, none⟩ = some (.slice (some ⟨w.heap.size + 1, 0, none⟩) N N)
          ∧ ((wr.drew.setCell ⟨w.heap.size + 1, k, none⟩ (.slice (some ⟨wr.heap.size, 0, none⟩) n n)).alloc (.cells (flat (List.replicate n (0, false))).toArray 119)).cell? ⟨w.heap.size, 0, none⟩ = some (.slice none 0 0)
          ∧ ((wr.drew.setCell ⟨w.heap.size + 1, k, none⟩ (.slice (some ⟨wr.heap.size, 0, none⟩) n n)).alloc (.cells (flat (List.replicate n (0, false))).toArray 119)).frozen? ⟨w.heap.size, 0, none⟩ = false) := by
        have q1 : Below w.heap.size w (wr.drew.setCell ⟨w.heap.size + 1, k, none⟩ (.slice (some ⟨wr.heap.size, 0, none⟩) n n)) := hbl.drew.setCell (by show w.heap.size ≤ w.heap.size + 1; omega) _
        have q2 : ∀ x : World, Below x.heap.size x (x.alloc (.cells (flat (List.replicate n (0, false))).toArray 119)) := fun x => (Below.refl _ _).alloc (Nat.le_refl _) _
        refine ⟨btrans q1 (q2 _), bkeep (q2 _) ?_ (Nat.le_refl _), bkeep (q2 _) ?_ (Nat.le_refl _), ?_⟩
        · rw [World.cell?_setCell_other _ _ _ _ (by simp)]; exact hA
        · rw [World.cell?_setCell_other _ _ _ _ (by simp)]; exact hR
        · rw [(q2 _).frozen (p := ⟨w.heap.size, 0, none⟩) (by simpa using hlt5)]; simpa using hRf
      clear hA hR hRf hst5 hfz5 hst6 hfz6 hmk35
      go_wp2
      go_roundw
      case rel => exact ⟨k + 1, by omega, by go_num, Hrel2.out.1, Hrel.out, Hrel2.out.2⟩
      case measure => simp [intOf]; omega
    · obtain rfl : k = N := by omega
      clear hmk35
      go_wp2
      exact bodyPost_ret (v := .agg #[.slice (some ⟨w.heap.size + 1, 0, none⟩) k k]) (by simp [results, Try.results69, go_sem, World.cell?_setCell_same wr _ _ hR]) rfl ⟨_, rfl, by omega, HO.out.setOther _ _ (by show w.heap.size < w.heap.size + 1; omega), hbl.setCell (Nat.le_refl _) _⟩

end Go.Proofs.Ytaellaconpaejaa
