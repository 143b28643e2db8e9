/- Walks: what an access comes to. -/
import Derived.Test.YtaellaconpaejaaCl
set_option linter.unusedVariables false
namespace Go.Proofs.Ytaellaconpaejaa
open Go.RowKit

theorem RowAt.grown {w w' : World} {g : Nat} {t : TypeId} {L : List Value} {row : Option Nat} (h : RowAt w g t L) (hg : w.grownBy w' row) (hne : some g ≠ row) : RowAt w' g t L := by
  show w'.heap[g]? = _
  rw [hg.block g h.lt hne]; exact h

theorem OwnC.parts {w : World} {g0 s : Nat} {C : List (List (Int × Bool))} (h : OwnC w g0 C C.length) (hs : s < C.length) :
    ∃ g cap, w.cell? ⟨g0, s, none⟩ = some (.slice (some ⟨g, 0, none⟩) C[s].length cap) ∧ w.ownsRow (g0 + 1) 119 2 (.slice (some ⟨g, 0, none⟩) C[s].length cap) C[s].length (flat C[s]) ∧ g0 < g ∧
      ∀ (w' : World) (ls : List (Int × Bool)), ls.length = C[s].length → w.grownBy w' (some g) → w'.ownsRow (g0 + 1) 119 2 (.slice (some ⟨g, 0, none⟩) C[s].length cap) C[s].length (flat ls) → OwnC w' g0 (C.set s ls) C.length := by
  obtain ⟨L, G, cp, h1, h2, h3, h4⟩ := h
  obtain ⟨e1, e2⟩ := h3 s hs hs
  have hgt : g0 + 1 ≤ G s := (e2.lt (G s) rfl).1
  refine ⟨G s, cp s, h1.cell s _ e1, e2, hgt, fun w' ls hl hg ho => ?_⟩
  refine ⟨L, G, cp, h1.grown hg (by simp; omega), by simp [h2], fun j hj hk => ?_, h4⟩
  have hj' : j < C.length := by simpa using hj
  by_cases e : j = s
  · subst e
    simp only [List.getElem_set_self, hl]
    exact ⟨e1, ho⟩
  · have hne : G j ≠ G s := by
      rcases Nat.lt_or_gt_of_ne e with h | h
      · have := h4 j s h hs; omega
      · have := h4 s j h hk; omega
    simp only [List.getElem_set_ne (fun h => e h.symm)]
    exact ⟨(h3 j hj' hk).1, (h3 j hj' hk).2.kept hg (.inr (by simpa [Value.ownBlock] using hne))⟩

theorem ck_ok {C : List (List (Int × Bool))} (h : ck C = 0) : ckShape C = 0 ∧ 1 ≤ C.length ∧ C.length ≤ 4 ∧ ∀ ls ∈ C, 0 < ls.length ∧ ls.length ≤ 3 := by
  have hs : ckShape C = 0 := by
    unfold ck at h
    by_cases e : ckShape C = 0
    · exact e
    · simp [e] at h
  refine ⟨hs, ?_⟩
  unfold ckShape at hs
  split at hs
  · omega
  · rename_i h1
    split at hs
    · omega
    · rename_i h2
      simp [inR] at h1 h2
      refine ⟨by omega, by omega, fun ls hls => ?_⟩
      have := h2 ls hls
      omega

theorem useSet_len (ls : List (Int × Bool)) (ln : Int) (wr : Bool) (h : 0 < ls.length) : (useSet ls ln wr).1.length = ls.length := by
  rcases idx_cases ln ls with ⟨hx, _⟩ | ⟨k, hk, hx, _, _⟩
  · rw [useSet_miss hx]; simp; omega
  · rw [useSet_hit hx]; simp [List.length_eraseIdx, hk]; omega

set_option maxRecDepth 100000 in
set_option maxHeartbeats 1000000 in
theorem access_bad (a : Option Addr) (C : List (List (Int × Bool))) (cap : Nat) (l : Int) (wr : Bool) (w : World) (hw : CacheIn w a C) (hl : C.length ≤ 9223372036854775807) (h : ck C ≠ 0) :
    Calls Try.prog 15 #[.agg #[.slice a C.length cap], .int .i64 l, .bool wr] w fun e w' => e = .returned (.tuple #[.agg #[.slice none 0 0], .int .i64 0, .int .i64 (ck C)]) ∧ Below w.heap.size w w' := by
  have h1 : Below w.heap.size w (w.alloc (.cells #[.slice a C.length cap] 24)) := (Below.refl _ _).alloc (Nat.le_refl _) _
  have h2 : Below w.heap.size w ((w.alloc (.cells #[.slice a C.length cap] 24)).alloc (.cells #[.slice none 0 0] 24)) := h1.alloc (by simp) _
  have hr : RowAt ((w.alloc (.cells #[.slice a C.length cap] 24)).alloc (.cells #[.slice none 0 0] 24)) (w.heap.size + 1) 24 [.slice none 0 0] := rowAt_new _ _ [.slice none 0 0] 24 (by simp)
  have h' : (ck C != 0) = true := by simp [h]
  go_enter Try.func15, Try.ntmps15
  go_wp2_with fail
  refine (check_any a C cap _ (hw.keep h2) hl).mono ?_
  rintro e w1 ⟨rfl, hb1⟩
  have hr1 := hr.below hb1 (Nat.le_refl _)
  have hc1 := hr1.cell 0 _ rfl
  have hf1 := hr1.frozen 0
  clear h hr hw
  generalize hq : ck C = q at *
  have HQ := hid hq
  clear hq
  go_wp2
  exact bodyPost_ret (v := .tuple #[.agg #[.slice none 0 0], .int .i64 0, .int .i64 q]) (by simp [results, Try.results15, go_sem, World.cell?_setCell_same w1 _ _ hc1]) rfl ⟨by rw [HQ.out], (btrans h2 hb1).setCell (by show w.heap.size ≤ w.heap.size + 1; omega) _⟩

set_option maxRecDepth 100000 in
set_option maxHeartbeats 1000000 in
theorem access_range (a : Option Addr) (C : List (List (Int × Bool))) (cap : Nat) (l : Int) (wr : Bool) (w : World) (hw : CacheIn w a C) (hl : C.length ≤ 9223372036854775807) (h : ck C = 0) (hr0 : inR l 1 1000 = false) :
    Calls Try.prog 15 #[.agg #[.slice a C.length cap], .int .i64 l, .bool wr] w fun e w' => e = .returned (.tuple #[.agg #[.slice none 0 0], .int .i64 0, .int .i64 3]) ∧ Below w.heap.size w w' := by
  have h1 : Below w.heap.size w (w.alloc (.cells #[.slice a C.length cap] 24)) := (Below.refl _ _).alloc (Nat.le_refl _) _
  have h2 : Below w.heap.size w ((w.alloc (.cells #[.slice a C.length cap] 24)).alloc (.cells #[.slice none 0 0] 24)) := h1.alloc (by simp) _
  have hr : RowAt ((w.alloc (.cells #[.slice a C.length cap] 24)).alloc (.cells #[.slice none 0 0] 24)) (w.heap.size + 1) 24 [.slice none 0 0] := rowAt_new _ _ [.slice none 0 0] 24 (by simp)
  go_enter Try.func15, Try.ntmps15
  go_wp2_with fail
  refine (check_any a C cap _ (hw.keep h2) hl).mono ?_
  rintro e w1 ⟨rfl, hb1⟩
  have hr1 := hr.below hb1 (Nat.le_refl _)
  have hc1 := hr1.cell 0 _ rfl
  have hf1 := hr1.frozen 0
  rw [h]
  clear h hr hw
  go_wp2_with fail
  refine (within_any _ _ _ _).mono ?_
  rintro e w' ⟨rfl, rfl⟩
  rw [hr0]
  clear hr0
  go_wp2
  exact bodyPost_ret (v := .tuple #[.agg #[.slice none 0 0], .int .i64 0, .int .i64 3]) (by simp [results, Try.results15, go_sem, World.cell?_setCell_same w1 _ _ hc1]) rfl ⟨rfl, (btrans h2 hb1).setCell (by show w.heap.size ≤ w.heap.size + 1; omega) _⟩

set_option maxRecDepth 100000 in
set_option maxHeartbeats 1000000 in
theorem access_ok (a : Option Addr) (C : List (List (Int × Bool))) (cap : Nat) (l : Int) (wr : Bool) (s : Nat) (w : World) (hw : CacheIn w a C) (hl : C.length ≤ 9223372036854775807) (h : ck C = 0) (hr0 : inR l 1 1000 = true) (hs : l % (C.length : Int) = (s : Int)) (hsl : s < C.length) :
    Calls Try.prog 15 #[.agg #[.slice a C.length cap], .int .i64 l, .bool wr] w fun e w' => ∃ g0, e = .returned (.tuple #[.agg #[.slice (some ⟨g0, 0, none⟩) C.length C.length], .int .i64 (useSet C[s] l wr).2, .int .i64 0]) ∧ OwnC w' g0 (C.set s (useSet C[s] l wr).1) C.length ∧ w.heap.size ≤ g0 ∧ Below w.heap.size w w' := by
  have h1 : Below w.heap.size w (w.alloc (.cells #[.slice a C.length cap] 24)) := (Below.refl _ _).alloc (Nat.le_refl _) _
  have h2 : Below w.heap.size w ((w.alloc (.cells #[.slice a C.length cap] 24)).alloc (.cells #[.slice none 0 0] 24)) := h1.alloc (by simp) _
  have hr : RowAt ((w.alloc (.cells #[.slice a C.length cap] 24)).alloc (.cells #[.slice none 0 0] 24)) (w.heap.size + 1) 24 [.slice none 0 0] := rowAt_new _ _ [.slice none 0 0] 24 (by simp)
  have ha : RowAt ((w.alloc (.cells #[.slice a C.length cap] 24)).alloc (.cells #[.slice none 0 0] 24)) w.heap.size 24 [.slice a C.length cap] := (rowAt_new w _ [.slice a C.length cap] 24 rfl).alloc _
  obtain ⟨_, hC1, hC4, hCn⟩ := ck_ok h
  have HCn := hid hCn
  have hl0 : 1 ≤ l ∧ l ≤ 1000 := by simpa [inR] using hr0
  obtain ⟨hl1, hl2⟩ := hl0
  have hC1' : (1 : Int) ≤ C.length := by omega
  have hC4' : (C.length : Int) ≤ 4 := by omega
  have hsl' : (s : Int) < C.length := by omega
  have hs0 : (0 : Int) ≤ s := by omega
  have hs2 : l.tmod (C.length : Int) = (s : Int) := by rw [Int.tmod_eq_emod_of_nonneg (by omega)]; exact hs
  have hz1 : ¬ C.length = 0 := by omega
  have hz2 : ¬ C = [] := by intro e; rw [e] at hz1; exact hz1 rfl
  clear hCn
  go_enter Try.func15, Try.ntmps15
  go_wp2_with fail
  refine (check_any a C cap _ (hw.keep h2) hl).mono ?_
  rintro e w1 ⟨rfl, hb1⟩
  have hr1 := hr.below hb1 (Nat.le_refl _)
  have ha1 := ha.below hb1 (Nat.le_refl _)
  have hw1 := (hw.keep h2).keep hb1
  have hc1 := ha1.cell 0 _ rfl
  have h3 := btrans h2 hb1
  rw [h]
  clear h hr hw ha h1 h2 hb1
  go_wp2_with fail
  refine (within_any _ _ _ _).mono ?_
  rintro e w' ⟨rfl, rfl⟩
  rw [hr0]
  clear hr0
  go_wp2_with fail
  refine (clone_any a C cap _ hw1 hC4' hC1' HCn.out).mono ?_
  rintro e w2 ⟨g0, rfl, hg0, hO, hb2⟩
  have hr2 := hr1.below hb2 (Nat.le_refl _)
  have h4 := btrans h3 hb2
  obtain ⟨g, cap2, q1, q2, q3, q4⟩ := hO.parts hsl
  have hgw : g < w2.heap.size := (q2.lt g rfl).2
  have hg0w : g0 < w2.heap.size := by omega
  have hbox : Below w2.heap.size w2 (w2.alloc (.cells #[.slice (some ⟨g0, 0, none⟩) C.length C.length] 24)) := (Below.refl _ _).alloc (Nat.le_refl _) _
  have Q2 : Hid ((w2.alloc (.cells #[.slice (some ⟨g0, 0, none⟩) C.length C.length] 24)).drew.ownsRow (g0 + 1) 119 2 (.slice (some ⟨g, 0, none⟩) C[s].length cap2) C[s].length (flat C[s])) := owns_below q2 hbox.drew
  have Q4 := hid q4
  have q1' : (w2.alloc (.cells #[.slice (some ⟨g0, 0, none⟩) C.length C.length] 24)).cell? ⟨g0, s, none⟩ = some (.slice (some ⟨g, 0, none⟩) C[s].length cap2) := bkeep hbox q1 (Nat.le_refl _)
  have hgr0 : Hid (w2.grownBy (w2.alloc (.cells #[.slice (some ⟨g0, 0, none⟩) C.length C.length] 24)).drew (some g)) := (grow_below g hbox).trans (grow_drew _ _)
  have hcost : 1 ≤ (useSet C[s] l wr).2 ∧ (useSet C[s] l wr).2 ≤ 15 := by
    unfold useSet
    split
    · simp
    · have := wb_le (C[s].getLastD (0, false)).2
      simp only; omega
  obtain ⟨hco1, hco2⟩ := hcost
  have hlt1 := hr1.lt
  clear q1 q2 q4 hO hw1 hc1 ha1 hr1 h3 hb2
  go_wp2_with fail
  go_region_held3 (fun w' => w'.cell? ⟨w2.heap.size, 0, none⟩ = some (.slice (some ⟨g0, 0, none⟩) C.length C.length) ∧ w'.cell? ⟨g0, s, none⟩ = some (.slice (some ⟨g, 0, none⟩) C[s].length cap2)) (first | go_keep | exact ⟨hg5.cell (by simp) (by simp; omega), hg5.cell q1' (by simp; omega)⟩)
    (first | (go_at_call 71; refine (use_any g cap2 (g0 + 1) C[s] l wr _ Q2.out (HCn.out C[s] (List.getElem_mem hsl)).1 (HCn.out C[s] (List.getElem_mem hsl)).2).mono ?_; rintro e w5 ⟨rfl, ho5, hg5⟩))
  have HG := hid (hgr0.out.trans hg5)
  have HO5 := hid (Q4.out w5 _ (useSet_len _ _ _ (HCn.out C[s] (List.getElem_mem hsl)).1) (hgr0.out.trans hg5) ho5)
  have hr5 := hr2.grown (hgr0.out.trans hg5) (by simp; omega)
  have hA5 : w5.cell? ⟨w2.heap.size, 0, none⟩ = some (.slice (some ⟨g0, 0, none⟩) C.length C.length) := hg5.cell (by simp) (by simp; omega)
  have hc5 := hr5.cell 0 _ rfl
  have hf5 := hr5.frozen 0
  clear ho5 Q2 Q4 q1' hr2 hr5 hgr0
  go_wp2
  refine bodyPost_ret (v := .tuple #[.agg #[.slice (some ⟨g0, 0, none⟩) C.length C.length], .int .i64 (useSet C[s] l wr).2, .int .i64 0]) (by simp [results, Try.results15, go_sem, World.cell?_setCell_same w5 _ _ hc5]) rfl ⟨g0, rfl, HO5.out.setOther _ _ (by show w.heap.size + 1 < g0; omega), by omega, ?_⟩
  exact (h4.grown HG.out (by have := h4.size; omega) (fun k hk => by simp at hk; omega)).setCell (by show w.heap.size ≤ w.heap.size + 1; omega) _

end Go.Proofs.Ytaellaconpaejaa
