/- Walks of the document's answer: an empty cache. -/
import Derived.Test.YtaellaconpaejaaCm
set_option linter.unusedVariables false
namespace Go.Proofs.Ytaellaconpaejaa
open Go.RowKit

/-- The sets that have been appended; none lies in the row of the sets themselves. -/
structure Grows (w : World) (base : Nat) (v : Value) (C : List (List (Int × Bool))) (L : List Value) : Prop where
  own : w.ownsRow base 35 1 v C.length L
  sets : ∀ j (h : j < C.length), ∃ a cap, L[j]? = some (.slice a C[j].length cap) ∧ WaysIn w a C[j] ∧ C[j].length ≤ cap ∧ C[j].length ≤ 3 ∧ ∀ b o, a = some ⟨b, o, none⟩ → some b ≠ v.ownBlock ∧ base ≤ b

theorem Grows.nil (w : World) (base : Nat) : Grows w base (.slice none 0 0) [] [] :=
  ⟨World.ownsRow_nil w base 35 1, fun j h => absurd h (by simp)⟩

theorem Grows.cacheIn {w : World} {base : Nat} {v : Value} {C : List (List (Int × Bool))} {L : List Value} (h : Grows w base v C L) : ∃ a cap, v = .slice a C.length cap ∧ CacheIn w a C := by
  obtain ⟨hl, hv⟩ := h.own
  rcases hv with ⟨rfl, hn⟩ | ⟨g, cap, cur, rfl, hb, hg, hnc, hm, hcs, ht⟩
  · refine ⟨none, 0, by rw [hn], fun j hj => by omega⟩
  · refine ⟨_, cap, rfl, fun j hj => ?_⟩
    obtain ⟨a, cap', e1, e2, e3, e4, _⟩ := h.sets j hj
    have := h.own.cells (g := g) rfl j _ e1
    rw [addZ] at this
    exact ⟨g, 0, a, cap', rfl, by rw [Nat.zero_add]; exact this, e2, e3, by omega⟩

/-- What a cache is, as long as the blocks from base on are as they were. -/
def CacheFrom (base : Nat) (w : World) (a : Option Addr) (C : List (List (Int × Bool))) : Prop :=
  ∀ W : World, (∀ k, base ≤ k → k < w.heap.size → W.heap[k]? = w.heap[k]?) → CacheIn W a C

theorem Grows.from {w : World} {base : Nat} {v : Value} {C : List (List (Int × Bool))} {L : List Value} (h : Grows w base v C L) : ∃ a cap, v = .slice a C.length cap ∧ CacheFrom base w a C := by
  obtain ⟨a, cap, e, _⟩ := h.cacheIn
  refine ⟨a, cap, e, fun W hW => ?_⟩
  have h2 : Grows W base v C L := by
    refine ⟨⟨h.own.1, ?_⟩, fun j hj => ?_⟩
    · rcases h.own.2 with q | ⟨g, cap', cur, e1, e2, e3, r⟩
      · exact .inl q
      · refine .inr ⟨g, cap', cur, e1, e2, ?_, r⟩
        rw [hW g e2 (Array.getElem?_eq_some_iff.1 e3).1]; exact e3
    · obtain ⟨a', cap', e1, e2, e3, e4, e5⟩ := h.sets j hj
      refine ⟨a', cap', e1, fun i hi => ?_, e3, e4, e5⟩
      obtain ⟨b, o, q1, q2, q3⟩ := e2 i hi
      have hb := (e5 b o q1).2
      have hl : b < w.heap.size := World.block_lt_of_cell? _ _ q2
      have hh := hW b hb hl
      exact ⟨b, o, q1, by rw [World.cell?_of_block (w := w) (a := ⟨b, o + i * 2, none⟩) hh]; exact q2, by rw [World.cell?_of_block (w := w) (a := ⟨b, o + i * 2 + 1, none⟩) hh]; exact q3⟩
  obtain ⟨a2, cap2, e2, h3⟩ := h2.cacheIn
  rw [e] at e2
  simp only [Value.slice.injEq, true_and] at e2
  obtain ⟨rfl, _⟩ := e2
  exact h3

theorem CacheFrom.mono {base base' : Nat} {w : World} {a : Option Addr} {C : List (List (Int × Bool))} (h : CacheFrom base w a C) (hb : base' ≤ base) : CacheFrom base' w a C :=
  fun W hW => h W (fun k h1 h2 => hW k (by omega) h2)

theorem WaysIn.grown {w w' : World} {a : Option Addr} {ls : List (Int × Bool)} {row : Option Nat} (h : WaysIn w a ls) (hg : w.grownBy w' row) (hne : ∀ b o, a = some ⟨b, o, none⟩ → some b ≠ row) : WaysIn w' a ls := by
  intro i hi
  obtain ⟨b, o, e, h1, h2⟩ := h i hi
  exact ⟨b, o, e, hg.cell h1 (hne b o e), hg.cell h2 (hne b o e)⟩

theorem Grows.below {w w' : World} {base : Nat} {v : Value} {C : List (List (Int × Bool))} {L : List Value} (h : Grows w base v C L) (hb : Below w.heap.size w w') : Grows w' base v C L :=
  ⟨owns_below h.own hb, fun j hj => by
    obtain ⟨a, cap, e1, e2, e3⟩ := h.sets j hj
    exact ⟨a, cap, e1, e2.keep hb, e3⟩⟩

theorem Grows.setOther {w : World} {base : Nat} {v : Value} {C : List (List (Int × Bool))} {L : List Value} (h : Grows w base v C L) (p : Addr) (u : Value) (hp : p.block < base) : Grows (w.setCell p u) base v C L := by
  have hg : w.grownBy (w.setCell p u) (some p.block) := ⟨rfl, rfl, rfl, by simp [World.setCell], fun k _ hk => Below.heap_setCell _ _ _ _ (by intro e; exact hk (by rw [e]))⟩
  refine ⟨h.own.kept hg ?_, fun j hj => ?_⟩
  · cases hv : v.ownBlock with
    | none => exact .inl rfl
    | some k => right; have := (h.own.lt k hv).1; simp; omega
  · obtain ⟨a, cap, e1, e2, e3, e4, e5⟩ := h.sets j hj
    exact ⟨a, cap, e1, e2.grown hg (fun b o e => by have := (e5 b o e).2; simp; omega), e3, e4, e5⟩

theorem Grows.append {w w1 : World} {base g cap' : Nat} {v : Value} {C : List (List (Int × Bool))} {L : List Value} (h : Grows w base v C L) {a : Option Addr} {cap : Nat} {ls : List (Int × Bool)} (hws : WaysIn w a ls) (hcap : ls.length ≤ cap) (h3 : ls.length ≤ 3)
    (hne : ∀ b o, a = some ⟨b, o, none⟩ → some b ≠ v.ownBlock) (hbase : ∀ b o, a = some ⟨b, o, none⟩ → base ≤ b) (hlt : ∀ b o, a = some ⟨b, o, none⟩ → b < w.heap.size) (hltL : ∀ j (hj : j < C.length), ∀ a cap, L[j]? = some (.slice a C[j].length cap) → ∀ b o, a = some ⟨b, o, none⟩ → b < w.heap.size)
    (hown : w1.ownsRow base 35 1 (.slice (some ⟨g, 0, none⟩) (C.length + 1) cap') (C.length + 1) (L ++ [.slice a ls.length cap])) (hgrow : w.grownBy w1 v.ownBlock) (hat : v.ownBlock = some g ∨ g = w.heap.size) :
    Grows w1 base (.slice (some ⟨g, 0, none⟩) (C.length + 1) cap') (C ++ [ls]) (L ++ [.slice a ls.length cap]) := by
  have hLl : L.length = C.length := by have := h.own.1; omega
  refine ⟨by simpa using hown, fun j hj => ?_⟩
  have hj' : j < C.length + 1 := by simpa using hj
  by_cases e : j = C.length
  · subst e
    refine ⟨a, cap, ?_, ?_, ?_, ?_, ?_⟩
    · rw [List.getElem?_append_right (by omega)]; simp [hLl]
    · simpa using hws.grown hgrow hne
    · simpa using hcap
    · simpa using h3
    · intro b o e
      have h1 := hne b o e
      have h2 := hlt b o e
      refine ⟨?_, hbase b o e⟩
      rcases hat with h | h
      · rw [h] at h1; simpa [Value.ownBlock] using h1
      · simp [Value.ownBlock]; omega
  · have hjC : j < C.length := by omega
    obtain ⟨a', cap'', e1, e2, e3, e4, e5⟩ := h.sets j hjC
    have eC : (C ++ [ls])[j] = C[j] := by rw [List.getElem_append_left hjC]
    rw [eC]
    refine ⟨a', cap'', ?_, e2.grown hgrow (fun b o e => (e5 b o e).1), e3, e4, ?_⟩
    · rw [List.getElem?_append_left (by omega)]; exact e1
    · intro b o e
      have h1 := (e5 b o e).1
      have h2 := hltL j hjC a' cap'' e1 b o e
      refine ⟨?_, (e5 b o e).2⟩
      rcases hat with h | h
      · rw [h] at h1; simpa [Value.ownBlock] using h1
      · simp [Value.ownBlock]; omega

theorem Grows.lts {w : World} {base : Nat} {v : Value} {C : List (List (Int × Bool))} {L : List Value} (h : Grows w base v C L) (hpos : ∀ ls ∈ C, 0 < ls.length) : ∀ j (hj : j < C.length), ∀ a cap, L[j]? = some (.slice a C[j].length cap) → ∀ b o, a = some ⟨b, o, none⟩ → b < w.heap.size := by
  intro j hj a cap e b o ea
  obtain ⟨a', cap', e1, e2, _⟩ := h.sets j hj
  rw [e] at e1
  simp only [Option.some.injEq, Value.slice.injEq] at e1
  obtain ⟨rfl, _, _⟩ := e1
  subst ea
  obtain ⟨b2, o2, e3, c1, _⟩ := e2 0 (hpos _ (List.getElem_mem hj))
  simp only [Option.some.injEq, Addr.mk.injEq, and_true] at e3
  obtain ⟨rfl, rfl⟩ := e3
  exact World.block_lt_of_cell? _ _ c1

set_option maxRecDepth 100000 in
set_option maxHeartbeats 1000000 in
theorem emptyCache_any (N n : Nat) (w : World) (hl : (N : Int) ≤ 4) (hl1 : (1 : Int) ≤ N) (hn : 1 ≤ n) (hn3 : n ≤ 3) :
    Calls Try.prog 18 #[.int .i64 N, .int .i64 n] w fun e w' => ∃ a cap, e = .returned (.agg #[.slice a N cap]) ∧ CacheFrom w.heap.size w' a (emptyC N n) ∧ Below w.heap.size w w' := by
  have hmk35 := make35 n hn hn3
  obtain ⟨i35, hi, hz, hs, hby⟩ := infoOf Try.info35
  go_enter Try.func18, Try.ntmps18
  go_wp2
  have Hr0 : Hid (RowAt ((w.alloc (Obj.cells #[Value.slice none 0 0] 24)).alloc (Obj.cells #[Value.slice none 0 0] 24)) w.heap.size 24 [.slice none 0 0]) := (rowAt_new w _ [.slice none 0 0] 24 rfl).alloc _
  have Hr1 : Hid (RowAt ((w.alloc (Obj.cells #[Value.slice none 0 0] 24)).alloc (Obj.cells #[Value.slice none 0 0] 24)) (w.heap.size + 1) 24 [.slice none 0 0]) := rowAt_new _ _ [.slice none 0 0] 24 (by simp)
  have Hb0 : Hid (Below w.heap.size w ((w.alloc (Obj.cells #[Value.slice none 0 0] 24)).alloc (Obj.cells #[Value.slice none 0 0] 24))) := ((Below.refl _ _).alloc (Nat.le_refl _) _).alloc (by simp) _
  go_loopw [6] (fun i wr => ∃ (k : Nat) (v : Value) (L : List Value), k ≤ N ∧ i = .int .i64 k ∧ Below w.heap.size w wr ∧ Grows wr (w.heap.size + 1 + 1) v (emptyC k n) L ∧ RowAt wr w.heap.size 24 [.slice none 0 0] ∧ RowAt wr (w.heap.size + 1) 24 [v] ∧ w.heap.size + 1 + 1 ≤ wr.heap.size) (fun i _ => N - (intOf i).toNat)
  case atStart => exact ⟨0, _, [], Nat.zero_le _, rfl, Hb0.out, Grows.nil _ _, Hr0.out, Hr1.out, by simp⟩
  case round =>
    clear Hr0 Hr1 Hb0
    obtain ⟨k, v, L, hk, rfl, hbl, hG, hr0, hr1, hsz⟩ := hrel
    have HG := hid hG
    have Hr0 := hid hr0
    have Hr1 := hid hr1
    have hc1 := hr1.cell 0 _ rfl
    have hf1 := hr1.frozen 0
    clear hG hr0 hr1
    by_cases hlt : k < N
    · have hk4 : (k : Int) < (N : Int) := by omega
      have hvb : ∀ x, v.ownBlock = some x → w.heap.size + 1 + 1 ≤ x ∧ x < wr.heap.size := HG.out.own.lt
      have Hown : Hid (((wr.alloc (.cells (flat (List.replicate n (0, false))).toArray 119)).alloc (.cells #[.slice (some ⟨wr.heap.size, 0, none⟩) n n] 35)).drew.ownsRow (w.heap.size + 1 + 1) 35 1 v k L) := by
        have := HG.out.own
        rw [emptyC_len] at this
        exact (this.alloc _).alloc _
      have hne1 : some (w.heap.size + 1) ≠ v.ownBlock := fun e => by have := (hvb _ e.symm).1; omega
      have Hnews : Hid (∀ j u, [Value.slice (some ⟨wr.heap.size, 0, none⟩) n n][j]? = some u → ((wr.alloc (.cells (flat (List.replicate n (0, false))).toArray 119)).alloc (.cells #[.slice (some ⟨wr.heap.size, 0, none⟩) n n] 35)).drew.cell? ((⟨wr.heap.size + 1, 0, none⟩ : Addr).add j) = some u) :=
        RowAt.news (X := [Value.slice (some ⟨wr.heap.size, 0, none⟩) n n]) (Y := []) (t := 35) (rowAt_new (wr.alloc (.cells (flat (List.replicate n (0, false))).toArray 119)) (wr.heap.size + 1) [Value.slice (some ⟨wr.heap.size, 0, none⟩) n n] 35 (by simp))
      go_wp2
      have hlt2 : w.heap.size + 1 < wr.heap.size := by omega
      have hcA : ∀ o o', ((wr.alloc o).alloc o').cell? ⟨w.heap.size + 1, 0, none⟩ = some v := fun o o' => ((Hr1.out.alloc o).alloc o').cell 0 _ rfl
      go_region_law ((refine step_append_lies _ (by rfl) _ _ _ (by rfl) (w.heap.size + 1 + 1) 35 i35 _ 1 24 Try.underlying22 hi hz hs hby rfl (by omega) v k L (by rfl) Hown.out ⟨wr.heap.size + 1, 0, none⟩ 1 1 [.slice (some ⟨wr.heap.size, 0, none⟩) n n] (by rfl) (by rfl) Hnews.out (fun u hu => by rw [List.mem_singleton.1 hu]; rfl) (by omega) (by simp [maxLen]; omega) (by omega) (by simp; omega) (wr.heap.size + 2) (by simp) ?_; intro g cap w1 hown1 hgrow hat hlt1; have hr2 := (((Hr1.out.alloc (.cells (flat (List.replicate n (0, false))).toArray 119)).alloc (.cells #[.slice (some ⟨wr.heap.size, 0, none⟩) n n] 35)).drew).grown hgrow hne1; have hc2 := hr2.cell 0 _ rfl; have hf2 := hr2.frozen 0))
      all_goals
        have HG2 : Hid (Grows w1 (w.heap.size + 1 + 1) (.slice (some ⟨g, 0, none⟩) (k + 1) cap) (emptyC (k + 1) n) (L ++ [.slice (some ⟨wr.heap.size, 0, none⟩) n n])) := by
          have q0 : Below wr.heap.size wr ((wr.alloc (.cells (flat (List.replicate n (0, false))).toArray 119)).alloc (.cells #[.slice (some ⟨wr.heap.size, 0, none⟩) n n] 35)).drew := (((Below.refl _ _).alloc (Nat.le_refl _) _).alloc (by simp) _).drew
          have q1 := HG.out.below q0
          have q2 : WaysIn ((wr.alloc (.cells (flat (List.replicate n (0, false))).toArray 119)).alloc (.cells #[.slice (some ⟨wr.heap.size, 0, none⟩) n n] 35)).drew (some ⟨wr.heap.size, 0, none⟩) (List.replicate n (0, false)) := waysIn_of_owns ((owns_made wr n hn3).alloc (.cells #[.slice (some ⟨wr.heap.size, 0, none⟩) n n] 35))
          have q3 := q1.append (a := some ⟨wr.heap.size, 0, none⟩) (cap := n) (ls := List.replicate n (0, false)) (g := g) (cap' := cap) (w1 := w1) q2 (by simp) (by simpa using hn3)
            (fun b o e he => by simp at e; have := (hvb _ he.symm).2; omega) (fun b o e => by simp at e; omega) (fun b o e => by simp at e ⊢; omega)
            (q1.lts (fun ls hls => by simp [emptyC] at hls; rw [hls.2]; simp; omega))
            (by rw [emptyC_len]; simpa using hown1) hgrow (by rcases hat with h | h; exact .inl h; right; simp; omega)
          rw [emptyC_len] at q3
          have e : emptyC k n ++ [List.replicate n (0, false)] = emptyC (k + 1) n := by simp [emptyC, List.replicate_succ']
          rw [e] at q3
          simp only [List.length_replicate] at q3
          exact q3
        have hne0 : some w.heap.size ≠ v.ownBlock := fun e => by have := (hvb _ e.symm).1; omega
        have Hr02 : Hid (RowAt w1 w.heap.size 24 [.slice none 0 0]) := (((Hr0.out.alloc _).alloc _).drew).grown hgrow hne0
        have Hb2 : Hid (Below w.heap.size w (w1.setCell ⟨w.heap.size + 1, 0, none⟩ (.slice (some ⟨g, 0, none⟩) (k + 1) cap))) := by
          have q0 : Below wr.heap.size wr ((wr.alloc (.cells (flat (List.replicate n (0, false))).toArray 119)).alloc (.cells #[.slice (some ⟨wr.heap.size, 0, none⟩) n n] 35)).drew := (((Below.refl _ _).alloc (Nat.le_refl _) _).alloc (by simp) _).drew
          exact ((btrans hbl q0).grown hgrow (by simp; omega) (fun x hx => by have := (hvb _ hx).1; omega)).setCell (by show w.heap.size ≤ w.heap.size + 1; omega) _
        have Hrel : Hid (Grows (w1.setCell ⟨w.heap.size + 1, 0, none⟩ (.slice (some ⟨g, 0, none⟩) (k + 1) cap)) (w.heap.size + 1 + 1) (.slice (some ⟨g, 0, none⟩) (k + 1) cap) (emptyC (k + 1) n) (L ++ [.slice (some ⟨wr.heap.size, 0, none⟩) n n])
            ∧ RowAt (w1.setCell ⟨w.heap.size + 1, 0, none⟩ (.slice (some ⟨g, 0, none⟩) (k + 1) cap)) w.heap.size 24 [.slice none 0 0]
            ∧ RowAt (w1.setCell ⟨w.heap.size + 1, 0, none⟩ (.slice (some ⟨g, 0, none⟩) (k + 1) cap)) (w.heap.size + 1) 24 [.slice (some ⟨g, 0, none⟩) (k + 1) cap]
            ∧ w.heap.size + 1 + 1 ≤ (w1.setCell ⟨w.heap.size + 1, 0, none⟩ (.slice (some ⟨g, 0, none⟩) (k + 1) cap)).heap.size) := by
          refine ⟨HG2.out.setOther _ _ (by show w.heap.size + 1 < w.heap.size + 1 + 1; omega), Hr02.out.setOther _ _ (by show w.heap.size ≠ w.heap.size + 1; omega), hr2.setCell 0 _, ?_⟩
          have := hgrow.size
          simp at this ⊢; omega
        clear hr2 hc2 hf2 HG2 Hown Hnews hcA hc1 hf1 hgrow hat hown1
        go_wp2
        go_roundw
        case rel => exact ⟨k + 1, _, _, by omega, by go_num, Hb2.out, Hrel.out⟩
        case measure => simp [intOf]; omega
    · obtain rfl : k = N := by omega
      obtain ⟨a, cap, rfl, hC⟩ := HG.out.cacheIn
      rw [emptyC_len] at *
      have hc0 := Hr0.out.cell 0 _ rfl
      have hf0 := Hr0.out.frozen 0
      have Hfin := hid (HG.out.setOther ⟨w.heap.size, 0, none⟩ (.slice a k cap) (by show w.heap.size < w.heap.size + 1 + 1; omega)).from
      go_wp2
      obtain ⟨a', cap', e, hC'⟩ := Hfin.out
      rw [emptyC_len] at e
      simp only [Value.slice.injEq, true_and] at e
      obtain ⟨rfl, rfl⟩ := e
      exact bodyPost_ret (v := .agg #[.slice a k cap]) (by simp [results, Try.results18, go_sem, World.cell?_setCell_same wr _ _ hc0]) rfl ⟨a, cap, rfl, hC'.mono (by omega), hbl.setCell (Nat.le_refl _) _⟩

end Go.Proofs.Ytaellaconpaejaa
