/- Walks: the writer of images: numbers of one byte. -/
import Derived.Test.YtaellaconpaejaaNf
import Derived.OwnWalk
set_option linter.unusedVariables false
namespace Go.Proofs.Ytaellaconpaejaa
open Go.RowKit

theorem RowAt.drew' {w : World} {g : Nat} {t : TypeId} {L : List Value} (h : RowAt w g t L) : RowAt w.drew g t L := h
theorem RowAt.grown' {w w' : World} {g : Nat} {t : TypeId} {L : List Value} {row : Option Nat} (h : RowAt w g t L) (hg : w.grownBy w' row) (hne : some g ≠ row) : RowAt w' g t L := by
  show w'.heap[g]? = _
  rw [hg.block g h.lt hne]; exact h
theorem owns_below' {w w' : World} {base e size n : Nat} {v : Value} {xs : List Value} (h : w.ownsRow base e size v n xs) (hb : Below w.heap.size w w') : w'.ownsRow base e size v n xs :=
  h.kept (row := none) ⟨hb.os, hb.tape, hb.output, hb.size, fun k hk _ => hb.block k hk⟩ (by cases v.ownBlock <;> simp)
theorem IntsIn.grown {w w' : World} {a : Option Addr} {ls : List Int} {row : Option Nat} (h : IntsIn w a ls) (hg : w.grownBy w' row) (hne : ∀ b o, a = some ⟨b, o, none⟩ → some b ≠ row) : IntsIn w' a ls := by
  intro i hi
  obtain ⟨b, o, e, h1⟩ := h i hi
  exact ⟨b, o, e, hg.cell h1 (hne b o e)⟩

/-- Bytes as they lie in memory. -/
abbrev by8 (l : List Int) : List Value := l.map fun n => .int .u8 n

/-- A writer, and what it has written. -/
structure WAt (w : World) (pb : Nat) (v : Value) (bs : List Int) : Prop where
  row : RowAt w pb 162 [v]
  own : w.ownsRow (pb + 1) 5 1 v bs.length (by8 bs)

/-- What may have changed where a writer has written. -/
structure Wrote (w w' : World) (pb : Nat) (v v' : Value) : Prop where
  os : w'.os = w.os
  tape : w'.tape = w.tape
  output : w'.output = w.output
  size : w.heap.size ≤ w'.heap.size
  block : ∀ k, k < w.heap.size → k ≠ pb → some k ≠ v.ownBlock → w'.heap[k]? = w.heap[k]?
  own : ∀ k, v'.ownBlock = some k → v.ownBlock = some k ∨ w.heap.size ≤ k

theorem Wrote.refl (w : World) (pb : Nat) (v : Value) : Wrote w w pb v v := ⟨rfl, rfl, rfl, Nat.le_refl _, fun _ _ _ _ => rfl, fun _ h => .inl h⟩

theorem Wrote.trans {w w1 w2 : World} {pb : Nat} {v v1 v2 : Value} (h : Wrote w w1 pb v v1) (k : Wrote w1 w2 pb v1 v2) : Wrote w w2 pb v v2 := by
  refine ⟨k.os.trans h.os, k.tape.trans h.tape, k.output.trans h.output, Nat.le_trans h.size k.size, fun i h1 h2 h3 => ?_, fun i hi => ?_⟩
  · rw [k.block i (Nat.lt_of_lt_of_le h1 h.size) h2 ?_, h.block i h1 h2 h3]
    intro e
    rcases h.own i e.symm with q | q
    · exact h3 q.symm
    · omega
  · rcases k.own i hi with q | q
    · exact h.own i q
    · exact .inr (Nat.le_trans h.size q)

theorem Wrote.ofBelow {w w' : World} {pb : Nat} {v : Value} (h : Below w.heap.size w w') : Wrote w w' pb v v :=
  ⟨h.os, h.tape, h.output, h.size, fun k hk _ _ => h.block k hk, fun _ h => .inl h⟩

theorem WAt.lt {w : World} {pb : Nat} {v : Value} {bs : List Int} (h : WAt w pb v bs) : ∀ k, v.ownBlock = some k → pb < k ∧ k < w.heap.size := fun k hk => h.own.lt k hk

theorem Wrote.below {w w' : World} {pb : Nat} {v v' : Value} {bs : List Int} (h : Wrote w w' pb v v') (hW : WAt w pb v bs) : Below pb w w' := by
  refine ⟨h.os, h.tape, h.output, h.size, fun k hk => h.block k (Nat.lt_trans hk hW.row.lt) (by omega) ?_⟩
  intro e
  have := (hW.lt k e.symm).1
  omega

theorem Wrote.cell {w w' : World} {pb : Nat} {v v' u : Value} {p : Addr} (h : Wrote w w' pb v v') (hc : w.cell? p = some u) (h1 : p.block ≠ pb) (h2 : some p.block ≠ v.ownBlock) : w'.cell? p = some u :=
  (World.cell?_of_block (h.block p.block (World.block_lt_of_cell? w p hc) h1 h2)).trans hc

theorem WAt.below {w w' : World} {pb : Nat} {v : Value} {bs : List Int} (h : WAt w pb v bs) (hb : Below w.heap.size w w') : WAt w' pb v bs :=
  ⟨h.row.below hb (Nat.le_refl _), owns_below' h.own hb⟩

theorem Try.info5 : (Try.prog.info? 5).map (fun i => (i.zero, i.size, i.bytes)) = some (some (.int .u8 0), 1, 1) := by kernel_rfl

set_option maxRecDepth 100000 in
set_option maxHeartbeats 1000000 in
theorem ones_any (pb : Nat) (v : Value) (bs L : List Int) (a : Option Addr) (cap : Nat) (w : World) (hW : WAt w pb v bs) (hL : IntsIn w a L) (hne : ∀ b o, a = some ⟨b, o, none⟩ → L ≠ [] → b ≠ pb ∧ some b ≠ v.ownBlock)
    (hlen : bs.length + L.length ≤ 1000) (hin : ∀ x ∈ L, 0 ≤ x ∧ x ≤ 255) :
    Calls Try.prog 119 #[.pointer (some ⟨pb, 0, none⟩), .slice a L.length cap] w fun e w' => e = .returned (.tuple #[]) ∧ ∃ v', WAt w' pb v' (bs ++ L) ∧ Wrote w w' pb v v' := by
  obtain ⟨i5, hi, hz, hs, hby⟩ := infoOf Try.info5
  have HW := hid hW
  have HL := hid hL
  clear hW hL
  go_enter Try.func119, Try.ntmps119
  go_wp2
  go_loopw [8] (fun i wr => ∃ (k : Nat) (u : Value), k ≤ L.length ∧ i = .int .i64 k ∧ WAt wr pb u (bs ++ L.take k) ∧ Wrote w wr pb v u) (fun i _ => L.length - (intOf i).toNat)
  case atStart => exact ⟨0, v, Nat.zero_le _, rfl, by simpa using HW.out, Wrote.refl _ _ _⟩
  case round =>
    obtain ⟨k, u, hk, rfl, hW1, hw1⟩ := hrel
    have HW1 := hid hW1
    have Hw1 := hid hw1
    have hc1 := hW1.row.cell 0 _ rfl
    have hf1 := hW1.row.frozen 0
    have hlt1 := hW1.row.lt
    have hlu := hW1.lt
    clear hW1 hw1
    by_cases hlt : k < L.length
    · obtain ⟨b, o, rfl, hcb⟩ := HL.out k hlt
      have hb2 := hne b o rfl (by intro e; subst e; simp at hlt)
      have hcb2 : wr.cell? ⟨b, o + k, none⟩ = some (.int .i64 L[k]) := Hw1.out.cell hcb hb2.1 hb2.2
      have hr := hin L[k] (List.getElem_mem hlt)
      have hr1 := hr.1
      have hr2 := hr.2
      have Hown : Hid ((wr.alloc (.cells #[.int .u8 L[k]] 5)).ownsRow (pb + 1) 5 1 u (bs ++ L.take k).length (by8 (bs ++ L.take k))) := HW1.out.own.alloc _
      have Hrow : Hid (RowAt (wr.alloc (.cells #[.int .u8 L[k]] 5)) pb 162 [u]) := HW1.out.row.alloc _
      have Hnews : Hid (∀ j x, [Value.int .u8 L[k]][j]? = some x → (wr.alloc (.cells #[.int .u8 L[k]] 5)).cell? ((⟨wr.heap.size, 0, none⟩ : Addr).add j) = some x) := RowAt.news (X := [Value.int .u8 L[k]]) (Y := []) (t := 5) (rowAt_new2 wr _ [Value.int .u8 L[k]] 5 rfl)
      have hlk : (bs ++ L.take k).length = bs.length + k := by simp; omega
      have hneu : some pb ≠ u.ownBlock := fun e => by have := (hlu _ e.symm).1; omega
      go_wp2_with (first
        | (at_builtin; refine wpList_append_lies _ rfl _ _ 160 rfl (pb + 1) 5 i5 _ 1 1 Try.underlying160 hi hz hs hby rfl (by decide) u _ _ rfl Hown.out ⟨wr.heap.size, 0, none⟩ 1 1 [.int .u8 L[k]] rfl rfl Hnews.out ?c1 ?c2 ?c3 ?c4 ?c5 (wr.heap.size + 1) ?c6 ?_))
      case c1 => intro x hx; rw [List.mem_singleton.1 hx]; rfl
      case c2 => omega
      case c3 => simp [maxLen]; omega
      case c4 => simp; omega
      case c5 => simp; omega
      case c6 => simp
      intro g cap2 w1 hown1 hgrow hat hltg
      have Hr2 := hid (Hrow.out.grown' hgrow hneu)
      have hc2 := Hr2.out.cell 0 _ rfl
      have hf2 := Hr2.out.frozen 0
      have Hfin : Hid (WAt (w1.setCell ⟨pb, 0, none⟩ (.slice (some ⟨g, 0, none⟩) (bs.length + k + 1) cap2)) pb (.slice (some ⟨g, 0, none⟩) (bs.length + k + 1) cap2) (bs ++ L.take (k + 1)) ∧ Wrote w (w1.setCell ⟨pb, 0, none⟩ (.slice (some ⟨g, 0, none⟩) (bs.length + k + 1) cap2)) pb v (.slice (some ⟨g, 0, none⟩) (bs.length + k + 1) cap2)) := by
        have hge : pb + 1 ≤ g := by
          rcases hat with q | q
          · exact (hlu _ q).1
          · omega
        have e1 : bs ++ L.take (k + 1) = (bs ++ L.take k) ++ [L[k]] := by rw [List.append_assoc, List.take_succ_eq_append_getElem hlt]
        have hsz := hgrow.size
        refine ⟨⟨Hr2.out.setCell 0 _, ?_⟩, Hw1.out.trans ⟨hgrow.os, hgrow.tape, hgrow.output, ?_, fun j h1 h2 h3 => ?_, fun j hj => ?_⟩⟩
        · have e2 : (bs ++ L.take (k + 1)).length = bs.length + k + 1 := by simp; omega
          rw [e2, e1]
          have q := hown1.kept (row := some pb) (w' := w1.setCell ⟨pb, 0, none⟩ (.slice (some ⟨g, 0, none⟩) (bs.length + k + 1) cap2)) (grow_setCell _ _ _ _) (.inr (by simp [Value.ownBlock]; omega))
          simpa only [hlk, by8, List.map_append, List.map_cons, List.map_nil, List.append_assoc, List.map_take] using q
        · simp [World.setCell] at hsz ⊢; omega
        · rw [Below.heap_setCell _ _ _ _ (by show j ≠ pb; exact h2), hgrow.block j (by simp; omega) h3, Below.heap_alloc _ _ _ h1]
        · simp only [Value.ownBlock, Option.some.injEq] at hj
          subst hj
          rcases hat with q | q
          · exact .inl q
          · exact .inr (by omega)
      clear Hr2 hown1 hgrow hat Hown Hrow Hnews HW1 Hw1 hlu
      go_wp2
      go_roundw
      case rel => exact ⟨k + 1, _, by omega, by go_num, Hfin.out⟩
      case measure => simp [intOf]; omega
    · obtain rfl : k = L.length := by omega
      go_wp2
      go_end0
      exact ⟨rfl, _, by simpa using HW1.out, Hw1.out⟩
end Go.Proofs.Ytaellaconpaejaa
