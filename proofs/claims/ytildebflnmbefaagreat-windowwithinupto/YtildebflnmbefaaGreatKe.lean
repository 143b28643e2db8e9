/- Walks: what the check of a list of numbers and of a ring comes to. Walks: the writer of images: numbers of one byte. Walks: copies and joins of lists of numbers. Walks: slices.Grow of nothing, slices.Concat of two lists of numbers. Walks: the writer of images: numbers of two bytes. Walks: the image of a config. Walks: what Receive comes to. Walks: what Commit comes to. Walks: two rings that are the same, and what must be in any case. Domains in memory: jobs, numbers, rings, lists, events; and two domains that are the same. -/
import Derived.Test.YtildebflnmbefaaGreatKd
import Derived.Test.YtildebflnmbefaaGreatKa
import Derived.OwnWalk
import Derived.Lib.AppendZeros
import Derived.Laws.BitsLemmas
import Derived.Laws.IdiomStrings
set_option linter.unusedVariables false
namespace Go.Proofs.YtildebflnmbefaaGreat
open Go.RowKit

set_option maxHeartbeats 400000 in
theorem all1_any (x l m : Int) (b1 b2 : Nat) (w : World) (h1 : w.cell? ⟨b1, 0, none⟩ = some (.int .i64 l)) (h2 : w.cell? ⟨b2, 0, none⟩ = some (.int .i64 m)) :
    Calls Tryz.prog 87 #[.int .i64 x, .pointer (some ⟨b1, 0, none⟩), .pointer (some ⟨b2, 0, none⟩)] w fun e w' => e = .returned (.bool (!inR x l m)) ∧ Below w.heap.size w w' := by
  go_enter Tryz.func87, Tryz.ntmps87
  go_wp2_with fail
  refine (within_any _ _ _ _).mono ?_
  rintro e w' ⟨rfl, rfl⟩
  go_wp2
  go_ret
  exact ⟨rfl, Below.refl _ _⟩

set_option maxHeartbeats 400000 in
theorem index140_118 (l m : Int) (b1 b2 : Nat) (a : Option Addr) (L : List Int) (cap : Nat) (w : World) (hw : IntsIn w a L) (hl : L.length ≤ 9223372036854775807) (h1 : w.cell? ⟨b1, 0, none⟩ = some (.int .i64 l)) (h2 : w.cell? ⟨b2, 0, none⟩ = some (.int .i64 m)) :
    Calls Tryz.prog 96 #[.slice a L.length cap, .func (.func 87) #[] #[.pointer (some ⟨b1, 0, none⟩), .pointer (some ⟨b2, 0, none⟩)]] w fun e w' => (∃ r : Int, e = .returned (.int .i64 r) ∧ (0 ≤ r ↔ (L.any fun x => !inR x l m) = true)) ∧ Below w.heap.size w w' := by
  have H1 := hid h1
  have H2 := hid h2
  clear h1 h2
  go_enter Tryz.func96, Tryz.ntmps96
  go_wp2
  go_loopw [8] (fun i wr => ∃ k : Nat, k ≤ L.length ∧ i = .int .i64 k ∧ Below w.heap.size w wr ∧ ∀ j (hj : j < L.length), j < k → (!inR L[j] l m) = false) (fun i _ => L.length - (intOf i).toNat)
  case atStart => exact ⟨0, Nat.zero_le _, rfl, Below.refl _ _, by omega⟩
  case round =>
    obtain ⟨k, hk, rfl, hbl, hno⟩ := hrel
    have Hno := hid hno
    clear hno
    by_cases hlt : k < L.length
    · obtain ⟨b', o', rfl, hc1⟩ := hw k hlt
      have hc1' := bkeep hbl hc1 (Nat.le_refl _)
      go_wp2_with fail
      refine (all1_any L[k] l m b1 b2 _ (bkeep hbl H1.out (Nat.le_refl _)) (bkeep hbl H2.out (Nat.le_refl _))).mono ?_
      rintro e w' ⟨rfl, hb2⟩
      cases hx : !inR L[k] l m with
      | true =>
        have HX := hid hx
        clear hx
        go_wp2
        go_ret
        refine ⟨⟨k, rfl, ?_⟩, btrans hbl hb2⟩
        exact ⟨fun _ => List.any_eq_true.2 ⟨_, List.getElem_mem hlt, HX.out⟩, fun _ => by omega⟩
      | false =>
        have HX := hid hx
        clear hx
        go_wp2
        go_roundw
        case rel =>
          refine ⟨k + 1, by omega, by go_num, btrans hbl hb2, fun j hj hlt2 => ?_⟩
          by_cases e : j = k
          · subst e; exact HX.out
          · exact Hno.out j hj (by omega)
        case measure => simp [intOf]; omega
    · go_wp2
      go_ret
      refine ⟨⟨-1, rfl, ?_⟩, hbl⟩
      refine ⟨fun h => absurd h (by omega), fun h => ?_⟩
      obtain ⟨x, hx, hp⟩ := List.any_eq_true.1 h
      obtain ⟨j, hj, rfl⟩ := List.getElem_of_mem hx
      rw [Hno.out j hj (by omega)] at hp
      exact absurd hp (by simp)

set_option maxHeartbeats 400000 in
theorem contains112_118 (l m : Int) (b1 b2 : Nat) (a : Option Addr) (L : List Int) (cap : Nat) (w : World) (hw : IntsIn w a L) (hl : L.length ≤ 9223372036854775807) (h1 : w.cell? ⟨b1, 0, none⟩ = some (.int .i64 l)) (h2 : w.cell? ⟨b2, 0, none⟩ = some (.int .i64 m)) :
    Calls Tryz.prog 80 #[.slice a L.length cap, .func (.func 87) #[] #[.pointer (some ⟨b1, 0, none⟩), .pointer (some ⟨b2, 0, none⟩)]] w fun e w' => e = .returned (.bool (L.any fun x => !inR x l m)) ∧ Below w.heap.size w w' := by
  have H1 := hid h1
  have H2 := hid h2
  clear h1 h2
  go_enter Tryz.func80, Tryz.ntmps80
  go_wp2_with fail
  refine (index140_118 l m b1 b2 a L cap _ hw hl H1.out H2.out).mono ?_
  rintro e w' ⟨⟨r, rfl, hr⟩, hb⟩
  have HR := hid hr
  clear hr
  go_wp2
  go_ret
  exact ⟨ret_bool (by rw [Bool.eq_iff_iff]; simpa using HR.out), hb⟩

set_option maxHeartbeats 400000 in
theorem all_any (l m : Int) (a : Option Addr) (L : List Int) (cap : Nat) (w : World) (hw : IntsIn w a L) (hl : L.length ≤ 9223372036854775807) :
    Calls Tryz.prog 60 #[.slice a L.length cap, .int .i64 l, .int .i64 m] w fun e w' => e = .returned (.bool (allR L l m)) ∧ Below w.heap.size w w' := by
  have q1 := below_new w (.cells #[.int .i64 l] 3)
  have q2 := below_new (w.alloc (.cells #[.int .i64 l] 3)) (.cells #[.int .i64 m] 3)
  have HB := hid (btrans q1 q2)
  have HW := hid (hw.keep (btrans q1 q2))
  have hmf : ∀ (fn : Fn) (first cap : Array Value) (w : World), (Instr.makeFunc fn first cap).run Tryz.prog w = .ok (.func fn first cap) w := fun _ _ _ _ => rfl
  clear q1 q2 hw
  go_enter Tryz.func60, Tryz.ntmps60
  go_wp2_with fail
  refine (contains112_118 l m w.heap.size (w.heap.size + 1) a L cap _ HW.out hl (by simp) (by simp)).mono ?_
  rintro e w' ⟨rfl, hb⟩
  have HQ := hid (allR_any L l m)
  generalize (L.any fun x => !inR x l m) = q at *
  go_wp2
  go_ret
  exact ⟨ret_bool HQ.out, btrans HB.out hb⟩

set_option maxHeartbeats 1000000 in
theorem ringCheck_any (a : Option Addr) (V : List Int) (cap : Nat) (lost size : Int) (w : World) (hw : IntsIn w a V) (hl : V.length ≤ 9223372036854775807) :
    Calls Tryz.prog 62 #[.agg #[.slice a V.length cap, .int .i64 lost], .int .i64 size] w fun e w' => e = .returned (.int .i64 (ckR V lost size)) ∧ Below w.heap.size w w' := by
  have q1 := below_new w (.cells #[.slice a V.length cap, .int .i64 lost] 83)
  have HW := hid (hw.keep q1)
  have HB := hid q1
  clear hw q1
  go_enter Tryz.func62, Tryz.ntmps62
  go_wp2_with fail
  refine (within_any _ _ _ _).mono ?_
  rintro e w' ⟨rfl, rfl⟩
  cases h1 : inR size 1 4 with
  | false =>
    go_wp2
    go_ret
    exact ⟨ret_int (by simp [ckR, h1]), HB.out⟩
  | true =>
    have H1 := hid h1
    clear h1
    by_cases h2 : size < (V.length : Int)
    · have h2' : (V.length : Int) > size := h2
      go_wp2
      go_ret
      exact ⟨ret_int (by simp [ckR, H1.out, h2]), HB.out⟩
    · have h2' : ¬ (V.length : Int) > size := h2
      have H2 := hid h2
      clear h2
      go_wp2_with fail
      refine (all_any 0 255 a V cap _ HW.out hl).mono ?_
      rintro e w2 ⟨rfl, hb2⟩
      have c1 := bkeep hb2 (show (w.alloc (.cells #[.slice a V.length cap, .int .i64 lost] 83)).cell? ⟨w.heap.size, 1, none⟩ = some (.int .i64 lost) by simp) (Nat.le_refl _)
      have HB2 := hid (btrans HB.out hb2)
      cases h3 : allR V 0 255 with
      | false =>
        go_wp2
        go_ret
        exact ⟨ret_int (by simp [ckR, H1.out, H2.out, h3]), HB2.out⟩
      | true =>
        have H3 := hid h3
        clear h3
        go_wp2_with fail
        refine (within_any _ _ _ _).mono ?_
        rintro e w' ⟨rfl, rfl⟩
        cases h4 : inR lost 0 100000 with
        | false =>
          go_wp2
          go_ret
          exact ⟨ret_int (by simp [ckR, H1.out, H2.out, H3.out, h4]), HB2.out⟩
        | true =>
          go_wp2
          go_ret
          exact ⟨ret_int (by simp [ckR, H1.out, H2.out, H3.out, h4]), HB2.out⟩

end Go.Proofs.YtildebflnmbefaaGreat

namespace Go.Proofs.YtildebflnmbefaaGreat
open Go.RowKit

theorem RowAt.drew' {w : World} {g : Nat} {t : TypeId} {L : List Value} (h : RowAt w g t L) : RowAt w.drew g t L := h
theorem RowAt.grown' {w w' : World} {g : Nat} {t : TypeId} {L : List Value} {row : Option Nat} (h : RowAt w g t L) (hg : w.grownBy w' row) (hne : some g ≠ row) : RowAt w' g t L := by
  show w'.heap[g]? = _
  rw [hg.block g h.lt hne]; exact h
theorem owns_below' {w w' : World} {base e size n : Nat} {v : Value} {xs : List Value} (h : w.ownsRow base e size v n xs) (hb : Below w.heap.size w w') : w'.ownsRow base e size v n xs :=
  h.kept (row := none) ⟨hb.os, hb.tape, hb.output, hb.size, fun k hk _ => hb.block k hk⟩ (by cases v.ownBlock <;> simp)
theorem IntsIn.grown {w w' : World} {a : Option Addr} {ls : List Int} {row : Option Nat} (h : IntsIn w a ls) (hg : w.grownBy w' row) (hne : ∀ b o, a = some ⟨b, o, none⟩ → some b ≠ row) : IntsIn w' a ls := by
  intro i hi
  obtain ⟨b, o, e, h1⟩ := h i hi
  exact ⟨b, o, e, hg.cell h1 (hne b o e)⟩

/-- Bytes as they lie in memory. -/
abbrev by8 (l : List Int) : List Value := l.map fun n => .int .u8 n

/-- A writer, and what it has written. -/
structure WAt (w : World) (pb : Nat) (v : Value) (bs : List Int) : Prop where
  row : RowAt w pb 162 [v]
  own : w.ownsRow (pb + 1) 5 1 v bs.length (by8 bs)

/-- What may have changed where a writer has written. -/
structure Wrote (w w' : World) (pb : Nat) (v v' : Value) : Prop where
  os : w'.os = w.os
  tape : w'.tape = w.tape
  output : w'.output = w.output
  size : w.heap.size ≤ w'.heap.size
  block : ∀ k, k < w.heap.size → k ≠ pb → some k ≠ v.ownBlock → w'.heap[k]? = w.heap[k]?
  own : ∀ k, v'.ownBlock = some k → v.ownBlock = some k ∨ w.heap.size ≤ k

theorem Wrote.refl (w : World) (pb : Nat) (v : Value) : Wrote w w pb v v := ⟨rfl, rfl, rfl, Nat.le_refl _, fun _ _ _ _ => rfl, fun _ h => .inl h⟩

theorem Wrote.trans {w w1 w2 : World} {pb : Nat} {v v1 v2 : Value} (h : Wrote w w1 pb v v1) (k : Wrote w1 w2 pb v1 v2) : Wrote w w2 pb v v2 := by
  refine ⟨k.os.trans h.os, k.tape.trans h.tape, k.output.trans h.output, Nat.le_trans h.size k.size, fun i h1 h2 h3 => ?_, fun i hi => ?_⟩
  · rw [k.block i (Nat.lt_of_lt_of_le h1 h.size) h2 ?_, h.block i h1 h2 h3]
    intro e
    rcases h.own i e.symm with q | q
    · exact h3 q.symm
    · omega
  · rcases k.own i hi with q | q
    · exact h.own i q
    · exact .inr (Nat.le_trans h.size q)

theorem Wrote.ofBelow {w w' : World} {pb : Nat} {v : Value} (h : Below w.heap.size w w') : Wrote w w' pb v v :=
  ⟨h.os, h.tape, h.output, h.size, fun k hk _ _ => h.block k hk, fun _ h => .inl h⟩

theorem WAt.lt {w : World} {pb : Nat} {v : Value} {bs : List Int} (h : WAt w pb v bs) : ∀ k, v.ownBlock = some k → pb < k ∧ k < w.heap.size := fun k hk => h.own.lt k hk

theorem Wrote.below {w w' : World} {pb : Nat} {v v' : Value} {bs : List Int} (h : Wrote w w' pb v v') (hW : WAt w pb v bs) : Below pb w w' := by
  refine ⟨h.os, h.tape, h.output, h.size, fun k hk => h.block k (Nat.lt_trans hk hW.row.lt) (by omega) ?_⟩
  intro e
  have := (hW.lt k e.symm).1
  omega

theorem Wrote.cell {w w' : World} {pb : Nat} {v v' u : Value} {p : Addr} (h : Wrote w w' pb v v') (hc : w.cell? p = some u) (h1 : p.block ≠ pb) (h2 : some p.block ≠ v.ownBlock) : w'.cell? p = some u :=
  (World.cell?_of_block (h.block p.block (World.block_lt_of_cell? w p hc) h1 h2)).trans hc

theorem WAt.below {w w' : World} {pb : Nat} {v : Value} {bs : List Int} (h : WAt w pb v bs) (hb : Below w.heap.size w w') : WAt w' pb v bs :=
  ⟨h.row.below hb (Nat.le_refl _), owns_below' h.own hb⟩

theorem Tryz.info5 : (Tryz.prog.info? 5).map (fun i => (i.zero, i.size, i.bytes)) = some (some (.int .u8 0), 1, 1) := by kernel_rfl

end Go.Proofs.YtildebflnmbefaaGreat

namespace Go.Proofs.YtildebflnmbefaaGreat
open Go.RowKit

theorem Tryz.info3x : (Tryz.prog.info? 3).map (fun i => (i.zero, i.size, i.bytes)) = some (some (.int .i64 0), 1, 8) := by kernel_rfl

/-- Numbers, as they lie in memory. -/
def ivs (l : List Int) : List Value := l.map fun n => .int .i64 n
theorem ivs_len (l : List Int) : (ivs l).length = l.length := by simp [ivs]
theorem ivs_app (l m : List Int) : ivs (l ++ m) = ivs l ++ ivs m := by simp [ivs]
theorem ivs_nil : ivs [] = [] := rfl

theorem i64x_one (l : List Int) : ∀ u ∈ ivs l, u.oneCell' = true := by
  intro u hu
  simp only [ivs, List.mem_map] at hu
  obtain ⟨n, _, rfl⟩ := hu
  rfl

theorem append_none {P : Program} (w : World) (t ty e : TypeId) (i : TypeInfo) (ht : P.underlying t = some (.slice e)) (hi : P.info? e = some i) (p : Option Addr) (n cap : Nat) (ax : Option Addr) (c : Nat) (hroom : n ≤ cap) :
    (Builtin.append_ #[t, t] ty #[.slice p n cap, .slice ax 0 c]).run P w = .ok (.slice p n cap) w := by
  cases p <;> cases ax <;> simp [Builtin.append_, run_underlying ht, sizeOf, typeInfo, hi, Builtin.lenOf, hroom, Builtin.firstCells, loadCells, loadCellsFrom, storeCells]

/-- An append of a slice of numbers that came in, empty or not, to what is empty or not. -/
theorem wpList_appI {ops : Array Oper} {rest : List Oper} {o : Oper} {a : Act} {w : World} {Q : Exit → Act → World → Prop} (hgd : o.guard = none) (s x : Operand)
    (ho : o.op = .call { callee := .builtin .append, args := #[s, x], argTypes := #[23, 23] })
    (base : Nat) (v : Value) (n : Nat) (xs : List Value) (hs : a.eval s = v) (hown : w.ownsRow base 3 1 v n xs)
    (L : List Int) (a6 : Option Addr) (c6 : Nat) (hx : a.eval x = .slice a6 L.length c6) (hL : IntsIn w a6 L) (h63 : n + L.length ≤ maxLen) (hbytes : (n + L.length) * 8 ≤ 140737488355328) (hbase : base ≤ w.heap.size)
    (h : ∀ v' w', w'.ownsRow base 3 1 v' (n + L.length) (xs ++ ivs L) → w.grownBy w' v.ownBlock → wpList Tryz.prog ops Q rest (a.put o.dst v') w') : wpList Tryz.prog ops Q (o :: rest) a w := by
  obtain ⟨i3, hi, hz, hsz, hby⟩ := infoOf Tryz.info3x
  by_cases hL0 : L = []
  · subst hL0
    have hroom : ∃ p cap, v = .slice p n cap ∧ n ≤ cap := by
      rcases hown.2 with ⟨e, e2⟩ | ⟨g, cap, _, e, _, _, h, _⟩
      · exact ⟨none, 0, by rw [e, e2], by omega⟩
      · exact ⟨_, cap, e, h⟩
    obtain ⟨p, cap, rfl, hr⟩ := hroom
    refine wpList_plain hgd fun K hK => ?_
    have hrun := append_none (P := Tryz.prog) w 23 o.type 3 i3 Tryz.underlying23 hi p n cap a6 c6 hr
    unfold Oper.wp
    simp [execOp, ho, resolve, invoke, builtin, hs, hx, hrun, Result.andThen]
    exact hK _ _ (h _ _ (by simpa [ivs] using hown) ⟨rfl, rfl, rfl, Nat.le_refl _, fun _ _ _ => rfl⟩)
  · obtain ⟨b, off, rfl, _⟩ := hL 0 (List.length_pos_iff.2 hL0)
    refine wpList_append_own w hgd s x 23 ho base 3 i3 _ 1 8 Tryz.underlying23 hi hz hsz hby rfl (by decide) v n xs hs hown ⟨b, off, none⟩ L.length c6 (ivs L) hx (by simp [ivs]) ?_ (i64x_one L) h63 hbytes hbase (fun v' w' h1 h2 _ => h v' w' h1 h2)
    intro j u hu
    have hj : j < L.length := by
      have := (List.getElem?_eq_some_iff.1 hu).1
      rwa [ivs_len] at this
    obtain ⟨b2, o2, e, hc⟩ := hL j hj
    simp only [Option.some.injEq, Addr.mk.injEq, and_true] at e
    obtain ⟨rfl, rfl⟩ := e
    have hadd : (⟨b, off, none⟩ : Addr).add j = ⟨b, off + j, none⟩ := by unfold Addr.add; split <;> simp_all
    rw [hadd, hc]
    simp only [ivs, List.getElem?_map, List.getElem?_eq_getElem hj, Option.map_some] at hu
    rw [← hu]

/-- A list of numbers in memory of its own. -/
theorem ints_own {w : World} {base n : Nat} {v : Value} {l : List Int} (h : w.ownsRow base 3 1 v n (ivs l)) : ∃ a c, v = .slice a l.length c ∧ n = l.length ∧ IntsIn w a l ∧ l.length ≤ c ∧ l.length ≤ 9223372036854775807 ∧ ∀ b o, a = some ⟨b, o, none⟩ → base ≤ b ∧ b < w.heap.size := by
  have hlen : n = l.length := by have := h.1; simp [ivs] at this; omega
  subst hlen
  have h' := h
  obtain ⟨hl, hv⟩ := h
  rcases hv with ⟨rfl, hn⟩ | ⟨g, cap, cur, rfl, hb, hg, hnc, hm, hcs, ht⟩
  · exact ⟨none, 0, by rw [hn], rfl, fun i hi => by omega, by omega, by omega, fun b o e => by simp at e⟩
  · refine ⟨_, cap, rfl, rfl, fun i hi => ?_, hnc, by simp only [maxLen] at hm; omega, fun b o e => ?_⟩
    · refine ⟨g, 0, rfl, ?_⟩
      have := h'.cells (g := g) rfl i (.int .i64 l[i]) (by simp [ivs, hi])
      rw [addZ] at this
      rw [Nat.zero_add]; exact this
    · simp at e
      obtain ⟨rfl, _⟩ := e
      exact ⟨hb, (Array.getElem?_eq_some_iff.1 hg).1⟩

theorem ownsx_mono {w : World} {base base' e size n : Nat} {v : Value} {xs : List Value} (h : w.ownsRow base e size v n xs) (hb : base' ≤ base) : w.ownsRow base' e size v n xs := by
  refine ⟨h.1, ?_⟩
  rcases h.2 with q | ⟨g, cap, cur, e1, e2, r⟩
  · exact .inl q
  · exact .inr ⟨g, cap, cur, e1, by omega, r⟩
theorem ownsx_kept {w w' : World} {base e size n b : Nat} {v : Value} {xs : List Value} (h : w.ownsRow base e size v n xs) (hg : w.grownBy w' (some b)) (hb : b < base) : w'.ownsRow base e size v n xs := by
  refine h.kept hg ?_
  cases hv : v.ownBlock with
  | none => exact .inl rfl
  | some g => right; have := (h.lt g hv).1; simp; omega
theorem ownsx_set {w : World} {base e size n b : Nat} {v : Value} {xs : List Value} (h : w.ownsRow base e size v n xs) (i : Nat) (u : Value) (hb : b < base) : (w.setCell ⟨b, i, none⟩ u).ownsRow base e size v n xs := ownsx_kept h (grow_setCell _ _ _ _) hb

set_option maxRecDepth 100000 in
set_option maxHeartbeats 400000 in
theorem clone87_any (a : Option Addr) (L : List Int) (cap : Nat) (w : World) (hw : IntsIn w a L) (hl : L.length ≤ 4) (hnil : a = none → L = []) :
    Calls Tryz.prog 24 #[.slice a L.length cap] w fun e w' => ∃ v, e = .returned v ∧ w'.ownsRow w.heap.size 3 1 v L.length (ivs L) ∧ Below w.heap.size w w' := by
  have hnilq := fun (w : World) (a : Option Addr) (n c : Nat) => Lib.run_eql_slice_nil (P := Tryz.prog) w 23 3 a n c 0 0 Tryz.underlying23
  cases a with
  | none =>
    obtain rfl := hnil rfl
    go_enter Tryz.func24, Tryz.ntmps24
    go_wp2
    go_ret
    exact ⟨_, rfl, World.ownsRow_nil _ _ _ _, Below.refl _ _⟩
  | some p =>
    have h1 : Below w.heap.size w (w.alloc (.cells #[] 3)) := below_new _ _
    have hown : Hid ((w.alloc (.cells #[] 3)).ownsRow w.heap.size 3 1 (.slice (some ⟨w.heap.size, 0, none⟩) 0 0) 0 []) := hid (World.ownsRow_made w #[] 0 (Nat.le_refl _) (by simp [maxLen]) rfl)
    have Hw := hid (hw.keep h1)
    go_enter Tryz.func24, Tryz.ntmps24
    go_wp2_with (at_builtin; refine wpList_appI rfl _ _ rfl w.heap.size (.slice (some ⟨w.heap.size, 0, none⟩) 0 0) 0 [] rfl hown.out L _ _ rfl Hw.out (by simp [maxLen]; omega) (by omega) (by simp) ?_)
    intro v' w1 hown1 hgrow
    have HE := hid (show w1.ownsRow w.heap.size 3 1 v' L.length (ivs L) ∧ Below w.heap.size w w1 from ⟨by simpa using hown1, h1.grown hgrow (by simp) (fun k hk => by simp [Value.ownBlock] at hk; omega)⟩)
    clear hown1 hgrow hown h1 Hw
    go_wp2
    go_ret
    exact ⟨_, rfl, HE.out⟩

end Go.Proofs.YtildebflnmbefaaGreat

namespace Go.Proofs.YtildebflnmbefaaGreat
open Go.RowKit

end Go.Proofs.YtildebflnmbefaaGreat

namespace Go.Proofs.YtildebflnmbefaaGreat
open Go.RowKit

theorem and255 (n : Int) (h0 : 0 ≤ n) (h1 : n ≤ 65535) : bits .and .i64 n 255 = n % 256 := by
  have h := bits_mask .i64 62 (by decide) (fun n h0 h1 => by rw [IntKind.wrap_i64]; omega) 8 (by decide) n h0 (by omega)
  exact h

theorem intsIn_new (w : World) (l : List Int) (t : TypeId) : IntsIn (w.alloc (.cells (l.map fun n => Value.int .i64 n).toArray t)) (some ⟨w.heap.size, 0, none⟩) l := by
  intro i hi
  refine ⟨w.heap.size, 0, rfl, ?_⟩
  rw [cell_new _ _ _ _ _ rfl]
  simp [hi]

end Go.Proofs.YtildebflnmbefaaGreat

namespace Go.Proofs.YtildebflnmbefaaGreat
open Go.RowKit

theorem BoxC.same {w w' : World} {b : Nat} {A : Mem} {C : Conf} (h : BoxC w b C A) (e : w'.heap[b]? = w.heap[b]?) : BoxC w' b C A := by
  have q : ∀ i v, w.cell? ⟨b, i, none⟩ = some v → w'.cell? ⟨b, i, none⟩ = some v := fun i v hv => by rw [World.cell?_of_block (w := w) (a := ⟨b, i, none⟩) e]; exact hv
  exact ⟨q _ _ h.h0, q _ _ h.h1, q _ _ h.h2, q _ _ h.h3, q _ _ h.h4, q _ _ h.h5, q _ _ h.h6, q _ _ h.h7, q _ _ h.h8⟩

theorem intsIn_at (w : World) (l : List Int) (t : TypeId) (n : Nat) (h : w.heap.size = n) : IntsIn (w.alloc (.cells (l.map fun n => Value.int .i64 n).toArray t)) (some ⟨n, 0, none⟩) l := by
  subst h; exact intsIn_new w l t

/-- Memory while an image is being written. -/
structure Img (w : World) (C : Conf) (A : Mem) (wr : World) (bs : List Int) : Prop where
  wri : ∃ u, WAt wr (w.heap.size + 1) u bs
  below : Below w.heap.size w wr
  box : BoxC wr w.heap.size C A

theorem Img.lt {w wr : World} {C : Conf} {A : Mem} {bs : List Int} (h : Img w C A wr bs) : w.heap.size + 1 < wr.heap.size := by
  obtain ⟨u, hu⟩ := h.wri
  exact hu.row.lt

theorem img_new (w : World) (C : Conf) (A : Mem) : Img w C A ((w.alloc (.cells (cl C A) 27)).alloc (.cells #[.slice none 0 0] 162)) [] := by
  refine ⟨⟨.slice none 0 0, rowAt_new2 _ _ [.slice none 0 0] 162 (by simp), World.ownsRow_nil _ _ _ _⟩, (below_new _ _).alloc (by simp) _, ?_⟩
  have := (boxC_new w C A).keep (below_new (w.alloc (.cells (cl C A) 27)) (.cells #[.slice none 0 0] 162))
  exact this

theorem Img.after {w wr w1 w2 : World} {C : Conf} {A : Mem} {bs bs2 : List Int} {u u2 : Value} (h : Img w C A wr bs) (hu : WAt wr (w.heap.size + 1) u bs) (hb : Below wr.heap.size wr w1) (hw : Wrote w1 w2 (w.heap.size + 1) u u2) (hu2 : WAt w2 (w.heap.size + 1) u2 bs2) :
    Img w C A w2 bs2 ∧ ∀ k, wr.heap.size ≤ k → k < w1.heap.size → w2.heap[k]? = w1.heap[k]? := by
  have hq := hw.below (hu.below hb)
  have hl := h.lt
  refine ⟨⟨⟨_, hu2⟩, (btrans h.below hb).trans (hq.mono (by omega)), (h.box.keep hb).same (hq.block _ (by omega))⟩, fun k h1 h2 => hw.block k h2 (by omega) ?_⟩
  intro e
  have := (hu.lt k e.symm).2
  omega

end Go.Proofs.YtildebflnmbefaaGreat

namespace Go.Proofs.YtildebflnmbefaaGreat
open Go.RowKit

/-- What Receive answers: what waits, the value, the error (Lost beside it). -/
def recvV (V : List Int) (lost size : Int) : List Int := if ckR V lost size = 0 then V.drop 1 else []
def recvL (V : List Int) (lost size : Int) : Int := if ckR V lost size = 0 then lost else 0
def recvX (V : List Int) (lost size : Int) : Int := if ckR V lost size = 0 then V.headD (-1) else 0

set_option maxRecDepth 100000 in
set_option maxHeartbeats 1000000 in
theorem receive_bad (a : Option Addr) (V : List Int) (cap : Nat) (lost size : Int) (w : World) (hw : IntsIn w a V) (hl : V.length ≤ 9223372036854775807) (h0 : ckR V lost size ≠ 0) :
    Calls Tryz.prog 94 #[.agg #[.slice a V.length cap, .int .i64 lost], .int .i64 size] w fun e w' => e = .returned (.tuple #[.agg #[.slice none 0 0, .int .i64 0], .int .i64 0, .int .i64 (ckR V lost size)]) ∧ Below w.heap.size w w' := by
  have q1 := below_new w (.cells #[.slice a V.length cap, .int .i64 lost] 83)
  have q2 := below_new (w.alloc (.cells #[.slice a V.length cap, .int .i64 lost] 83)) (.cells #[.slice none 0 0, .int .i64 0] 83)
  have HB := hid (btrans q1 q2)
  have HW := hid (hw.keep (btrans q1 q2))
  have R4 : Hid (RowAt ((w.alloc (.cells #[.slice a V.length cap, .int .i64 lost] 83)).alloc (.cells #[.slice none 0 0, .int .i64 0] 83)) (w.heap.size + 1) 83 [.slice none 0 0, .int .i64 0]) := hid (rowAt_new2 _ _ [.slice none 0 0, .int .i64 0] 83 (by simp))
  clear q1 q2 hw
  go_enter Tryz.func94, Tryz.ntmps94
  go_wp2_with fail
  refine (ringCheck_any a V cap lost size _ HW.out hl).mono ?_
  rintro e w2 ⟨rfl, hb2⟩
  have hx : (ckR V lost size != 0) = true := by simp [h0]
  have R5 := hid (R4.out.below hb2 (Nat.le_refl _))
  have B5 := hid (btrans HB.out hb2)
  have x0 := R5.out.cell 0 _ rfl
  have y0 := R5.out.frozen 0
  have x1 := R5.out.cell 1 _ rfl
  have y1 := R5.out.frozen 1
  clear h0 hb2 HB HW R4
  generalize hq : ckR V lost size = q at *
  have HQ := hid hq
  clear hq
  have R6 := hid ((R5.out.setCell 0 (.slice none 0 0)).setCell 1 (.int .i64 0))
  have B6 := hid ((B5.out.setCell (p := ⟨w.heap.size + 1, 0, none⟩) (by show w.heap.size ≤ w.heap.size + 1; omega) (.slice none 0 0)).setCell (p := ⟨w.heap.size + 1, 1, none⟩) (by show w.heap.size ≤ w.heap.size + 1; omega) (.int .i64 0))
  clear R5 B5
  go_wp2
  have d0 := R6.out.cell 0 _ rfl
  have d1 := R6.out.cell 1 _ rfl
  exact bodyPost_ret (v := .tuple #[.agg #[.slice none 0 0, .int .i64 0], .int .i64 0, .int .i64 q]) (by simp [results, Tryz.results94, go_sem, d0, d1]) rfl ⟨by rw [HQ.out], B6.out⟩

set_option maxRecDepth 100000 in
set_option maxHeartbeats 1000000 in
theorem receive_none (a : Option Addr) (cap : Nat) (lost size : Int) (w : World) (h0 : ckR [] lost size = 0) :
    Calls Tryz.prog 94 #[.agg #[.slice a 0 cap, .int .i64 lost], .int .i64 size] w fun e w' => e = .returned (.tuple #[.agg #[.slice none 0 0, .int .i64 lost], .int .i64 (-1), .int .i64 0]) ∧ Below w.heap.size w w' := by
  have q1 := below_new w (.cells #[.slice a 0 cap, .int .i64 lost] 83)
  have q2 := below_new (w.alloc (.cells #[.slice a 0 cap, .int .i64 lost] 83)) (.cells #[.slice none 0 0, .int .i64 0] 83)
  have HB := hid (btrans q1 q2)
  have R2 : Hid (RowAt ((w.alloc (.cells #[.slice a 0 cap, .int .i64 lost] 83)).alloc (.cells #[.slice none 0 0, .int .i64 0] 83)) w.heap.size 83 [.slice a 0 cap, .int .i64 lost]) := hid ((rowAt_new2 w _ [.slice a 0 cap, .int .i64 lost] 83 rfl).alloc _)
  have R4 : Hid (RowAt ((w.alloc (.cells #[.slice a 0 cap, .int .i64 lost] 83)).alloc (.cells #[.slice none 0 0, .int .i64 0] 83)) (w.heap.size + 1) 83 [.slice none 0 0, .int .i64 0]) := hid (rowAt_new2 _ _ [.slice none 0 0, .int .i64 0] 83 (by simp))
  clear q1 q2
  go_enter Tryz.func94, Tryz.ntmps94
  go_wp2_with fail
  refine (ringCheck_any a [] cap lost size _ (fun i hi => absurd hi (by simp)) (by simp)).mono ?_
  rintro e w2 ⟨rfl, hb2⟩
  rw [h0]
  have R3 := hid (R2.out.below hb2 (Nat.le_refl _))
  have R5 := hid (R4.out.below hb2 (Nat.le_refl _))
  have B5 := hid (btrans HB.out hb2)
  have z0 := R3.out.cell 0 _ rfl
  have z1 := R3.out.cell 1 _ rfl
  have x0 := R5.out.cell 0 _ rfl
  have y0 := R5.out.frozen 0
  have x1 := R5.out.cell 1 _ rfl
  have y1 := R5.out.frozen 1
  clear h0 hb2 HB R4 R2
  have R6 := hid ((R5.out.setCell 0 (.slice none 0 0)).setCell 1 (.int .i64 lost))
  have B6 := hid ((B5.out.setCell (p := ⟨w.heap.size + 1, 0, none⟩) (by show w.heap.size ≤ w.heap.size + 1; omega) (.slice none 0 0)).setCell (p := ⟨w.heap.size + 1, 1, none⟩) (by show w.heap.size ≤ w.heap.size + 1; omega) (.int .i64 lost))
  clear R5 B5
  go_wp2
  have d0 := R6.out.cell 0 _ rfl
  have d1 := R6.out.cell 1 _ rfl
  exact bodyPost_ret (v := .tuple #[.agg #[.slice none 0 0, .int .i64 lost], .int .i64 (-1), .int .i64 0]) (by simp [results, Tryz.results94, go_sem, d0, d1]) rfl ⟨rfl, B6.out⟩

set_option maxRecDepth 100000 in
set_option maxHeartbeats 2000000 in
theorem receive_one (b o : Nat) (x : Int) (V : List Int) (cap : Nat) (lost size : Int) (w : World) (hw : IntsIn w (some ⟨b, o, none⟩) (x :: V)) (hl : (x :: V).length ≤ cap) (h0 : ckR (x :: V) lost size = 0) :
    Calls Tryz.prog 94 #[.agg #[.slice (some ⟨b, o, none⟩) (x :: V).length cap, .int .i64 lost], .int .i64 size] w fun e w' => ∃ v, e = .returned (.tuple #[.agg #[v, .int .i64 lost], .int .i64 x, .int .i64 0]) ∧ w'.ownsRow w.heap.size 3 1 v V.length (ivs V) ∧ Below w.heap.size w w' := by
  have q1 := below_new w (.cells #[.slice (some ⟨b, o, none⟩) (x :: V).length cap, .int .i64 lost] 83)
  have q2 := below_new (w.alloc (.cells #[.slice (some ⟨b, o, none⟩) (x :: V).length cap, .int .i64 lost] 83)) (.cells #[.slice none 0 0, .int .i64 0] 83)
  have HB := hid (btrans q1 q2)
  have HW := hid (hw.keep (btrans q1 q2))
  have R2 : Hid (RowAt ((w.alloc (.cells #[.slice (some ⟨b, o, none⟩) (x :: V).length cap, .int .i64 lost] 83)).alloc (.cells #[.slice none 0 0, .int .i64 0] 83)) w.heap.size 83 [.slice (some ⟨b, o, none⟩) (x :: V).length cap, .int .i64 lost]) := hid ((rowAt_new2 w _ [.slice (some ⟨b, o, none⟩) (x :: V).length cap, .int .i64 lost] 83 rfl).alloc _)
  have R4 : Hid (RowAt ((w.alloc (.cells #[.slice (some ⟨b, o, none⟩) (x :: V).length cap, .int .i64 lost] 83)).alloc (.cells #[.slice none 0 0, .int .i64 0] 83)) (w.heap.size + 1) 83 [.slice none 0 0, .int .i64 0]) := hid (rowAt_new2 _ _ [.slice none 0 0, .int .i64 0] 83 (by simp))
  have hk := ckR_ok h0
  have h4 : V.length + 1 ≤ 4 := by have := hk.1.2; have := hk.2.1; simp at this; omega
  have hbl : b < w.heap.size := by
    obtain ⟨b', o', e, hc⟩ := hw 0 (by simp)
    simp only [Option.some.injEq, Addr.mk.injEq, and_true] at e
    obtain ⟨rfl, rfl⟩ := e
    exact World.block_lt_of_cell? _ _ hc
  simp only [List.length_cons] at *
  clear q1 q2 hw hk
  go_enter Tryz.func94, Tryz.ntmps94
  go_wp2_with fail
  refine (ringCheck_any (some ⟨b, o, none⟩) (x :: V) cap lost size _ HW.out (by simp; omega)).mono ?_
  rintro e w2 ⟨rfl, hb2⟩
  rw [h0]
  have R3 := hid (R2.out.below hb2 (Nat.le_refl _))
  have R5 := hid (R4.out.below hb2 (Nat.le_refl _))
  have B5 := hid (btrans HB.out hb2)
  have W5 := hid (HW.out.keep hb2)
  have z0 := R3.out.cell 0 _ rfl
  have z1 := R3.out.cell 1 _ rfl
  have hc0 : w2.cell? ⟨b, o, none⟩ = some (.int .i64 x) := by
    obtain ⟨b', o', e, hc⟩ := W5.out 0 (by simp)
    simp only [Option.some.injEq, Addr.mk.injEq, and_true] at e
    obtain ⟨rfl, rfl⟩ := e
    simpa using hc
  have W6 : Hid (IntsIn w2 (some ⟨b, o + 1, none⟩) V) := hid (by
    intro i hi
    obtain ⟨b', o', e, hc⟩ := W5.out (i + 1) (by simp; omega)
    simp only [Option.some.injEq, Addr.mk.injEq, and_true] at e
    obtain ⟨rfl, rfl⟩ := e
    exact ⟨b, o + 1, rfl, by simpa [Nat.add_assoc, Nat.add_comm 1] using hc⟩)
  have hi1 : (1 : Int) ≤ ((V.length + 1 : Nat) : Int) := by omega
  have hi2 : ((V.length + 1 : Nat) : Int) ≤ (cap : Int) := by omega
  have hi3 : (0 : Int) < ((V.length + 1 : Nat) : Int) := by omega
  have hi4 : (1 : Int) ≤ (V.length : Int) + 1 := by omega
  have hi5 : (0 : Int) < (V.length : Int) + 1 := by omega
  clear h0 hb2 HB HW R4 R2
  have hbz : Below w2.heap.size w2 w2.drew := (Below.refl _ _).drew
  have hne : ¬ w.heap.size + 1 = w.heap.size := by omega
  have hneb : ¬ w.heap.size + 1 = b := by omega
  have HS : Hid (∀ w', Below w2.heap.size w2 w' → w'.cell? ⟨w.heap.size, 0, none⟩ = some (.slice (some ⟨b, o, none⟩) (V.length + 1) cap) ∧ w'.cell? ⟨w.heap.size, 1, none⟩ = some (.int .i64 lost) ∧ w'.cell? ⟨b, o, none⟩ = some (.int .i64 x)) := hid fun w' hb => ⟨bkeep hb z0 (Nat.le_refl _), bkeep hb z1 (Nat.le_refl _), bkeep hb hc0 (Nat.le_refl _)⟩
  have HR : Hid (∀ w', Below w2.heap.size w2 w' → RowAt w' (w.heap.size + 1) 83 [.slice none 0 0, .int .i64 0]) := hid fun w' hb => R5.out.below hb (Nat.le_refl _)
  have hsz2 : w.heap.size ≤ w2.heap.size := B5.out.size
  by_cases hcap : cap = 1
  · subst hcap
    obtain rfl : V = [] := List.eq_nil_of_length_eq_zero (by omega)
    have W7 : Hid (IntsIn w2 (some ⟨b, o, none⟩) []) := hid fun i hi => absurd hi (by simp)
    simp only [List.length_nil, Nat.zero_add] at *
    go_wp2_with fail
    go_region_held3 (fun w' => w'.cell? ⟨w.heap.size, 0, none⟩ = some (.slice (some ⟨b, o, none⟩) 1 1) ∧ w'.cell? ⟨w.heap.size, 1, none⟩ = some (.int .i64 lost) ∧ w'.cell? ⟨b, o, none⟩ = some (.int .i64 x))
      (first | exact HS.out _ hB3 | exact HS.out _ hbz | go_keep)
      (first
        | (go_at_call 24; refine (clone87_any (some ⟨b, o, none⟩) [] _ _ (by exact W7.out) (by simp) (by simp)).mono ?_; rintro e w3 ⟨v, rfl, hown3, hb3⟩; have hB3 := btrans hbz hb3; have u0 := (HR.out _ hB3).cell 0 _ rfl; have u1 := (HR.out _ hB3).cell 1 _ rfl; have f0 := (HR.out _ hB3).frozen 0; have f1 := (HR.out _ hB3).frozen 1; have HO3 := hid hown3; obtain ⟨a3, k3, rfl, -, -, -, -, -⟩ := ints_own hown3; clear hown3))
    have hlt5 := R5.out.lt
    have R6 := hid (((HR.out _ hB3).setCell 0 (.slice a3 0 k3)).setCell 1 (.int .i64 lost))
    have B6 := hid (((btrans B5.out hB3).setCell (p := ⟨w.heap.size + 1, 0, none⟩) (by show w.heap.size ≤ w.heap.size + 1; omega) (.slice a3 0 k3)).setCell (p := ⟨w.heap.size + 1, 1, none⟩) (by show w.heap.size ≤ w.heap.size + 1; omega) (.int .i64 lost))
    have O6 := hid (ownsx_mono (ownsx_set (ownsx_set HO3.out 0 (.slice a3 0 k3) (b := w.heap.size + 1) hlt5) 1 (.int .i64 lost) (b := w.heap.size + 1) hlt5) (base' := w.heap.size) hsz2)
    clear HO3 HR HS u0 u1 f0 f1
    go_wp2
    have d0 := R6.out.cell 0 _ rfl
    have d1 := R6.out.cell 1 _ rfl
    exact bodyPost_ret (v := .tuple #[.agg #[.slice a3 0 k3, .int .i64 lost], .int .i64 x, .int .i64 0]) (by simp [results, Tryz.results94, go_sem, d0, d1]) rfl ⟨_, rfl, O6.out, B6.out⟩
  · go_wp2_with fail
    go_region_held3 (fun w' => w'.cell? ⟨w.heap.size, 0, none⟩ = some (.slice (some ⟨b, o, none⟩) (V.length + 1) cap) ∧ w'.cell? ⟨w.heap.size, 1, none⟩ = some (.int .i64 lost) ∧ w'.cell? ⟨b, o, none⟩ = some (.int .i64 x))
      (first | exact HS.out _ hB3 | exact HS.out _ hbz | go_keep)
      (first
        | (go_at_call 24; refine (clone87_any (some ⟨b, o + 1, none⟩) V _ _ (by exact W6.out) (by omega) (by simp)).mono ?_; rintro e w3 ⟨v, rfl, hown3, hb3⟩; have hB3 := btrans hbz hb3; have u0 := (HR.out _ hB3).cell 0 _ rfl; have u1 := (HR.out _ hB3).cell 1 _ rfl; have f0 := (HR.out _ hB3).frozen 0; have f1 := (HR.out _ hB3).frozen 1; have HO3 := hid hown3; obtain ⟨a3, k3, rfl, -, -, -, -, -⟩ := ints_own hown3; clear hown3))
    have hlt5 := R5.out.lt
    have R6 := hid (((HR.out _ hB3).setCell 0 (.slice a3 V.length k3)).setCell 1 (.int .i64 lost))
    have B6 := hid (((btrans B5.out hB3).setCell (p := ⟨w.heap.size + 1, 0, none⟩) (by show w.heap.size ≤ w.heap.size + 1; omega) (.slice a3 V.length k3)).setCell (p := ⟨w.heap.size + 1, 1, none⟩) (by show w.heap.size ≤ w.heap.size + 1; omega) (.int .i64 lost))
    have O6 := hid (ownsx_mono (ownsx_set (ownsx_set HO3.out 0 (.slice a3 V.length k3) (b := w.heap.size + 1) hlt5) 1 (.int .i64 lost) (b := w.heap.size + 1) hlt5) (base' := w.heap.size) hsz2)
    clear HO3 HR HS u0 u1 f0 f1
    go_wp2
    have d0 := R6.out.cell 0 _ rfl
    have d1 := R6.out.cell 1 _ rfl
    exact bodyPost_ret (v := .tuple #[.agg #[.slice a3 V.length k3, .int .i64 lost], .int .i64 x, .int .i64 0]) (by simp [results, Tryz.results94, go_sem, d0, d1]) rfl ⟨_, rfl, O6.out, B6.out⟩

/-- What Receive comes to. -/
theorem receive_any (a : Option Addr) (V : List Int) (cap : Nat) (lost size : Int) (w : World) (hw : IntsIn w a V) (hl : V.length ≤ 9223372036854775807) (hc : V.length ≤ cap) :
    Calls Tryz.prog 94 #[.agg #[.slice a V.length cap, .int .i64 lost], .int .i64 size] w fun e w' => ∃ v, e = .returned (.tuple #[.agg #[v, .int .i64 (recvL V lost size)], .int .i64 (recvX V lost size), .int .i64 (ckR V lost size)]) ∧ w'.ownsRow w.heap.size 3 1 v (recvV V lost size).length (ivs (recvV V lost size)) ∧ Below w.heap.size w w' := by
  by_cases h0 : ckR V lost size = 0
  · cases V with
    | nil =>
      refine (receive_none a cap lost size w h0).mono ?_
      rintro e w' ⟨rfl, hb⟩
      exact ⟨.slice none 0 0, by simp [recvL, recvX, h0], by simp [recvV, ivs]; exact World.ownsRow_nil _ _ _ _, hb⟩
    | cons x V =>
      obtain ⟨b, o, rfl, _⟩ := hw 0 (by simp)
      refine (receive_one b o x V cap lost size w hw hc h0).mono ?_
      rintro e w' ⟨v, rfl, ho, hb⟩
      exact ⟨v, by simp [recvL, recvX, h0], by simp only [recvV, h0, if_true]; exact ho, hb⟩
  · refine (receive_bad a V cap lost size w hw hl h0).mono ?_
    rintro e w' ⟨rfl, hb⟩
    exact ⟨.slice none 0 0, by simp [recvL, recvX, h0], by simp [recvV, h0, ivs]; exact World.ownsRow_nil _ _ _ _, hb⟩

end Go.Proofs.YtildebflnmbefaaGreat

namespace Go.Proofs.YtildebflnmbefaaGreat
open Go.RowKit

/-- What Commit answers: the error, what waits, how many are lost. -/
def comE (V : List Int) (lost size : Int) (L : List Int) : Int := if ckR V lost size = 0 then (if allR L 0 255 then 0 else 3) else ckR V lost size
def comRV (V : List Int) (lost size : Int) (L : List Int) : List Int := if comE V lost size L = 0 then comV V L (roomR V size) L.length else []
def comRL (V : List Int) (lost size : Int) (L : List Int) : Int := if comE V lost size L = 0 then comL lost (roomR V size) L.length else 0

theorem IntsIn.takex {w : World} {a : Option Addr} {ls : List Int} (h : IntsIn w a ls) (k : Nat) : IntsIn w a (ls.take k) := by
  intro i hi
  have : i < ls.length := by simp at hi; omega
  obtain ⟨b, o, e, h1⟩ := h i this
  exact ⟨b, o, e, by simpa using h1⟩

end Go.Proofs.YtildebflnmbefaaGreat

namespace Go.Proofs.YtildebflnmbefaaGreat
open Go.RowKit

end Go.Proofs.YtildebflnmbefaaGreat

namespace Go.Proofs.YtildebflnmbefaaGreat
open Go.RowKit

/-- A job: task, number, released, used, ran, missed. -/
abbrev JobT := Int × Int × Int × Int × Bool × Bool
/-- An event: at, kind, a, b. -/
abbrev EvT := Int × Int × Int × Int

structure Dom where
  jobs : List JobT
  rel : List Int
  nxt : Int
  ins : List (List Int × Int)
  tak : List Int
  out : List (List Int)
  evs : List EvT

/-- Where the lists of a domain lie. -/
structure DMem where
  aJ : Option Addr
  aR : Option Addr
  aI : Option Addr
  aT : Option Addr
  aO : Option Addr
  aE : Option Addr
  cJ : Nat
  cR : Nat
  cI : Nat
  cT : Nat
  cO : Nat
  cE : Nat

abbrev dl (D : Dom) (A : DMem) : Array Value := #[.slice A.aJ D.jobs.length A.cJ, .slice A.aR D.rel.length A.cR, .int .i64 D.nxt, .slice A.aI D.ins.length A.cI, .slice A.aT D.tak.length A.cT, .slice A.aO D.out.length A.cO, .slice A.aE D.evs.length A.cE]
abbrev dv (D : Dom) (A : DMem) : Value := .agg (dl D A)

def JobsIn (w : World) (a : Option Addr) (ls : List JobT) : Prop :=
  ∀ i (h : i < ls.length), ∃ b o, a = some ⟨b, o, none⟩ ∧ w.cell? ⟨b, o + i * 6, none⟩ = some (.int .i64 ls[i].1) ∧ w.cell? ⟨b, o + i * 6 + 1, none⟩ = some (.int .i64 ls[i].2.1) ∧ w.cell? ⟨b, o + i * 6 + 2, none⟩ = some (.int .i64 ls[i].2.2.1) ∧ w.cell? ⟨b, o + i * 6 + 3, none⟩ = some (.int .i64 ls[i].2.2.2.1) ∧ w.cell? ⟨b, o + i * 6 + 4, none⟩ = some (.bool ls[i].2.2.2.2.1) ∧ w.cell? ⟨b, o + i * 6 + 5, none⟩ = some (.bool ls[i].2.2.2.2.2)
def EvsIn (w : World) (a : Option Addr) (ls : List EvT) : Prop :=
  ∀ i (h : i < ls.length), ∃ b o, a = some ⟨b, o, none⟩ ∧ w.cell? ⟨b, o + i * 4, none⟩ = some (.int .i64 ls[i].1) ∧ w.cell? ⟨b, o + i * 4 + 1, none⟩ = some (.int .i64 ls[i].2.1) ∧ w.cell? ⟨b, o + i * 4 + 2, none⟩ = some (.int .i64 ls[i].2.2.1) ∧ w.cell? ⟨b, o + i * 4 + 3, none⟩ = some (.int .i64 ls[i].2.2.2)
def RingsIn (w : World) (a : Option Addr) (ls : List (List Int × Int)) : Prop :=
  ∀ i (h : i < ls.length), ∃ b o a' c', a = some ⟨b, o, none⟩ ∧ w.cell? ⟨b, o + i * 2, none⟩ = some (.slice a' ls[i].1.length c') ∧ w.cell? ⟨b, o + i * 2 + 1, none⟩ = some (.int .i64 ls[i].2) ∧ IntsIn w a' ls[i].1 ∧ ls[i].1.length ≤ c' ∧ ls[i].1.length ≤ 9223372036854775807
def ListsIn (w : World) (a : Option Addr) (ls : List (List Int)) : Prop :=
  ∀ i (h : i < ls.length), ∃ b o a' c', a = some ⟨b, o, none⟩ ∧ w.cell? ⟨b, o + i, none⟩ = some (.slice a' ls[i].length c') ∧ IntsIn w a' ls[i] ∧ ls[i].length ≤ c' ∧ ls[i].length ≤ 9223372036854775807

section
variable {w w' : World} {a : Option Addr}
theorem JobsIn.keep {ls : List JobT} (h : JobsIn w a ls) (hb : Below w.heap.size w w') : JobsIn w' a ls := by
  intro i hi
  obtain ⟨b, o, e, h1, h2, h3, h4, h5, h6⟩ := h i hi
  exact ⟨b, o, e, bkeep hb h1 (Nat.le_refl _), bkeep hb h2 (Nat.le_refl _), bkeep hb h3 (Nat.le_refl _), bkeep hb h4 (Nat.le_refl _), bkeep hb h5 (Nat.le_refl _), bkeep hb h6 (Nat.le_refl _)⟩
theorem EvsIn.keep {ls : List EvT} (h : EvsIn w a ls) (hb : Below w.heap.size w w') : EvsIn w' a ls := by
  intro i hi
  obtain ⟨b, o, e, h1, h2, h3, h4⟩ := h i hi
  exact ⟨b, o, e, bkeep hb h1 (Nat.le_refl _), bkeep hb h2 (Nat.le_refl _), bkeep hb h3 (Nat.le_refl _), bkeep hb h4 (Nat.le_refl _)⟩
theorem RingsIn.keep {ls : List (List Int × Int)} (h : RingsIn w a ls) (hb : Below w.heap.size w w') : RingsIn w' a ls := by
  intro i hi
  obtain ⟨b, o, a', c', e, h1, h2, h3, h4⟩ := h i hi
  exact ⟨b, o, a', c', e, bkeep hb h1 (Nat.le_refl _), bkeep hb h2 (Nat.le_refl _), h3.keep hb, h4⟩
theorem ListsIn.keep {ls : List (List Int)} (h : ListsIn w a ls) (hb : Below w.heap.size w w') : ListsIn w' a ls := by
  intro i hi
  obtain ⟨b, o, a', c', e, h1, h2, h3⟩ := h i hi
  exact ⟨b, o, a', c', e, bkeep hb h1 (Nat.le_refl _), h2.keep hb, h3⟩
end

/-- A domain's lists lie in memory. -/
structure DomIn (w : World) (A : DMem) (D : Dom) : Prop where
  jobs : JobsIn w A.aJ D.jobs
  rel : IntsIn w A.aR D.rel
  ins : RingsIn w A.aI D.ins
  tak : IntsIn w A.aT D.tak
  out : ListsIn w A.aO D.out
  evs : EvsIn w A.aE D.evs
  lJ : D.jobs.length ≤ 9223372036854775807
  lR : D.rel.length ≤ 9223372036854775807
  lI : D.ins.length ≤ 9223372036854775807
  lT : D.tak.length ≤ 9223372036854775807
  lO : D.out.length ≤ 9223372036854775807
  lE : D.evs.length ≤ 9223372036854775807

theorem DomIn.keep {w w' : World} {A : DMem} {D : Dom} (h : DomIn w A D) (hb : Below w.heap.size w w') : DomIn w' A D :=
  ⟨h.jobs.keep hb, h.rel.keep hb, h.ins.keep hb, h.tak.keep hb, h.out.keep hb, h.evs.keep hb, h.lJ, h.lR, h.lI, h.lT, h.lO, h.lE⟩

theorem eq106 (x y z u : Int) (p q : Bool) (w : World) : (Op.equalIn 10000 79 (.agg #[.int .i64 x, .int .i64 y, .int .i64 z, .int .i64 u, .bool p, .bool q]) (.agg #[.int .i64 x, .int .i64 y, .int .i64 z, .int .i64 u, .bool p, .bool q])).run Tryz.prog w = .ok true w := by
  have u3 := Tryz.underlying3
  have a3 := Tryz.isAgg3
  have z3 := Tryz.sizeOf3
  have u4 := Tryz.underlying4
  have a4 := Tryz.isAgg4
  have z4 := Tryz.sizeOf4
  have hS : Tryz.prog.underlying 79 = some (.struct (Tryz.prog.fieldsOf 79)) := by kernel_rfl
  have hp : Tryz.prog.stoodInHeld 79 = false := by kernel_rfl
  rw [show (10000 : Nat) = 9999 + 1 from rfl, run_equalIn_agg w 9999 79 _ _ hS hp]
  simp only [Program.fieldsOf, Tryz.underlying79]
  go_simp

theorem eq146 (x y z u : Int) (w : World) : (Op.equalIn 10000 45 (.agg #[.int .i64 x, .int .i64 y, .int .i64 z, .int .i64 u]) (.agg #[.int .i64 x, .int .i64 y, .int .i64 z, .int .i64 u])).run Tryz.prog w = .ok true w := by
  have u3 := Tryz.underlying3
  have a3 := Tryz.isAgg3
  have z3 := Tryz.sizeOf3
  have hS : Tryz.prog.underlying 45 = some (.struct (Tryz.prog.fieldsOf 45)) := by kernel_rfl
  have hp : Tryz.prog.stoodInHeld 45 = false := by kernel_rfl
  rw [show (10000 : Nat) = 9999 + 1 from rfl, run_equalIn_agg w 9999 45 _ _ hS hp]
  simp only [Program.fieldsOf, Tryz.underlying45]
  go_simp

end Go.Proofs.YtildebflnmbefaaGreat
