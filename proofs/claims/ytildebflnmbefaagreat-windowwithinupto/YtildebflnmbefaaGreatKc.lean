/- Walks: what a copy of a set comes to. A copy of elements of any number of cells, within a row that is known whole. Walks: what the use of a line comes to. -/
import Derived.Test.YtildebflnmbefaaGreatKb
import Derived.Deep.AppendLies
import Derived.Laws.CopyOwn
import Derived.Deep.RegionLaw
import Derived.Deep.RegionHeld3
set_option linter.unusedVariables false
namespace Go.Proofs.YtildebflnmbefaaGreat
open Go.RowKit

/-- The cells of a list of ways. -/
def flat (ls : List (Int × Bool)) : List Value := ls.flatMap fun x => [.int .i64 x.1, .bool x.2]

theorem flat_len (ls : List (Int × Bool)) : (flat ls).length = ls.length * 2 := by
  induction ls with
  | nil => rfl
  | cons x r ih => simp only [flat, List.flatMap_cons, List.length_append, List.length_cons, List.length_nil] at *; omega

theorem flat_at (ls : List (Int × Bool)) (i : Nat) (h : i < ls.length) : (flat ls)[i * 2]? = some (.int .i64 ls[i].1) ∧ (flat ls)[i * 2 + 1]? = some (.bool ls[i].2) := by
  induction ls generalizing i with
  | nil => simp at h
  | cons x r ih =>
    cases i with
    | zero => simp [flat]
    | succ i =>
      have := ih i (by simpa using h)
      have e1 : (i + 1) * 2 = i * 2 + 2 := by omega
      simpa [flat, e1, List.getElem?_cons] using this

theorem flat_mem (ls : List (Int × Bool)) : ∀ u ∈ flat ls, u.oneCell' = true := by
  intro u hu
  simp only [flat, List.mem_flatMap, List.mem_cons, List.not_mem_nil, or_false] at hu
  obtain ⟨x, _, rfl | rfl⟩ := hu <;> rfl

theorem Tryz.info87 : (Tryz.prog.info? 87).map (fun i => (i.zero, i.size, i.bytes)) = some (some (.agg #[.int .i64 0, .bool false]), 2, 16) := by kernel_rfl

theorem infoOf {P : Program} {t : TypeId} {z : Value} {sz b : Nat} (h : (P.info? t).map (fun i => (i.zero, i.size, i.bytes)) = some (some z, sz, b)) :
    ∃ i, P.info? t = some i ∧ i.zero = some z ∧ i.size = sz ∧ i.bytes = b := by
  obtain ⟨i, hi, h0⟩ := Option.map_eq_some_iff.1 h
  simp only [Prod.mk.injEq] at h0
  exact ⟨i, hi, h0.1, h0.2.1, h0.2.2⟩

/-- The cells of the ways, as a copy reads them. -/
theorem WaysIn.news {w : World} {b o : Nat} {ls : List (Int × Bool)} (h : WaysIn w (some ⟨b, o, none⟩) ls) : ∀ j u, (flat ls)[j]? = some u → w.cell? ((⟨b, o, none⟩ : Addr).add j) = some u := by
  intro j u hu
  have hj : j < ls.length * 2 := by rw [← flat_len]; exact (List.getElem?_eq_some_iff.1 hu).1
  have hadd : (⟨b, o, none⟩ : Addr).add j = ⟨b, o + j, none⟩ := by unfold Addr.add; split <;> simp_all
  rw [hadd]
  have hi : j / 2 < ls.length := by omega
  obtain ⟨b', o', e, h1, h2⟩ := h (j / 2) hi
  simp only [Option.some.injEq, Addr.mk.injEq, and_true] at e
  obtain ⟨rfl, rfl⟩ := e
  obtain ⟨f1, f2⟩ := flat_at ls (j / 2) hi
  by_cases hm : j % 2 = 0
  · have e : j / 2 * 2 = j := by omega
    rw [e] at h1 f1
    rw [hu] at f1
    rw [h1, f1]
  · have e : j / 2 * 2 + 1 = j := by omega
    rw [e] at f2
    have e2 : o + j / 2 * 2 + 1 = o + j := by omega
    rw [e2] at h2
    rw [hu] at f2
    rw [h2, f2]

theorem waysIn_of_owns {w : World} {base g n cap : Nat} {ls : List (Int × Bool)} (h : w.ownsRow base 87 2 (.slice (some ⟨g, 0, none⟩) n cap) n (flat ls)) : WaysIn w (some ⟨g, 0, none⟩) ls := by
  intro i hi
  obtain ⟨f1, f2⟩ := flat_at ls i hi
  have c1 := h.cells (g := g) rfl _ _ f1
  have c2 := h.cells (g := g) rfl _ _ f2
  have hadd : ∀ j, (⟨g, 0, none⟩ : Addr).add j = ⟨g, 0 + j, none⟩ := fun j => by unfold Addr.add; split <;> simp_all
  rw [hadd] at c1 c2
  exact ⟨g, 0, rfl, c1, by rw [Nat.add_assoc]; exact c2⟩

set_option maxRecDepth 100000 in
set_option maxHeartbeats 400000 in
theorem clone53_any (b o : Nat) (ls : List (Int × Bool)) (cap : Nat) (w : World) (hw : WaysIn w (some ⟨b, o, none⟩) ls) (hpos : 0 < ls.length) (hl : ls.length ≤ 3) :
    Calls Tryz.prog 26 #[.slice (some ⟨b, o, none⟩) ls.length cap] w fun e w' => ∃ g cap', e = .returned (.slice (some ⟨g, 0, none⟩) ls.length cap') ∧ w'.ownsRow w.heap.size 87 2 (.slice (some ⟨g, 0, none⟩) ls.length cap') ls.length (flat ls) ∧ Below w.heap.size w w' := by
  have hnil := fun (w : World) (a : Option Addr) (n c : Nat) => Lib.run_eql_slice_nil (P := Tryz.prog) w 84 87 a n c 0 0 Tryz.underlying84
  obtain ⟨i, hi, hz, hs, hby⟩ := infoOf Tryz.info87
  have h1 : Below w.heap.size w (w.alloc (.cells #[] 87)) := (Below.refl _ _).alloc (Nat.le_refl _) _
  have hown : (w.alloc (.cells #[] 87)).ownsRow w.heap.size 87 2 (.slice (some ⟨w.heap.size, 0, none⟩) 0 0) 0 [] := World.ownsRow_made w #[] 0 (Nat.le_refl _) (by simp [maxLen]) rfl
  have Hw := hid (hw.keep h1).news
  go_enter Tryz.func26, Tryz.ntmps26
  go_wp2_with (at_builtin; refine wpList_append_lies _ rfl _ _ _ (by rfl) w.heap.size 87 i _ 2 16 Tryz.underlying84 hi hz hs hby rfl (by omega) (.slice (some ⟨w.heap.size, 0, none⟩) 0 0) 0 [] (by rfl) hown ⟨b, o, none⟩ ls.length cap (flat ls) (by rfl) (flat_len ls) Hw.out (flat_mem ls) hpos (by simp [maxLen]; omega) (by omega) (by simp) (w.heap.size + 1) (by simp) ?_)
  intro g cap' w1 hown1 hgrow hat hlt
  go_wp2
  go_ret
  exact ⟨g, cap', rfl, hown1, h1.grown hgrow (by simp) (fun k hk => by simp [Value.ownBlock] at hk; omega)⟩

set_option maxHeartbeats 400000 in
theorem writeBack_any (l : Int) (d : Bool) (w : World) :
    Calls Tryz.prog 59 #[.agg #[.int .i64 l, .bool d]] w fun e w' => e = .returned (.int .i64 (wb d)) ∧ Below w.heap.size w w' := by
  cases d with
  | true =>
    go_enter Tryz.func59, Tryz.ntmps59
    go_wp2
    go_ret
    exact ⟨rfl, (Below.refl _ _).alloc (Nat.le_refl _) _⟩
  | false =>
    go_enter Tryz.func59, Tryz.ntmps59
    go_wp2
    go_ret
    exact ⟨rfl, (Below.refl _ _).alloc (Nat.le_refl _) _⟩

end Go.Proofs.YtildebflnmbefaaGreat

namespace Go.Proofs.YtildebflnmbefaaGreat
open Go Go.RowKit

theorem run_copy_rowz {P : Program} (w : World) (dT sT ty elem : TypeId) (g o dLen dCap : Nat) (a : Addr) (sLen sCap sz : Nat) (cur : Array Value) (t : TypeId) (cs : List Value)
    (hu : P.underlying dT = some (.slice elem)) (hs : (P.info? elem).map (·.size) = some sz)
    (hg : w.heap[g]? = some (.cells cur t (0, 0))) (hn : cs.length = Nat.min sLen dLen * sz)
    (hsrc : ∀ j v, cs[j]? = some v → w.cell? (a.add j) = some v) (hfit : o + cs.length ≤ cur.size) (h1 : ∀ v ∈ cs, v.oneCell' = true) :
    (Builtin.copy_ #[dT, sT] ty #[.slice (some ⟨g, o, none⟩) dLen dCap, .slice (some a) sLen sCap]).run P w =
      .ok (goInt (Nat.min sLen dLen)) (w.setRow g (cur.toList.take o ++ cs ++ cur.toList.drop (o + cs.length)).toArray) := by
  have hl := run_loadCells_list (P := P) w a cs hsrc
  have hst := run_storeCells_at P g o t cs 0 cur w hg (by simpa using hfit) h1
  cases hq : P.info? elem with
  | none => simp [hq] at hs
  | some i =>
    have hi : i.size = sz := by simpa [hq] using hs
    simp [Builtin.copy_, run_underlying hu, Builtin.lenOf, Builtin.firstCells, sizeOf, typeInfo, hq, hi, ← hn, hl, hst]

theorem run_copy_nonez {P : Program} (w : World) (dT sT ty elem : TypeId) (d a : Option Addr) (dLen dCap sLen sCap sz : Nat) (hu : P.underlying dT = some (.slice elem)) (hs : (P.info? elem).map (·.size) = some sz) (hn : Nat.min sLen dLen = 0) :
    (Builtin.copy_ #[dT, sT] ty #[.slice d dLen dCap, .slice a sLen sCap]).run P w = .ok (goInt 0) w := by
  cases hq : P.info? elem with
  | none => simp [hq] at hs
  | some i =>
    have hi : i.size = sz := by simpa [hq] using hs
    cases d <;> cases a <;> simp [Builtin.copy_, run_underlying hu, Builtin.lenOf, Builtin.firstCells, sizeOf, typeInfo, hq, hn, storeCells, loadCells, loadCellsFrom]

/-- At a step of a region that draws its order. -/
theorem step_copyz {P : Program} {ops : Array Oper} {o : Oper} {a : Act} {w : World} {K : Act → World → Prop} {Q : Exit → Act → World → Prop} {E : Prop} (hgd : o.guard = none) (d s : Operand) (dT sT : TypeId)
    (ho : o.op = .call { callee := .builtin .copy, args := #[d, s], argTypes := #[dT, sT] }) (elem : TypeId) (sz : Nat) (hu : P.underlying dT = some (.slice elem)) (hsz : (P.info? elem).map (·.size) = some sz)
    (dp sp : Option Addr) (dLen dCap sLen sCap : Nat) (hd : a.eval d = .slice dp dLen dCap) (hs : a.eval s = .slice sp sLen sCap)
    (g off : Nat) (cur : List Value) (t : TypeId) (hg : w.heap[g]? = some (.cells cur.toArray t (0, 0))) (cs : List Value) (hn : cs.length = Nat.min sLen dLen * sz) (h0z : 0 < sz)
    (hpos : 0 < cs.length → dp = some ⟨g, off, none⟩ ∧ ∃ ad, sp = some ad ∧ ∀ j v, cs[j]? = some v → w.cell? (ad.add j) = some v)
    (hfit : off + cs.length ≤ cur.length) (h1 : ∀ v ∈ cs, v.oneCell' = true) (n : Nat) (hnn : Nat.min sLen dLen = n)
    (h : ∀ w', Hid (w'.heap[g]? = some (.cells (splice cur off cs).toArray t (0, 0))) → w.grownBy w' (some g) → w'.heap.size = w.heap.size → K (a.put o.dst (goInt n)) w') :
    if Region.wanted o (yielded ops a.tmps) = true then Oper.wp P o a w K Q else E := by
  have hw : Region.wanted o (yielded ops a.tmps) = true := by simp [Region.wanted, hgd]
  rw [if_pos hw]
  subst hnn
  by_cases h0 : Nat.min sLen dLen = 0
  · obtain rfl : cs = [] := List.eq_nil_of_length_eq_zero (by rw [hn, h0]; simp)
    have hrun := run_copy_nonez (P := P) w dT sT o.type elem dp sp dLen dCap sLen sCap sz hu hsz h0
    unfold Oper.wp
    simp [execOp, ho, resolve, invoke, builtin, hd, hs, hrun, Result.andThen]
    rw [h0] at h
    exact h w (show _ = _ by simpa [splice] using hg) ⟨rfl, rfl, rfl, Nat.le_refl _, fun _ _ _ => rfl⟩ rfl
  · have hcl : 0 < cs.length := by rw [hn]; exact Nat.mul_pos (by omega) h0z
    obtain ⟨rfl, ad, rfl, hsrc⟩ := hpos hcl
    have hrun := run_copy_rowz (P := P) w dT sT o.type elem g off dLen dCap ad sLen sCap sz cur.toArray t cs hu hsz hg hn hsrc (by simpa using hfit) h1
    unfold Oper.wp
    simp [execOp, ho, resolve, invoke, builtin, hd, hs, hrun, Result.andThen]
    exact h _ (show _ = _ by simpa [splice] using setRow_heap w g _ _ t _ hg) ⟨rfl, rfl, rfl, by simp [World.setRow], fun k _ hk => setRow_other w g k _ (by intro e; exact hk (by rw [e]))⟩ (by simp [World.setRow])

end Go.Proofs.YtildebflnmbefaaGreat

namespace Go.Proofs.YtildebflnmbefaaGreat
open Go.RowKit

/-- A row of cells that is known whole. -/
def RowAt (w : World) (g : Nat) (t : TypeId) (L : List Value) : Prop := w.heap[g]? = some (.cells L.toArray t (0, 0))

theorem RowAt.cell {w : World} {g : Nat} {t : TypeId} {L : List Value} (h : RowAt w g t L) (i : Nat) (v : Value) (hv : L[i]? = some v) : w.cell? ⟨g, i, none⟩ = some v := by
  simp [World.cell?, show w.heap[g]? = _ from h, hv]

theorem RowAt.frozen {w : World} {g : Nat} {t : TypeId} {L : List Value} (h : RowAt w g t L) (i : Nat) : w.frozen? ⟨g, i, none⟩ = false := by
  simp [World.frozen?, show w.heap[g]? = _ from h]

theorem RowAt.lt {w : World} {g : Nat} {t : TypeId} {L : List Value} (h : RowAt w g t L) : g < w.heap.size := (Array.getElem?_eq_some_iff.1 h).1

theorem RowAt.setCell {w : World} {g : Nat} {t : TypeId} {L : List Value} (h : RowAt w g t L) (i : Nat) (v : Value) : RowAt (w.setCell ⟨g, i, none⟩ v) g t (L.set i v) := by
  have hh : w.heap[g]? = _ := h
  show (w.setCell ⟨g, i, none⟩ v).heap[g]? = _
  simp only [World.setCell, Array.getElem?_modify]
  simp [hh]

theorem RowAt.setOther {w : World} {g : Nat} {t : TypeId} {L : List Value} (h : RowAt w g t L) (a : Addr) (v : Value) (hne : g ≠ a.block) : RowAt (w.setCell a v) g t L := by
  show (w.setCell a v).heap[g]? = _
  rw [Below.heap_setCell _ _ _ _ hne]; exact h

theorem RowAt.alloc {w : World} {g : Nat} {t : TypeId} {L : List Value} (h : RowAt w g t L) (o : Obj) : RowAt (w.alloc o) g t L := by
  show (w.alloc o).heap[g]? = _
  rw [Below.heap_alloc _ _ _ h.lt]; exact h

theorem RowAt.below {w w' : World} {g B : Nat} {t : TypeId} {L : List Value} (h : RowAt w g t L) (hb : Below B w w') (hB : w.heap.size ≤ B) : RowAt w' g t L := by
  show w'.heap[g]? = _
  rw [hb.block g (Nat.lt_of_lt_of_le h.lt hB)]; exact h

theorem rowAt_of_owns {w : World} {base g n cap : Nat} {ls : List (Int × Bool)} (h : w.ownsRow base 87 2 (.slice (some ⟨g, 0, none⟩) n cap) n (flat ls)) :
    ∃ r : List Value, RowAt w g 87 (flat ls ++ r) ∧ (flat ls ++ r).length = cap * 2 ∧ n ≤ cap ∧ cap ≤ maxLen ∧ base ≤ g := by
  obtain ⟨hl, hv⟩ := h
  rcases hv with ⟨e, _⟩ | ⟨g', cap', cur, e, hb, hg, hn, hm, hs, ht⟩
  · simp at e
  · simp only [Value.slice.injEq, Option.some.injEq, Addr.mk.injEq, and_true, true_and] at e
    obtain ⟨rfl, rfl⟩ := e
    refine ⟨cur.toList.drop (n * 2), ?_, ?_, hn, hm, hb⟩
    · show w.heap[g]? = _
      rw [← ht, List.take_append_drop]; simpa using hg
    · rw [← ht, List.take_append_drop]; simpa using hs

theorem owns_of_rowAt {w : World} {base g n cap : Nat} {ls : List (Int × Bool)} {r : List Value} (h : RowAt w g 87 (flat ls ++ r)) (hl : (flat ls ++ r).length = cap * 2) (hn : n ≤ cap) (hm : cap ≤ maxLen) (hb : base ≤ g) (hlen : ls.length = n) :
    w.ownsRow base 87 2 (.slice (some ⟨g, 0, none⟩) n cap) n (flat ls) := by
  have e : (flat ls).length = n * 2 := by rw [flat_len, hlen]
  refine ⟨e, .inr ⟨g, cap, (flat ls ++ r).toArray, rfl, hb, h, hn, hm, by simpa using hl, ?_⟩⟩
  simp [← e]

theorem Tryz.sz87 : (Tryz.prog.info? 87).map (·.size) = some 2 := by kernel_rfl

theorem cell_new (w : World) (n i : Nat) (cs : Array Value) (t : TypeId) (h : w.heap.size = n) : (w.alloc (.cells cs t)).cell? ⟨n, i, none⟩ = cs[i]? := by subst h; simp only [World.cell?]; rw [heap_alloc_new]; rfl

theorem grow_below {w w' : World} (g : Nat) (h : Below w.heap.size w w') : w.grownBy w' (some g) := ⟨h.os, h.tape, h.output, h.size, fun k hk _ => h.block k hk⟩
theorem grow_setCell (w : World) (g i : Nat) (v : Value) : w.grownBy (w.setCell ⟨g, i, none⟩ v) (some g) :=
  ⟨rfl, rfl, rfl, by simp [World.setCell], fun k _ hk => Below.heap_setCell _ _ _ _ (by intro e; exact hk (by rw [e]))⟩
theorem grow_drew (w : World) (row : Option Nat) : w.grownBy w.drew row := ⟨rfl, rfl, rfl, Nat.le_refl _, fun _ _ _ => rfl⟩

theorem addZ (g j : Nat) : (⟨g, 0, none⟩ : Addr).add j = ⟨g, j, none⟩ := by unfold Addr.add; split <;> simp_all

theorem RowAt.news {w : World} {g : Nat} {t : TypeId} {X Y : List Value} (h : RowAt w g t (X ++ Y)) : ∀ j v, X[j]? = some v → w.cell? ((⟨g, 0, none⟩ : Addr).add j) = some v := by
  intro j v hv
  rw [addZ]
  refine h.cell j v ?_
  rw [List.getElem?_append_left (List.getElem?_eq_some_iff.1 hv).1]; exact hv

theorem RowAt.ways {w : World} {g : Nat} {ls : List (Int × Bool)} {r : List Value} (h : RowAt w g 87 (flat ls ++ r)) : WaysIn w (some ⟨g, 0, none⟩) ls := by
  intro i hi
  obtain ⟨f1, f2⟩ := flat_at ls i hi
  have e1 : (0 + i * 2) = i * 2 := by omega
  refine ⟨g, 0, rfl, ?_, ?_⟩
  · rw [e1]; refine h.cell _ _ ?_
    rw [List.getElem?_append_left (List.getElem?_eq_some_iff.1 f1).1]; exact f1
  · rw [e1]; refine h.cell _ _ ?_
    rw [List.getElem?_append_left (List.getElem?_eq_some_iff.1 f2).1]; exact f2

end Go.Proofs.YtildebflnmbefaaGreat
