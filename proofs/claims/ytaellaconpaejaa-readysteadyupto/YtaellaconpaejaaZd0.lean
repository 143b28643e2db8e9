/- Rows and boxes behind a store; what holds at the end of a domain's copy's first statement. -/
import Derived.Test.YtaellaconpaejaaZc
import Derived.Deep.OwnRows
import Derived.Deep.MidRow
set_option linter.unusedVariables false
namespace Go.Proofs.Ytaellaconpaejaa
open Go.RowKit

theorem dep_of {o : Oper} {l : Array Bool} (h : ∀ e ∈ o.after, Region.binds .any e = true → l.getD e.on false = true) (k : Nat) (hk : (o.after.any fun e => Region.binds .any e && e.on == k) = true) : l.getD k false = true := by
  obtain ⟨i, hi, he⟩ := Array.any_eq_true.1 hk
  simp only [Bool.and_eq_true, beq_iff_eq] at he
  have := h o.after[i] (Array.getElem_mem hi) he.1
  rwa [he.2] at this
theorem owns_lt {w : World} {base e sz n : Nat} {v : Value} {xs : List Value} (h : w.ownsRow base e sz v n xs) : ∀ g, v.ownBlock = some g → g < w.heap.size := fun g hg => (h.lt g hg).2
theorem owns_ge {w : World} {base e sz n : Nat} {v : Value} {xs : List Value} (h : w.ownsRow base e sz v n xs) : ∀ g, v.ownBlock = some g → base ≤ g := fun g hg => (h.lt g hg).1

theorem heap_setCells_ne (g : Nat) : ∀ (vs : List Value) (o : Nat) (w : World) (k : Nat), k ≠ g → (w.setCells g o vs).heap[k]? = w.heap[k]?
  | [], _, _, _, _ => rfl
  | v :: vs, o, w, k, h => (heap_setCells_ne g vs (o + 1) (w.setCell ⟨g, o, none⟩ v) k h).trans (Below.heap_setCell _ _ _ k (fun e => h e))
theorem set_atx {W : World} {B o : Nat} {xs : Array Value} {ty : TypeId} {v' : Value} (h : W.heap[B]? = some (.cells xs ty (0, 0))) : (W.setCell ⟨B, o, none⟩ v').heap[B]? = some (.cells (xs.setIfInBounds o v') ty (0, 0)) := by
  obtain ⟨hlt, hk⟩ := Array.getElem?_eq_some_iff.1 h
  show (W.heap.modify B _)[B]? = _
  rw [Array.getElem?_eq_getElem (by rw [Array.size_modify]; exact hlt), Array.getElem_modify_self, hk]
  rfl
theorem row_setCells {g : Nat} {t : TypeId} : ∀ (vs pre post : List Value) (w : World), w.heap[g]? = some (.cells (pre ++ post).toArray t (0, 0)) → post.length = vs.length → (w.setCells g pre.length vs).heap[g]? = some (.cells (pre ++ vs).toArray t (0, 0))
  | [], pre, post, w, h, hl => by
    have : post = [] := List.length_eq_zero_iff.1 hl
    subst this
    exact h
  | v :: vs, pre, [], w, h, hl => by simp at hl
  | v :: vs, pre, p :: post, w, h, hl => by
    have h1 := set_atx (o := pre.length) (v' := v) h
    have e : (pre ++ p :: post).toArray.setIfInBounds pre.length v = ((pre ++ [v]) ++ post).toArray := by simp
    rw [e] at h1
    have h2 := row_setCells vs (pre ++ [v]) post (w.setCell ⟨g, pre.length, none⟩ v) h1 (by simpa using hl)
    simpa [World.setCells] using h2
theorem there_row {w : World} {g : Nat} {t : TypeId} {L : List Value} (h : RowAt w g t L) : w.there g 0 L.length := by
  intro j hj
  rw [Nat.zero_add]
  exact ⟨by rw [h.cell j L[j] (by simp [hj])]; rfl, h.frozen j⟩
theorem below_setCellsx {B : Nat} {a w : World} (h : Below B a w) (g : Nat) (hg : B ≤ g) : ∀ (vs : List Value) (o : Nat), Below B a (w.setCells g o vs) := by
  intro vs
  induction vs generalizing w with
  | nil => intro o; exact h
  | cons v vs ih => intro o; exact ih (h.setCell (p := ⟨g, o, none⟩) hg v) (o + 1)
theorem owns_agree {w w' : World} {base e sz n : Nat} {v : Value} {xs : List Value} (h : w.ownsRow base e sz v n xs) (hk : ∀ k, v.ownBlock = some k → w'.heap[k]? = w.heap[k]?) : w'.ownsRow base e sz v n xs := by
  refine ⟨h.1, ?_⟩
  rcases h.2 with q | ⟨g, cap, cur, e1, e2, e3, r⟩
  · exact .inl q
  · exact .inr ⟨g, cap, cur, e1, e2, by rw [hk g (by rw [e1]; rfl)]; exact e3, r⟩
theorem owns_ne {w : World} {base e sz n g t : Nat} {v : Value} {xs L : List Value} (h : w.ownsRow base e sz v n xs) (hr : RowAt w g t L) (hne : e ≠ t) : ∀ k, v.ownBlock = some k → k ≠ g := by
  intro k hk e0
  subst e0
  rcases h.2 with ⟨q, _⟩ | ⟨g', cap, cur, e1, e2, e3, r⟩
  · rw [q] at hk; cases hk
  · rw [e1] at hk
    simp only [Value.ownBlock, Option.some.injEq] at hk
    subst hk
    rw [show w.heap[g']? = _ from hr] at e3
    simp at e3
    exact hne e3.2.symm

theorem step_run {P : Program} {o : Oper} {a : Act} {w : World} {K : Act → World → Prop} {Q : Exit → Act → World → Prop} {v : Value}
    (hrun : (execOp a.eval o).run P w = .ok (.value v) w) (h : K (a.put o.dst v) w) : Oper.wp P o a w K Q := by
  unfold Oper.wp
  rw [hrun]
  exact h

theorem all_set {l : Array Bool} (h : l.size = 25 ∧ ∀ i, i < 24 → l.getD i false = true) : ∀ i, i < 25 → (l.setIfInBounds 24 true).getD i false = true := by
  intro i hi
  by_cases e : i = 24
  · subst e; exact getD_set_self (by omega)
  · exact getD_set_true (h.2 i (by omega))
theorem all_of {D : Dom} {A : DMem} {W : World} {db : Nat} {l : Array Bool} {x : Nat → Value} {w : World} {o : Oper} (h : RP D A W db l x w) (hdep : ∀ e ∈ o.after, Region.binds .any e = true → l.getD e.on false = true) (hk : ((List.range 24).all fun k => o.after.any fun e => Region.binds .any e && e.on == k) = true := by kernel_rfl) : l.size = 25 ∧ ∀ i, i < 24 → l.getD i false = true :=
  ⟨h.sz, fun i hi => dep_of hdep i (List.all_eq_true.1 hk i (List.mem_range.2 hi))⟩

/-- What holds at the region's end. -/
structure DC (D : Dom) (W : World) (x : Nat → Value) (w : World) (g : Nat) : Prop where
  b : Below W.heap.size W w
  e : x 3 = .pointer (some ⟨g, 0, none⟩)
  hg : W.heap.size ≤ g
  box : RowAt w g 90 [x 10, x 13, .int .i64 D.nxt, x 19, x 22, x 26, x 29]
  j : w.ownsRow W.heap.size 106 6 (x 10) D.jobs.length (fJ D.jobs)
  r : w.ownsRow W.heap.size 3 1 (x 13) D.rel.length (ivs D.rel)
  i : Made2 W.heap.size w (x 19) D.ins.length
  t : w.ownsRow W.heap.size 3 1 (x 22) D.tak.length (ivs D.tak)
  rt : ∀ g, (x 13).ownBlock = some g → (x 22).ownBlock ≠ some g
  o : Made1 W.heap.size w (x 26) D.out.length
  ev : w.ownsRow W.heap.size 150 4 (x 29) D.evs.length (fE D.evs)

theorem Try.info63x : (Try.prog.info? 63).map (fun i => (i.zero, i.size, i.bytes)) = some (some (.agg #[.slice none 0 0, .int .i64 0]), 2, 32) := by kernel_rfl
theorem Try.info42x : (Try.prog.info? 42).map (fun i => (i.zero, i.size, i.bytes)) = some (some (.slice none 0 0), 1, 24) := by kernel_rfl
theorem make87_any (n : Nat) (h : n ≤ 1000000000000) (w : World) : (Instr.makeSlice 87 (.int .i64 (n : Int)) (.int .i64 (n : Int))).run Try.prog w = .ok (.slice (some ⟨w.heap.size, 0, none⟩) n n) (w.alloc (.cells (madeCells #[.slice none 0 0, .int .i64 0] (n * 2)) 63)) := by
  obtain ⟨i, hi, hz, hs, hb⟩ := infoOf Try.info63x
  have := run_make (P := Try.prog) w 87 63 i _ Try.underlying87 hi hz .i64 .i64 n n (by omega) (by omega) (by rw [hb]; omega) (by omega)
  rw [hs] at this
  simp only [show (Value.agg #[Value.slice none 0 0, Value.int IntKind.i64 0]).cells = #[Value.slice none 0 0, Value.int IntKind.i64 0] from rfl, Int.toNat_natCast] at this
  exact this
theorem make83_any (n : Nat) (h : n ≤ 1000000000000) (w : World) : (Instr.makeSlice 83 (.int .i64 (n : Int)) (.int .i64 (n : Int))).run Try.prog w = .ok (.slice (some ⟨w.heap.size, 0, none⟩) n n) (w.alloc (.cells (madeCells #[.slice none 0 0] n) 42)) :=
  run_make_row' (P := Try.prog) 83 42 (.slice none 0 0) 24 Try.underlying83 Try.info42x rfl .i64 .i64 n (by omega) (by omega) w

end Go.Proofs.Ytaellaconpaejaa
