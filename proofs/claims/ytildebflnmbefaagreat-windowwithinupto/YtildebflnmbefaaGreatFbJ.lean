/- A keeper whose jobs, numbers and events lie in memory of their own: what is written, and what stays. -/
import Derived.Test.YtildebflnmbefaaGreatKf
import Derived.Test.YtildebflnmbefaaGreatKk
set_option linter.unusedVariables false
namespace Go.Proofs.YtildebflnmbefaaGreat
open Go.RowKit

/-- All blocks of w0 but those of X lie as they lay. -/
structure Keeps (X : Nat → Prop) (w0 w : World) : Prop where
  os : w.os = w0.os
  tape : w.tape = w0.tape
  output : w.output = w0.output
  size : w0.heap.size ≤ w.heap.size
  same : ∀ x, x < w0.heap.size → ¬ X x → w.heap[x]? = w0.heap[x]?
theorem Keeps.refl (X : Nat → Prop) (w : World) : Keeps X w w := ⟨rfl, rfl, rfl, Nat.le_refl _, fun _ _ _ => rfl⟩
theorem Keeps.below {X : Nat → Prop} {w0 w w' : World} (h : Keeps X w0 w) (hb : Below w.heap.size w w') : Keeps X w0 w' :=
  ⟨hb.os.trans h.os, hb.tape.trans h.tape, hb.output.trans h.output, Nat.le_trans h.size hb.size, fun x hx hn => (hb.block x (by have := h.size; omega)).trans (h.same x hx hn)⟩
theorem Keeps.grown {X : Nat → Prop} {w0 w w' : World} {row : Option Nat} (h : Keeps X w0 w) (hg : w.grownBy w' row) (hr : ∀ x, row = some x → X x ∨ w0.heap.size ≤ x) : Keeps X w0 w' :=
  ⟨hg.os.trans h.os, hg.tape.trans h.tape, hg.output.trans h.output, Nat.le_trans h.size hg.size, fun x hx hn => (hg.block x (by have := h.size; omega) (fun e => by rcases hr x e.symm with h' | h' <;> first | exact hn h' | omega)).trans (h.same x hx hn)⟩
theorem Keeps.set {X : Nat → Prop} {w0 w : World} (h : Keeps X w0 w) {g : Nat} (hg : X g ∨ w0.heap.size ≤ g) (o : Nat) (u : Value) : Keeps X w0 (w.setCell ⟨g, o, none⟩ u) :=
  ⟨h.os, h.tape, h.output, Nat.le_trans h.size (by simp), fun x hx hn => (heap_set_ne w g o u x (fun e => by subst e; rcases hg with h' | h' <;> first | exact hn h' | omega)).trans (h.same x hx hn)⟩

theorem Keeps.to_below {X : Nat → Prop} {w0 w : World} {n : Nat} (h : Keeps X w0 w) (hn : n ≤ w0.heap.size) (hX : ∀ x, X x → n ≤ x) : Below n w0 w :=
  ⟨h.os, h.tape, h.output, h.size, fun x hx => h.same x (by omega) (fun hh => by have := hX x hh; omega)⟩

theorem owns_set {w : World} {base e sz n cap g i : Nat} {xs : List Value} (h : w.ownsRow base e sz (.slice (some ⟨g, 0, none⟩) n cap) n xs) (u : Value) : (w.setCell ⟨g, i, none⟩ u).ownsRow base e sz (.slice (some ⟨g, 0, none⟩) n cap) n (xs.set i u) := by
  refine ⟨by rw [List.length_set]; exact h.1, ?_⟩
  rcases h.2 with ⟨q, _⟩ | ⟨g', cap', cur, e1, e2, e3, e4, e5, e6, e7⟩
  · cases q
  · cases e1
    refine .inr ⟨g, cap, cur.setIfInBounds i u, rfl, e2, set_atx e3, e4, e5, by simpa using e6, ?_⟩
    rw [Array.toList_setIfInBounds, List.take_set, e7]
theorem owns_heap {w : World} {base e sz n : Nat} {v : Value} {xs : List Value} (h : w.ownsRow base e sz v n xs) {k : Nat} (hk : v.ownBlock = some k) : ∃ cur, w.heap[k]? = some (.cells cur e (0, 0)) := by
  rcases h.2 with ⟨q, _⟩ | ⟨g', cap', cur, e1, e2, e3, r⟩
  · rw [q] at hk; cases hk
  · rw [e1] at hk
    simp only [Value.ownBlock, Option.some.injEq] at hk
    subst hk
    exact ⟨cur, e3⟩
theorem owns_apart {w : World} {base e e' sz sz' n n' : Nat} {v v' : Value} {xs xs' : List Value} (h : w.ownsRow base e sz v n xs) (h' : w.ownsRow base e' sz' v' n' xs') (hne : e ≠ e') : ∀ k, v.ownBlock = some k → v'.ownBlock ≠ some k := by
  intro k hk hk'
  obtain ⟨c, h1⟩ := owns_heap h hk
  obtain ⟨c', h2⟩ := owns_heap h' hk'
  rw [h1] at h2
  simp at h2
  exact hne h2.2
/-- A row of one's own that is not none begins where its block does. -/
theorem owns_zero {w : World} {base e sz n c : Nat} {a : Option Addr} {xs : List Value} (h : w.ownsRow base e sz (.slice a n c) n xs) (hn : 0 < n) : ∃ g, a = some ⟨g, 0, none⟩ ∧ (∃ cur, w.heap[g]? = some (.cells cur e (0, 0))) ∧ base ≤ g := by
  rcases h.2 with ⟨q, h0⟩ | ⟨g', cap', cur, e1, e2, e3, r⟩
  · omega
  · cases e1
    exact ⟨g', rfl, ⟨cur, e3⟩, e2⟩

/-- A keeper in memory: its jobs, numbers and events are its own; all else is of blocks that are not written. -/
structure KO (w0 : World) (X : Nat → Prop) (base kb : Nat) (w : World) (D : Dom) (A : DMem) (C : Conf) (B : Mem) (dn : Int) : Prop where
  ag : Keeps X w0 w
  row : RowAt w kb 96 (kl D A C B dn)
  j : w.ownsRow base 79 6 (.slice A.aJ D.jobs.length A.cJ) D.jobs.length (fJ D.jobs)
  r : w.ownsRow base 3 1 (.slice A.aR D.rel.length A.cR) D.rel.length (ivs D.rel)
  e : w.ownsRow base 45 4 (.slice A.aE D.evs.length A.cE) D.evs.length (fE D.evs)
  jx : ∀ x, (Value.slice A.aJ D.jobs.length A.cJ).ownBlock = some x → X x ∨ w0.heap.size ≤ x
  rx : ∀ x, (Value.slice A.aR D.rel.length A.cR).ownBlock = some x → X x ∨ w0.heap.size ≤ x
  ex : ∀ x, (Value.slice A.aE D.evs.length A.cE).ownBlock = some x → X x ∨ w0.heap.size ≤ x
  kx : X kb ∨ w0.heap.size ≤ kb
  xb : ∀ x, X x → base ≤ x
  b0 : base ≤ w0.heap.size
  lI : D.ins.length ≤ 9223372036854775807
  lT : D.tak.length ≤ 9223372036854775807
  lO : D.out.length ≤ 9223372036854775807
  con : ∀ w', Keeps X w0 w' → ConfIn w' B C
  rest : ∀ w' : World, (∀ x, base ≤ x → x < w0.heap.size → ¬ X x → w'.heap[x]? = w0.heap[x]?) → IntsIn w' A.aT D.tak ∧ RingsIn w' A.aI D.ins ∧ ListsIn w' A.aO D.out

section
variable {w0 w w1 : World} {X : Nat → Prop} {base kb : Nat} {D : Dom} {A : DMem} {C : Conf} {B : Mem} {dn : Int}
theorem KO.keepIn (h : KO w0 X base kb w D A C B dn) : KeepIn w kb D A C B dn := by
  have r1 := h.con w h.ag
  obtain ⟨r2, r3, r4⟩ := h.rest w (fun x _ h1 h2 => h.ag.same x h1 h2)
  exact ⟨h.row, ⟨jobsIn_of (owns_in h.j).1, intsIn_of (owns_in h.r).1, r3, r2, r4, evsIn_of (owns_in h.e).1, (owns_in h.j).2.2, (owns_in h.r).2.2, h.lI, h.lT, h.lO, (owns_in h.e).2.2⟩, r1⟩
theorem KO.below (h : KO w0 X base kb w D A C B dn) (hb : Below w.heap.size w w1) : KO w0 X base kb w1 D A C B dn :=
  ⟨h.ag.below hb, h.row.below hb (Nat.le_refl _), owns_below h.j hb, owns_below h.r hb, owns_below h.e hb, h.jx, h.rx, h.ex, h.kx, h.xb, h.b0, h.lI, h.lT, h.lO, h.con, h.rest⟩
/-- The domain in memory, whatever lies ahead of its own. -/
theorem KO.dom (h : KO w0 X base kb w D A C B dn) (hk : ∀ x, base ≤ x → w1.heap[x]? = w.heap[x]?) : DomIn w1 A D := by
  obtain ⟨r2, r3, r4⟩ := h.rest w1 (fun x h0 h1 h2 => (hk x h0).trans (h.ag.same x h1 h2))
  have j := owns_in (owns_agree (w' := w1) h.j (fun x hx => hk x (owns_ge h.j x hx)))
  have r := owns_in (owns_agree (w' := w1) h.r (fun x hx => hk x (owns_ge h.r x hx)))
  have e := owns_in (owns_agree (w' := w1) h.e (fun x hx => hk x (owns_ge h.e x hx)))
  exact ⟨jobsIn_of j.1, intsIn_of r.1, r3, r2, r4, evsIn_of e.1, j.2.2, r.2.2, h.lI, h.lT, h.lO, e.2.2⟩
/-- A block that is no cells is turned. -/
theorem KO.turned (h : KO w0 X base kb w D A C B dn) {row : Option Nat} (hg : w.grownBy w1 row) (hr : ∀ x, row = some x → w0.heap.size ≤ x ∧ ∃ o : Obj, w.heap[x]? = some o ∧ o.isCells = false) : KO w0 X base kb w1 D A C B dn := by
  have ne : ∀ {x : Nat} {cur : Array Value} {t : TypeId} {fz : Nat × Nat}, w.heap[x]? = some (.cells cur t fz) → some x ≠ row := fun hx e => by
    obtain ⟨_, o, h1, h2⟩ := hr _ e.symm
    rw [hx] at h1
    simp only [Option.some.injEq] at h1
    subst h1
    cases h2
  have ow : ∀ {e sz n : Nat} {v : Value} {xs : List Value}, w.ownsRow base e sz v n xs → w1.ownsRow base e sz v n xs := fun o => owns_agree o (fun x hx => by
    obtain ⟨cur, hc⟩ := owns_heap o hx
    exact hg.block x (owns_lt o x hx) (ne hc))
  exact ⟨h.ag.grown hg (fun x hx => .inr (hr x hx).1), (hg.block kb (Array.getElem?_eq_some_iff.1 h.row).1 (ne h.row)).trans h.row, ow h.j, ow h.r, ow h.e, h.jx, h.rx, h.ex, h.kx, h.xb, h.b0, h.lI, h.lT, h.lO, h.con, h.rest⟩
theorem KO.kb_lt (h : KO w0 X base kb w D A C B dn) : kb < w.heap.size := (Array.getElem?_eq_some_iff.1 h.row).1
theorem KO.base_kb (h : KO w0 X base kb w D A C B dn) : base ≤ kb := by
  rcases h.kx with h' | h'
  · exact h.xb kb h'
  · have := h.b0; omega

/-- An event is told. -/
theorem KO.told (h : KO w0 X base kb w D A C B dn) {a' : Option Addr} {c' : Nat} {E : List EvT} (hg : w.grownBy w1 (Value.slice A.aE D.evs.length A.cE).ownBlock) (ho : w1.ownsRow base 45 4 (.slice a' E.length c') E.length (fE E))
    (hat : ∀ x, (Value.slice a' E.length c').ownBlock = some x → (Value.slice A.aE D.evs.length A.cE).ownBlock = some x ∨ w.heap.size ≤ x) :
    KO w0 X base kb (w1.setCell ⟨kb, 6, none⟩ (.slice a' E.length c')) ⟨D.jobs, D.rel, D.nxt, D.ins, D.tak, D.out, E⟩ ⟨A.aJ, A.aR, A.aI, A.aT, A.aO, a', A.cJ, A.cR, A.cI, A.cT, A.cO, c'⟩ C B dn := by
  have hk1 : RowAt w1 kb 96 (kl D A C B dn) := (hg.block kb h.kb_lt (fun e => owns_ne h.e h.row (by decide) kb e.symm rfl)).trans h.row
  have j1 := owns_agree (w' := w1) h.j (fun x hx => hg.block x (owns_lt h.j x hx) (fun e => owns_apart h.j h.e (by decide) x hx e.symm))
  have r1 := owns_agree (w' := w1) h.r (fun x hx => hg.block x (owns_lt h.r x hx) (fun e => owns_apart h.r h.e (by decide) x hx e.symm))
  have hs := h.ag.size
  refine ⟨(h.ag.grown hg h.ex).set h.kx 6 _, rowAt_set1 hk1 6 _, owns_agree j1 (fun x hx => heap_set_ne _ _ _ _ x (owns_ne j1 hk1 (by decide) x hx)), owns_agree r1 (fun x hx => heap_set_ne _ _ _ _ x (owns_ne r1 hk1 (by decide) x hx)), owns_agree ho (fun x hx => heap_set_ne _ _ _ _ x (owns_ne ho hk1 (by decide) x hx)), h.jx, h.rx, fun x hx => ?_, h.kx, h.xb, h.b0, h.lI, h.lT, h.lO, h.con, h.rest⟩
  rcases hat x hx with h' | h'
  · exact h.ex x h'
  · exact .inr (by omega)
/-- A job is added. -/
theorem KO.pushed (h : KO w0 X base kb w D A C B dn) {a' : Option Addr} {c' : Nat} {J : List JobT} (hg : w.grownBy w1 (Value.slice A.aJ D.jobs.length A.cJ).ownBlock) (ho : w1.ownsRow base 79 6 (.slice a' J.length c') J.length (fJ J))
    (hat : ∀ x, (Value.slice a' J.length c').ownBlock = some x → (Value.slice A.aJ D.jobs.length A.cJ).ownBlock = some x ∨ w.heap.size ≤ x) :
    KO w0 X base kb (w1.setCell ⟨kb, 0, none⟩ (.slice a' J.length c')) ⟨J, D.rel, D.nxt, D.ins, D.tak, D.out, D.evs⟩ ⟨a', A.aR, A.aI, A.aT, A.aO, A.aE, c', A.cR, A.cI, A.cT, A.cO, A.cE⟩ C B dn := by
  have hk1 : RowAt w1 kb 96 (kl D A C B dn) := (hg.block kb h.kb_lt (fun e => owns_ne h.j h.row (by decide) kb e.symm rfl)).trans h.row
  have e1 := owns_agree (w' := w1) h.e (fun x hx => hg.block x (owns_lt h.e x hx) (fun e => owns_apart h.e h.j (by decide) x hx e.symm))
  have r1 := owns_agree (w' := w1) h.r (fun x hx => hg.block x (owns_lt h.r x hx) (fun e => owns_apart h.r h.j (by decide) x hx e.symm))
  have hs := h.ag.size
  refine ⟨(h.ag.grown hg h.jx).set h.kx 0 _, rowAt_set1 hk1 0 _, owns_agree ho (fun x hx => heap_set_ne _ _ _ _ x (owns_ne ho hk1 (by decide) x hx)), owns_agree r1 (fun x hx => heap_set_ne _ _ _ _ x (owns_ne r1 hk1 (by decide) x hx)), owns_agree e1 (fun x hx => heap_set_ne _ _ _ _ x (owns_ne e1 hk1 (by decide) x hx)), fun x hx => ?_, h.rx, h.ex, h.kx, h.xb, h.b0, h.lI, h.lT, h.lO, h.con, h.rest⟩
  rcases hat x hx with h' | h'
  · exact h.jx x h'
  · exact .inr (by omega)

/-- A keeper of a copy. -/
theorem KO.start {gI gO m p q : Nat} (hown : DomOwn base w A D gI gO m p q) (hrow : RowAt w kb 96 (kl D A C B dn)) (hkb : base ≤ kb) (hkm : kb < m ∨ q ≤ kb) (hbw : base ≤ w.heap.size) (hC : ∀ w', Below base w w' → ConfIn w' B C) (hI : D.ins.length ≤ 9223372036854775807) (hO : D.out.length ≤ 9223372036854775807) :
    KO w (fun x => x = kb ∨ (Value.slice A.aJ D.jobs.length A.cJ).ownBlock = some x ∨ (Value.slice A.aR D.rel.length A.cR).ownBlock = some x ∨ (Value.slice A.aE D.evs.length A.cE).ownBlock = some x) base kb w D A C B dn := by
  have hX : ∀ x, (x = kb ∨ (Value.slice A.aJ D.jobs.length A.cJ).ownBlock = some x ∨ (Value.slice A.aR D.rel.length A.cR).ownBlock = some x ∨ (Value.slice A.aE D.evs.length A.cE).ownBlock = some x) → base ≤ x := fun x hx => by
    rcases hx with rfl | hx | hx | hx
    · exact hkb
    · exact owns_ge hown.j x hx
    · exact owns_ge hown.r x hx
    · exact owns_ge hown.e x hx
  have hm := hown.mp
  have hbI := hown.bI
  have hbO := hown.bO
  have inner : ∀ x, m ≤ x → x < q → ¬ (x = kb ∨ (Value.slice A.aJ D.jobs.length A.cJ).ownBlock = some x ∨ (Value.slice A.aR D.rel.length A.cR).ownBlock = some x ∨ (Value.slice A.aE D.evs.length A.cE).ownBlock = some x) := fun x h1 h2 hx => by
    rcases hx with rfl | hx | hx | hx
    · omega
    · have := hown.lt x (.inl hx); omega
    · have := hown.lt x (.inr (.inl hx)); omega
    · have := hown.lt x (.inr (.inr (.inr hx))); omega
  have outer : ∀ {x : Nat} {cur : List Value} {t : TypeId}, RowAt w x t cur → t ≠ 96 → t ≠ 79 → t ≠ 3 → t ≠ 45 → ¬ (x = kb ∨ (Value.slice A.aJ D.jobs.length A.cJ).ownBlock = some x ∨ (Value.slice A.aR D.rel.length A.cR).ownBlock = some x ∨ (Value.slice A.aE D.evs.length A.cE).ownBlock = some x) := fun {x cur t} hx n1 n2 n3 n4 hh => by
    rcases hh with rfl | hh | hh | hh
    · have h1 : w.heap[x]? = _ := hx
      have h2 : w.heap[x]? = _ := hrow
      rw [h1] at h2
      simp at h2
      exact n1 h2.2
    · exact owns_ne hown.j hx (Ne.symm n2) x hh rfl
    · exact owns_ne hown.r hx (Ne.symm n3) x hh rfl
    · exact owns_ne hown.e hx (Ne.symm n4) x hh rfl
  refine ⟨Keeps.refl _ _, hrow, hown.j, hown.r, hown.e, fun x hx => .inl (.inr (.inl hx)), fun x hx => .inl (.inr (.inr (.inl hx))), fun x hx => .inl (.inr (.inr (.inr hx))), .inl (.inl rfl), hX, hbw, hI, (owns_in hown.t).2.2, hO, fun w' hw' => hC w' (hw'.to_below hbw hX), fun w' hw' => ⟨?_, ?_, ?_⟩⟩
  · refine intsIn_of (owns_in (owns_agree hown.t (fun x hx => hw' x (owns_ge hown.t x hx) (owns_lt hown.t x hx) (fun hh => ?_)))).1
    rcases hh with rfl | hh | hh | hh
    · exact owns_ne hown.t hrow (by decide) x hx rfl
    · exact owns_apart hown.t hown.j (by decide) x hx hh
    · exact hown.rt x hh hx
    · exact owns_apart hown.t hown.e (by decide) x hx hh
  · rw [hown.aI]
    refine (hown.i.agree (fun x hx => ?_)).rings
    rcases hx with rfl | ⟨h1, h2⟩
    · obtain ⟨cs, v, hr, _⟩ := hown.i
      exact hw' x (by omega) (by omega) (outer hr (by decide) (by decide) (by decide) (by decide))
    · exact hw' x (by omega) (by omega) (inner x h1 (by omega))
  · rw [hown.aO]
    refine (hown.o.agree (fun x hx => ?_)).lists
    rcases hx with rfl | ⟨h1, h2⟩
    · obtain ⟨cs, v, hr, _⟩ := hown.o
      exact hw' x (by omega) (by omega) (outer hr (by decide) (by decide) (by decide) (by decide))
    · exact hw' x (by omega) (by omega) (inner x (by omega) h2)

theorem ivs_set (L : List Int) (k : Nat) (n : Int) : (ivs L).set k (.int .i64 n) = ivs (L.set k n) := by
  simp [ivs, List.map_set]
/-- A number of Released is written. -/
theorem KO.setRel (h : KO w0 X base kb w D A C B dn) {g : Nat} (hg : A.aR = some ⟨g, 0, none⟩) (k : Nat) (n : Int) :
    KO w0 X base kb (w.setCell ⟨g, k, none⟩ (.int .i64 n)) ⟨D.jobs, D.rel.set k n, D.nxt, D.ins, D.tak, D.out, D.evs⟩ A C B dn := by
  have hb : (Value.slice A.aR D.rel.length A.cR).ownBlock = some g := by rw [hg]; rfl
  have hr := h.r
  rw [hg] at hr
  have hl : (D.rel.set k n).length = D.rel.length := List.length_set
  refine ⟨h.ag.set (h.rx g hb) k _, ?_, owns_agree h.j (fun x hx => heap_set_ne _ _ _ _ x (fun e => by subst e; exact owns_apart h.j h.r (by decide) x hx hb)), ?_, owns_agree h.e (fun x hx => heap_set_ne _ _ _ _ x (fun e => by subst e; exact owns_apart h.e h.r (by decide) x hx hb)), h.jx, ?_, h.ex, h.kx, h.xb, h.b0, h.lI, h.lT, h.lO, h.con, h.rest⟩
  · have : kl ⟨D.jobs, D.rel.set k n, D.nxt, D.ins, D.tak, D.out, D.evs⟩ A C B dn = kl D A C B dn := by simp only [kl, hl]
    rw [this]
    exact (heap_set_ne _ _ _ _ kb (fun e => owns_ne h.r h.row (by decide) g hb e.symm)).trans h.row
  · have := owns_set (i := k) hr (.int .i64 n)
    rw [ivs_set] at this
    dsimp only
    rw [hl, hg]
    exact this
  · dsimp only
    rw [hl]
    exact h.rx
theorem flat_set (J : List JobT) (i r : Nat) (j j' : JobT) (u : Value) (hi : J[i]? = some j) (hr : r < 6) (hj : (jc j).set r u = jc j') : (fJ J).set (i * 6 + r) u = fJ (J.set i j') := by
  induction J generalizing i with
  | nil => simp at hi
  | cons x t ih =>
    cases i with
    | zero =>
      simp at hi
      subst hi
      have : fJ (x :: t) = jc x ++ fJ t := rfl
      rw [this, List.set_cons_zero, show fJ (j' :: t) = jc j' ++ fJ t from rfl, ← hj, List.set_append_left _ _ (by rw [show (jc x).length = 6 from rfl]; omega)]
      simp
    | succ i =>
      have h2 := ih i (by simpa using hi)
      have : fJ (x :: t) = jc x ++ fJ t := rfl
      rw [this, List.set_cons_succ, show fJ (x :: t.set i j') = jc x ++ fJ (t.set i j') from rfl, ← h2, List.set_append_right _ _ (by rw [show (jc x).length = 6 from rfl]; omega)]
      congr 2
      rw [show (jc x).length = 6 from rfl]; omega
/-- A job is marked. -/
theorem KO.setJob (h : KO w0 X base kb w D A C B dn) {g : Nat} (hg : A.aJ = some ⟨g, 0, none⟩) (i : Nat) (j : JobT) (hj : D.jobs[i]? = some j) :
    KO w0 X base kb (w.setCell ⟨g, i * 6 + 5, none⟩ (.bool true)) ⟨D.jobs.set i (markJ j), D.rel, D.nxt, D.ins, D.tak, D.out, D.evs⟩ A C B dn := by
  have hb : (Value.slice A.aJ D.jobs.length A.cJ).ownBlock = some g := by rw [hg]; rfl
  have hr := h.j
  rw [hg] at hr
  have hl : (D.jobs.set i (markJ j)).length = D.jobs.length := List.length_set
  refine ⟨h.ag.set (h.jx g hb) _ _, ?_, ?_, owns_agree h.r (fun x hx => heap_set_ne _ _ _ _ x (fun e => by subst e; exact owns_apart h.r h.j (by decide) x hx hb)), owns_agree h.e (fun x hx => heap_set_ne _ _ _ _ x (fun e => by subst e; exact owns_apart h.e h.j (by decide) x hx hb)), ?_, h.rx, h.ex, h.kx, h.xb, h.b0, h.lI, h.lT, h.lO, h.con, h.rest⟩
  · have : kl ⟨D.jobs.set i (markJ j), D.rel, D.nxt, D.ins, D.tak, D.out, D.evs⟩ A C B dn = kl D A C B dn := by simp only [kl, hl]
    rw [this]
    exact (heap_set_ne _ _ _ _ kb (fun e => owns_ne h.j h.row (by decide) g hb e.symm)).trans h.row
  · have := owns_set (i := i * 6 + 5) hr (.bool true)
    have e5 : (fJ D.jobs).set (i * 6 + 5) (.bool true) = fJ (D.jobs.set i (markJ j)) := flat_set D.jobs i 5 j (markJ j) _ hj (by omega) rfl
    rw [e5] at this
    dsimp only
    rw [hl, hg]
    exact this
  · dsimp only
    rw [hl]
    exact h.jx
end

end Go.Proofs.YtildebflnmbefaaGreat
