/- Walks: an event is told. -/
import Derived.Test.YtaellaconpaejaaFb
set_option linter.unusedVariables false
namespace Go.Proofs.Ytaellaconpaejaa
open Go.RowKit

/-- An append of things that lie in a block from its beginning on, at a step of a region that draws its order. -/
theorem step_appG {ops : Array Oper} {o : Oper} {a : Act} {w : World} {K : Act → World → Prop} {Q : Exit → Act → World → Prop} {E : Prop} (hgd : o.guard = none) (s x : Operand) (t e : TypeId)
    (ho : o.op = .call { callee := .builtin .append, args := #[s, x], argTypes := #[t, t] }) (z : Value) (sz by_ : Nat) (ht : Try.prog.underlying t = some (.slice e)) (hI : (Try.prog.info? e).map (fun i => (i.zero, i.size, i.bytes)) = some (some z, sz, by_)) (hzs : z.cells.size = sz) (hsz : 0 < sz)
    (base : Nat) (v : Value) (n : Nat) (xs : List Value) (hs : a.eval s = v) (hown : w.ownsRow base e sz v n xs)
    (b m c : Nat) (news : List Value) (hx : a.eval x = .slice (some ⟨b, 0, none⟩) m c) (hl : news.length = m * sz) (hrow : ∀ j u, news[j]? = some u → w.cell? ⟨b, j, none⟩ = some u) (h1 : ∀ u ∈ news, u.oneCell' = true) (hm : 0 < m) (h63 : n + m ≤ maxLen) (hbytes : (n + m) * by_ ≤ 140737488355328) (hbase : base ≤ w.heap.size)
    (h : ∀ g cap w', w'.ownsRow base e sz (.slice (some ⟨g, 0, none⟩) (n + m) cap) (n + m) (xs ++ news) → w.grownBy w' v.ownBlock → (v.ownBlock = some g ∨ g = w.heap.size) → K (a.put o.dst (.slice (some ⟨g, 0, none⟩) (n + m) cap)) w') :
    if Region.wanted o (yielded ops a.tmps) = true then Oper.wp Try.prog o a w K Q else E := by
  obtain ⟨i3, hi, hz, hsz', hby⟩ := infoOf hI
  refine step_append_lies w hgd s x t ho base e i3 z sz by_ ht hi hz hsz' hby hzs hsz v n xs hs hown ⟨b, 0, none⟩ m c news hx hl (fun j u hu => ?_) h1 hm h63 hbytes hbase w.heap.size rfl (fun g cap w' h1 h2 h3 _ => h g cap w' h1 h2 h3)
  rw [addZ]
  exact hrow j u hu

theorem keepsOthers_below {w w' : World} (h : Below w.heap.size w w') : KeepsOthers w w' :=
  ⟨h.size, fun k o hk _ => (h.block k (Array.getElem?_eq_some_iff.1 hk).1).trans hk⟩
theorem keepsOthers_grown {w w' : World} {row : Option Nat} (h : w.grownBy w' row) (hr : ∀ x, row = some x → ∃ cur t, w.heap[x]? = some (.cells cur t (0, 0))) : KeepsOthers w w' :=
  ⟨h.size, fun k o hk ho => (h.block k (Array.getElem?_eq_some_iff.1 hk).1 (fun e => by
    obtain ⟨cur, t, h1⟩ := hr k e.symm
    rw [hk] at h1
    simp only [Option.some.injEq] at h1
    subst h1
    cases ho)).trans hk⟩
theorem keepsOthers_own {w w' : World} {base e sz n : Nat} {v : Value} {xs : List Value} (h : w.grownBy w' v.ownBlock) (ho : w.ownsRow base e sz v n xs) : KeepsOthers w w' :=
  keepsOthers_grown h (fun x hx => by obtain ⟨c, hc⟩ := owns_heap ho hx; exact ⟨c, e, hc⟩)

set_option maxRecDepth 100000 in
set_option maxHeartbeats 1000000 in
theorem tell_ok (w0 : World) (X : Nat → Prop) (base kb : Nat) (D : Dom) (A : DMem) (C : Conf) (B : Mem) (dn tt kd : Int) (j : JobT) (w : World) (h : KO w0 X base kb w D A C B dn) (hl : D.evs.length ≤ 1000000000) :
    Calls Try.prog 136 #[.pointer (some ⟨kb, 0, none⟩), .int .i64 tt, .int .i64 kd, jv j] w fun e w' => e = .returned (.tuple #[]) ∧ (∃ a' c', KO w0 X base kb w' ⟨D.jobs, D.rel, D.nxt, D.ins, D.tak, D.out, D.evs ++ [(tt, kd, j.1, j.2.1)]⟩ ⟨A.aJ, A.aR, A.aI, A.aT, A.aO, a', A.cJ, A.cR, A.cI, A.cT, A.cO, c'⟩ C B dn) ∧ KeepsOthers w w' := by
  obtain ⟨j0, j1, j2, j3, j4, j5⟩ := j
  dsimp only [jv] at *
  have q1 := below_new w (.cells #[.int .i64 j0, .int .i64 j1, .int .i64 j2, .int .i64 j3, .bool j4, .bool j5] 106)
  have h1 := h.below q1
  have HB1 := hid q1
  have hbs : base ≤ w.heap.size := by have := h.base_kb; have := h.kb_lt; omega
  clear q1 h
  have c6 := h1.row.cell 6 _ rfl
  have hbA : Below (w.alloc (.cells #[.int .i64 j0, .int .i64 j1, .int .i64 j2, .int .i64 j3, .bool j4, .bool j5] 106)).heap.size (w.alloc (.cells #[.int .i64 j0, .int .i64 j1, .int .i64 j2, .int .i64 j3, .bool j4, .bool j5] 106)) ((w.alloc (.cells #[.int .i64 j0, .int .i64 j1, .int .i64 j2, .int .i64 j3, .bool j4, .bool j5] 106)).alloc (.cells #[.int .i64 tt, .int .i64 kd, .int .i64 j0, .int .i64 j1] 150)).drew := (below_new _ _).drew
  have HA := hid (h1.below hbA)
  have HBA := hid (btrans HB1.out hbA)
  have RE : Hid (RowAt ((w.alloc (.cells #[.int .i64 j0, .int .i64 j1, .int .i64 j2, .int .i64 j3, .bool j4, .bool j5] 106)).alloc (.cells #[.int .i64 tt, .int .i64 kd, .int .i64 j0, .int .i64 j1] 150)).drew (w.heap.size + 1) 150 [.int .i64 tt, .int .i64 kd, .int .i64 j0, .int .i64 j1]) := hid (rowAt_new2 (w.alloc (.cells #[.int .i64 j0, .int .i64 j1, .int .i64 j2, .int .i64 j3, .bool j4, .bool j5] 106)) (w.heap.size + 1) [.int .i64 tt, .int .i64 kd, .int .i64 j0, .int .i64 j1] 150 (by simp))
  have c6' : ∀ o, ((w.alloc (.cells #[.int .i64 j0, .int .i64 j1, .int .i64 j2, .int .i64 j3, .bool j4, .bool j5] 106)).alloc o).cell? ⟨kb, 6, none⟩ = some (.slice A.aE D.evs.length A.cE) := fun o => cell_old o c6
  clear hbA h1
  obtain ⟨aJ, aR, aI, aT, aO, aE, cJ, cR, cI, cT, cO, cE⟩ := A
  dsimp only at *
  go_enter Try.func136, Try.ntmps136
  go_wp2
  go_region_law (first
    | (refine step_appG (by rfl) _ _ 88 150 (by rfl) _ 4 32 Try.underlying88 Try.info150x rfl (by omega) base (.slice aE D.evs.length cE) D.evs.length (fE D.evs) (by rfl) HA.out.e (w.heap.size + 1) 1 1 (fE [(tt, kd, j0, j1)]) (by rfl) rfl (fun j u hu => RE.out.cell j u hu) (fE_one _) (by omega) (by simp [maxLen]; omega) (by omega) (by simp; omega) ?_; intro g cap w4 hown4 hgrow4 hat4; have r4 : RowAt w4 kb 140 _ := (hgrow4.block kb HA.out.kb_lt (fun e => owns_ne HA.out.e HA.out.row (by decide) kb e.symm rfl)).trans HA.out.row; have e0 := r4.cell 6 _ rfl; have f0 := r4.frozen 6; have HO4 := hid hown4; have HG4 := hid hgrow4; have HT4 := hid hat4; clear hown4 hgrow4 r4 hat4))
  all_goals
    have HE : Hid (KO w0 X base kb (w4.setCell ⟨kb, 6, none⟩ (.slice (some ⟨g, 0, none⟩) (D.evs.length + 1) cap)) ⟨D.jobs, D.rel, D.nxt, D.ins, D.tak, D.out, D.evs ++ [(tt, kd, j0, j1)]⟩ ⟨aJ, aR, aI, aT, aO, some ⟨g, 0, none⟩, cJ, cR, cI, cT, cO, cap⟩ C B dn) := by
      have := HA.out.told (E := D.evs ++ [(tt, kd, j0, j1)]) (a' := some ⟨g, 0, none⟩) (c' := cap) HG4.out (by rw [fE_app, List.length_append]; exact HO4.out) (fun x hx => by
        simp only [Value.ownBlock, Option.some.injEq] at hx
        subst hx
        rcases HT4.out with h' | h'
        · exact .inl h'
        · exact .inr (by omega))
      rw [List.length_append] at this
      exact hid this
    have HK : Hid (KeepsOthers w (w4.setCell ⟨kb, 6, none⟩ (.slice (some ⟨g, 0, none⟩) (D.evs.length + 1) cap))) := hid (((keepsOthers_below HBA.out).trans (keepsOthers_own HG4.out HA.out.e)).trans (KeepsOthers.setCell _ _ _))
    clear HA HO4 HG4 HT4 c6 c6'
    go_wp2
    go_end0
    exact ⟨rfl, ⟨_, _, HE.out⟩, HK.out⟩

end Go.Proofs.Ytaellaconpaejaa
