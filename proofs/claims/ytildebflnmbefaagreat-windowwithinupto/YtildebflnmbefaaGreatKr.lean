/- Walks: an event is told. Walks: a job of a task is released. Walks: the jobs that are not done at their deadline are marked. -/
import Derived.Test.YtildebflnmbefaaGreatFbJ
import Derived.Deep.DeepCutAuto
set_option linter.unusedVariables false
namespace Go.Proofs.YtildebflnmbefaaGreat
open Go.RowKit

/-- An append of things that lie in a block from its beginning on, at a step of a region that draws its order. -/
theorem step_appG {ops : Array Oper} {o : Oper} {a : Act} {w : World} {K : Act → World → Prop} {Q : Exit → Act → World → Prop} {E : Prop} (hgd : o.guard = none) (s x : Operand) (t e : TypeId)
    (ho : o.op = .call { callee := .builtin .append, args := #[s, x], argTypes := #[t, t] }) (z : Value) (sz by_ : Nat) (ht : Tryz.prog.underlying t = some (.slice e)) (hI : (Tryz.prog.info? e).map (fun i => (i.zero, i.size, i.bytes)) = some (some z, sz, by_)) (hzs : z.cells.size = sz) (hsz : 0 < sz)
    (base : Nat) (v : Value) (n : Nat) (xs : List Value) (hs : a.eval s = v) (hown : w.ownsRow base e sz v n xs)
    (b m c : Nat) (news : List Value) (hx : a.eval x = .slice (some ⟨b, 0, none⟩) m c) (hl : news.length = m * sz) (hrow : ∀ j u, news[j]? = some u → w.cell? ⟨b, j, none⟩ = some u) (h1 : ∀ u ∈ news, u.oneCell' = true) (hm : 0 < m) (h63 : n + m ≤ maxLen) (hbytes : (n + m) * by_ ≤ 140737488355328) (hbase : base ≤ w.heap.size)
    (h : ∀ g cap w', w'.ownsRow base e sz (.slice (some ⟨g, 0, none⟩) (n + m) cap) (n + m) (xs ++ news) → w.grownBy w' v.ownBlock → (v.ownBlock = some g ∨ g = w.heap.size) → K (a.put o.dst (.slice (some ⟨g, 0, none⟩) (n + m) cap)) w') :
    if Region.wanted o (yielded ops a.tmps) = true then Oper.wp Tryz.prog o a w K Q else E := by
  obtain ⟨i3, hi, hz, hsz', hby⟩ := infoOf hI
  refine step_append_lies w hgd s x t ho base e i3 z sz by_ ht hi hz hsz' hby hzs hsz v n xs hs hown ⟨b, 0, none⟩ m c news hx hl (fun j u hu => ?_) h1 hm h63 hbytes hbase w.heap.size rfl (fun g cap w' h1 h2 h3 _ => h g cap w' h1 h2 h3)
  rw [addZ]
  exact hrow j u hu

theorem keepsOthers_below {w w' : World} (h : Below w.heap.size w w') : KeepsOthers w w' :=
  ⟨h.size, fun k o hk _ => (h.block k (Array.getElem?_eq_some_iff.1 hk).1).trans hk⟩
theorem keepsOthers_grown {w w' : World} {row : Option Nat} (h : w.grownBy w' row) (hr : ∀ x, row = some x → ∃ cur t, w.heap[x]? = some (.cells cur t (0, 0))) : KeepsOthers w w' :=
  ⟨h.size, fun k o hk ho => (h.block k (Array.getElem?_eq_some_iff.1 hk).1 (fun e => by
    obtain ⟨cur, t, h1⟩ := hr k e.symm
    rw [hk] at h1
    simp only [Option.some.injEq] at h1
    subst h1
    cases ho)).trans hk⟩
theorem keepsOthers_own {w w' : World} {base e sz n : Nat} {v : Value} {xs : List Value} (h : w.grownBy w' v.ownBlock) (ho : w.ownsRow base e sz v n xs) : KeepsOthers w w' :=
  keepsOthers_grown h (fun x hx => by obtain ⟨c, hc⟩ := owns_heap ho hx; exact ⟨c, e, hc⟩)

set_option maxRecDepth 100000 in
set_option maxHeartbeats 1000000 in
theorem tell_ok (w0 : World) (X : Nat → Prop) (base kb : Nat) (D : Dom) (A : DMem) (C : Conf) (B : Mem) (dn tt kd : Int) (j : JobT) (w : World) (h : KO w0 X base kb w D A C B dn) (hl : D.evs.length ≤ 1000000000) :
    Calls Tryz.prog 91 #[.pointer (some ⟨kb, 0, none⟩), .int .i64 tt, .int .i64 kd, jv j] w fun e w' => e = .returned (.tuple #[]) ∧ (∃ a' c', KO w0 X base kb w' ⟨D.jobs, D.rel, D.nxt, D.ins, D.tak, D.out, D.evs ++ [(tt, kd, j.1, j.2.1)]⟩ ⟨A.aJ, A.aR, A.aI, A.aT, A.aO, a', A.cJ, A.cR, A.cI, A.cT, A.cO, c'⟩ C B dn) ∧ KeepsOthers w w' := by
  obtain ⟨j0, j1, j2, j3, j4, j5⟩ := j
  dsimp only [jv] at *
  have q1 := below_new w (.cells #[.int .i64 j0, .int .i64 j1, .int .i64 j2, .int .i64 j3, .bool j4, .bool j5] 79)
  have h1 := h.below q1
  have HB1 := hid q1
  have hbs : base ≤ w.heap.size := by have := h.base_kb; have := h.kb_lt; omega
  clear q1 h
  have c6 := h1.row.cell 6 _ rfl
  have hbA : Below (w.alloc (.cells #[.int .i64 j0, .int .i64 j1, .int .i64 j2, .int .i64 j3, .bool j4, .bool j5] 79)).heap.size (w.alloc (.cells #[.int .i64 j0, .int .i64 j1, .int .i64 j2, .int .i64 j3, .bool j4, .bool j5] 79)) ((w.alloc (.cells #[.int .i64 j0, .int .i64 j1, .int .i64 j2, .int .i64 j3, .bool j4, .bool j5] 79)).alloc (.cells #[.int .i64 tt, .int .i64 kd, .int .i64 j0, .int .i64 j1] 45)).drew := (below_new _ _).drew
  have HA := hid (h1.below hbA)
  have HBA := hid (btrans HB1.out hbA)
  have RE : Hid (RowAt ((w.alloc (.cells #[.int .i64 j0, .int .i64 j1, .int .i64 j2, .int .i64 j3, .bool j4, .bool j5] 79)).alloc (.cells #[.int .i64 tt, .int .i64 kd, .int .i64 j0, .int .i64 j1] 45)).drew (w.heap.size + 1) 45 [.int .i64 tt, .int .i64 kd, .int .i64 j0, .int .i64 j1]) := hid (rowAt_new2 (w.alloc (.cells #[.int .i64 j0, .int .i64 j1, .int .i64 j2, .int .i64 j3, .bool j4, .bool j5] 79)) (w.heap.size + 1) [.int .i64 tt, .int .i64 kd, .int .i64 j0, .int .i64 j1] 45 (by simp))
  have c6' : ∀ o, ((w.alloc (.cells #[.int .i64 j0, .int .i64 j1, .int .i64 j2, .int .i64 j3, .bool j4, .bool j5] 79)).alloc o).cell? ⟨kb, 6, none⟩ = some (.slice A.aE D.evs.length A.cE) := fun o => cell_old o c6
  clear hbA h1
  obtain ⟨aJ, aR, aI, aT, aO, aE, cJ, cR, cI, cT, cO, cE⟩ := A
  dsimp only at *
  go_enter Tryz.func91, Tryz.ntmps91
  go_wp2
  go_region_law (first
    | (refine step_appG (by rfl) _ _ 31 45 (by rfl) _ 4 32 Tryz.underlying31 Tryz.info45x rfl (by omega) base (.slice aE D.evs.length cE) D.evs.length (fE D.evs) (by rfl) HA.out.e (w.heap.size + 1) 1 1 (fE [(tt, kd, j0, j1)]) (by rfl) rfl (fun j u hu => RE.out.cell j u hu) (fE_one _) (by omega) (by simp [maxLen]; omega) (by omega) (by simp; omega) ?_; intro g cap w4 hown4 hgrow4 hat4; have r4 : RowAt w4 kb 96 _ := (hgrow4.block kb HA.out.kb_lt (fun e => owns_ne HA.out.e HA.out.row (by decide) kb e.symm rfl)).trans HA.out.row; have e0 := r4.cell 6 _ rfl; have f0 := r4.frozen 6; have HO4 := hid hown4; have HG4 := hid hgrow4; have HT4 := hid hat4; clear hown4 hgrow4 r4 hat4))
  all_goals
    have HE : Hid (KO w0 X base kb (w4.setCell ⟨kb, 6, none⟩ (.slice (some ⟨g, 0, none⟩) (D.evs.length + 1) cap)) ⟨D.jobs, D.rel, D.nxt, D.ins, D.tak, D.out, D.evs ++ [(tt, kd, j0, j1)]⟩ ⟨aJ, aR, aI, aT, aO, some ⟨g, 0, none⟩, cJ, cR, cI, cT, cO, cap⟩ C B dn) := by
      have := HA.out.told (E := D.evs ++ [(tt, kd, j0, j1)]) (a' := some ⟨g, 0, none⟩) (c' := cap) HG4.out (by rw [fE_app, List.length_append]; exact HO4.out) (fun x hx => by
        simp only [Value.ownBlock, Option.some.injEq] at hx
        subst hx
        rcases HT4.out with h' | h'
        · exact .inl h'
        · exact .inr (by omega))
      rw [List.length_append] at this
      exact hid this
    have HK : Hid (KeepsOthers w (w4.setCell ⟨kb, 6, none⟩ (.slice (some ⟨g, 0, none⟩) (D.evs.length + 1) cap))) := hid (((keepsOthers_below HBA.out).trans (keepsOthers_own HG4.out HA.out.e)).trans (KeepsOthers.setCell _ _ _))
    clear HA HO4 HG4 HT4 c6 c6'
    go_wp2
    go_end0
    exact ⟨rfl, ⟨_, _, HE.out⟩, HK.out⟩

end Go.Proofs.YtildebflnmbefaaGreat

namespace Go.Proofs.YtildebflnmbefaaGreat
open Go.RowKit

theorem owns_cell {w : World} {base n c g k : Nat} {L : List Int} (h : w.ownsRow base 3 1 (.slice (some ⟨g, 0, none⟩) n c) n (ivs L)) (hk : k < L.length) : w.cell? ⟨g, k, none⟩ = some (.int .i64 L[k]) := by
  have := h.cells (g := g) rfl k (.int .i64 L[k]) (by simp [ivs, hk])
  rw [addZ] at this
  exact this
theorem owns_frozen {w : World} {base e sz n c g : Nat} {xs : List Value} (h : w.ownsRow base e sz (.slice (some ⟨g, 0, none⟩) n c) n xs) (i : Nat) : w.frozen? ⟨g, i, none⟩ = false := by
  obtain ⟨cur, hc⟩ := owns_heap h (k := g) rfl
  simp [World.frozen?, hc]

set_option maxRecDepth 100000 in
set_option maxHeartbeats 4000000 in
theorem release_ok (w0 : World) (X : Nat → Prop) (base kb : Nat) (D : Dom) (A : DMem) (C : Conf) (B : Mem) (dn : Int) (k : Nat) (w : World) (h : KO w0 X base kb w D A C B dn) (hk : k < C.ta.length) (hkr : k < D.rel.length) (hr0 : 0 ≤ D.rel[k]) (hr1 : D.rel[k] < 100000) (hj : D.jobs.length ≤ 20) (hl : D.evs.length ≤ 1000000000) :
    Calls Tryz.prog 68 #[.pointer (some ⟨kb, 0, none⟩), .int .i64 (k : Int)] w fun e w' => e = .returned (.tuple #[]) ∧ (∃ A', KO w0 X base kb w' (relStep C k D) A' C B dn) ∧ KeepsOthers w w' := by
  obtain ⟨rb, hrb, _, _⟩ := owns_zero h.r (by omega)
  have hk1 : (k : Int) < (D.rel.length : Int) := by omega
  have hk0 : (0 : Int) ≤ (k : Int) := by omega
  have HH := hid h
  have HKR := hid hkr
  have HJX : Hid (∀ x, (Value.slice A.aJ D.jobs.length A.cJ).ownBlock = some x → x < w.heap.size) := hid fun x hx => owns_lt h.j x hx
  obtain ⟨aJ, aR, aI, aT, aO, aE, cJ, cR, cI, cT, cO, cE⟩ := A
  dsimp only at hrb
  subst hrb
  have hrlt : rb < w.heap.size := owns_lt h.r rb rfl
  have c1 := h.row.cell 1 _ rfl
  have cr : w.cell? ⟨rb, k, none⟩ = some (.int .i64 D.rel[k]) := owns_cell h.r hkr
  have C99 := hid (fun wx (hb : Below w.heap.size w wx) => comes_any kb D _ C B dn k wx (h.below hb).keepIn hk hkr)
  have HS : Hid (∀ w', Below w.heap.size w w' → w'.cell? ⟨kb, 1, none⟩ = some (.slice (some ⟨rb, 0, none⟩) D.rel.length cR) ∧ w'.cell? ⟨rb, k, none⟩ = some (.int .i64 D.rel[k])) := hid fun w' hb => ⟨bkeep hb c1 (Nat.le_refl _), bkeep hb cr (Nat.le_refl _)⟩
  have HRS : Hid (relStep C k D = if D.jobs.length = 20 then ⟨D.jobs, D.rel.set k (D.rel[k] + 1), D.nxt, D.ins, D.tak, D.out, D.evs⟩
    else ⟨D.jobs ++ [((k : Int), D.rel[k], comesAt C D k, 0, false, false)], D.rel.set k (D.rel[k] + 1), D.nxt, D.ins, D.tak, D.out, D.evs ++ [(comesAt C D k, 2, (k : Int), D.rel[k])]⟩) := hid (by
      have e : D.rel.getD k 0 = D.rel[k] := getD_of D.rel k hkr 0
      unfold relStep; rw [e])
  have hbz : Below w.heap.size w w.drew := (Below.refl _ _).drew
  have hbz2 : Below w.heap.size w (w.alloc (.cells #[.int .i64 0, .int .i64 0, .int .i64 0, .int .i64 0, .bool false, .bool false] 79)).drew := (below_new _ _).drew
  have RZ : Hid (RowAt (w.alloc (.cells #[.int .i64 0, .int .i64 0, .int .i64 0, .int .i64 0, .bool false, .bool false] 79)).drew w.heap.size 79 [.int .i64 0, .int .i64 0, .int .i64 0, .int .i64 0, .bool false, .bool false]) := hid (rowAt_new2 w _ [.int .i64 0, .int .i64 0, .int .i64 0, .int .i64 0, .bool false, .bool false] 79 rfl)
  clear h c1 cr
  generalize hy : D.rel[k] = y at *
  have HY := hid hy
  generalize comesAt C D k = c at *
  clear hy hk
  go_enter Tryz.func68, Tryz.ntmps68
  go_upto_region 0 with fail
  go_cut [4] (fun t wx => ∃ Bj, t = .pointer (some ⟨Bj, 0, none⟩) ∧ Below w.heap.size w wx ∧ RowAt wx Bj 79 [.int .i64 (k : Int), .int .i64 y, .int .i64 c, .int .i64 0, .bool false, .bool false] ∧ w.heap.size ≤ Bj)
  case first =>
    go_region_held3 (fun w' => w'.cell? ⟨kb, 1, none⟩ = some (.slice (some ⟨rb, 0, none⟩) D.rel.length cR) ∧ w'.cell? ⟨rb, k, none⟩ = some (.int .i64 y))
      (first | with_reducible exact HS.out _ hB2 | with_reducible exact HS.out _ (hB2a _) | with_reducible exact HS.out _ (hB2c _ _ _ _ _ _) | with_reducible exact HS.out _ hbz | with_reducible exact HS.out _ hbz2 | go_keep)
      (first
        | (go_at_call 67; with_reducible refine Calls.mono (C99.out _ hbz) ?_; rintro e w2 ⟨rfl, hb2⟩; have hB2 := btrans hbz hb2; have hB2a : ∀ o, Below w.heap.size w (w2.alloc o) := fun o => btrans hB2 (below_new _ o))
        | (go_at_call 67; with_reducible refine Calls.mono (C99.out _ hbz2) ?_; rintro e w2 ⟨rfl, hb2⟩; have hB2 := btrans hbz2 hb2; have HZ := hid (RZ.out.below hb2 (Nat.le_refl _)); have u0 := HZ.out.cell 0 _ rfl; have u1 := HZ.out.cell 1 _ rfl; have u2 := HZ.out.cell 2 _ rfl; have u3 := HZ.out.cell 3 _ rfl; have u4 := HZ.out.cell 4 _ rfl; have u5 := HZ.out.cell 5 _ rfl; have f0 := HZ.out.frozen 0; have f1 := HZ.out.frozen 1; have f2 := HZ.out.frozen 2; have f3 := HZ.out.frozen 3; have f4 := HZ.out.frozen 4; have f5 := HZ.out.frozen 5; have hB2c : ∀ v0 v1 v2 v3 v4 v5, Below w.heap.size w ((((((w2.setCell ⟨w.heap.size, 0, none⟩ v0).setCell ⟨w.heap.size, 1, none⟩ v1).setCell ⟨w.heap.size, 2, none⟩ v2).setCell ⟨w.heap.size, 3, none⟩ v3).setCell ⟨w.heap.size, 4, none⟩ v4).setCell ⟨w.heap.size, 5, none⟩ v5) := fun v0 v1 v2 v3 v4 v5 => (((((hB2.setCell (p := ⟨w.heap.size, 0, none⟩) (Nat.le_refl _) _).setCell (p := ⟨w.heap.size, 1, none⟩) (Nat.le_refl _) _).setCell (p := ⟨w.heap.size, 2, none⟩) (Nat.le_refl _) _).setCell (p := ⟨w.heap.size, 3, none⟩) (Nat.le_refl _) _).setCell (p := ⟨w.heap.size, 4, none⟩) (Nat.le_refl _) _).setCell (p := ⟨w.heap.size, 5, none⟩) (Nat.le_refl _) _))
    all_goals
      go_wp2
      go_meet
      case rel =>
        first
          | (have hM := hB2a; exact ⟨w2.heap.size, rfl, btrans hB2 (below_new _ _), rowAt_new2 w2 _ [.int .i64 (k : Int), .int .i64 y, .int .i64 c, .int .i64 0, .bool false, .bool false] 79 rfl, hB2.size⟩)
          | (have hM := hB2c; exact ⟨w.heap.size, rfl, hM _ _ _ _ _ _, rowAt_set1 (rowAt_set1 (rowAt_set1 (rowAt_set1 (rowAt_set1 (rowAt_set1 HZ.out 0 _) 1 _) 2 _) 3 _) 4 _) 5 _, Nat.le_refl _⟩)
  case rest =>
    obtain ⟨Bj, rfl, hB, hrow, hBj⟩ := hcut
    have hK1 := HH.out.below hB
    have c1 := hK1.row.cell 1 _ rfl
    have cr : wc.cell? ⟨rb, k, none⟩ = some (.int .i64 y) := (HS.out _ hB).2
    have fr := owns_frozen hK1.r k
    have hK2 := hK1.setRel (g := rb) rfl k (y + 1)
    have R2 := hid (show RowAt (wc.setCell ⟨rb, k, none⟩ (.int .i64 (y + 1))) Bj 79 _ from (heap_set_ne _ _ _ _ Bj (by omega)).trans hrow)
    have HK2 := hid hK2
    have HO2 := hid ((keepsOthers_below hB).trans (KeepsOthers.setCell wc ⟨rb, k, none⟩ (.int .i64 (y + 1))))
    have hs2 : w.heap.size ≤ (wc.setCell ⟨rb, k, none⟩ (.int .i64 (y + 1))).heap.size := Nat.le_trans hB.size (by simp)
    have cj := hK2.row.cell 0 _ rfl
    clear HS C99 RZ hbz hbz2 hK1 hK2 hrow hB HH
    dsimp only at cj
    go_upto_region 2 with fail
    clear c1 cr fr
    generalize wc.setCell ⟨rb, k, none⟩ (.int .i64 (y + 1)) = W2 at *
    by_cases h20 : D.jobs.length = 20
    · have h20' : (D.jobs.length : Int) = 20 := by omega
      have HF : Hid (∃ A', KO w0 X base kb W2 (relStep C k D) A' C B dn) := hid ⟨_, by rw [HRS.out, if_pos h20]; exact HK2.out⟩
      clear h20 HK2 R2
      go_wp2
      refine bodyPost_ret (results_none rfl _ _ _) rfl ?_
      exact ⟨rfl, HF.out, HO2.out⟩
    · have h20' : ¬ (D.jobs.length : Int) = 20 := by omega
      rw [if_neg h20] at HRS
      have h19 : D.jobs.length ≤ 19 := by omega
      clear h20 hj
      have hbA : Below W2.heap.size W2 (W2.alloc (.cells #[.int .i64 (k : Int), .int .i64 y, .int .i64 c, .int .i64 0, .bool false, .bool false] 79)).drew := (below_new _ _).drew
      have HA := hid (HK2.out.below hbA)
      have HKB := hid (keepsOthers_below hbA)
      have RE : Hid (RowAt (W2.alloc (.cells #[.int .i64 (k : Int), .int .i64 y, .int .i64 c, .int .i64 0, .bool false, .bool false] 79)).drew W2.heap.size 79 (jc ((k : Int), y, c, 0, false, false))) := hid (rowAt_new2 W2 W2.heap.size [.int .i64 (k : Int), .int .i64 y, .int .i64 c, .int .i64 0, .bool false, .bool false] 79 rfl)
      have RA := hid (R2.out.below hbA (Nat.le_refl _))
      have cj' : ∀ o, (W2.alloc o).cell? ⟨kb, 0, none⟩ = some (.slice aJ D.jobs.length cJ) := fun o => cell_old o cj
      have r0 := R2.out.cell 0 _ rfl
      have r1 := R2.out.cell 1 _ rfl
      have r2 := R2.out.cell 2 _ rfl
      have r3 := R2.out.cell 3 _ rfl
      have r4 := R2.out.cell 4 _ rfl
      have r5 := R2.out.cell 5 _ rfl
      have hbs : base ≤ W2.heap.size := by have := HK2.out.base_kb; have := HK2.out.kb_lt; omega
      have hjx : ∀ x, (Value.slice aJ D.jobs.length cJ).ownBlock = some x → x < Bj := fun x hx => by have := HJX.out x hx; omega
      have HJX2 := hid hjx
      have hBl : Bj < W2.heap.size := R2.out.lt
      have hBl2 : Bj < (W2.alloc (.cells #[.int .i64 (k : Int), .int .i64 y, .int .i64 c, .int .i64 0, .bool false, .bool false] 79)).drew.heap.size := RA.out.lt
      have HBl2 := hid hBl2
      clear hbA R2 HK2 HJX hjx hBl2 HY HKR
      go_upto_region 3 with fail
      go_region_law (first
        | (refine step_appG (by rfl) _ _ 28 79 (by rfl) _ 6 40 Tryz.underlying28 Tryz.info79x rfl (by omega) base (.slice aJ D.jobs.length cJ) D.jobs.length (fJ D.jobs) (by rfl) HA.out.j W2.heap.size 1 1 (fJ [((k : Int), y, c, 0, false, false)]) (by rfl) rfl (fun j u hu => RE.out.cell j u (by simpa [fJ] using hu)) (fJ_one _) (by omega) (by simp [maxLen]; omega) (by omega) (by simp; omega) ?_; intro g cap w4 hown4 hgrow4 hat4; have r4x : RowAt w4 kb 96 _ := (hgrow4.block kb HA.out.kb_lt (fun e => owns_ne HA.out.j HA.out.row (by decide) kb e.symm rfl)).trans HA.out.row; have RB4 := hid (show RowAt w4 Bj 79 _ from (hgrow4.block Bj HBl2.out (fun e => by have := HJX2.out Bj e.symm; omega)).trans RA.out); have e0 := r4x.cell 0 _ rfl; have f0 := r4x.frozen 0; have HO4 := hid hown4; have HG4 := hid hgrow4; have HT4 := hid hat4; clear hown4 hgrow4 r4x hat4))
      all_goals
        have HE : Hid (KO w0 X base kb (w4.setCell ⟨kb, 0, none⟩ (.slice (some ⟨g, 0, none⟩) (D.jobs.length + 1) cap)) ⟨D.jobs ++ [((k : Int), y, c, 0, false, false)], D.rel.set k (y + 1), D.nxt, D.ins, D.tak, D.out, D.evs⟩ ⟨some ⟨g, 0, none⟩, some ⟨rb, 0, none⟩, aI, aT, aO, aE, cap, cR, cI, cT, cO, cE⟩ C B dn) := by
          have := HA.out.pushed (J := D.jobs ++ [((k : Int), y, c, 0, false, false)]) (a' := some ⟨g, 0, none⟩) (c' := cap) HG4.out (by rw [fJ_app, List.length_append]; exact HO4.out) (fun x hx => by
            simp only [Value.ownBlock, Option.some.injEq] at hx
            subst hx
            rcases HT4.out with h' | h'
            · exact .inl h'
            · exact .inr (by omega))
          rw [List.length_append] at this
          exact hid this
        have HK : Hid (KeepsOthers w (w4.setCell ⟨kb, 0, none⟩ (.slice (some ⟨g, 0, none⟩) (D.jobs.length + 1) cap))) := hid (((HO2.out.trans HKB.out).trans (keepsOthers_own HG4.out HA.out.j)).trans (KeepsOthers.setCell _ _ _))
        have R5 := hid (show RowAt (w4.setCell ⟨kb, 0, none⟩ (.slice (some ⟨g, 0, none⟩) (D.jobs.length + 1) cap)) Bj 79 _ from (heap_set_ne _ _ _ _ Bj (fun e => by
          have h1 : w4.heap[Bj]? = _ := RB4.out
          have h2 := (HA.out.row)
          have h3 : w4.heap[kb]? = _ := (HG4.out.block kb HA.out.kb_lt (fun e => owns_ne HA.out.j HA.out.row (by decide) kb e.symm rfl)).trans HA.out.row
          rw [e, h3] at h1
          simp at h1)).trans RB4.out)
        clear HA HO4 HG4 HT4 cj cj' r0 r1 r2 r3 r4 r5 HKB HO2 RB4 RA RE HBl2 HJX2
        go_upto_region 4 with fail
        clear e0 f0
        generalize w4.setCell ⟨kb, 0, none⟩ (.slice (some ⟨g, 0, none⟩) (D.jobs.length + 1) cap) = W5 at *
        have r0 := R5.out.cell 0 _ rfl
        have r1 := R5.out.cell 1 _ rfl
        have r2 := R5.out.cell 2 _ rfl
        have r3 := R5.out.cell 3 _ rfl
        have r4 := R5.out.cell 4 _ rfl
        have r5 := R5.out.cell 5 _ rfl
        go_wp2_with fail
        refine (tell_ok w0 X base kb _ _ C B dn c 2 ((k : Int), y, c, 0, false, false) _ HE.out hl).mono ?_
        rintro e w6 ⟨rfl, ⟨a', c', h6⟩, hk6⟩
        have H6 := hid h6
        have HO6 := hid (HK.out.trans hk6)
        clear h6 hk6 HE HK r0 r1 r2 r3 r4 r5 R5
        go_wp2
        go_end0
        exact ⟨rfl, ⟨_, by rw [HRS.out]; exact H6.out⟩, HO6.out⟩

end Go.Proofs.YtildebflnmbefaaGreat

namespace Go.Proofs.YtildebflnmbefaaGreat
open Go.RowKit

set_option maxRecDepth 100000 in
set_option maxHeartbeats 4000000 in
theorem miss_ok (w0 : World) (X : Nat → Prop) (base kb : Nat) (D : Dom) (A : DMem) (C : Conf) (B : Mem) (dn now : Int) (w : World) (h : KO w0 X base kb w D A C B dn) (hz : ckD C dn D = 0) (hl : D.evs.length ≤ 900000000) :
    Calls Tryz.prog 69 #[.pointer (some ⟨kb, 0, none⟩), .int .i64 now] w fun e w' => e = .returned (.tuple #[]) ∧ (∃ A', KO w0 X base kb w' (missN C now D.jobs.length D) A' C B dn) ∧ KeepsOthers w w' := by
  have HH := hid h
  have HZ := hid hz
  have hj20 := jobs20 hz
  have c0 := h.row.cell 0 _ rfl
  clear h hz
  obtain ⟨aJ, aR, aI, aT, aO, aE, cJ, cR, cI, cT, cO, cE⟩ := A
  dsimp only at *
  go_enter Tryz.func69, Tryz.ntmps69
  go_wp2
  go_loopw [13] (fun i wr => ∃ k : Nat, k ≤ D.jobs.length ∧ i = .int .i64 k ∧ (∃ aE' cE', KO w0 X base kb wr (missN C now k D) ⟨aJ, aR, aI, aT, aO, aE', cJ, cR, cI, cT, cO, cE'⟩ C B dn) ∧ KeepsOthers w wr) (fun i _ => D.jobs.length - (intOf i).toNat)
  case atStart => exact ⟨0, Nat.zero_le _, rfl, ⟨aE, cE, HH.out⟩, KeepsOthers.refl _⟩
  case round =>
    obtain ⟨k, hk, rfl, ⟨aE', cE', hK⟩, hO⟩ := hrel
    have HO := hid hO
    have HN : Hid ((missN C now k D).jobs.length = D.jobs.length) := hid (missN_len C now k D)
    have HEV : Hid ((missN C now k D).evs.length ≤ 900000020) := hid (by have := missN_evs C now k D; omega)
    have HZ1 : Hid (ckD C dn (missN C now k D) = 0) := hid (missN_ok HZ.out k)
    have HS : Hid (missN C now (k + 1) D = missStep C now k (missN C now k D)) := hid (missN_succ C now k D)
    clear hO c0
    by_cases hlt : k < D.jobs.length
    · generalize missN C now k D = M at *
      have hkM : k < M.jobs.length := by have := HN.out; omega
      obtain ⟨g, hg, _, _⟩ := owns_zero hK.j (by omega)
      dsimp only at hg
      subst hg
      have hT := tasksOk_of HZ1.out k hkM
      obtain ⟨b', o', e', p0, p1, p2, p3, p4, p5⟩ := hK.keepIn.dom.jobs k hkM
      dsimp only at e'
      simp only [Option.some.injEq, Addr.mk.injEq, and_true] at e'
      obtain ⟨rfl, rfl⟩ := e'
      rw [Nat.zero_add] at p0 p1 p2 p3 p4 p5
      have HJ : Hid (M.jobs[k]? = some M.jobs[k]) := hid (List.getElem?_eq_getElem hkM)
      have hk1 : (k : Int) < (D.jobs.length : Int) := by omega
      have hk2 : (k : Int) < (M.jobs.length : Int) := by omega
      have hk0 : (0 : Int) ≤ (k : Int) := by omega
      have hgl : g < wr.heap.size := owns_lt hK.j g rfl
      generalize M.jobs[k] = jj at *
      obtain ⟨j0, j1, j2, j3, j4, j5⟩ := jj
      dsimp only at *
      have q1 := below_new wr (.cells #[.int .i64 j0, .int .i64 j1, .int .i64 j2, .int .i64 j3, .bool j4, .bool j5] 79)
      have HK1 := hid (hK.below q1)
      have HQ1 := hid q1
      have R1 := hid (rowAt_new2 wr wr.heap.size [.int .i64 j0, .int .i64 j1, .int .i64 j2, .int .i64 j3, .bool j4, .bool j5] 79 rfl)
      clear q1 hK
      go_wp2_with fail
      refine (deadline_any kb M _ C B dn (j0, j1, j2, j3, j4, j5) _ HK1.out.keepIn hT.1 hT.2).mono ?_
      rintro e w1 ⟨rfl, hb1⟩
      have HK2 := hid (HK1.out.below hb1)
      have HO2 := hid (HO.out.trans ((keepsOthers_below HQ1.out).trans (keepsOthers_below hb1)))
      have R2 := hid (R1.out.below hb1 (Nat.le_refl _))
      clear HK1 HO R1 HQ1 hb1 p0 p1 p2 p3 p4 p5
      generalize hdue : dueAt C (j0, j1, j2, j3, j4, j5) = du at *
      have HDU := hid hdue
      clear hdue
      have r0 := R2.out.cell 0 _ rfl
      have r1 := R2.out.cell 1 _ rfl
      have r2 := R2.out.cell 2 _ rfl
      have r3 := R2.out.cell 3 _ rfl
      have r4 := R2.out.cell 4 _ rfl
      have r5 := R2.out.cell 5 _ rfl
      cases j5 with
      | true =>
        have HE : Hid (missStep C now k M = M) := hid (by simp [missStep, HJ.out, late])
        clear R2
        go_wp2
        go_roundw
        case rel => exact ⟨k + 1, by omega, by go_num, ⟨aE', cE', by rw [HS.out, HE.out]; exact HK2.out⟩, HO2.out⟩
        case measure => simp [intOf]; omega
      | false =>
        by_cases hdn : du ≤ now
        · have HE : Hid (missStep C now k M = ⟨M.jobs.set k (markJ (j0, j1, j2, j3, j4, false)), M.rel, M.nxt, M.ins, M.tak, M.out, M.evs ++ [(du, 6, j0, j1)]⟩) := hid (by simp [missStep, HJ.out, late, HDU.out, hdn])
          have k0 := HK2.out.row.cell 0 _ rfl
          have pj := HK2.out.keepIn.dom.jobs k hkM
          obtain ⟨b', o', e', -, -, -, -, -, p5⟩ := pj
          dsimp only at e'
          simp only [Option.some.injEq, Addr.mk.injEq, and_true] at e'
          obtain ⟨rfl, rfl⟩ := e'
          rw [Nat.zero_add] at p5
          have fz := owns_frozen HK2.out.j (k * 6 + 5)
          have HK3 := hid (HK2.out.setJob (g := g) rfl k _ HJ.out)
          have HO3 := hid (HO2.out.trans (KeepsOthers.setCell w1 ⟨g, k * 6 + 5, none⟩ (.bool true)))
          have R3 := hid (show RowAt (w1.setCell ⟨g, k * 6 + 5, none⟩ (.bool true)) wr.heap.size 79 _ from (heap_set_ne _ _ _ _ wr.heap.size (by omega)).trans R2.out)
          clear r0 r1 r2 r3 r4 HK2 HO2 R2
          dsimp only at k0
          go_upto_region 6 with fail
          clear p5 fz k0 r5
          generalize w1.setCell ⟨g, k * 6 + 5, none⟩ (.bool true) = W3 at *
          have r0 := R3.out.cell 0 _ rfl
          have r1 := R3.out.cell 1 _ rfl
          have r2 := R3.out.cell 2 _ rfl
          have r3 := R3.out.cell 3 _ rfl
          have r4 := R3.out.cell 4 _ rfl
          have r5 := R3.out.cell 5 _ rfl
          go_wp2_with fail
          refine (tell_ok w0 X base kb _ _ C B dn du 6 (j0, j1, j2, j3, j4, false) _ HK3.out (by have := HEV.out; simp only; omega)).mono ?_
          rintro e w6 ⟨rfl, ⟨a', c', h6⟩, hk6⟩
          have H6 := hid h6
          have HO6 := hid (HO3.out.trans hk6)
          clear h6 hk6 HK3 HO3 r0 r1 r2 r3 r4 r5 R3
          go_wp2
          go_roundw
          case rel => exact ⟨k + 1, by omega, by go_num, ⟨a', c', by rw [HS.out, HE.out]; exact H6.out⟩, HO6.out⟩
          case measure => simp [intOf]; omega
        · have HE : Hid (missStep C now k M = M) := hid (by simp [missStep, HJ.out, late, HDU.out, hdn])
          clear R2
          go_wp2
          go_roundw
          case rel => exact ⟨k + 1, by omega, by go_num, ⟨aE', cE', by rw [HS.out, HE.out]; exact HK2.out⟩, HO2.out⟩
          case measure => simp [intOf]; omega
    · obtain rfl : k = D.jobs.length := by omega
      go_wp2
      go_end0
      exact ⟨rfl, ⟨_, hK⟩, HO.out⟩

end Go.Proofs.YtildebflnmbefaaGreat
