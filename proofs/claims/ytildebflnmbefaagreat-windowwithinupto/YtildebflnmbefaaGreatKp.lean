/- What each store of a window makes of its runner in memory. Walks: what the jobs hang on. A runner begins; and what it leaves, wherever its memory lies as it lay. -/
import Derived.Test.YtildebflnmbefaaGreatKo
import Derived.Test.YtildebflnmbefaaGreatKf
set_option linter.unusedVariables false
namespace Go.Proofs.YtildebflnmbefaaGreat
open Go.RowKit

abbrev evM (M : RM) (a : Option Addr) (c : Nat) : RM := ⟨⟨M.A.aJ, M.A.aR, M.A.aI, M.A.aT, M.A.aO, a, M.A.cJ, M.A.cR, M.A.cI, M.A.cT, M.A.cO, c⟩, M.V, M.gI, M.gO, M.aK, M.cK⟩
abbrev jM (M : RM) (a : Option Addr) (c : Nat) : RM := ⟨⟨a, M.A.aR, M.A.aI, M.A.aT, M.A.aO, M.A.aE, c, M.A.cR, M.A.cI, M.A.cT, M.A.cO, M.A.cE⟩, M.V, M.gI, M.gO, M.aK, M.cK⟩
abbrev jrM (M : RM) (a : Option Addr) (c : Nat) (a' : Option Addr) (n c' : Nat) : RM := ⟨⟨a, a', M.A.aI, M.A.aT, M.A.aO, M.A.aE, c, c', M.A.cI, M.A.cT, M.A.cO, M.A.cE⟩, fun k => if k = 0 then .slice a' n c' else M.V k, M.gI, M.gO, M.aK, M.cK⟩
abbrev kM (M : RM) (a : Option Addr) (c : Nat) : RM := ⟨M.A, M.V, M.gI, M.gO, a, c⟩
abbrev vM (M : RM) (n : Nat) (v : Value) : RM := ⟨M.A, fun k => if k = n then v else M.V k, M.gI, M.gO, M.aK, M.cK⟩

theorem grown_of_below {w w1 : World} {row : Option Nat} (hb : Below w.heap.size w w1) : w.grownBy w1 row := ⟨hb.os, hb.tape, hb.output, hb.size, fun k hk _ => hb.block k hk⟩
theorem owns_base {w : World} {b b' e sz n : Nat} {v : Value} {xs : List Value} (h : w.ownsRow b e sz v n xs) (hb : b' ≤ b) : w.ownsRow b' e sz v n xs := by
  refine ⟨h.1, ?_⟩
  rcases h.2 with h' | ⟨g, cap, cur, e1, e2, r⟩
  · exact .inl h'
  · exact .inr ⟨g, cap, cur, e1, by omega, r⟩

/-- Jobs and numbers, both in new blocks. -/
theorem PX.newJF {w w1 : World} {s : PS} (h : PX w s) (hb : Below w.heap.size w w1) {v : Value} {J : List JobT} (ho : w1.ownsRow w.heap.size 79 6 v J.length (fJ J)) {u : Value} {L : List Int} (hu : w1.ownsRow w.heap.size 3 1 u L.length (ivs L)) :
    PX w1 { s with vJ := v, J := J, V := fun k => if k = 0 then u else s.V k, F := fun k => if k = 0 then L else s.F k } := by
  obtain ⟨o, h⟩ := h
  let o' : Nat → Nat := fun x => if w.heap.size ≤ x then (if u.ownBlock = some x then 7 else 2) else o x
  have lt' : ∀ {x}, x < w.heap.size → o' x = o x := fun hx => if_neg (by omega)
  have hv : ∀ x, v.ownBlock = some x → o' x = 2 := fun x hx => by
    show (if w.heap.size ≤ x then (if u.ownBlock = some x then 7 else 2) else o x) = 2
    rw [if_pos (owns_ge ho x hx), if_neg (owns_apart ho hu (by decide) x hx)]
  have hu7 : ∀ x, u.ownBlock = some x → o' x = 7 := fun x hx => by
    show (if w.heap.size ≤ x then (if u.ownBlock = some x then 7 else 2) else o x) = 7
    rw [if_pos (owns_ge hu x hx), if_pos hx]
  have old : ∀ l w', l ≠ 2 → l ≠ 7 → (∀ x, x < w1.heap.size → o' x = l → w'.heap[x]? = w1.heap[x]?) → s.P l w' := fun l w' h2 h7 hw' =>
    h.ps l w' (fun x hx hl => (hw' x (Nat.lt_of_lt_of_le hx hb.size) (by rw [lt' hx]; exact hl)).trans (hb.block x hx))
  refine ⟨o', ⟨fun l w' hw' => ?_, Nat.le_trans h.bw hb.size, fun x hx => ?_, ?_, hv, fun x hx => ?_, ?_, ?_, fun k x hx => ?_, fun p hp => by rw [lt' (fr_lt (h.ps.at 0) p hp)]; exact h.lf p hp⟩⟩
  · match l, hw', old l w' with
    | 0, hw', old => exact old (by decide) (by decide) hw'
    | 1, hw', old => exact old (by decide) (by decide) hw'
    | 2, hw', _ => exact owns_agree (owns_base ho h.bw) (fun x hx => hw' x (owns_lt ho x hx) (hv x hx))
    | 3, hw', old => exact old (by decide) (by decide) hw'
    | 4, hw', old => exact old (by decide) (by decide) hw'
    | 5, hw', old => exact old (by decide) (by decide) hw'
    | 6, hw', old => exact old (by decide) (by decide) hw'
    | 0 + 7, hw', _ => exact owns_agree (owns_base hu h.bw) (fun x hx => hw' x (owns_lt hu x hx) (hu7 x hx))
    | n + 1 + 7, hw', old => exact old (by omega) (by omega) hw'
  · by_cases e : w.heap.size ≤ x
    · exact Nat.le_trans h.bw e
    · rw [lt' (by omega)] at hx; exact h.o0 x hx
  · rw [lt' (rowAt_lt (h.ps.at 1))]; exact h.l1
  · rw [lt' (owns_lt (h.ps.at 3) x hx)]; exact h.l3 x hx
  · rw [lt' (rowAt_lt (h.ps.at 4))]; exact h.l4
  · rw [lt' (rowAt_lt (h.ps.at 5))]; exact h.l5
  · dsimp only at hx
    by_cases e : k = 0
    · subst e
      rw [if_pos rfl] at hx
      exact hu7 x hx
    · rw [if_neg e] at hx
      rw [lt' (owns_lt (h.ps.at (k + 7)) x hx)]; exact h.l7 k x hx

section
variable {X : RC} {w w1 : World} {M : RM} {D : Dom} {K : KT} {now : Int}
theorem RO.set_ag (h : Below X.w0.heap.size X.w0 w) (g o : Nat) (u : Value) (hg : X.w0.heap.size ≤ g) : Below X.w0.heap.size X.w0 (w.setCell ⟨g, o, none⟩ u) := h.setCell (p := ⟨g, o, none⟩) hg u
theorem RO.rb_ge (h : RO X w M D K now) : X.w0.heap.size ≤ X.rb := h.px.rb_ge
theorem RO.gI_ge (h : RO X w M D K now) : X.w0.heap.size ≤ M.gI := h.px.gI_ge
theorem RO.gO_ge (h : RO X w M D K now) : X.w0.heap.size ≤ M.gO := h.px.gO_ge

/-- An event is told. -/
theorem RO.told (h : RO X w M D K now) {a' : Option Addr} {c' : Nat} {E : List EvT} (hg : w.grownBy w1 (Value.slice M.A.aE D.evs.length M.A.cE).ownBlock) (ho : w1.ownsRow X.w0.heap.size 45 4 (.slice a' E.length c') E.length (fE E))
    (hat : ∀ x, (Value.slice a' E.length c').ownBlock = some x → (Value.slice M.A.aE D.evs.length M.A.cE).ownBlock = some x ∨ w.heap.size ≤ x) :
    RO X (w1.setCell ⟨X.rb, 6, none⟩ (.slice a' E.length c')) (evM M a' c') ⟨D.jobs, D.rel, D.nxt, D.ins, D.tak, D.out, E⟩ K now :=
  ⟨RO.set_ag (h.ag.grown hg h.ag.size (fun k hk => owns_ge h.px.evs k hk)) _ _ _ h.rb_ge, (h.px.newE hg.size (fun x hx hne => hg.block x hx (fun e => hne e.symm)) ho hat).setRow 6 _, h.aI, h.aO, h.v0, h.v1, h.con, h.act, h.lL, h.lI, h.lO⟩
theorem RO.setNow (h : RO X w M D K now) (t : Int) : RO X (w.setCell ⟨X.rb, 19, none⟩ (.int .i64 t)) M D K t :=
  ⟨RO.set_ag h.ag _ _ _ h.rb_ge, h.px.setRow 19 _, h.aI, h.aO, h.v0, h.v1, h.con, h.act, h.lL, h.lI, h.lO⟩
theorem RO.setNext (h : RO X w M D K now) (n : Int) : RO X (w.setCell ⟨X.rb, 2, none⟩ (.int .i64 n)) M ⟨D.jobs, D.rel, n, D.ins, D.tak, D.out, D.evs⟩ K now :=
  ⟨RO.set_ag h.ag _ _ _ h.rb_ge, h.px.setRow 2 _, h.aI, h.aO, h.v0, h.v1, h.con, h.act, h.lL, h.lI, h.lO⟩
/-- The cache is another one. -/
theorem RO.newCache (h : RO X w M D K now) (hb : Below w.heap.size w w1) {a : Option Addr} {c : Nat} {K' : KT} (hK : ∀ w' : World, (∀ x, x < w1.heap.size → w.heap.size ≤ x → w'.heap[x]? = w1.heap[x]?) → CacheIn w' a K') :
    RO X (w1.setCell ⟨X.rb, 17, none⟩ (.slice a K'.length c)) (kM M a c) D K' now :=
  ⟨RO.set_ag (h.ag.trans (hb.mono h.ag.size)) _ _ _ h.rb_ge, (h.px.newK hb hK).setRow 17 _, h.aI, h.aO, h.v0, h.v1, h.con, h.act, h.lL, h.lI, h.lO⟩
/-- The jobs are others. -/
theorem RO.newJobs (h : RO X w M D K now) {a' : Option Addr} {c' : Nat} {J : List JobT} (hg : w.grownBy w1 (Value.slice M.A.aJ D.jobs.length M.A.cJ).ownBlock) (ho : w1.ownsRow X.w0.heap.size 79 6 (.slice a' J.length c') J.length (fJ J))
    (hat : ∀ x, (Value.slice a' J.length c').ownBlock = some x → (Value.slice M.A.aJ D.jobs.length M.A.cJ).ownBlock = some x ∨ w.heap.size ≤ x) :
    RO X (w1.setCell ⟨X.rb, 0, none⟩ (.slice a' J.length c')) (jM M a' c') ⟨J, D.rel, D.nxt, D.ins, D.tak, D.out, D.evs⟩ K now :=
  ⟨RO.set_ag (h.ag.grown hg h.ag.size (fun k hk => owns_ge h.px.jobs k hk)) _ _ _ h.rb_ge, (h.px.newJ hg.size (fun x hx hne => hg.block x hx (fun e => hne e.symm)) ho hat).setRow 0 _, h.aI, h.aO, h.v0, h.v1, h.con, h.act, h.lL, h.lI, h.lO⟩
/-- Jobs and numbers of those that were released are others, in new blocks. -/
theorem RO.newJR (h : RO X w M D K now) (hb : Below w.heap.size w w1) {a a' : Option Addr} {c c' : Nat} {J : List JobT} {L : List Int} (ho : w1.ownsRow w.heap.size 79 6 (.slice a J.length c) J.length (fJ J)) (hu : w1.ownsRow w.heap.size 3 1 (.slice a' L.length c') L.length (ivs L)) :
    RO X ((w1.setCell ⟨X.rb, 0, none⟩ (.slice a J.length c)).setCell ⟨X.rb, 1, none⟩ (.slice a' L.length c')) (jrM M a c a' L.length c') ⟨J, L, D.nxt, D.ins, D.tak, D.out, D.evs⟩ K now := by
  have hF : fI ⟨J, L, D.nxt, D.ins, D.tak, D.out, D.evs⟩ = fun k => if k = 0 then L else fI D k := by
    funext k
    unfold fI
    by_cases e : k = 0
    · simp [e]
    · simp [e]
  have hI : inC (fun k => if k = 0 then Value.slice a' L.length c' else M.V k) D.ins = inC M.V D.ins := by
    unfold inC
    simp
  have hO : outC (fun k => if k = 0 then Value.slice a' L.length c' else M.V k) D.out.length = outC M.V D.out.length := by
    unfold outC
    simp
  refine ⟨RO.set_ag (RO.set_ag (h.ag.trans (hb.mono h.ag.size)) _ _ _ h.rb_ge) _ _ _ h.rb_ge, ?_, h.aI, h.aO, rfl, h.v1, h.con, h.act, h.lL, h.lI, h.lO⟩
  have := ((h.px.newJF hb ho hu).setRow 0 (.slice a J.length c)).setRow 1 (.slice a' L.length c')
  show PX _ ⟨X.rb, M.gI, M.gO, X.w0.heap.size, _, inC (fun k => if k = 0 then Value.slice a' L.length c' else M.V k) D.ins, outC (fun k => if k = 0 then Value.slice a' L.length c' else M.V k) D.out.length, _, _, _, _, _, _, _, fI ⟨J, L, D.nxt, D.ins, D.tak, D.out, D.evs⟩, _⟩
  rw [hF, hI, hO]
  exact this
/-- A field of a job is written. -/
theorem RO.setJob (h : RO X w M D K now) {g : Nat} (hg : M.A.aJ = some ⟨g, 0, none⟩) (i r : Nat) (j j' : JobT) (u : Value) (hi : D.jobs[i]? = some j) (hr : r < 6) (hj : (jc j).set r u = jc j') :
    RO X (w.setCell ⟨g, i * 6 + r, none⟩ u) M (setJ D i j') K now := by
  have hbk : (Value.slice M.A.aJ D.jobs.length M.A.cJ).ownBlock = some g := by rw [hg]; rfl
  have hl : (D.jobs.set i j').length = D.jobs.length := List.length_set
  have ho := h.px.jobs
  dsimp only at ho
  have ho2 : (w.setCell ⟨g, i * 6 + r, none⟩ u).ownsRow X.w0.heap.size 79 6 (.slice M.A.aJ D.jobs.length M.A.cJ) (D.jobs.set i j').length (fJ (D.jobs.set i j')) := by
    rw [hg] at ho ⊢
    rw [hl, ← flat_set D.jobs i r j j' u hi hr hj]
    exact owns_set ho u
  have := h.px.newJ (w1 := w.setCell ⟨g, i * 6 + r, none⟩ u) (by simp) (fun x hx hne => heap_set_ne _ _ _ _ x (fun e => hne (by subst e; exact hbk))) ho2 (fun x hx => .inl hx)
  refine ⟨RO.set_ag h.ag _ _ _ (owns_ge h.px.jobs g hbk), ?_, h.aI, h.aO, h.v0, h.v1, h.con, h.act, h.lL, h.lI, h.lO⟩
  have e : psOf X M (setJ D i j') K now = { psOf X M D K now with vJ := .slice M.A.aJ D.jobs.length M.A.cJ, J := D.jobs.set i j' } := by
    simp only [psOf, rl, setJ, hl]
    rfl
  rw [e]
  exact this

theorem inC_set (V : Nat → Value) (I : List (List Int × Int)) (c : Nat) (hc : c < I.length) (v : Value) (r : List Int × Int) : ((inC V I).set (c * 2) v).set (c * 2 + 1) (.int .i64 r.2) = inC (fun k => if k = 2 * c + 2 then v else V k) (I.set c r) := by
  have hl : (inC V I).length = I.length * 2 := by
    unfold inC
    rw [flatN_len _ 2 (fun _ => rfl)]
    simp
  have hl2 : (inC (fun k => if k = 2 * c + 2 then v else V k) (I.set c r)).length = I.length * 2 := by
    unfold inC
    rw [flatN_len _ 2 (fun _ => rfl)]
    simp
  refine List.ext_getElem? (fun n => ?_)
  by_cases hn : n < I.length * 2
  · obtain ⟨i, hi, q⟩ : ∃ i, i < I.length ∧ (n = i * 2 ∨ n = i * 2 + 1) := ⟨n / 2, by omega, by omega⟩
    have hs : i < (I.set c r).length := by simpa using hi
    have a1 := inC_at V I i hi
    have a2 := inC_at (fun k => if k = 2 * c + 2 then v else V k) (I.set c r) i hs
    rcases q with rfl | rfl
    · rw [a2.1, List.getElem?_set_ne (by omega)]
      by_cases e : i = c
      · subst e
        rw [List.getElem?_set_self (by omega)]
        simp
      · rw [List.getElem?_set_ne (by omega), a1.1, if_neg (by omega)]
    · rw [a2.2]
      by_cases e : i = c
      · subst e
        rw [List.getElem?_set_self (by rw [List.length_set]; omega)]
        simp
      · rw [List.getElem?_set_ne (by omega), List.getElem?_set_ne (by omega), a1.2]
        rw [List.getElem_set_ne (by omega)]
  · rw [List.getElem?_eq_none (by rw [List.length_set, List.length_set, hl]; omega), List.getElem?_eq_none (by rw [hl2]; omega)]
theorem outC_set (V : Nat → Value) (n c : Nat) (v : Value) : (outC V n).set c v = outC (fun k => if k = 2 * c + 3 then v else V k) n := by
  refine List.ext_getElem? (fun i => ?_)
  by_cases hi : i < n
  · rw [outC_at _ _ _ hi]
    by_cases e : i = c
    · subst e
      rw [List.getElem?_set_self (by simp [outC, hi])]
      simp
    · rw [List.getElem?_set_ne (by omega), outC_at _ _ _ hi, if_neg (by omega)]
  · rw [List.getElem?_eq_none (by simp [outC]; omega), List.getElem?_eq_none (by simp [outC]; omega)]
theorem inC_out (V : Nat → Value) (I : List (List Int × Int)) (c : Nat) (v : Value) : inC (fun k => if k = 2 * c + 3 then v else V k) I = inC V I := by
  unfold inC
  congr 1
  funext i
  dsimp only
  rw [if_neg (by omega)]
theorem outC_in (V : Nat → Value) (n c : Nat) (v : Value) : outC (fun k => if k = 2 * c + 2 then v else V k) n = outC V n := by
  unfold outC
  congr 1
  funext i
  dsimp only
  rw [if_neg (by omega)]
theorem getD_set_eq {α : Type} (L : List α) (c i : Nat) (x d : α) (hc : c < L.length) : (L.set c x).getD i d = if i = c then x else L.getD i d := by
  by_cases e : i = c
  · subst e
    simp [hc]
  · simp [e, List.getD_eq_getElem?_getD, List.getElem?_set_ne (fun h => e h.symm)]

/-- A value is sent. -/
theorem RO.sent (h : RO X w M D K now) (c : Nat) (hc : c < D.out.length) {v : Value} {L : List Int} (hg : w.grownBy w1 (M.V (2 * c + 3)).ownBlock) (ho : w1.ownsRow X.w0.heap.size 3 1 v L.length (ivs L))
    (hat : ∀ x, v.ownBlock = some x → (M.V (2 * c + 3)).ownBlock = some x ∨ w.heap.size ≤ x) :
    RO X (w1.setCell ⟨M.gO, c, none⟩ v) (vM M (2 * c + 3) v) ⟨D.jobs, D.rel, D.nxt, D.ins, D.tak, D.out.set c L, D.evs⟩ K now := by
  have hF : fI ⟨D.jobs, D.rel, D.nxt, D.ins, D.tak, D.out.set c L, D.evs⟩ = fun k => if k = 2 * c + 3 then L else fI D k := by
    funext k
    unfold fI
    dsimp only
    by_cases e0 : k = 0
    · simp [e0]
    by_cases e1 : k = 1
    · rw [if_neg e0, if_pos e1, if_neg (by omega), if_neg e0, if_pos e1]
    by_cases e2 : k % 2 = 0
    · rw [if_neg e0, if_neg e1, if_pos e2, if_neg (by omega), if_neg e0, if_neg e1, if_pos e2]
    rw [if_neg e0, if_neg e1, if_neg e2, if_neg e0, if_neg e1, if_neg e2, getD_set_eq _ _ _ _ _ hc]
    by_cases e : k = 2 * c + 3
    · rw [if_pos e, if_pos (by omega)]
    · rw [if_neg e, if_neg (by omega)]
  have hl : (D.out.set c L).length = D.out.length := List.length_set
  refine ⟨RO.set_ag (h.ag.grown hg h.ag.size (fun k hk => owns_ge (h.px.ints (2 * c + 3)) k hk)) _ _ _ h.gO_ge, ?_, h.aI, h.aO, ?_, ?_, h.con, h.act, h.lL, h.lI, by dsimp only; rw [hl]; exact h.lO⟩
  · have := (h.px.newF (2 * c + 3) hg.size (fun x hx hne => hg.block x hx (fun e => hne e.symm)) ho hat).setOut c v
    dsimp only at this
    rw [outC_set] at this
    have e : psOf X (vM M (2 * c + 3) v) ⟨D.jobs, D.rel, D.nxt, D.ins, D.tak, D.out.set c L, D.evs⟩ K now = { psOf X M D K now with cO := outC (fun k => if k = 2 * c + 3 then v else M.V k) D.out.length, V := fun k => if k = 2 * c + 3 then v else M.V k, F := fun k => if k = 2 * c + 3 then L else fI D k } := by
      simp only [psOf, rl, hF, hl, inC_out]
    rw [e]
    exact this
  · show (if 0 = 2 * c + 3 then v else M.V 0) = _
    rw [if_neg (by omega)]; exact h.v0
  · show (if 1 = 2 * c + 3 then v else M.V 1) = _
    rw [if_neg (by omega)]; exact h.v1
/-- A ring is another one. -/
theorem RO.received (h : RO X w M D K now) (c : Nat) (hc : c < D.ins.length) {v : Value} {r : List Int × Int} (hb : Below w.heap.size w w1) (ho : w1.ownsRow w.heap.size 3 1 v r.1.length (ivs r.1)) :
    RO X ((w1.setCell ⟨M.gI, c * 2, none⟩ v).setCell ⟨M.gI, c * 2 + 1, none⟩ (.int .i64 r.2)) (vM M (2 * c + 2) v) ⟨D.jobs, D.rel, D.nxt, D.ins.set c r, D.tak, D.out, D.evs⟩ K now := by
  have hF : fI ⟨D.jobs, D.rel, D.nxt, D.ins.set c r, D.tak, D.out, D.evs⟩ = fun k => if k = 2 * c + 2 then r.1 else fI D k := by
    funext k
    unfold fI
    dsimp only
    by_cases e0 : k = 0
    · simp [e0]
    by_cases e1 : k = 1
    · rw [if_neg e0, if_pos e1, if_neg (by omega), if_neg e0, if_pos e1]
    by_cases e2 : k % 2 = 0
    · rw [if_neg e0, if_neg e1, if_pos e2, if_neg e0, if_neg e1, if_pos e2, getD_set_eq _ _ _ _ _ hc]
      by_cases e : k = 2 * c + 2
      · rw [if_pos e, if_pos (by omega)]
      · rw [if_neg e, if_neg (by omega)]
    · rw [if_neg e0, if_neg e1, if_neg e2, if_neg (by omega), if_neg e0, if_neg e1, if_neg e2]
  have hl : (D.ins.set c r).length = D.ins.length := List.length_set
  refine ⟨RO.set_ag (RO.set_ag (h.ag.trans (hb.mono h.ag.size)) _ _ _ h.gI_ge) _ _ _ h.gI_ge, ?_, h.aI, h.aO, ?_, ?_, h.con, h.act, h.lL, by dsimp only; rw [hl]; exact h.lI, h.lO⟩
  · have := ((h.px.newF (2 * c + 2) hb.size (fun x hx _ => hb.block x hx) (owns_base ho h.ag.size) (fun x hx => .inr (owns_ge ho x hx))).setIn (c * 2) v).setIn (c * 2 + 1) (.int .i64 r.2)
    dsimp only at this
    rw [inC_set _ _ _ hc] at this
    have e : psOf X (vM M (2 * c + 2) v) ⟨D.jobs, D.rel, D.nxt, D.ins.set c r, D.tak, D.out, D.evs⟩ K now = { psOf X M D K now with cI := inC (fun k => if k = 2 * c + 2 then v else M.V k) (D.ins.set c r), V := fun k => if k = 2 * c + 2 then v else M.V k, F := fun k => if k = 2 * c + 2 then r.1 else fI D k } := by
      simp only [psOf, rl, hF, hl, outC_in]
    rw [e]
    exact this
  · show (if 0 = 2 * c + 2 then v else M.V 0) = _
    rw [if_neg (by omega)]; exact h.v0
  · show (if 1 = 2 * c + 2 then v else M.V 1) = _
    rw [if_neg (by omega)]; exact h.v1
/-- What was taken is none now. -/
theorem RO.taken (h : RO X w M D K now) {g : Nat} (hg : M.A.aT = some ⟨g, 0, none⟩) (c : Nat) (n : Int) : RO X (w.setCell ⟨g, c, none⟩ (.int .i64 n)) M ⟨D.jobs, D.rel, D.nxt, D.ins, D.tak.set c n, D.out, D.evs⟩ K now := by
  have hbk : (M.V 1).ownBlock = some g := by rw [h.v1, hg]; rfl
  have hl : (D.tak.set c n).length = D.tak.length := List.length_set
  have ho := h.takOwn
  have ho2 : (w.setCell ⟨g, c, none⟩ (.int .i64 n)).ownsRow X.w0.heap.size 3 1 (M.V 1) (D.tak.set c n).length (ivs (D.tak.set c n)) := by
    rw [h.v1, hl, ← ivs_set]
    rw [hg] at ho ⊢
    exact owns_set ho _
  have hF : fI ⟨D.jobs, D.rel, D.nxt, D.ins, D.tak.set c n, D.out, D.evs⟩ = fun k => if k = 1 then D.tak.set c n else fI D k := by
    funext k
    unfold fI
    dsimp only
    by_cases e0 : k = 0
    · simp [e0]
    by_cases e1 : k = 1
    · rw [if_neg e0, if_pos e1, if_pos e1]
    · rw [if_neg e0, if_neg e1, if_neg e1, if_neg e0, if_neg e1]
  have hV : (fun k => if k = 1 then M.V 1 else M.V k) = M.V := by
    funext k
    by_cases e : k = 1
    · rw [if_pos e, e]
    · rw [if_neg e]
  have := h.px.newF (w1 := w.setCell ⟨g, c, none⟩ (.int .i64 n)) 1 (by simp) (fun x hx hne => heap_set_ne _ _ _ _ x (fun e => hne (by subst e; exact hbk))) ho2 (fun x hx => .inl hx)
  refine ⟨RO.set_ag h.ag _ _ _ (owns_ge (h.px.ints 1) g hbk), ?_, h.aI, h.aO, h.v0, ?_, h.con, h.act, h.lL, h.lI, h.lO⟩
  · dsimp only at this
    rw [hV] at this
    have e : psOf X M ⟨D.jobs, D.rel, D.nxt, D.ins, D.tak.set c n, D.out, D.evs⟩ K now = { psOf X M D K now with F := fun k => if k = 1 then D.tak.set c n else fI D k } := by
      simp only [psOf, rl, hF, hl]
    rw [e]
    exact this
  · dsimp only
    rw [hl]
    exact h.v1
end

end Go.Proofs.YtildebflnmbefaaGreat

namespace Go.Proofs.YtildebflnmbefaaGreat
open Go.RowKit

abbrev shA (M : RM) (D : Dom) (g : Nat) : DMem := ⟨M.A.aJ, M.A.aR, M.A.aI, M.A.aT, some ⟨g, 0, none⟩, none, M.A.cJ, M.A.cR, M.A.cI, M.A.cT, D.out.length, 0⟩

theorem shown_dom {X : RC} {w w1 : World} {M : RM} {D : Dom} {K : KT} {now : Int} (h : RO X w M D K now) (hb : Below w.heap.size w w1) {g : Nat} (hg : w1.heap[g]? = some (.cells (madeCells #[.slice none 0 0] D.out.length) 23 (0, 0))) : DomIn w1 (shA M D g) (shownD D) := by
  have d := h.dom.keep hb
  have hO := h.lO
  refine ⟨d.jobs, d.rel, d.ins, d.tak, ?_, ?_, d.lJ, d.lR, d.lI, d.lT, by simp [shownD]; omega, by simp [shownD]⟩
  · intro i hi
    have hi' : i < D.out.length := by simpa [shownD] using hi
    have e : (shownD D).out[i] = [] := by simp [shownD]
    refine ⟨g, 0, none, 0, rfl, ?_, ?_, ?_, ?_⟩
    · have := (ListsK.start (m := 0) (L := D.out) hg)
      obtain ⟨cs, v, h1, h2, h3, h4⟩ := this
      rw [e, Nat.zero_add]
      have hc : w1.cell? ⟨g, i, none⟩ = (madeCells #[Value.slice none 0 0] D.out.length)[i]? := by simp [World.cell?, hg]
      rw [hc, List.length_nil]
      rw [← Array.getElem?_toList, toList_madeCells_one, List.getElem?_replicate, if_pos hi']
    · rw [e]; intro j hj; simp at hj
    · rw [e]; exact Nat.zero_le _
    · rw [e]; exact Nat.zero_le _
  · intro i hi; simp [shownD] at hi

set_option maxRecDepth 100000 in
set_option maxHeartbeats 1000000 in
theorem shown_ok (X : RC) (M : RM) (D : Dom) (K : KT) (now : Int) (w : World) (h : RO X w M D K now) :
    Calls Tryz.prog 41 #[.pointer (some ⟨X.rb, 0, none⟩)] w fun e w' => ∃ g, e = .returned (dv (shownD D) (shA M D g)) ∧ DomIn w' (shA M D g) (shownD D) ∧ Below w.heap.size w w' := by
  have hrb : X.rb < w.heap.size := h.row.lt
  have HH := hid h
  have c0 := h.row.cell 0 _ rfl
  have c1 := h.row.cell 1 _ rfl
  have c2 := h.row.cell 2 _ rfl
  have c3 := h.row.cell 3 _ rfl
  have c4 := h.row.cell 4 _ rfl
  have c5 := h.row.cell 5 _ rfl
  have c6 := h.row.cell 6 _ rfl
  have hO := h.lO
  have hmk := make83_any D.out.length (by omega)
  clear h
  go_enter Tryz.func41, Tryz.ntmps41
  go_wp2
  have HB := btrans (btrans (below_new w (.cells #[.slice M.A.aJ D.jobs.length M.A.cJ, .slice M.A.aR D.rel.length M.A.cR, .int .i64 D.nxt, .slice M.A.aI D.ins.length M.A.cI, .slice M.A.aT D.tak.length M.A.cT, .slice (some ⟨w.heap.size + 1 + 1, 0, none⟩) D.out.length D.out.length, .slice none 0 0] 33)) (below_new _ (.cells #[.slice M.A.aJ D.jobs.length M.A.cJ, .slice M.A.aR D.rel.length M.A.cR, .int .i64 D.nxt, .slice M.A.aI D.ins.length M.A.cI, .slice M.A.aT D.tak.length M.A.cT, .slice (some ⟨w.heap.size + 1 + 1, 0, none⟩) D.out.length D.out.length, .slice none 0 0] 33))) (below_new _ (.cells (madeCells #[.slice none 0 0] D.out.length) 23))
  refine bodyPost_ret (v := .agg #[.slice M.A.aJ D.jobs.length M.A.cJ, .slice M.A.aR D.rel.length M.A.cR, .int .i64 D.nxt, .slice M.A.aI D.ins.length M.A.cI, .slice M.A.aT D.tak.length M.A.cT, .slice (some ⟨w.heap.size + 1 + 1, 0, none⟩) D.out.length D.out.length, .slice none 0 0]) (by simp [results, Tryz.results41, go_sem]) rfl ⟨w.heap.size + 1 + 1, by simp [shownD], shown_dom HH.out HB ?_, HB⟩
  have := heap_alloc_new ((w.alloc (.cells #[.slice M.A.aJ D.jobs.length M.A.cJ, .slice M.A.aR D.rel.length M.A.cR, .int .i64 D.nxt, .slice M.A.aI D.ins.length M.A.cI, .slice M.A.aT D.tak.length M.A.cT, .slice (some ⟨w.heap.size + 1 + 1, 0, none⟩) D.out.length D.out.length, .slice none 0 0] 33)).alloc (.cells #[.slice M.A.aJ D.jobs.length M.A.cJ, .slice M.A.aR D.rel.length M.A.cR, .int .i64 D.nxt, .slice M.A.aI D.ins.length M.A.cI, .slice M.A.aT D.tak.length M.A.cT, .slice (some ⟨w.heap.size + 1 + 1, 0, none⟩) D.out.length D.out.length, .slice none 0 0] 33)) (.cells (madeCells #[.slice none 0 0] D.out.length) 23)
  simpa using this

end Go.Proofs.YtildebflnmbefaaGreat

namespace Go.Proofs.YtildebflnmbefaaGreat
open Go.RowKit

theorem PX.shift {w wx : World} {s : PS} (h : PX w s) (hk : ∀ x, s.base ≤ x → (∀ p ∈ s.fr, p.1 ≠ x) → wx.heap[x]? = w.heap[x]?) : PX wx { s with fr := [] } := by
  have hrb := h.row
  have hge := h.rb_ge
  obtain ⟨own, h⟩ := h
  have hno : ∀ x, own x ≠ 0 → ∀ p ∈ s.fr, p.1 ≠ x := fun x hx p hp e => hx (by rw [← e]; exact h.lf p hp)
  have hlt : s.rb < wx.heap.size := (Array.getElem?_eq_some_iff.1 ((hk s.rb hge (hno _ (by rw [h.l1]; decide))).trans hrb)).1
  refine ⟨own, ⟨fun l w' hw' => ?_, by show s.base ≤ _; omega, h.o0, h.l1, h.l2, h.l3, h.l4, h.l5, h.l7, fun p hp => by simp at hp⟩⟩
  by_cases hl : l = 0
  · subst hl
    intro p hp
    simp at hp
  · have oldP : s.P l w' := h.ps l w' (fun x hx ho => by
      have hb : s.base ≤ x := h.o0 x (by rw [ho]; exact hl)
      have e := hk x hb (hno x (by rw [ho]; exact hl))
      have hx' : x < wx.heap.size := by
        rw [Array.getElem?_eq_getElem hx] at e
        exact (Array.getElem?_eq_some_iff.1 e).1
      exact (hw' x hx' ho).trans e)
    match l, hl, oldP with
    | 0, hl, _ => exact absurd rfl hl
    | 1, _, oldP => exact oldP
    | 2, _, oldP => exact oldP
    | 3, _, oldP => exact oldP
    | 4, _, oldP => exact oldP
    | 5, _, oldP => exact oldP
    | 6, _, oldP => exact oldP
    | n + 7, _, oldP => exact oldP

theorem RO.domAt {X : RC} {w wx : World} {M : RM} {D : Dom} {K : KT} {now : Int} (h : RO X w M D K now) (hk : ∀ x, X.w0.heap.size ≤ x → (∀ p ∈ X.fr, p.1 ≠ x) → wx.heap[x]? = w.heap[x]?) : DomIn wx M.A D ∧ CacheIn wx M.aK K := by
  have px := h.px.shift hk
  have hI := h.lI
  have hO := h.lO
  have j := owns_in px.jobs
  have e := owns_in px.evs
  have r0 := px.ints 0
  have t0 := px.ints 1
  dsimp only at r0 t0
  rw [h.v0] at r0
  rw [h.v1] at t0
  have r := owns_in r0
  have t := owns_in t0
  refine ⟨⟨jobsIn_of j.1, intsIn_of r.1, ?_, intsIn_of t.1, ?_, evsIn_of e.1, j.2.2, r.2.2, by omega, t.2.2, by omega, e.2.2⟩, px.cache⟩
  · intro i hi
    obtain ⟨c0, c1⟩ := inC_at M.V D.ins i hi
    have o := px.ints (2 * i + 2)
    dsimp only at o
    rw [fI_in, show D.ins.getD i ([], 0) = D.ins[i] by simp [hi]] at o
    obtain ⟨a, c, ev, hc, hm, hI, _⟩ := owns_cells o
    refine ⟨M.gI, 0, a, c, h.aI, ?_, ?_, intsIn_of hI, hc, by simp only [maxLen] at hm; omega⟩
    · rw [Nat.zero_add, ← ev]; exact px.inr.cell _ _ c0
    · rw [Nat.zero_add]; exact px.inr.cell _ _ c1
  · intro i hi
    have o := px.ints (2 * i + 3)
    dsimp only at o
    rw [fI_out, show D.out.getD i [] = D.out[i] by simp [hi]] at o
    obtain ⟨a, c, ev, hc, hm, hI, _⟩ := owns_cells o
    exact ⟨M.gO, 0, a, c, h.aO, by rw [Nat.zero_add, ← ev]; exact px.outr.cell _ _ (outC_at M.V _ i hi), intsIn_of hI, hc, by simp only [maxLen] at hm; omega⟩

/-- The type of a block. -/
def tyAt (w : World) (x : Nat) : Nat := match w.heap[x]? with | some (.cells _ t _) => t | _ => 0
theorem tyAt_row {w : World} {g : Nat} {t : Nat} {L : List Value} (h : RowAt w g t L) : tyAt w g = t := by unfold tyAt; rw [show w.heap[g]? = _ from h]
theorem tyAt_own {w : World} {base e sz n : Nat} {v : Value} {xs : List Value} (h : w.ownsRow base e sz v n xs) (x : Nat) (hx : v.ownBlock = some x) : tyAt w x = e := by
  obtain ⟨cur, hc⟩ := owns_heap h hx
  unfold tyAt
  rw [hc]

/-- Who has a block, by its type. -/
def ownT0 (w : World) (base : Nat) (kf : Nat → Nat) : Nat → Nat := fun x =>
  if base ≤ x then
    (if tyAt w x = 64 then 1 else if tyAt w x = 79 then 2 else if tyAt w x = 45 then 3 else if tyAt w x = 83 then 4 else if tyAt w x = 23 then 5 else if tyAt w x = 84 ∨ tyAt w x = 87 then 6 else
      if tyAt w x = 3 ∧ kf x ≠ 0 then kf x + 6 else 0)
  else 0
/-- Which list has a block, if any. -/
theorem kf_ex (V : Nat → Value) (hap : ∀ i j x, (V i).ownBlock = some x → (V j).ownBlock = some x → i = j) : ∃ kf : Nat → Nat, ∀ k x, (V k).ownBlock = some x → kf x = k + 1 := by
  classical
  refine ⟨fun x => if h : ∃ k, (V k).ownBlock = some x then Classical.choose h + 1 else 0, fun k x hx => ?_⟩
  have h : ∃ k, (V k).ownBlock = some x := ⟨k, hx⟩
  show (if h : ∃ k, (V k).ownBlock = some x then Classical.choose h + 1 else 0) = k + 1
  rw [dif_pos h, hap _ k x (Classical.choose_spec h) hx]

theorem PX.start {w : World} {s : PS} {g0 : Nat} (hR : RowAt w s.rb 64 s.R) (hrb : s.base ≤ s.rb) (hJ : w.ownsRow s.base 79 6 s.vJ s.J.length (fJ s.J)) (hE : w.ownsRow s.base 45 4 s.vE s.E.length (fE s.E)) (hI : RowAt w s.gI 83 s.cI) (hgI : s.base ≤ s.gI) (hO : RowAt w s.gO 23 s.cO) (hgO : s.base ≤ s.gO)
    (hV : ∀ k, w.ownsRow s.base 3 1 (s.V k) (s.F k).length (ivs (s.F k))) (hap : ∀ i j x, (s.V i).ownBlock = some x → (s.V j).ownBlock = some x → i = j) (hK : OwnC w g0 s.K s.K.length) (h3 : ∀ ls ∈ s.K, ls.length ≤ 3) (hg0 : s.base ≤ g0) (haK : s.aK = some ⟨g0, 0, none⟩)
    (hfr : ∀ p ∈ s.fr, w.heap[p.1]? = some p.2 ∧ (tyAt w p.1 = 27 ∨ tyAt w p.1 = 33 ∨ tyAt w p.1 = 36)) : PX w s := by
  obtain ⟨kf, hkf⟩ := kf_ex s.V hap
  have t2 : ∀ x, s.vJ.ownBlock = some x → ownT0 w s.base kf x = 2 := fun x hx => by
    have := tyAt_own hJ x hx
    unfold ownT0
    rw [if_pos (owns_ge hJ x hx), if_neg (by omega), if_pos this]
  have t3 : ∀ x, s.vE.ownBlock = some x → ownT0 w s.base kf x = 3 := fun x hx => by
    have := tyAt_own hE x hx
    unfold ownT0
    rw [if_pos (owns_ge hE x hx), if_neg (by omega), if_neg (by omega), if_pos this]
  have t1 : ownT0 w s.base kf s.rb = 1 := by
    unfold ownT0
    rw [if_pos hrb, if_pos (tyAt_row hR)]
  have t4 : ownT0 w s.base kf s.gI = 4 := by
    have := tyAt_row hI
    unfold ownT0
    rw [if_pos hgI, if_neg (by omega), if_neg (by omega), if_neg (by omega), if_pos this]
  have t5 : ownT0 w s.base kf s.gO = 5 := by
    have := tyAt_row hO
    unfold ownT0
    rw [if_pos hgO, if_neg (by omega), if_neg (by omega), if_neg (by omega), if_neg (by omega), if_pos this]
  have t6 : ∀ x, s.base ≤ x → (tyAt w x = 84 ∨ tyAt w x = 87) → ownT0 w s.base kf x = 6 := fun x hx ht => by
    unfold ownT0
    rw [if_pos hx, if_neg (by omega), if_neg (by omega), if_neg (by omega), if_neg (by omega), if_neg (by omega), if_pos ht]
  have t7 : ∀ k x, (s.V k).ownBlock = some x → ownT0 w s.base kf x = k + 7 := fun k x hx => by
    have ht := tyAt_own (hV k) x hx
    have hex : tyAt w x = 3 ∧ kf x ≠ 0 := ⟨ht, by rw [hkf k x hx]; omega⟩
    unfold ownT0
    rw [if_pos (owns_ge (hV k) x hx), if_neg (by omega), if_neg (by omega), if_neg (by omega), if_neg (by omega), if_neg (by omega), if_neg (by omega), if_pos hex, hkf k x hx]
  refine ⟨ownT0 w s.base kf, ⟨fun l w' hw' => ?_, by have := hR.lt; omega, fun x hx => ?_, t1, t2, t3, t4, t5, t7, fun p hp => ?_⟩⟩
  · match l, hw' with
    | 0, hw' =>
      intro p hp
      obtain ⟨h1, h2⟩ := hfr p hp
      rw [hw' p.1 (Array.getElem?_eq_some_iff.1 h1).1 ?_]
      · exact h1
      · unfold ownT0
        split
        · rw [if_neg (by omega), if_neg (by omega), if_neg (by omega), if_neg (by omega), if_neg (by omega), if_neg (by omega), if_neg (by intro h'; omega)]
        · rfl
    | 1, hw' => exact (hw' s.rb hR.lt t1).trans hR
    | 2, hw' => exact owns_agree hJ (fun x hx => hw' x (owns_lt hJ x hx) (t2 x hx))
    | 3, hw' => exact owns_agree hE (fun x hx => hw' x (owns_lt hE x hx) (t3 x hx))
    | 4, hw' => exact (hw' s.gI hI.lt t4).trans hI
    | 5, hw' => exact (hw' s.gO hO.lt t5).trans hO
    | 6, hw' =>
      show CacheIn w' s.aK s.K
      rw [haK]
      refine cacheIn_of_own (k := s.K.length) ?_ (Nat.le_refl _) h3
      obtain ⟨L, G, cp, k1, k2, k4, k5⟩ := hK
      refine ⟨L, G, cp, (hw' g0 k1.lt (t6 g0 hg0 (.inl (tyAt_row k1)))).trans k1, k2, fun j hj hl => ⟨(k4 j hj hl).1, owns_agree (k4 j hj hl).2 (fun x hx => hw' x (owns_lt (k4 j hj hl).2 x hx) (t6 x (by have := owns_ge (k4 j hj hl).2 x hx; omega) (.inr (tyAt_own (k4 j hj hl).2 x hx))))⟩, k5⟩
    | n + 7, hw' => exact owns_agree (hV n) (fun x hx => hw' x (owns_lt (hV n) x hx) (t7 n x hx))
  · by_cases hb : s.base ≤ x
    · exact hb
    · exact absurd (by unfold ownT0; rw [if_neg hb]) hx
  · obtain ⟨h1, h2⟩ := hfr p hp
    unfold ownT0
    split
    · rw [if_neg (by omega), if_neg (by omega), if_neg (by omega), if_neg (by omega), if_neg (by omega), if_neg (by omega), if_neg (by intro h'; omega)]
    · rfl

/-- The values of the lists of numbers. -/
def vAll (A : DMem) (D : Dom) (vI vO : Nat → Value) : Nat → Value := fun k =>
  if k = 0 then .slice A.aR D.rel.length A.cR else if k = 1 then .slice A.aT D.tak.length A.cT
  else if k % 2 = 0 then (if k / 2 - 1 < D.ins.length then vI (k / 2 - 1) else .slice none 0 0) else (if k / 2 - 1 < D.out.length then vO (k / 2 - 1) else .slice none 0 0)
theorem vAll_in (A : DMem) (D : Dom) (vI vO : Nat → Value) (i : Nat) (h : i < D.ins.length) : vAll A D vI vO (2 * i + 2) = vI i := by
  unfold vAll
  rw [if_neg (by omega), if_neg (by omega), if_pos (by omega), if_pos (by omega), show (2 * i + 2) / 2 - 1 = i by omega]
theorem vAll_out (A : DMem) (D : Dom) (vI vO : Nat → Value) (i : Nat) (h : i < D.out.length) : vAll A D vI vO (2 * i + 3) = vO i := by
  unfold vAll
  rw [if_neg (by omega), if_neg (by omega), if_neg (by omega), if_pos (by omega), show (2 * i + 3) / 2 - 1 = i by omega]

theorem RO.start {X : RC} {w : World} {A : DMem} {D : Dom} {gI gO m p q g0 : Nat} {K : KT} {fr0 : Int} (hown : DomOwn X.w0.heap.size w A D gI gO m p q) (hrow : RowAt w X.rb 64 (rl X ⟨A, fun _ => .slice none 0 0, gI, gO, some ⟨g0, 0, none⟩, K.length⟩ D K fr0)) (hrb : X.w0.heap.size ≤ X.rb)
    (hK : OwnC w g0 K K.length) (h3 : ∀ ls ∈ K, ls.length ≤ 3) (hg0 : X.w0.heap.size ≤ g0) (hag : Below X.w0.heap.size X.w0 w) (hfr : ∀ p ∈ X.fr, w.heap[p.1]? = some p.2 ∧ (tyAt w p.1 = 27 ∨ tyAt w p.1 = 33 ∨ tyAt w p.1 = 36))
    (con : ConfIn X.w0 X.B X.C) (act : ChansIn X.w0 X.aL X.L) (lL : X.L.length ≤ 1000) (lI : D.ins.length ≤ 1000) (lO : D.out.length ≤ 1000) : ∃ M, RO X w M D K fr0 := by
  obtain ⟨csI, vI, rI1, rI2, rI3, BI, bI1, bI2, bI3, bI4⟩ := hown.i
  obtain ⟨csO, vO, rO1, rO2, rO3, BO, bO1, bO2, bO3, bO4⟩ := hown.o
  have moI := mono_le bI2
  have moO := mono_le bO2
  have hmp := hown.mp
  have hbm := hown.bI
  have eI : csI = inC (vAll A D vI vO) D.ins := by
    have hl2 : (inC (vAll A D vI vO) D.ins).length = D.ins.length * 2 := by
      unfold inC
      rw [flatN_len _ 2 (fun _ => rfl)]
      simp
    refine List.ext_getElem? (fun n => ?_)
    by_cases hn : n < D.ins.length * 2
    · obtain ⟨i, hi, hq⟩ : ∃ i, i < D.ins.length ∧ (n = i * 2 ∨ n = i * 2 + 1) := ⟨n / 2, by omega, by omega⟩
      have a1 := rI3 i hi
      have a2 := inC_at (vAll A D vI vO) D.ins i hi
      rcases hq with rfl | rfl
      · rw [a1.1, a2.1, vAll_in _ _ _ _ _ hi]
      · rw [a1.2, a2.2, show D.ins.getD i ([], 0) = D.ins[i] by simp [hi]]
    · rw [List.getElem?_eq_none (by omega), List.getElem?_eq_none (by omega)]
  have eO : csO = outC (vAll A D vI vO) D.out.length := by
    refine List.ext_getElem? (fun n => ?_)
    by_cases hn : n < D.out.length
    · rw [rO3 n hn, outC_at _ _ _ hn, vAll_out _ _ _ _ _ hn]
    · rw [List.getElem?_eq_none (by omega), List.getElem?_eq_none (by simp [outC]; omega)]
  have hV : ∀ k, w.ownsRow X.w0.heap.size 3 1 (vAll A D vI vO k) (fI D k).length (ivs (fI D k)) := fun k => by
    by_cases e0 : k = 0
    · subst e0; exact hown.r
    by_cases e1 : k = 1
    · subst e1; exact hown.t
    by_cases e2 : k % 2 = 0
    · obtain ⟨i, rfl⟩ : ∃ i, k = 2 * i + 2 := ⟨k / 2 - 1, by omega⟩
      rw [fI_in]
      by_cases hi : i < D.ins.length
      · rw [vAll_in _ _ _ _ _ hi]
        exact owns_base (bI1 i hi).1 (by have := moI 0 i (by omega) (by omega); omega)
      · rw [show D.ins.getD i ([], 0) = ([], 0) by simp [List.getD_eq_getElem?_getD, List.getElem?_eq_none (by omega : D.ins.length ≤ i)]]
        have : vAll A D vI vO (2 * i + 2) = .slice none 0 0 := by
          unfold vAll
          rw [if_neg (by omega), if_neg (by omega), if_pos (by omega), if_neg (by omega)]
        rw [this]
        exact World.ownsRow_nil _ _ _ _
    · obtain ⟨i, rfl⟩ : ∃ i, k = 2 * i + 3 := ⟨k / 2 - 1, by omega⟩
      rw [fI_out]
      by_cases hi : i < D.out.length
      · rw [vAll_out _ _ _ _ _ hi]
        exact owns_base (bO1 i hi).1 (by have := moO 0 i (by omega) (by omega); omega)
      · rw [show D.out.getD i [] = [] by simp [List.getD_eq_getElem?_getD, List.getElem?_eq_none (by omega : D.out.length ≤ i)]]
        have : vAll A D vI vO (2 * i + 3) = .slice none 0 0 := by
          unfold vAll
          rw [if_neg (by omega), if_neg (by omega), if_neg (by omega), if_neg (by omega)]
        rw [this]
        exact World.ownsRow_nil _ _ _ _
  -- where each of them lies
  have where_ : ∀ k x, (vAll A D vI vO k).ownBlock = some x → (k = 0 ∧ (Value.slice A.aR D.rel.length A.cR).ownBlock = some x ∧ x < m) ∨ (k = 1 ∧ (Value.slice A.aT D.tak.length A.cT).ownBlock = some x ∧ x < m) ∨ (∃ i, k = 2 * i + 2 ∧ i < D.ins.length ∧ BI i ≤ x ∧ x < BI (i + 1) ∧ m ≤ x ∧ x < p) ∨ (∃ i, k = 2 * i + 3 ∧ i < D.out.length ∧ BO i ≤ x ∧ x < BO (i + 1) ∧ p ≤ x) := fun k x hx => by
    by_cases e0 : k = 0
    · subst e0; exact .inl ⟨rfl, hx, hown.lt x (.inr (.inl hx))⟩
    by_cases e1 : k = 1
    · subst e1; exact .inr (.inl ⟨rfl, hx, hown.lt x (.inr (.inr (.inl hx)))⟩)
    by_cases e2 : k % 2 = 0
    · obtain ⟨i, rfl⟩ : ∃ i, k = 2 * i + 2 := ⟨k / 2 - 1, by omega⟩
      by_cases hi : i < D.ins.length
      · rw [vAll_in _ _ _ _ _ hi] at hx
        have g1 := owns_ge (bI1 i hi).1 x hx
        have g2 := (bI1 i hi).2 x hx
        have g3 := moI 0 i (by omega) (by omega)
        have g4 := moI (i + 1) D.ins.length (by omega) (by omega)
        exact .inr (.inr (.inl ⟨i, rfl, hi, g1, g2, by omega, by omega⟩))
      · have : vAll A D vI vO (2 * i + 2) = .slice none 0 0 := by
          unfold vAll
          rw [if_neg (by omega), if_neg (by omega), if_pos (by omega), if_neg (by omega)]
        rw [this] at hx
        cases hx
    · obtain ⟨i, rfl⟩ : ∃ i, k = 2 * i + 3 := ⟨k / 2 - 1, by omega⟩
      by_cases hi : i < D.out.length
      · rw [vAll_out _ _ _ _ _ hi] at hx
        have g1 := owns_ge (bO1 i hi).1 x hx
        have g2 := (bO1 i hi).2 x hx
        have g3 := moO 0 i (by omega) (by omega)
        exact .inr (.inr (.inr ⟨i, rfl, hi, g1, g2, by omega⟩))
      · have : vAll A D vI vO (2 * i + 3) = .slice none 0 0 := by
          unfold vAll
          rw [if_neg (by omega), if_neg (by omega), if_neg (by omega), if_neg (by omega)]
        rw [this] at hx
        cases hx
  have hap : ∀ i j x, (vAll A D vI vO i).ownBlock = some x → (vAll A D vI vO j).ownBlock = some x → i = j := fun i j x h1 h2 => by
    rcases where_ i x h1 with ⟨ei, a1, a2⟩ | ⟨ei, a1, a2⟩ | ⟨a, ei, a1, a2, a3, a4, a5⟩ | ⟨a, ei, a1, a2, a3, a4⟩ <;> rcases where_ j x h2 with ⟨ej, b1, b2⟩ | ⟨ej, b1, b2⟩ | ⟨b, ej, b1, b2, b3, b4, b5⟩ | ⟨b, ej, b1, b2, b3, b4⟩
    · omega
    · exact absurd b1 (hown.rt x a1)
    · omega
    · omega
    · exact absurd a1 (hown.rt x b1)
    · omega
    · omega
    · omega
    · omega
    · omega
    · rcases Nat.lt_trichotomy a b with h | h | h
      · have := moI (a + 1) b (by omega) (by omega); omega
      · omega
      · have := moI (b + 1) a (by omega) (by omega); omega
    · omega
    · omega
    · omega
    · omega
    · rcases Nat.lt_trichotomy a b with h | h | h
      · have := moO (a + 1) b (by omega) (by omega); omega
      · omega
      · have := moO (b + 1) a (by omega) (by omega); omega
  rw [eI] at rI1
  rw [eO] at rO1
  refine ⟨⟨A, vAll A D vI vO, gI, gO, some ⟨g0, 0, none⟩, K.length⟩, ⟨hag, PX.start (g0 := g0) hrow hrb hown.j hown.e rI1 hown.bI.1 rO1 hown.bO.1 hV hap hK h3 hg0 rfl hfr, hown.aI, hown.aO, rfl, rfl, con, act, lL, lI, lO⟩⟩

end Go.Proofs.YtildebflnmbefaaGreat
