/- Rows of cells: jobs, events and numbers in memory of their own; copies of them; regions in whatever order. A law on a region in whatever order: what holds at the start and is kept by each operation, however they come, holds at its end. Walks: a copy of a domain: its first statement. Made by genzc.py. Rows and boxes behind a store; what holds at the end of a domain's copy's first statement. Rows of lists in memory of their own, laid one behind the other. -/
import Derived.Test.YtildebflnmbefaaGreatKe
import Derived.Deep.AppendLies
import Derived.OrdersHeld
import Derived.Deep.RegionHeld3
import Derived.Deep.OwnRows
import Derived.Deep.MidRow
set_option linter.unusedVariables false
namespace Go.Proofs.YtildebflnmbefaaGreat
open Go.RowKit

/-- A row of things of n cells each. -/
theorem flatN_len {α : Type} (f : α → List Value) (n : Nat) (hf : ∀ x, (f x).length = n) (l : List α) : (l.flatMap f).length = l.length * n := by
  induction l with
  | nil => simp
  | cons x r ih => simp only [List.flatMap_cons, List.length_append, hf, ih, List.length_cons, Nat.add_mul]; omega
theorem flatN_at {α : Type} (f : α → List Value) (n : Nat) (hf : ∀ x, (f x).length = n) (l : List α) (i r : Nat) (h : i < l.length) (hr : r < n) : (l.flatMap f)[i * n + r]? = (f l[i])[r]? := by
  induction l generalizing i with
  | nil => simp at h
  | cons x t ih =>
    cases i with
    | zero => simp [List.getElem?_append, hf, hr]
    | succ i =>
      have h2 := ih i (by simpa using h)
      have e1 : (i + 1) * n + r = n + (i * n + r) := by rw [Nat.add_mul]; omega
      rw [List.flatMap_cons, e1, List.getElem?_append_right (by rw [hf]; omega), hf, Nat.add_sub_cancel_left, h2]
      simp
theorem flatN_mem {α : Type} (f : α → List Value) (p : Value → Prop) (hf : ∀ x, ∀ u ∈ f x, p u) (l : List α) : ∀ u ∈ l.flatMap f, p u := by
  intro u hu
  obtain ⟨x, _, h⟩ := List.mem_flatMap.1 hu
  exact hf x u h

def jc (j : JobT) : List Value := [.int .i64 j.1, .int .i64 j.2.1, .int .i64 j.2.2.1, .int .i64 j.2.2.2.1, .bool j.2.2.2.2.1, .bool j.2.2.2.2.2]
def ec (x : EvT) : List Value := [.int .i64 x.1, .int .i64 x.2.1, .int .i64 x.2.2.1, .int .i64 x.2.2.2]
/-- The cells of a list of jobs, of events. -/
def fJ (J : List JobT) : List Value := J.flatMap jc
def fE (E : List EvT) : List Value := E.flatMap ec
theorem fJ_len (J : List JobT) : (fJ J).length = J.length * 6 := flatN_len jc 6 (fun _ => rfl) J
theorem fE_len (J : List EvT) : (fE J).length = J.length * 4 := flatN_len ec 4 (fun _ => rfl) J
theorem fJ_app (J K : List JobT) : fJ (J ++ K) = fJ J ++ fJ K := by simp [fJ]
theorem fE_app (J K : List EvT) : fE (J ++ K) = fE J ++ fE K := by simp [fE]
theorem fJ_one (J : List JobT) : ∀ u ∈ fJ J, u.oneCell' = true := flatN_mem jc _ (fun x u hu => by
  simp only [jc, List.mem_cons, List.not_mem_nil, or_false] at hu
  rcases hu with rfl | rfl | rfl | rfl | rfl | rfl <;> rfl) J
theorem fE_one (J : List EvT) : ∀ u ∈ fE J, u.oneCell' = true := flatN_mem ec _ (fun x u hu => by
  simp only [ec, List.mem_cons, List.not_mem_nil, or_false] at hu
  rcases hu with rfl | rfl | rfl | rfl <;> rfl) J

/-- Cells that lie one behind the other. -/
def CellsIn (w : World) (a : Option Addr) (xs : List Value) : Prop := xs ≠ [] → ∃ b o, a = some ⟨b, o, none⟩ ∧ ∀ j u, xs[j]? = some u → w.cell? ⟨b, o + j, none⟩ = some u

theorem JobsIn.cells {w : World} {a : Option Addr} {J : List JobT} (h : JobsIn w a J) : CellsIn w a (fJ J) := by
  intro hne
  have hp : 0 < J.length := List.length_pos_iff.2 (fun e => hne (by rw [e]; rfl))
  obtain ⟨b, o, rfl, _⟩ := h 0 hp
  refine ⟨b, o, rfl, fun j u hu => ?_⟩
  have hj : j < J.length * 6 := by rw [← fJ_len]; exact (List.getElem?_eq_some_iff.1 hu).1
  have hi : j / 6 < J.length := by omega
  obtain ⟨b', o', e, h0, h1, h2, h3, h4, h5⟩ := h (j / 6) hi
  simp only [Option.some.injEq, Addr.mk.injEq, and_true] at e
  obtain ⟨rfl, rfl⟩ := e
  have hat := flatN_at jc 6 (fun _ => rfl) J (j / 6) (j % 6) hi (Nat.mod_lt _ (by omega))
  have ej : j / 6 * 6 + j % 6 = j := by omega
  rw [ej] at hat
  have hu' : (jc J[j / 6])[j % 6]? = some u := by rw [← hat]; exact hu
  have hc : j % 6 = 0 ∨ j % 6 = 1 ∨ j % 6 = 2 ∨ j % 6 = 3 ∨ j % 6 = 4 ∨ j % 6 = 5 := by omega
  rcases hc with hc | hc | hc | hc | hc | hc <;> rw [hc] at hu' <;> simp [jc] at hu' <;> subst hu'
  · rw [show o + j = o + j / 6 * 6 from by omega]; exact h0
  · rw [show o + j = o + j / 6 * 6 + 1 from by omega]; exact h1
  · rw [show o + j = o + j / 6 * 6 + 2 from by omega]; exact h2
  · rw [show o + j = o + j / 6 * 6 + 3 from by omega]; exact h3
  · rw [show o + j = o + j / 6 * 6 + 4 from by omega]; exact h4
  · rw [show o + j = o + j / 6 * 6 + 5 from by omega]; exact h5
theorem EvsIn.cells {w : World} {a : Option Addr} {J : List EvT} (h : EvsIn w a J) : CellsIn w a (fE J) := by
  intro hne
  have hp : 0 < J.length := List.length_pos_iff.2 (fun e => hne (by rw [e]; rfl))
  obtain ⟨b, o, rfl, _⟩ := h 0 hp
  refine ⟨b, o, rfl, fun j u hu => ?_⟩
  have hj : j < J.length * 4 := by rw [← fE_len]; exact (List.getElem?_eq_some_iff.1 hu).1
  have hi : j / 4 < J.length := by omega
  obtain ⟨b', o', e, h0, h1, h2, h3⟩ := h (j / 4) hi
  simp only [Option.some.injEq, Addr.mk.injEq, and_true] at e
  obtain ⟨rfl, rfl⟩ := e
  have hat := flatN_at ec 4 (fun _ => rfl) J (j / 4) (j % 4) hi (Nat.mod_lt _ (by omega))
  have ej : j / 4 * 4 + j % 4 = j := by omega
  rw [ej] at hat
  have hu' : (ec J[j / 4])[j % 4]? = some u := by rw [← hat]; exact hu
  have hc : j % 4 = 0 ∨ j % 4 = 1 ∨ j % 4 = 2 ∨ j % 4 = 3 := by omega
  rcases hc with hc | hc | hc | hc <;> rw [hc] at hu' <;> simp [ec] at hu' <;> subst hu'
  · rw [show o + j = o + j / 4 * 4 from by omega]; exact h0
  · rw [show o + j = o + j / 4 * 4 + 1 from by omega]; exact h1
  · rw [show o + j = o + j / 4 * 4 + 2 from by omega]; exact h2
  · rw [show o + j = o + j / 4 * 4 + 3 from by omega]; exact h3
theorem IntsIn.cells {w : World} {a : Option Addr} {L : List Int} (h : IntsIn w a L) : CellsIn w a (ivs L) := by
  intro hne
  have hp : 0 < L.length := List.length_pos_iff.2 (fun e => hne (by rw [e]; rfl))
  obtain ⟨b, o, rfl, _⟩ := h 0 hp
  refine ⟨b, o, rfl, fun j u hu => ?_⟩
  have hj : j < L.length := by rw [← ivs_len L]; exact (List.getElem?_eq_some_iff.1 hu).1
  obtain ⟨b', o', e, h0⟩ := h j hj
  simp only [Option.some.injEq, Addr.mk.injEq, and_true] at e
  obtain ⟨rfl, rfl⟩ := e
  simp [ivs, hj] at hu
  rw [h0, hu]

/-- A row that a slice owns. -/
theorem owns_cells {w : World} {base e sz n : Nat} {v : Value} {xs : List Value} (h : w.ownsRow base e sz v n xs) : ∃ a c, v = .slice a n c ∧ n ≤ c ∧ n ≤ maxLen ∧ CellsIn w a xs ∧ (∀ b o, a = some ⟨b, o, none⟩ → o = 0 ∧ base ≤ b ∧ b < w.heap.size) := by
  have h' := h
  obtain ⟨hl, hv⟩ := h
  rcases hv with ⟨rfl, hn⟩ | ⟨g, cap, cur, rfl, hb, hg, hnc, hm, hcs, ht⟩
  · exact ⟨none, 0, by rw [hn], by omega, by omega, fun hne => absurd (List.length_eq_zero_iff.1 (by rw [hl, hn]; omega)) hne, fun b o e => by simp at e⟩
  · refine ⟨_, cap, rfl, hnc, by omega, fun _ => ⟨g, 0, rfl, fun j u hu => ?_⟩, fun b o e => ?_⟩
    · have := h'.cells (g := g) rfl j u hu
      rw [addZ] at this
      rw [Nat.zero_add]; exact this
    · simp at e
      obtain ⟨rfl, rfl⟩ := e
      exact ⟨rfl, hb, (Array.getElem?_eq_some_iff.1 hg).1⟩
theorem owns_below {w w' : World} {base e sz n : Nat} {v : Value} {xs : List Value} (h : w.ownsRow base e sz v n xs) (hb : Below w.heap.size w w') : w'.ownsRow base e sz v n xs := by
  refine ⟨h.1, ?_⟩
  rcases h.2 with q | ⟨g, cap, cur, e1, e2, e3, r⟩
  · exact .inl q
  · have hlt : g < w.heap.size := (Array.getElem?_eq_some_iff.1 e3).1
    exact .inr ⟨g, cap, cur, e1, e2, by rw [hb.block g hlt]; exact e3, r⟩

theorem jobsIn_of {w : World} {a : Option Addr} {J : List JobT} (h : CellsIn w a (fJ J)) : JobsIn w a J := by
  intro i hi
  have hne : fJ J ≠ [] := fun e => by have := fJ_len J; rw [e] at this; simp at this; omega
  obtain ⟨b, o, rfl, hc⟩ := h hne
  have hat := fun r hr => flatN_at jc 6 (fun _ => rfl) J i r hi hr
  refine ⟨b, o, rfl, ?_, ?_, ?_, ?_, ?_, ?_⟩
  · exact hc (i * 6) _ ((hat 0 (by omega)).trans rfl)
  · rw [Nat.add_assoc]; exact hc _ _ ((hat 1 (by omega)).trans rfl)
  · rw [Nat.add_assoc]; exact hc _ _ ((hat 2 (by omega)).trans rfl)
  · rw [Nat.add_assoc]; exact hc _ _ ((hat 3 (by omega)).trans rfl)
  · rw [Nat.add_assoc]; exact hc _ _ ((hat 4 (by omega)).trans rfl)
  · rw [Nat.add_assoc]; exact hc _ _ ((hat 5 (by omega)).trans rfl)
theorem evsIn_of {w : World} {a : Option Addr} {J : List EvT} (h : CellsIn w a (fE J)) : EvsIn w a J := by
  intro i hi
  have hne : fE J ≠ [] := fun e => by have := fE_len J; rw [e] at this; simp at this; omega
  obtain ⟨b, o, rfl, hc⟩ := h hne
  have hat := fun r hr => flatN_at ec 4 (fun _ => rfl) J i r hi hr
  refine ⟨b, o, rfl, ?_, ?_, ?_, ?_⟩
  · exact hc (i * 4) _ ((hat 0 (by omega)).trans rfl)
  · rw [Nat.add_assoc]; exact hc _ _ ((hat 1 (by omega)).trans rfl)
  · rw [Nat.add_assoc]; exact hc _ _ ((hat 2 (by omega)).trans rfl)
  · rw [Nat.add_assoc]; exact hc _ _ ((hat 3 (by omega)).trans rfl)
theorem intsIn_of {w : World} {a : Option Addr} {L : List Int} (h : CellsIn w a (ivs L)) : IntsIn w a L := by
  intro i hi
  have hne : ivs L ≠ [] := fun e => by have := ivs_len L; rw [e] at this; simp at this; omega
  obtain ⟨b, o, rfl, hc⟩ := h hne
  exact ⟨b, o, rfl, hc i _ (by simp [ivs, hi])⟩

/-- An append of cells that lie somewhere, none or some, to a row of one's own. -/
theorem wpList_appG {ops : Array Oper} {rest : List Oper} {o : Oper} {a : Act} {w : World} {Q : Exit → Act → World → Prop} (hgd : o.guard = none) (s x : Operand) (t e : TypeId)
    (ho : o.op = .call { callee := .builtin .append, args := #[s, x], argTypes := #[t, t] }) (z : Value) (sz by_ : Nat) (ht : Tryz.prog.underlying t = some (.slice e)) (hI : (Tryz.prog.info? e).map (fun i => (i.zero, i.size, i.bytes)) = some (some z, sz, by_)) (hzs : z.cells.size = sz) (hsz : 0 < sz)
    (base : Nat) (v : Value) (n : Nat) (xs : List Value) (hs : a.eval s = v) (hown : w.ownsRow base e sz v n xs)
    (m : Nat) (news : List Value) (hlen : news.length = m * sz) (h1 : ∀ u ∈ news, u.oneCell' = true) (a6 : Option Addr) (c6 : Nat) (hx : a.eval x = .slice a6 m c6) (hL : CellsIn w a6 news) (h63 : n + m ≤ maxLen) (hbytes : (n + m) * by_ ≤ 140737488355328) (hbase : base ≤ w.heap.size)
    (h : ∀ v' w', w'.ownsRow base e sz v' (n + m) (xs ++ news) → w.grownBy w' v.ownBlock → wpList Tryz.prog ops Q rest (a.put o.dst v') w') : wpList Tryz.prog ops Q (o :: rest) a w := by
  obtain ⟨i3, hi, hz, hsz', hby⟩ := infoOf hI
  by_cases hL0 : m = 0
  · subst hL0
    have hn0 : news = [] := List.length_eq_zero_iff.1 (by rw [hlen]; omega)
    subst hn0
    have hroom : ∃ p cap, v = .slice p n cap ∧ n ≤ cap := by
      rcases hown.2 with ⟨e, e2⟩ | ⟨g, cap, _, e, _, _, h, _⟩
      · exact ⟨none, 0, by rw [e, e2], by omega⟩
      · exact ⟨_, cap, e, h⟩
    obtain ⟨p, cap, rfl, hr⟩ := hroom
    refine wpList_plain hgd fun K hK => ?_
    have hrun := append_none (P := Tryz.prog) w t o.type e i3 ht hi p n cap a6 c6 hr
    unfold Oper.wp
    simp [execOp, ho, resolve, invoke, builtin, hs, hx, hrun, Result.andThen]
    exact hK _ _ (h _ _ (by simpa using hown) ⟨rfl, rfl, rfl, Nat.le_refl _, fun _ _ _ => rfl⟩)
  · have hne : news ≠ [] := fun e => by
      have hp := Nat.mul_pos (Nat.pos_of_ne_zero hL0) hsz
      rw [← hlen, e] at hp
      exact absurd hp (by simp)
    obtain ⟨b, off, rfl, hc⟩ := hL hne
    refine wpList_append_own w hgd s x t ho base e i3 z sz by_ ht hi hz hsz' hby hzs hsz v n xs hs hown ⟨b, off, none⟩ m c6 news hx hlen ?_ h1 h63 hbytes hbase (fun v' w' h1 h2 _ => h v' w' h1 h2)
    intro j u hu
    have hadd : (⟨b, off, none⟩ : Addr).add j = ⟨b, off + j, none⟩ := by unfold Addr.add; split <;> simp_all
    rw [hadd]
    exact hc j u hu

theorem Tryz.info79x : (Tryz.prog.info? 79).map (fun i => (i.zero, i.size, i.bytes)) = some (some (.agg #[.int .i64 0, .int .i64 0, .int .i64 0, .int .i64 0, .bool false, .bool false]), 6, 40) := by kernel_rfl
theorem Tryz.info45x : (Tryz.prog.info? 45).map (fun i => (i.zero, i.size, i.bytes)) = some (some (.agg #[.int .i64 0, .int .i64 0, .int .i64 0, .int .i64 0]), 4, 32) := by kernel_rfl

section
set_option maxRecDepth 100000
set_option maxHeartbeats 400000
theorem clone123_any (a : Option Addr) (J : List JobT) (cap : Nat) (w : World) (hw : JobsIn w a J) (hl : J.length ≤ 1000000000000) :
    Calls Tryz.prog 23 #[.slice a J.length cap] w fun e w' => ∃ v, e = .returned v ∧ w'.ownsRow w.heap.size 79 6 v J.length (fJ J) ∧ Below w.heap.size w w' := by
  have hnilq := fun (w : World) (a : Option Addr) (n c : Nat) => Lib.run_eql_slice_nil (P := Tryz.prog) w 28 79 a n c 0 0 Tryz.underlying28
  cases a with
  | none =>
    have hJ : J = [] := by
      cases J with
      | nil => rfl
      | cons x r => obtain ⟨b, o, e, _⟩ := hw 0 (by simp); cases e
    subst hJ
    go_enter Tryz.func23, Tryz.ntmps23
    go_wp2
    go_ret
    exact ⟨_, rfl, World.ownsRow_nil _ _ _ _, Below.refl _ _⟩
  | some p =>
    have h1 : Below w.heap.size w (w.alloc (.cells #[] 79)) := below_new _ _
    have hown : Hid ((w.alloc (.cells #[] 79)).ownsRow w.heap.size 79 6 (.slice (some ⟨w.heap.size, 0, none⟩) 0 0) 0 []) := hid (World.ownsRow_made w #[] 0 (Nat.le_refl _) (by simp [maxLen]) rfl)
    have Hw := hid (hw.keep h1).cells
    go_enter Tryz.func23, Tryz.ntmps23
    go_wp2_with (at_builtin; refine wpList_appG rfl _ _ 28 79 rfl _ 6 40 Tryz.underlying28 Tryz.info79x rfl (by omega) w.heap.size (.slice (some ⟨w.heap.size, 0, none⟩) 0 0) 0 [] rfl hown.out J.length (fJ J) (fJ_len J) (fJ_one J) _ _ rfl Hw.out (by simp [maxLen]; omega) (by omega) (by simp) ?_)
    intro v' w1 hown1 hgrow
    have HE := hid (show w1.ownsRow w.heap.size 79 6 v' J.length (fJ J) ∧ Below w.heap.size w w1 from ⟨by simpa using hown1, h1.grown hgrow (by simp) (fun k hk => by simp [Value.ownBlock] at hk; omega)⟩)
    clear hown1 hgrow hown h1 Hw
    go_wp2
    go_ret
    exact ⟨_, rfl, HE.out⟩
theorem clone124_any (a : Option Addr) (J : List EvT) (cap : Nat) (w : World) (hw : EvsIn w a J) (hl : J.length ≤ 1000000000000) :
    Calls Tryz.prog 25 #[.slice a J.length cap] w fun e w' => ∃ v, e = .returned v ∧ w'.ownsRow w.heap.size 45 4 v J.length (fE J) ∧ Below w.heap.size w w' := by
  have hnilq := fun (w : World) (a : Option Addr) (n c : Nat) => Lib.run_eql_slice_nil (P := Tryz.prog) w 31 45 a n c 0 0 Tryz.underlying31
  cases a with
  | none =>
    have hJ : J = [] := by
      cases J with
      | nil => rfl
      | cons x r => obtain ⟨b, o, e, _⟩ := hw 0 (by simp); cases e
    subst hJ
    go_enter Tryz.func25, Tryz.ntmps25
    go_wp2
    go_ret
    exact ⟨_, rfl, World.ownsRow_nil _ _ _ _, Below.refl _ _⟩
  | some p =>
    have h1 : Below w.heap.size w (w.alloc (.cells #[] 45)) := below_new _ _
    have hown : Hid ((w.alloc (.cells #[] 45)).ownsRow w.heap.size 45 4 (.slice (some ⟨w.heap.size, 0, none⟩) 0 0) 0 []) := hid (World.ownsRow_made w #[] 0 (Nat.le_refl _) (by simp [maxLen]) rfl)
    have Hw := hid (hw.keep h1).cells
    go_enter Tryz.func25, Tryz.ntmps25
    go_wp2_with (at_builtin; refine wpList_appG rfl _ _ 31 45 rfl _ 4 32 Tryz.underlying31 Tryz.info45x rfl (by omega) w.heap.size (.slice (some ⟨w.heap.size, 0, none⟩) 0 0) 0 [] rfl hown.out J.length (fE J) (fE_len J) (fE_one J) _ _ rfl Hw.out (by simp [maxLen]; omega) (by omega) (by simp) ?_)
    intro v' w1 hown1 hgrow
    have HE := hid (show w1.ownsRow w.heap.size 45 4 v' J.length (fE J) ∧ Below w.heap.size w w1 from ⟨by simpa using hown1, h1.grown hgrow (by simp) (fun k hk => by simp [Value.ownBlock] at hk; omega)⟩)
    clear hown1 hgrow hown h1 Hw
    go_wp2
    go_ret
    exact ⟨_, rfl, HE.out⟩
theorem clone87b_any (a : Option Addr) (L : List Int) (cap : Nat) (w : World) (hw : IntsIn w a L) (hl : L.length ≤ 1000000000000) :
    Calls Tryz.prog 24 #[.slice a L.length cap] w fun e w' => ∃ v, e = .returned v ∧ w'.ownsRow w.heap.size 3 1 v L.length (ivs L) ∧ Below w.heap.size w w' := by
  have hnilq := fun (w : World) (a : Option Addr) (n c : Nat) => Lib.run_eql_slice_nil (P := Tryz.prog) w 23 3 a n c 0 0 Tryz.underlying23
  cases a with
  | none =>
    have hJ : L = [] := by
      cases L with
      | nil => rfl
      | cons x r => obtain ⟨b, o, e, _⟩ := hw 0 (by simp); cases e
    subst hJ
    go_enter Tryz.func24, Tryz.ntmps24
    go_wp2
    go_ret
    exact ⟨_, rfl, World.ownsRow_nil _ _ _ _, Below.refl _ _⟩
  | some p =>
    have h1 : Below w.heap.size w (w.alloc (.cells #[] 3)) := below_new _ _
    have hown : Hid ((w.alloc (.cells #[] 3)).ownsRow w.heap.size 3 1 (.slice (some ⟨w.heap.size, 0, none⟩) 0 0) 0 []) := hid (World.ownsRow_made w #[] 0 (Nat.le_refl _) (by simp [maxLen]) rfl)
    have Hw := hid (hw.keep h1)
    go_enter Tryz.func24, Tryz.ntmps24
    go_wp2_with (at_builtin; refine wpList_appI rfl _ _ rfl w.heap.size (.slice (some ⟨w.heap.size, 0, none⟩) 0 0) 0 [] rfl hown.out L _ _ rfl Hw.out (by simp [maxLen]; omega) (by omega) (by simp) ?_)
    intro v' w1 hown1 hgrow
    have HE := hid (show w1.ownsRow w.heap.size 3 1 v' L.length (ivs L) ∧ Below w.heap.size w w1 from ⟨by simpa using hown1, h1.grown hgrow (by simp) (fun k hk => by simp [Value.ownBlock] at hk; omega)⟩)
    clear hown1 hgrow hown h1 Hw
    go_wp2
    go_ret
    exact ⟨_, rfl, HE.out⟩
end

end Go.Proofs.YtildebflnmbefaaGreat

namespace Go.Proofs.YtildebflnmbefaaGreat
open Go.RowKit

theorem count_set (l : List Bool) (i : Nat) (h : l[i]? = some false) : (l.set i true).countP (fun b => !b) + 1 = l.countP (fun b => !b) := by
  induction l generalizing i with
  | nil => simp at h
  | cons x r ih =>
    cases i with
    | zero =>
      simp at h
      subst h
      simp
    | succ i =>
      have := ih i (by simpa using h)
      simp only [List.set_cons_succ, List.countP_cons]
      omega

/-- Each operation waits for such alone as stand ahead of it. -/
def ordB (ops : Array Oper) : Bool := (List.range ops.size).all fun i => ((ops[i]?).map (·.after.all fun e => decide (e.on < i))).getD true

theorem ordB_spec {ops : Array Oper} (h : ordB ops = true) {i : Nat} {o : Oper} (ho : ops[i]? = some o) : ∀ e ∈ o.after, e.on < i := by
  intro e he
  have hi : i < ops.size := (Array.getElem?_eq_some_iff.1 ho).1
  have := List.all_eq_true.1 h i (List.mem_range.2 hi)
  rw [ho] at this
  simp only [Option.map_some, Option.getD_some] at this
  exact of_decide_eq_true (Array.all_eq_true_iff_forall_mem.1 this e he)

theorem all_listed {md : Region.Mode} {ops : Array Oper} {l : Array Bool} (hord : ordB ops = true) (hsz : l.size = ops.size) (hr : Region.ready md ops l = []) : ∀ i, i < ops.size → l.getD i false = true := by
  intro i
  induction i using Nat.strongRecOn with
  | ind i ih =>
    intro hi
    cases hl : l.getD i false with
    | true => rfl
    | false =>
      exfalso
      have hlt : i < l.size := by omega
      have h1 : l.getD i true = false := by simpa [Array.getD_eq_getD_getElem?, hlt] using hl
      obtain ⟨o, ho⟩ : ∃ o, ops[i]? = some o := ⟨_, Array.getElem?_eq_getElem hi⟩
      have : i ∈ Region.ready md ops l := mem_ready.2 ⟨h1, o, ho, fun e he _ => ih e.on (ordB_spec hord ho e he) (by have := ordB_spec hord ho e he; omega)⟩
      rw [hr] at this
      cases this

theorem wpAny_inv {P : Program} {md : Region.Mode} {ops : Array Oper} {Q : Exit → Act → World → Prop} (R : Array Bool → Act → World → Prop) (hord : ordB ops = true)
    (hstep : ∀ (l : Array Bool) (a : Act) (w : World) (i : Nat) (o : Oper), R l a w → ops[i]? = some o → l.getD i false = false → (∀ e ∈ o.after, Region.binds md e = true → l.getD e.on false = true) → ∀ K' : Act → World → Prop, Shut (∀ a w, R (l.setIfInBounds i true) a w → K' a w) → if Region.wanted o (yielded ops a.tmps) = true then Oper.wp P o a w K' Q else K' (a.put o.dst undef) w)
    (hend : ∀ (l : Array Bool) (a : Act) (w : World), R l a w → (∀ i, i < ops.size → l.getD i false = true) → Q .normal a w) :
    ∀ (fuel : Nat) (l : Array Bool) (a : Act) (w : World), l.size = ops.size → l.toList.countP (fun b => !b) ≤ fuel → R l a w → wpAny P md ops Q fuel l a w := by
  intro fuel
  induction fuel with
  | zero =>
    intro l a w hsz hc hR
    have hr : Region.ready md ops l = [] := by
      apply List.eq_nil_iff_forall_not_mem.2
      intro i hi
      obtain ⟨h0, o, ho, _⟩ := mem_ready.1 hi
      have hlt : i < l.size := by have := (Array.getElem?_eq_some_iff.1 ho).1; omega
      have hz : l.toList.countP (fun b => !b) = 0 := by omega
      have := List.countP_eq_zero.1 hz l[i] (by simp)
      simp [Array.getD_eq_getD_getElem?, hlt] at h0
      simp [h0] at this
    exact ⟨hr, hend l a w hR (all_listed hord hsz hr)⟩
  | succ fuel ih =>
    intro l a w hsz hc hR
    refine ⟨fun hr => hend l a w hR (all_listed hord hsz hr), fun i hi => ?_⟩
    obtain ⟨h0, o, ho, hall⟩ := mem_ready.1 hi
    have hlt : i < l.size := by have := (Array.getElem?_eq_some_iff.1 ho).1; omega
    have h0' : l[i] = false := by simpa [Array.getD_eq_getD_getElem?, hlt] using h0
    have h00 : l.getD i false = false := by simp [Array.getD_eq_getD_getElem?, hlt, h0']
    refine wpOp_step ho (fun K' hK => hstep l a w i o hR ho h00 hall K' (fun a' w' h' => hK a' w' (ih _ a' w' (by simpa using hsz) ?_ h')))
    have := count_set l.toList i (by simp [hlt, h0'])
    rw [Array.toList_setIfInBounds]
    omega

end Go.Proofs.YtildebflnmbefaaGreat

namespace Go.Proofs.YtildebflnmbefaaGreat
open Go.RowKit

/-- A slice that make made, of things of one cell, of two. -/
def Made1 (n0 : Nat) (w : World) (v : Value) (n : Nat) : Prop := ∃ g, v = .slice (some ⟨g, 0, none⟩) n n ∧ n0 ≤ g ∧ w.heap[g]? = some (.cells (madeCells #[.slice none 0 0] n) 23 (0, 0))
def Made2 (n0 : Nat) (w : World) (v : Value) (n : Nat) : Prop := ∃ g, v = .slice (some ⟨g, 0, none⟩) n n ∧ n0 ≤ g ∧ w.heap[g]? = some (.cells (madeCells #[.slice none 0 0, .int .i64 0] (n * 2)) 83 (0, 0))
/-- A box that holds an empty domain. -/
def Box7 (n0 : Nat) (w : World) (v : Value) : Prop := ∃ g, v = .pointer (some ⟨g, 0, none⟩) ∧ n0 ≤ g ∧ RowAt w g 33 [.slice none 0 0, .slice none 0 0, .int .i64 0, .slice none 0 0, .slice none 0 0, .slice none 0 0, .slice none 0 0]

theorem Made1.keep {n0 : Nat} {w w' : World} {v : Value} {n : Nat} (h : Made1 n0 w v n) (hb : Below w.heap.size w w') : Made1 n0 w' v n := by
  obtain ⟨g, e, h1, h2⟩ := h
  exact ⟨g, e, h1, by rw [hb.block g (Array.getElem?_eq_some_iff.1 h2).1]; exact h2⟩
theorem Made2.keep {n0 : Nat} {w w' : World} {v : Value} {n : Nat} (h : Made2 n0 w v n) (hb : Below w.heap.size w w') : Made2 n0 w' v n := by
  obtain ⟨g, e, h1, h2⟩ := h
  exact ⟨g, e, h1, by rw [hb.block g (Array.getElem?_eq_some_iff.1 h2).1]; exact h2⟩
theorem Box7.keep {n0 : Nat} {w w' : World} {v : Value} (h : Box7 n0 w v) (hb : Below w.heap.size w w') : Box7 n0 w' v := by
  obtain ⟨g, e, h1, h2⟩ := h
  exact ⟨g, e, h1, h2.below hb (Nat.le_refl _)⟩

def upd (x : Nat → Value) (s : Nat) (v : Value) : Nat → Value := fun t => if t = s then v else x t
/-- The slot that an operation of the region writes. -/
def dS : Nat → Nat
  | 0 => 8
  | 1 => 9
  | 2 => 10
  | 3 => 11
  | 4 => 12
  | 5 => 13
  | 6 => 14
  | 7 => 15
  | 8 => 16
  | 9 => 17
  | 10 => 18
  | 11 => 19
  | 12 => 20
  | 13 => 21
  | 14 => 22
  | 15 => 23
  | 16 => 24
  | 17 => 25
  | 18 => 26
  | 19 => 27
  | 20 => 28
  | 21 => 29
  | 22 => 30
  | 23 => 3
  | _ => 99
/-- The operations whose slots a fact speaks of. -/
def dO : Nat → List Nat
  | 14 => [5, 14]
  | 22 => [2, 5, 11, 14, 18, 21, 22]
  | i => [i]
/-- What holds once operation i is done. -/
def FC (D : Dom) (A : DMem) (n0 db : Nat) (i : Nat) (x : Nat → Value) (w : World) : Prop :=
  match i with
  | 0 => x 8 = .pointer (some ⟨db, 0, none⟩)
  | 1 => x 9 = .slice A.aJ D.jobs.length A.cJ
  | 2 => w.ownsRow n0 79 6 (x 10) D.jobs.length (fJ D.jobs)
  | 3 => x 11 = .pointer (some ⟨db, 1, none⟩)
  | 4 => x 12 = .slice A.aR D.rel.length A.cR
  | 5 => w.ownsRow n0 3 1 (x 13) D.rel.length (ivs D.rel)
  | 6 => x 14 = .pointer (some ⟨db, 2, none⟩)
  | 7 => x 15 = .int .i64 D.nxt
  | 8 => x 16 = .pointer (some ⟨db, 3, none⟩)
  | 9 => x 17 = .slice A.aI D.ins.length A.cI
  | 10 => x 18 = .int .i64 D.ins.length
  | 11 => Made2 n0 w (x 19) D.ins.length
  | 12 => x 20 = .pointer (some ⟨db, 4, none⟩)
  | 13 => x 21 = .slice A.aT D.tak.length A.cT
  | 14 => w.ownsRow n0 3 1 (x 22) D.tak.length (ivs D.tak) ∧ ∀ g, (x 13).ownBlock = some g → (x 22).ownBlock ≠ some g
  | 15 => x 23 = .pointer (some ⟨db, 5, none⟩)
  | 16 => x 24 = .slice A.aO D.out.length A.cO
  | 17 => x 25 = .int .i64 D.out.length
  | 18 => Made1 n0 w (x 26) D.out.length
  | 19 => x 27 = .pointer (some ⟨db, 6, none⟩)
  | 20 => x 28 = .slice A.aE D.evs.length A.cE
  | 21 => w.ownsRow n0 45 4 (x 29) D.evs.length (fE D.evs)
  | 22 => x 30 = .agg #[x 10, x 13, .int .i64 D.nxt, x 19, x 22, x 26, x 29]
  | 23 => Box7 n0 w (x 3)
  | _ => True
def AF (D : Dom) (A : DMem) (db rb : Nat) (x : Nat → Value) : Act := { tmps := #[dv D A, .pointer (some ⟨db, 0, none⟩), .pointer (some ⟨rb, 0, none⟩), x 3, undef, undef, undef, undef, x 8, x 9, x 10, x 11, x 12, x 13, x 14, x 15, x 16, x 17, x 18, x 19, x 20, x 21, x 22, x 23, x 24, x 25, x 26, x 27, x 28, x 29, x 30, undef, undef, undef, undef, undef, undef, undef, undef, undef, undef, undef, undef, undef, undef, undef, undef, undef, undef, undef, undef, undef, undef, undef, undef, undef, undef, undef, undef, undef, undef, undef, undef, undef, undef, undef], defers := [] }

theorem fc_keep {D : Dom} {A : DMem} {n0 db : Nat} {x x' : Nat → Value} {w w' : World} (hb : Below w.heap.size w w') (i : Nat) (hx : ∀ j ∈ dO i, x' (dS j) = x (dS j)) (h : FC D A n0 db i x w) : FC D A n0 db i x' w' := by
  match i with
  | 0 => exact (hx 0 (by simp [dO])).trans h
  | 1 => exact (hx 1 (by simp [dO])).trans h
  | 2 => have e : x' 10 = x 10 := hx 2 (by simp [dO]); show World.ownsRow _ _ _ _ (x' 10) _ _; rw [e]; exact owns_below h hb
  | 3 => exact (hx 3 (by simp [dO])).trans h
  | 4 => exact (hx 4 (by simp [dO])).trans h
  | 5 => have e : x' 13 = x 13 := hx 5 (by simp [dO]); show World.ownsRow _ _ _ _ (x' 13) _ _; rw [e]; exact owns_below h hb
  | 6 => exact (hx 6 (by simp [dO])).trans h
  | 7 => exact (hx 7 (by simp [dO])).trans h
  | 8 => exact (hx 8 (by simp [dO])).trans h
  | 9 => exact (hx 9 (by simp [dO])).trans h
  | 10 => exact (hx 10 (by simp [dO])).trans h
  | 11 => have e : x' 19 = x 19 := hx 11 (by simp [dO]); show Made2 _ _ (x' 19) _; rw [e]; exact Made2.keep h hb
  | 12 => exact (hx 12 (by simp [dO])).trans h
  | 13 => exact (hx 13 (by simp [dO])).trans h
  | 14 =>
    have e : x' 22 = x 22 := hx 14 (by simp [dO])
    have e2 : x' 13 = x 13 := hx 5 (by simp [dO])
    show World.ownsRow _ _ _ _ (x' 22) _ _ ∧ ∀ g, (x' 13).ownBlock = some g → (x' 22).ownBlock ≠ some g
    rw [e, e2]
    exact ⟨owns_below h.1 hb, h.2⟩
  | 15 => exact (hx 15 (by simp [dO])).trans h
  | 16 => exact (hx 16 (by simp [dO])).trans h
  | 17 => exact (hx 17 (by simp [dO])).trans h
  | 18 => have e : x' 26 = x 26 := hx 18 (by simp [dO]); show Made1 _ _ (x' 26) _; rw [e]; exact Made1.keep h hb
  | 19 => exact (hx 19 (by simp [dO])).trans h
  | 20 => exact (hx 20 (by simp [dO])).trans h
  | 21 => have e : x' 29 = x 29 := hx 21 (by simp [dO]); show World.ownsRow _ _ _ _ (x' 29) _ _; rw [e]; exact owns_below h hb
  | 22 =>
    have e0 : x' 30 = x 30 := hx 22 (by simp [dO])
    have e1 : x' 10 = x 10 := hx 2 (by simp [dO])
    have e2 : x' 13 = x 13 := hx 5 (by simp [dO])
    have e3 : x' 19 = x 19 := hx 11 (by simp [dO])
    have e4 : x' 22 = x 22 := hx 14 (by simp [dO])
    have e5 : x' 26 = x 26 := hx 18 (by simp [dO])
    have e6 : x' 29 = x 29 := hx 21 (by simp [dO])
    show x' 30 = .agg #[x' 10, x' 13, .int .i64 D.nxt, x' 19, x' 22, x' 26, x' 29]
    rw [e0, e1, e2, e3, e4, e5, e6]
    exact h
  | 23 => have e : x' 3 = x 3 := hx 23 (by simp [dO]); show Box7 _ _ (x' 3); rw [e]; exact Box7.keep h hb
  | n + 24 => trivial

theorem dS_inj : ∀ i, i < 24 → ∀ j, j < 24 → i ≠ j → dS i ≠ dS j := by decide
theorem dO_lt : ∀ i, i < 24 → ∀ j ∈ dO i, j < 24 := by decide

/-- What holds in the midst of the region. -/
structure RP (D : Dom) (A : DMem) (W : World) (db : Nat) (l : Array Bool) (x : Nat → Value) (w : World) : Prop where
  sz : l.size = 25
  b : Below W.heap.size W w
  st : l.getD 24 false = false
  l14 : l.getD 14 false = true → l.getD 5 false = true
  l22 : l.getD 22 false = true → l.getD 2 false = true ∧ l.getD 5 false = true ∧ l.getD 11 false = true ∧ l.getD 14 false = true ∧ l.getD 18 false = true ∧ l.getD 21 false = true
  fc : ∀ i, l.getD i false = true → FC D A W.heap.size db i x w

theorem getD_set_self {l : Array Bool} {i : Nat} (h : i < l.size) : (l.setIfInBounds i true).getD i false = true := by
  simp [Array.getD_eq_getD_getElem?, h]

theorem rp_next {D : Dom} {A : DMem} {W : World} {db : Nat} {l : Array Bool} {x : Nat → Value} {w w' : World} (i : Nat) (v : Value) (h : RP D A W db l x w) (hi : i < 24) (hl : l.getD i false = false) (hb : Below w.heap.size w w')
    (hF : FC D A W.heap.size db i (upd x (dS i) v) w') (h14 : i = 14 → l.getD 5 false = true) (h22 : i = 22 → l.getD 2 false = true ∧ l.getD 5 false = true ∧ l.getD 11 false = true ∧ l.getD 14 false = true ∧ l.getD 18 false = true ∧ l.getD 21 false = true) :
    RP D A W db (l.setIfInBounds i true) (upd x (dS i) v) w' := by
  have up : ∀ {j}, l.getD j false = true → (l.setIfInBounds i true).getD j false = true := fun hj => getD_set_true hj
  have dn : ∀ {j}, j ≠ i → (l.setIfInBounds i true).getD j false = true → l.getD j false = true := fun hne hj => by rw [getD_set_ne false (Ne.symm hne)] at hj; exact hj
  refine ⟨by simpa using h.sz, btrans h.b hb, ?_, ?_, ?_, ?_⟩
  · rw [getD_set_ne false (by omega)]; exact h.st
  · intro hj
    by_cases e : i = 14
    · exact up (h14 e)
    · exact up (h.l14 (dn (Ne.symm e) hj))
  · intro hj
    by_cases e : i = 22
    · obtain ⟨a1, a2, a3, a4, a5, a6⟩ := h22 e
      exact ⟨up a1, up a2, up a3, up a4, up a5, up a6⟩
    · obtain ⟨a1, a2, a3, a4, a5, a6⟩ := h.l22 (dn (Ne.symm e) hj)
      exact ⟨up a1, up a2, up a3, up a4, up a5, up a6⟩
  · intro j hj
    by_cases e : j = i
    · subst e; exact hF
    · have hlj := dn e hj
      have hj25 : j < 25 := by
        rcases Nat.lt_or_ge j 25 with h' | h'
        · exact h'
        · have : l.size ≤ j := by rw [h.sz]; exact h'
          simp [Array.getD_eq_getD_getElem?, Array.getElem?_eq_none this] at hlj
      have hj24 : j ≠ 24 := fun e => by rw [e, h.st] at hlj; cases hlj
      refine fc_keep hb j (fun k hk => ?_) (h.fc j hlj)
      have hk24 := dO_lt j (by omega) k hk
      have hlk : l.getD k false = true := by
        have hcs : j = 14 ∨ j = 22 ∨ (j ≠ 14 ∧ j ≠ 22) := by omega
        rcases hcs with rfl | rfl | ⟨n1, n2⟩
        · simp only [dO, List.mem_cons, List.not_mem_nil, or_false] at hk
          rcases hk with rfl | rfl
          · exact h.l14 hlj
          · exact hlj
        · obtain ⟨a1, a2, a3, a4, a5, a6⟩ := h.l22 hlj
          simp only [dO, List.mem_cons, List.not_mem_nil, or_false] at hk
          rcases hk with rfl | rfl | rfl | rfl | rfl | rfl | rfl <;> assumption
        · have : dO j = [j] := by unfold dO; split <;> simp_all
          rw [this] at hk
          simp at hk
          subst hk
          exact hlj
      have hne : dS k ≠ dS i := dS_inj k hk24 i hi (fun e => by rw [e, hl] at hlk; cases hlk)
      simp [upd, hne]

end Go.Proofs.YtildebflnmbefaaGreat

namespace Go.Proofs.YtildebflnmbefaaGreat
open Go.RowKit

theorem dep_of {o : Oper} {l : Array Bool} (h : ∀ e ∈ o.after, Region.binds .any e = true → l.getD e.on false = true) (k : Nat) (hk : (o.after.any fun e => Region.binds .any e && e.on == k) = true) : l.getD k false = true := by
  obtain ⟨i, hi, he⟩ := Array.any_eq_true.1 hk
  simp only [Bool.and_eq_true, beq_iff_eq] at he
  have := h o.after[i] (Array.getElem_mem hi) he.1
  rwa [he.2] at this
theorem owns_lt {w : World} {base e sz n : Nat} {v : Value} {xs : List Value} (h : w.ownsRow base e sz v n xs) : ∀ g, v.ownBlock = some g → g < w.heap.size := fun g hg => (h.lt g hg).2
theorem owns_ge {w : World} {base e sz n : Nat} {v : Value} {xs : List Value} (h : w.ownsRow base e sz v n xs) : ∀ g, v.ownBlock = some g → base ≤ g := fun g hg => (h.lt g hg).1

theorem heap_setCells_ne (g : Nat) : ∀ (vs : List Value) (o : Nat) (w : World) (k : Nat), k ≠ g → (w.setCells g o vs).heap[k]? = w.heap[k]?
  | [], _, _, _, _ => rfl
  | v :: vs, o, w, k, h => (heap_setCells_ne g vs (o + 1) (w.setCell ⟨g, o, none⟩ v) k h).trans (Below.heap_setCell _ _ _ k (fun e => h e))
theorem set_atx {W : World} {B o : Nat} {xs : Array Value} {ty : TypeId} {v' : Value} (h : W.heap[B]? = some (.cells xs ty (0, 0))) : (W.setCell ⟨B, o, none⟩ v').heap[B]? = some (.cells (xs.setIfInBounds o v') ty (0, 0)) := by
  obtain ⟨hlt, hk⟩ := Array.getElem?_eq_some_iff.1 h
  show (W.heap.modify B _)[B]? = _
  rw [Array.getElem?_eq_getElem (by rw [Array.size_modify]; exact hlt), Array.getElem_modify_self, hk]
  rfl
theorem row_setCells {g : Nat} {t : TypeId} : ∀ (vs pre post : List Value) (w : World), w.heap[g]? = some (.cells (pre ++ post).toArray t (0, 0)) → post.length = vs.length → (w.setCells g pre.length vs).heap[g]? = some (.cells (pre ++ vs).toArray t (0, 0))
  | [], pre, post, w, h, hl => by
    have : post = [] := List.length_eq_zero_iff.1 hl
    subst this
    exact h
  | v :: vs, pre, [], w, h, hl => by simp at hl
  | v :: vs, pre, p :: post, w, h, hl => by
    have h1 := set_atx (o := pre.length) (v' := v) h
    have e : (pre ++ p :: post).toArray.setIfInBounds pre.length v = ((pre ++ [v]) ++ post).toArray := by simp
    rw [e] at h1
    have h2 := row_setCells vs (pre ++ [v]) post (w.setCell ⟨g, pre.length, none⟩ v) h1 (by simpa using hl)
    simpa [World.setCells] using h2
theorem there_row {w : World} {g : Nat} {t : TypeId} {L : List Value} (h : RowAt w g t L) : w.there g 0 L.length := by
  intro j hj
  rw [Nat.zero_add]
  exact ⟨by rw [h.cell j L[j] (by simp [hj])]; rfl, h.frozen j⟩
theorem below_setCellsx {B : Nat} {a w : World} (h : Below B a w) (g : Nat) (hg : B ≤ g) : ∀ (vs : List Value) (o : Nat), Below B a (w.setCells g o vs) := by
  intro vs
  induction vs generalizing w with
  | nil => intro o; exact h
  | cons v vs ih => intro o; exact ih (h.setCell (p := ⟨g, o, none⟩) hg v) (o + 1)
theorem owns_agree {w w' : World} {base e sz n : Nat} {v : Value} {xs : List Value} (h : w.ownsRow base e sz v n xs) (hk : ∀ k, v.ownBlock = some k → w'.heap[k]? = w.heap[k]?) : w'.ownsRow base e sz v n xs := by
  refine ⟨h.1, ?_⟩
  rcases h.2 with q | ⟨g, cap, cur, e1, e2, e3, r⟩
  · exact .inl q
  · exact .inr ⟨g, cap, cur, e1, e2, by rw [hk g (by rw [e1]; rfl)]; exact e3, r⟩
theorem owns_ne {w : World} {base e sz n g t : Nat} {v : Value} {xs L : List Value} (h : w.ownsRow base e sz v n xs) (hr : RowAt w g t L) (hne : e ≠ t) : ∀ k, v.ownBlock = some k → k ≠ g := by
  intro k hk e0
  subst e0
  rcases h.2 with ⟨q, _⟩ | ⟨g', cap, cur, e1, e2, e3, r⟩
  · rw [q] at hk; cases hk
  · rw [e1] at hk
    simp only [Value.ownBlock, Option.some.injEq] at hk
    subst hk
    rw [show w.heap[g']? = _ from hr] at e3
    simp at e3
    exact hne e3.2.symm

theorem step_run {P : Program} {o : Oper} {a : Act} {w : World} {K : Act → World → Prop} {Q : Exit → Act → World → Prop} {v : Value}
    (hrun : (execOp a.eval o).run P w = .ok (.value v) w) (h : K (a.put o.dst v) w) : Oper.wp P o a w K Q := by
  unfold Oper.wp
  rw [hrun]
  exact h

theorem all_set {l : Array Bool} (h : l.size = 25 ∧ ∀ i, i < 24 → l.getD i false = true) : ∀ i, i < 25 → (l.setIfInBounds 24 true).getD i false = true := by
  intro i hi
  by_cases e : i = 24
  · subst e; exact getD_set_self (by omega)
  · exact getD_set_true (h.2 i (by omega))
theorem all_of {D : Dom} {A : DMem} {W : World} {db : Nat} {l : Array Bool} {x : Nat → Value} {w : World} {o : Oper} (h : RP D A W db l x w) (hdep : ∀ e ∈ o.after, Region.binds .any e = true → l.getD e.on false = true) (hk : ((List.range 24).all fun k => o.after.any fun e => Region.binds .any e && e.on == k) = true := by kernel_rfl) : l.size = 25 ∧ ∀ i, i < 24 → l.getD i false = true :=
  ⟨h.sz, fun i hi => dep_of hdep i (List.all_eq_true.1 hk i (List.mem_range.2 hi))⟩

/-- What holds at the region's end. -/
structure DC (D : Dom) (W : World) (x : Nat → Value) (w : World) (g : Nat) : Prop where
  b : Below W.heap.size W w
  e : x 3 = .pointer (some ⟨g, 0, none⟩)
  hg : W.heap.size ≤ g
  box : RowAt w g 33 [x 10, x 13, .int .i64 D.nxt, x 19, x 22, x 26, x 29]
  j : w.ownsRow W.heap.size 79 6 (x 10) D.jobs.length (fJ D.jobs)
  r : w.ownsRow W.heap.size 3 1 (x 13) D.rel.length (ivs D.rel)
  i : Made2 W.heap.size w (x 19) D.ins.length
  t : w.ownsRow W.heap.size 3 1 (x 22) D.tak.length (ivs D.tak)
  rt : ∀ g, (x 13).ownBlock = some g → (x 22).ownBlock ≠ some g
  o : Made1 W.heap.size w (x 26) D.out.length
  ev : w.ownsRow W.heap.size 45 4 (x 29) D.evs.length (fE D.evs)

theorem Tryz.info83x : (Tryz.prog.info? 83).map (fun i => (i.zero, i.size, i.bytes)) = some (some (.agg #[.slice none 0 0, .int .i64 0]), 2, 32) := by kernel_rfl
theorem Tryz.info23x : (Tryz.prog.info? 23).map (fun i => (i.zero, i.size, i.bytes)) = some (some (.slice none 0 0), 1, 24) := by kernel_rfl
theorem make87_any (n : Nat) (h : n ≤ 1000000000000) (w : World) : (Instr.makeSlice 29 (.int .i64 (n : Int)) (.int .i64 (n : Int))).run Tryz.prog w = .ok (.slice (some ⟨w.heap.size, 0, none⟩) n n) (w.alloc (.cells (madeCells #[.slice none 0 0, .int .i64 0] (n * 2)) 83)) := by
  obtain ⟨i, hi, hz, hs, hb⟩ := infoOf Tryz.info83x
  have := run_make (P := Tryz.prog) w 29 83 i _ Tryz.underlying29 hi hz .i64 .i64 n n (by omega) (by omega) (by rw [hb]; omega) (by omega)
  rw [hs] at this
  simp only [show (Value.agg #[Value.slice none 0 0, Value.int IntKind.i64 0]).cells = #[Value.slice none 0 0, Value.int IntKind.i64 0] from rfl, Int.toNat_natCast] at this
  exact this
theorem make83_any (n : Nat) (h : n ≤ 1000000000000) (w : World) : (Instr.makeSlice 30 (.int .i64 (n : Int)) (.int .i64 (n : Int))).run Tryz.prog w = .ok (.slice (some ⟨w.heap.size, 0, none⟩) n n) (w.alloc (.cells (madeCells #[.slice none 0 0] n) 23)) :=
  run_make_row' (P := Tryz.prog) 30 23 (.slice none 0 0) 24 Tryz.underlying30 Tryz.info23x rfl .i64 .i64 n (by omega) (by omega) w

end Go.Proofs.YtildebflnmbefaaGreat

namespace Go.Proofs.YtildebflnmbefaaGreat
open Go.RowKit

/-- Lists of numbers, each in memory of its own, one behind the other, from m on up to p. -/
def InnerK (w : World) (m p : Nat) (F : Nat → List Int) (v : Nat → Value) (k : Nat) : Prop := ∃ B : Nat → Nat, (∀ j, j < k → w.ownsRow (B j) 3 1 (v j) (F j).length (ivs (F j)) ∧ ∀ x, (v j).ownBlock = some x → x < B (j + 1)) ∧ (∀ j, j < k → B j ≤ B (j + 1)) ∧ B 0 = m ∧ B k ≤ p

theorem mono_le {B : Nat → Nat} {k : Nat} (h : ∀ j, j < k → B j ≤ B (j + 1)) : ∀ i j, i ≤ j → j ≤ k → B i ≤ B j := by
  intro i j
  induction j with
  | zero => intro h1 _; rw [Nat.le_zero.1 h1]; exact Nat.le_refl _
  | succ j ih =>
    intro h1 h2
    by_cases e : i = j + 1
    · rw [e]; exact Nat.le_refl _
    · exact Nat.le_trans (ih (by omega) (by omega)) (h j (by omega))

theorem InnerK.zero (w : World) (m p : Nat) (F : Nat → List Int) (v : Nat → Value) (h : m ≤ p) : InnerK w m p F v 0 := ⟨fun _ => m, fun j hj => by omega, fun j hj => by omega, rfl, h⟩
theorem InnerK.agree {w w' : World} {m p : Nat} {F : Nat → List Int} {v : Nat → Value} {k : Nat} (h : InnerK w m p F v k) (hk : ∀ x, m ≤ x → x < p → w'.heap[x]? = w.heap[x]?) : InnerK w' m p F v k := by
  obtain ⟨B, h3, h4, h5, h6⟩ := h
  refine ⟨B, fun j hj => ?_, h4, h5, h6⟩
  obtain ⟨o, u⟩ := h3 j hj
  refine ⟨owns_agree o (fun x hx => hk x ?_ ?_), u⟩
  · have := owns_ge o x hx
    have := mono_le h4 0 j (by omega) (by omega)
    omega
  · have := u x hx
    have := mono_le h4 (j + 1) k (by omega) (by omega)
    omega
theorem InnerK.more {w : World} {m p p' : Nat} {F : Nat → List Int} {v : Nat → Value} {k : Nat} (h : InnerK w m p F v k) (hp : p ≤ p') : InnerK w m p' F v k := by
  obtain ⟨B, h3, h4, h5, h6⟩ := h
  exact ⟨B, h3, h4, h5, by omega⟩
theorem InnerK.next {w : World} {m p p' : Nat} {F : Nat → List Int} {v : Nat → Value} {k : Nat} {u : Value} (h : InnerK w m p F v k) (hown : w.ownsRow p 3 1 u (F k).length (ivs (F k))) (hp : p ≤ p') (hu : ∀ x, u.ownBlock = some x → x < p') : InnerK w m p' F (fun j => if j = k then u else v j) (k + 1) := by
  obtain ⟨B, h3, h4, h5, h6⟩ := h
  refine ⟨fun j => if j ≤ k then B j else p', fun j hj => ?_, fun j hj => ?_, by simp [h5], by dsimp only; rw [if_neg (by omega)]; exact Nat.le_refl _⟩
  · by_cases e : j = k
    · subst e
      simp only [if_pos (Nat.le_refl _), if_true, if_neg (show ¬ j + 1 ≤ j by omega)]
      exact ⟨ownsx_mono hown h6, hu⟩
    · simp only [if_neg e, if_pos (show j ≤ k by omega), if_pos (show j + 1 ≤ k by omega)]
      exact h3 j (by omega)
  · by_cases e : j = k
    · subst e
      simp only [if_pos (Nat.le_refl _), if_neg (show ¬ j + 1 ≤ j by omega)]
      omega
    · simp only [if_pos (show j ≤ k by omega), if_pos (show j + 1 ≤ k by omega)]
      exact h4 j (by omega)

/-- Rings: the first k of them are laid. -/
def RingsK (w : World) (g m p : Nat) (L : List (List Int × Int)) (k : Nat) : Prop := ∃ (cs : List Value) (v : Nat → Value), RowAt w g 83 cs ∧ cs.length = L.length * 2 ∧ (∀ j, j < k → cs[j * 2]? = some (v j) ∧ cs[j * 2 + 1]? = some (.int .i64 (L.getD j ([], 0)).2)) ∧ InnerK w m p (fun j => (L.getD j ([], 0)).1) v k
/-- Lists: the first k of them are laid. -/
def ListsK (w : World) (g m p : Nat) (L : List (List Int)) (k : Nat) : Prop := ∃ (cs : List Value) (v : Nat → Value), RowAt w g 23 cs ∧ cs.length = L.length ∧ (∀ j, j < k → cs[j]? = some (v j)) ∧ InnerK w m p (fun j => L.getD j []) v k

theorem RingsK.agree {w w' : World} {g m p : Nat} {L : List (List Int × Int)} {k : Nat} (h : RingsK w g m p L k) (hk : ∀ x, x = g ∨ m ≤ x ∧ x < p → w'.heap[x]? = w.heap[x]?) : RingsK w' g m p L k := by
  obtain ⟨cs, v, h1, h2, h3, h4⟩ := h
  exact ⟨cs, v, (hk g (.inl rfl)).trans h1, h2, h3, h4.agree (fun x a b => hk x (.inr ⟨a, b⟩))⟩
theorem ListsK.agree {w w' : World} {g m p : Nat} {L : List (List Int)} {k : Nat} (h : ListsK w g m p L k) (hk : ∀ x, x = g ∨ m ≤ x ∧ x < p → w'.heap[x]? = w.heap[x]?) : ListsK w' g m p L k := by
  obtain ⟨cs, v, h1, h2, h3, h4⟩ := h
  exact ⟨cs, v, (hk g (.inl rfl)).trans h1, h2, h3, h4.agree (fun x a b => hk x (.inr ⟨a, b⟩))⟩
theorem RingsK.lt {w : World} {g m p : Nat} {L : List (List Int × Int)} {k : Nat} (h : RingsK w g m p L k) : g < w.heap.size := by
  obtain ⟨cs, v, h1, _⟩ := h
  exact (Array.getElem?_eq_some_iff.1 h1).1
theorem ListsK.lt {w : World} {g m p : Nat} {L : List (List Int)} {k : Nat} (h : ListsK w g m p L k) : g < w.heap.size := by
  obtain ⟨cs, v, h1, _⟩ := h
  exact (Array.getElem?_eq_some_iff.1 h1).1
theorem RingsK.keep {w w' : World} {g m p : Nat} {L : List (List Int × Int)} {k : Nat} (h : RingsK w g m p L k) (hp : p ≤ w.heap.size) (hb : Below w.heap.size w w') : RingsK w' g m p L k :=
  h.agree (fun x hx => hb.block x (by have := h.lt; rcases hx with rfl | ⟨_, _⟩ <;> omega))
theorem ListsK.keep {w w' : World} {g m p : Nat} {L : List (List Int)} {k : Nat} (h : ListsK w g m p L k) (hp : p ≤ w.heap.size) (hb : Below w.heap.size w w') : ListsK w' g m p L k :=
  h.agree (fun x hx => hb.block x (by have := h.lt; rcases hx with rfl | ⟨_, _⟩ <;> omega))

theorem rowAt_set1 {w : World} {g : Nat} {t : TypeId} {cs : List Value} (h : RowAt w g t cs) (o : Nat) (u : Value) : RowAt (w.setCell ⟨g, o, none⟩ u) g t (cs.set o u) := by
  have := set_atx (o := o) (v' := u) (show w.heap[g]? = _ from h)
  rw [List.setIfInBounds_toArray] at this
  exact this
theorem heap_set_ne (w : World) (g o : Nat) (u : Value) (k : Nat) (h : k ≠ g) : (w.setCell ⟨g, o, none⟩ u).heap[k]? = w.heap[k]? := Below.heap_setCell _ _ _ k (fun e => h e)

theorem RingsK.next {w w5 : World} {g m p : Nat} {L : List (List Int × Int)} {k : Nat} {u : Value} (h : RingsK w g m p L k) (hg : g < m) (hk : k < L.length) (hp : p ≤ w.heap.size) (hb : Below w.heap.size w w5) (hown : w5.ownsRow p 3 1 u L[k].1.length (ivs L[k].1)) :
    RingsK ((w5.setCell ⟨g, k * 2, none⟩ u).setCell ⟨g, k * 2 + 1, none⟩ (.int .i64 L[k].2)) g m w5.heap.size L (k + 1) := by
  obtain ⟨cs, v, h1, h2, h3, h4⟩ := h.keep hp hb
  have hs := hb.size
  have eK : L.getD k ([], 0) = L[k] := by simp [hk]
  refine ⟨(cs.set (k * 2) u).set (k * 2 + 1) (.int .i64 L[k].2), fun j => if j = k then u else v j, rowAt_set1 (rowAt_set1 h1 _ _) _ _, by simp [h2], fun j hj => ?_, ?_⟩
  · by_cases e : j = k
    · subst e
      rw [eK]
      simp only [if_true]
      exact ⟨by rw [List.getElem?_set_ne (by omega)]; exact List.getElem?_set_self (by omega), List.getElem?_set_self (by rw [List.length_set]; omega)⟩
    · simp only [if_neg e]
      have := h3 j (by omega)
      exact ⟨by rw [List.getElem?_set_ne (by omega), List.getElem?_set_ne (by omega)]; exact this.1, by rw [List.getElem?_set_ne (by omega), List.getElem?_set_ne (by omega)]; exact this.2⟩
  · have hI := h4.next (k := k) (u := u) (p' := w5.heap.size) (by rw [eK]; exact hown) (by omega) (fun x hx => owns_lt hown x hx)
    refine hI.agree (fun x hx1 hx2 => ?_)
    rw [heap_set_ne _ _ _ _ x (by omega), heap_set_ne _ _ _ _ x (by omega)]
theorem ListsK.next {w w5 : World} {g m p : Nat} {L : List (List Int)} {k : Nat} {u : Value} (h : ListsK w g m p L k) (hg : g < m) (hk : k < L.length) (hp : p ≤ w.heap.size) (hb : Below w.heap.size w w5) (hown : w5.ownsRow p 3 1 u L[k].length (ivs L[k])) :
    ListsK (w5.setCell ⟨g, k, none⟩ u) g m w5.heap.size L (k + 1) := by
  obtain ⟨cs, v, h1, h2, h3, h4⟩ := h.keep hp hb
  have hs := hb.size
  have eK : L.getD k [] = L[k] := by simp [hk]
  refine ⟨cs.set k u, fun j => if j = k then u else v j, rowAt_set1 h1 _ _, by simp [h2], fun j hj => ?_, ?_⟩
  · by_cases e : j = k
    · subst e
      simp only [if_true]
      exact List.getElem?_set_self (by omega)
    · simp only [if_neg e]
      rw [List.getElem?_set_ne (by omega)]
      exact h3 j (by omega)
  · have hI := h4.next (k := k) (u := u) (p' := w5.heap.size) (by rw [eK]; exact hown) (by omega) (fun x hx => owns_lt hown x hx)
    refine hI.agree (fun x hx1 hx2 => ?_)
    rw [heap_set_ne _ _ _ _ x (by omega)]

theorem RingsK.rings {w : World} {g m p : Nat} {L : List (List Int × Int)} (h : RingsK w g m p L L.length) : RingsIn w (some ⟨g, 0, none⟩) L := by
  obtain ⟨cs, v, h1, h2, h3, B, h4, _⟩ := h
  intro i hi
  obtain ⟨c0, c1⟩ := h3 i hi
  obtain ⟨o, _⟩ := h4 i hi
  have e : L.getD i ([], 0) = L[i] := by simp [hi]
  simp only [e] at o c1
  obtain ⟨a, c, ev, hc, hm, hI, _⟩ := owns_cells o
  refine ⟨g, 0, a, c, rfl, ?_, ?_, intsIn_of hI, hc, by simp only [maxLen] at hm; omega⟩
  · rw [ev] at c0
    rw [Nat.zero_add]
    exact h1.cell _ _ c0
  · rw [Nat.zero_add]
    exact h1.cell _ _ c1
theorem ListsK.lists {w : World} {g m p : Nat} {L : List (List Int)} (h : ListsK w g m p L L.length) : ListsIn w (some ⟨g, 0, none⟩) L := by
  obtain ⟨cs, v, h1, h2, h3, B, h4, _⟩ := h
  intro i hi
  have c0 := h3 i hi
  obtain ⟨o, _⟩ := h4 i hi
  have e : L.getD i [] = L[i] := by simp [hi]
  simp only [e] at o
  obtain ⟨a, c, ev, hc, hm, hI, _⟩ := owns_cells o
  refine ⟨g, 0, a, c, rfl, ?_, intsIn_of hI, hc, by simp only [maxLen] at hm; omega⟩
  rw [ev] at c0
  rw [Nat.zero_add]
  exact h1.cell _ _ c0

theorem RingsK.start {w : World} {n0 g m : Nat} {L : List (List Int × Int)} (h : w.heap[g]? = some (.cells (madeCells #[.slice none 0 0, .int .i64 0] (L.length * 2)) 83 (0, 0))) : RingsK w g m m L 0 :=
  ⟨(madeCells #[.slice none 0 0, .int .i64 0] (L.length * 2)).toList, fun _ => .slice none 0 0, by simpa [RowAt] using h, by simp [size_madeCells], fun j hj => by omega, InnerK.zero _ _ _ _ _ (Nat.le_refl _)⟩
theorem ListsK.start {w : World} {g m : Nat} {L : List (List Int)} (h : w.heap[g]? = some (.cells (madeCells #[.slice none 0 0] L.length) 23 (0, 0))) : ListsK w g m m L 0 :=
  ⟨(madeCells #[.slice none 0 0] L.length).toList, fun _ => .slice none 0 0, by simpa [RowAt] using h, by simp [size_madeCells], fun j hj => by omega, InnerK.zero _ _ _ _ _ (Nat.le_refl _)⟩

theorem far2 {w : World} {x i b o1 o2 : Nat} {u v1 v2 : Value} (h : w.cell? ⟨x, i, none⟩ = some u) (hne : b ≠ x) : ((w.setCell ⟨b, o1, none⟩ v1).setCell ⟨b, o2, none⟩ v2).cell? ⟨x, i, none⟩ = some u := by
  rw [World.cell?_setCell_far _ _ _ _ hne, World.cell?_setCell_far _ _ _ _ hne]; exact h
theorem far1 {w : World} {x i b o1 : Nat} {u v1 : Value} (h : w.cell? ⟨x, i, none⟩ = some u) (hne : b ≠ x) : (w.setCell ⟨b, o1, none⟩ v1).cell? ⟨x, i, none⟩ = some u := by
  rw [World.cell?_setCell_far _ _ _ _ hne]; exact h
/-- All but one block is as it was. -/
def AgreeBut (g : Nat) (w w' : World) : Prop := w.heap.size ≤ w'.heap.size ∧ ∀ x, x ≠ g → x < w.heap.size → w'.heap[x]? = w.heap[x]?
theorem AgreeBut.refl (g : Nat) (w : World) : AgreeBut g w w := ⟨Nat.le_refl _, fun _ _ _ => rfl⟩
theorem AgreeBut.below {g : Nat} {w w' w'' : World} (h : AgreeBut g w w') (hb : Below w'.heap.size w' w'') : AgreeBut g w w'' :=
  ⟨Nat.le_trans h.1 hb.size, fun x hx hl => (hb.block x (by have := h.1; omega)).trans (h.2 x hx hl)⟩
theorem AgreeBut.set {g : Nat} {w w' : World} (h : AgreeBut g w w') (o : Nat) (u : Value) : AgreeBut g w (w'.setCell ⟨g, o, none⟩ u) :=
  ⟨Nat.le_trans h.1 ((Below.refl 0 w').setCell (p := ⟨g, o, none⟩) (Nat.zero_le _) u).size, fun x hx hl => (heap_set_ne w' g o u x hx).trans (h.2 x hx hl)⟩

theorem RingsK.cellAt {w : World} {g m p : Nat} {L : List (List Int × Int)} {k : Nat} (h : RingsK w g m p L k) (i : Nat) (hi : i < L.length) : (∃ u, w.cell? ⟨g, i * 2, none⟩ = some u) ∧ (∃ u, w.cell? ⟨g, i * 2 + 1, none⟩ = some u) ∧ w.frozen? ⟨g, i * 2, none⟩ = false ∧ w.frozen? ⟨g, i * 2 + 1, none⟩ = false := by
  obtain ⟨cs, v, h1, h2, h3⟩ := h
  exact ⟨⟨_, h1.cell (i * 2) cs[i * 2] (by simp)⟩, ⟨_, h1.cell (i * 2 + 1) cs[i * 2 + 1] (by simp)⟩, h1.frozen _, h1.frozen _⟩
theorem ListsK.cellAt {w : World} {g m p : Nat} {L : List (List Int)} {k : Nat} (h : ListsK w g m p L k) (i : Nat) (hi : i < L.length) : (∃ u, w.cell? ⟨g, i, none⟩ = some u) ∧ w.frozen? ⟨g, i, none⟩ = false := by
  obtain ⟨cs, v, h1, h2, h3⟩ := h
  exact ⟨⟨_, h1.cell i cs[i] (by simp)⟩, h1.frozen _⟩

/-- A domain whose lists all lie in memory of their own, from base on: the rows ahead of m, the rings' lists from m to p, the lists to be sent from p to q. -/
structure DomOwn (base : Nat) (w : World) (A : DMem) (D : Dom) (gI gO m p q : Nat) : Prop where
  j : w.ownsRow base 79 6 (.slice A.aJ D.jobs.length A.cJ) D.jobs.length (fJ D.jobs)
  r : w.ownsRow base 3 1 (.slice A.aR D.rel.length A.cR) D.rel.length (ivs D.rel)
  t : w.ownsRow base 3 1 (.slice A.aT D.tak.length A.cT) D.tak.length (ivs D.tak)
  e : w.ownsRow base 45 4 (.slice A.aE D.evs.length A.cE) D.evs.length (fE D.evs)
  rt : ∀ x, (Value.slice A.aR D.rel.length A.cR).ownBlock = some x → (Value.slice A.aT D.tak.length A.cT).ownBlock ≠ some x
  i : RingsK w gI m p D.ins D.ins.length
  o : ListsK w gO p q D.out D.out.length
  aI : A.aI = some ⟨gI, 0, none⟩
  aO : A.aO = some ⟨gO, 0, none⟩
  cI : A.cI = D.ins.length
  cO : A.cO = D.out.length
  bI : base ≤ gI ∧ gI < m
  bO : base ≤ gO ∧ gO < m
  mp : m ≤ p ∧ p ≤ q ∧ q ≤ w.heap.size
  lt : ∀ x, (Value.slice A.aJ D.jobs.length A.cJ).ownBlock = some x ∨ (Value.slice A.aR D.rel.length A.cR).ownBlock = some x ∨ (Value.slice A.aT D.tak.length A.cT).ownBlock = some x ∨ (Value.slice A.aE D.evs.length A.cE).ownBlock = some x → x < m

theorem owns_ne2 {w : World} {base e sz n g t : Nat} {v : Value} {xs : List Value} {cur : Array Value} {fz : Nat × Nat} (h : w.ownsRow base e sz v n xs) (hr : w.heap[g]? = some (.cells cur t fz)) (hne : e ≠ t) : ∀ k, v.ownBlock = some k → k ≠ g := by
  intro k hk e0
  subst e0
  rcases h.2 with ⟨q, _⟩ | ⟨g', cap, cur', e1, e2, e3, r⟩
  · rw [q] at hk; cases hk
  · rw [e1] at hk
    simp only [Value.ownBlock, Option.some.injEq] at hk
    subst hk
    rw [hr] at e3
    simp at e3
    exact hne e3.2.1.symm
theorem RingsK.more {w : World} {g m p p' : Nat} {L : List (List Int × Int)} {k : Nat} (h : RingsK w g m p L k) (hp : p ≤ p') : RingsK w g m p' L k := by
  obtain ⟨cs, v, h1, h2, h3, h4⟩ := h
  exact ⟨cs, v, h1, h2, h3, h4.more hp⟩
theorem owns_in {w : World} {base e sz n c : Nat} {a : Option Addr} {xs : List Value} (h : w.ownsRow base e sz (.slice a n c) n xs) : CellsIn w a xs ∧ n ≤ c ∧ n ≤ 9223372036854775807 := by
  obtain ⟨a', c', ev, hc, hm, hI, _⟩ := owns_cells h
  cases ev
  exact ⟨hI, hc, by simp only [maxLen] at hm; omega⟩
theorem DomOwn.dom {base : Nat} {w : World} {A : DMem} {D : Dom} {gI gO m p q : Nat} (h : DomOwn base w A D gI gO m p q) (hI : D.ins.length ≤ 9223372036854775807) (hO : D.out.length ≤ 9223372036854775807) : DomIn w A D :=
  ⟨jobsIn_of (owns_in h.j).1, intsIn_of (owns_in h.r).1, by rw [h.aI]; exact h.i.rings, intsIn_of (owns_in h.t).1, by rw [h.aO]; exact h.o.lists, evsIn_of (owns_in h.e).1, (owns_in h.j).2.2, (owns_in h.r).2.2, hI, (owns_in h.t).2.2, hO, (owns_in h.e).2.2⟩
theorem DomOwn.keep {base : Nat} {w w' : World} {A : DMem} {D : Dom} {gI gO m p q : Nat} (h : DomOwn base w A D gI gO m p q) (hb : Below w.heap.size w w') : DomOwn base w' A D gI gO m p q :=
  ⟨owns_below h.j hb, owns_below h.r hb, owns_below h.t hb, owns_below h.e hb, h.rt, h.i.keep (by have := h.mp; omega) hb, h.o.keep (by have := h.mp; omega) hb, h.aI, h.aO, h.cI, h.cO, h.bI, h.bO, ⟨h.mp.1, h.mp.2.1, Nat.le_trans h.mp.2.2 hb.size⟩, h.lt⟩

theorem DomOwn.agree {base : Nat} {w w' : World} {A : DMem} {D : Dom} {gI gO m p q : Nat} (h : DomOwn base w A D gI gO m p q) (hs : w.heap.size ≤ w'.heap.size) (hk : ∀ x, base ≤ x → x < w.heap.size → w'.heap[x]? = w.heap[x]?) : DomOwn base w' A D gI gO m p q := by
  have hm := h.mp
  have hI := h.bI
  have hO := h.bO
  exact ⟨owns_agree h.j (fun x hx => hk x (owns_ge h.j x hx) (owns_lt h.j x hx)), owns_agree h.r (fun x hx => hk x (owns_ge h.r x hx) (owns_lt h.r x hx)), owns_agree h.t (fun x hx => hk x (owns_ge h.t x hx) (owns_lt h.t x hx)), owns_agree h.e (fun x hx => hk x (owns_ge h.e x hx) (owns_lt h.e x hx)), h.rt,
    h.i.agree (fun x hx => hk x (by rcases hx with rfl | ⟨_, _⟩ <;> omega) (by rcases hx with rfl | ⟨_, _⟩ <;> omega)), h.o.agree (fun x hx => hk x (by rcases hx with rfl | ⟨_, _⟩ <;> omega) (by rcases hx with rfl | ⟨_, _⟩ <;> omega)), h.aI, h.aO, h.cI, h.cO, h.bI, h.bO, ⟨hm.1, hm.2.1, by omega⟩, h.lt⟩
theorem DomOwn.base {base base' : Nat} {w : World} {A : DMem} {D : Dom} {gI gO m p q : Nat} (h : DomOwn base w A D gI gO m p q) (hb : base' ≤ base) : DomOwn base' w A D gI gO m p q :=
  ⟨ownsx_mono h.j hb, ownsx_mono h.r hb, ownsx_mono h.t hb, ownsx_mono h.e hb, h.rt, h.i, h.o, h.aI, h.aO, h.cI, h.cO, ⟨Nat.le_trans hb h.bI.1, h.bI.2⟩, ⟨Nat.le_trans hb h.bO.1, h.bO.2⟩, h.mp, h.lt⟩

end Go.Proofs.YtildebflnmbefaaGreat
