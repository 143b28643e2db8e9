/- Rows of cells: jobs, events and numbers in memory of their own; copies of them; regions in whatever order. -/
import Derived.Test.YtaellaconpaejaaYa
import Derived.Deep.AppendLies
import Derived.OrdersHeld
set_option linter.unusedVariables false
namespace Go.Proofs.Ytaellaconpaejaa
open Go.RowKit

/-- A row of things of n cells each. -/
theorem flatN_len {α : Type} (f : α → List Value) (n : Nat) (hf : ∀ x, (f x).length = n) (l : List α) : (l.flatMap f).length = l.length * n := by
  induction l with
  | nil => simp
  | cons x r ih => simp only [List.flatMap_cons, List.length_append, hf, ih, List.length_cons, Nat.add_mul]; omega
theorem flatN_at {α : Type} (f : α → List Value) (n : Nat) (hf : ∀ x, (f x).length = n) (l : List α) (i r : Nat) (h : i < l.length) (hr : r < n) : (l.flatMap f)[i * n + r]? = (f l[i])[r]? := by
  induction l generalizing i with
  | nil => simp at h
  | cons x t ih =>
    cases i with
    | zero => simp [List.getElem?_append, hf, hr]
    | succ i =>
      have h2 := ih i (by simpa using h)
      have e1 : (i + 1) * n + r = n + (i * n + r) := by rw [Nat.add_mul]; omega
      rw [List.flatMap_cons, e1, List.getElem?_append_right (by rw [hf]; omega), hf, Nat.add_sub_cancel_left, h2]
      simp
theorem flatN_mem {α : Type} (f : α → List Value) (p : Value → Prop) (hf : ∀ x, ∀ u ∈ f x, p u) (l : List α) : ∀ u ∈ l.flatMap f, p u := by
  intro u hu
  obtain ⟨x, _, h⟩ := List.mem_flatMap.1 hu
  exact hf x u h

def jc (j : JobT) : List Value := [.int .i64 j.1, .int .i64 j.2.1, .int .i64 j.2.2.1, .int .i64 j.2.2.2.1, .bool j.2.2.2.2.1, .bool j.2.2.2.2.2]
def ec (x : EvT) : List Value := [.int .i64 x.1, .int .i64 x.2.1, .int .i64 x.2.2.1, .int .i64 x.2.2.2]
/-- The cells of a list of jobs, of events. -/
def fJ (J : List JobT) : List Value := J.flatMap jc
def fE (E : List EvT) : List Value := E.flatMap ec
theorem fJ_len (J : List JobT) : (fJ J).length = J.length * 6 := flatN_len jc 6 (fun _ => rfl) J
theorem fE_len (J : List EvT) : (fE J).length = J.length * 4 := flatN_len ec 4 (fun _ => rfl) J
theorem fJ_app (J K : List JobT) : fJ (J ++ K) = fJ J ++ fJ K := by simp [fJ]
theorem fE_app (J K : List EvT) : fE (J ++ K) = fE J ++ fE K := by simp [fE]
theorem fJ_one (J : List JobT) : ∀ u ∈ fJ J, u.oneCell' = true := flatN_mem jc _ (fun x u hu => by
  simp only [jc, List.mem_cons, List.not_mem_nil, or_false] at hu
  rcases hu with rfl | rfl | rfl | rfl | rfl | rfl <;> rfl) J
theorem fE_one (J : List EvT) : ∀ u ∈ fE J, u.oneCell' = true := flatN_mem ec _ (fun x u hu => by
  simp only [ec, List.mem_cons, List.not_mem_nil, or_false] at hu
  rcases hu with rfl | rfl | rfl | rfl <;> rfl) J

/-- Cells that lie one behind the other. -/
def CellsIn (w : World) (a : Option Addr) (xs : List Value) : Prop := xs ≠ [] → ∃ b o, a = some ⟨b, o, none⟩ ∧ ∀ j u, xs[j]? = some u → w.cell? ⟨b, o + j, none⟩ = some u

theorem JobsIn.cells {w : World} {a : Option Addr} {J : List JobT} (h : JobsIn w a J) : CellsIn w a (fJ J) := by
  intro hne
  have hp : 0 < J.length := List.length_pos_iff.2 (fun e => hne (by rw [e]; rfl))
  obtain ⟨b, o, rfl, _⟩ := h 0 hp
  refine ⟨b, o, rfl, fun j u hu => ?_⟩
  have hj : j < J.length * 6 := by rw [← fJ_len]; exact (List.getElem?_eq_some_iff.1 hu).1
  have hi : j / 6 < J.length := by omega
  obtain ⟨b', o', e, h0, h1, h2, h3, h4, h5⟩ := h (j / 6) hi
  simp only [Option.some.injEq, Addr.mk.injEq, and_true] at e
  obtain ⟨rfl, rfl⟩ := e
  have hat := flatN_at jc 6 (fun _ => rfl) J (j / 6) (j % 6) hi (Nat.mod_lt _ (by omega))
  have ej : j / 6 * 6 + j % 6 = j := by omega
  rw [ej] at hat
  have hu' : (jc J[j / 6])[j % 6]? = some u := by rw [← hat]; exact hu
  have hc : j % 6 = 0 ∨ j % 6 = 1 ∨ j % 6 = 2 ∨ j % 6 = 3 ∨ j % 6 = 4 ∨ j % 6 = 5 := by omega
  rcases hc with hc | hc | hc | hc | hc | hc <;> rw [hc] at hu' <;> simp [jc] at hu' <;> subst hu'
  · rw [show o + j = o + j / 6 * 6 from by omega]; exact h0
  · rw [show o + j = o + j / 6 * 6 + 1 from by omega]; exact h1
  · rw [show o + j = o + j / 6 * 6 + 2 from by omega]; exact h2
  · rw [show o + j = o + j / 6 * 6 + 3 from by omega]; exact h3
  · rw [show o + j = o + j / 6 * 6 + 4 from by omega]; exact h4
  · rw [show o + j = o + j / 6 * 6 + 5 from by omega]; exact h5
theorem EvsIn.cells {w : World} {a : Option Addr} {J : List EvT} (h : EvsIn w a J) : CellsIn w a (fE J) := by
  intro hne
  have hp : 0 < J.length := List.length_pos_iff.2 (fun e => hne (by rw [e]; rfl))
  obtain ⟨b, o, rfl, _⟩ := h 0 hp
  refine ⟨b, o, rfl, fun j u hu => ?_⟩
  have hj : j < J.length * 4 := by rw [← fE_len]; exact (List.getElem?_eq_some_iff.1 hu).1
  have hi : j / 4 < J.length := by omega
  obtain ⟨b', o', e, h0, h1, h2, h3⟩ := h (j / 4) hi
  simp only [Option.some.injEq, Addr.mk.injEq, and_true] at e
  obtain ⟨rfl, rfl⟩ := e
  have hat := flatN_at ec 4 (fun _ => rfl) J (j / 4) (j % 4) hi (Nat.mod_lt _ (by omega))
  have ej : j / 4 * 4 + j % 4 = j := by omega
  rw [ej] at hat
  have hu' : (ec J[j / 4])[j % 4]? = some u := by rw [← hat]; exact hu
  have hc : j % 4 = 0 ∨ j % 4 = 1 ∨ j % 4 = 2 ∨ j % 4 = 3 := by omega
  rcases hc with hc | hc | hc | hc <;> rw [hc] at hu' <;> simp [ec] at hu' <;> subst hu'
  · rw [show o + j = o + j / 4 * 4 from by omega]; exact h0
  · rw [show o + j = o + j / 4 * 4 + 1 from by omega]; exact h1
  · rw [show o + j = o + j / 4 * 4 + 2 from by omega]; exact h2
  · rw [show o + j = o + j / 4 * 4 + 3 from by omega]; exact h3
theorem IntsIn.cells {w : World} {a : Option Addr} {L : List Int} (h : IntsIn w a L) : CellsIn w a (ivs L) := by
  intro hne
  have hp : 0 < L.length := List.length_pos_iff.2 (fun e => hne (by rw [e]; rfl))
  obtain ⟨b, o, rfl, _⟩ := h 0 hp
  refine ⟨b, o, rfl, fun j u hu => ?_⟩
  have hj : j < L.length := by rw [← ivs_len L]; exact (List.getElem?_eq_some_iff.1 hu).1
  obtain ⟨b', o', e, h0⟩ := h j hj
  simp only [Option.some.injEq, Addr.mk.injEq, and_true] at e
  obtain ⟨rfl, rfl⟩ := e
  simp [ivs, hj] at hu
  rw [h0, hu]

/-- A row that a slice owns. -/
theorem owns_cells {w : World} {base e sz n : Nat} {v : Value} {xs : List Value} (h : w.ownsRow base e sz v n xs) : ∃ a c, v = .slice a n c ∧ n ≤ c ∧ n ≤ maxLen ∧ CellsIn w a xs ∧ (∀ b o, a = some ⟨b, o, none⟩ → o = 0 ∧ base ≤ b ∧ b < w.heap.size) := by
  have h' := h
  obtain ⟨hl, hv⟩ := h
  rcases hv with ⟨rfl, hn⟩ | ⟨g, cap, cur, rfl, hb, hg, hnc, hm, hcs, ht⟩
  · exact ⟨none, 0, by rw [hn], by omega, by omega, fun hne => absurd (List.length_eq_zero_iff.1 (by rw [hl, hn]; omega)) hne, fun b o e => by simp at e⟩
  · refine ⟨_, cap, rfl, hnc, by omega, fun _ => ⟨g, 0, rfl, fun j u hu => ?_⟩, fun b o e => ?_⟩
    · have := h'.cells (g := g) rfl j u hu
      rw [addZ] at this
      rw [Nat.zero_add]; exact this
    · simp at e
      obtain ⟨rfl, rfl⟩ := e
      exact ⟨rfl, hb, (Array.getElem?_eq_some_iff.1 hg).1⟩
theorem owns_below {w w' : World} {base e sz n : Nat} {v : Value} {xs : List Value} (h : w.ownsRow base e sz v n xs) (hb : Below w.heap.size w w') : w'.ownsRow base e sz v n xs := by
  refine ⟨h.1, ?_⟩
  rcases h.2 with q | ⟨g, cap, cur, e1, e2, e3, r⟩
  · exact .inl q
  · have hlt : g < w.heap.size := (Array.getElem?_eq_some_iff.1 e3).1
    exact .inr ⟨g, cap, cur, e1, e2, by rw [hb.block g hlt]; exact e3, r⟩

theorem jobsIn_of {w : World} {a : Option Addr} {J : List JobT} (h : CellsIn w a (fJ J)) : JobsIn w a J := by
  intro i hi
  have hne : fJ J ≠ [] := fun e => by have := fJ_len J; rw [e] at this; simp at this; omega
  obtain ⟨b, o, rfl, hc⟩ := h hne
  have hat := fun r hr => flatN_at jc 6 (fun _ => rfl) J i r hi hr
  refine ⟨b, o, rfl, ?_, ?_, ?_, ?_, ?_, ?_⟩
  · exact hc (i * 6) _ ((hat 0 (by omega)).trans rfl)
  · rw [Nat.add_assoc]; exact hc _ _ ((hat 1 (by omega)).trans rfl)
  · rw [Nat.add_assoc]; exact hc _ _ ((hat 2 (by omega)).trans rfl)
  · rw [Nat.add_assoc]; exact hc _ _ ((hat 3 (by omega)).trans rfl)
  · rw [Nat.add_assoc]; exact hc _ _ ((hat 4 (by omega)).trans rfl)
  · rw [Nat.add_assoc]; exact hc _ _ ((hat 5 (by omega)).trans rfl)
theorem evsIn_of {w : World} {a : Option Addr} {J : List EvT} (h : CellsIn w a (fE J)) : EvsIn w a J := by
  intro i hi
  have hne : fE J ≠ [] := fun e => by have := fE_len J; rw [e] at this; simp at this; omega
  obtain ⟨b, o, rfl, hc⟩ := h hne
  have hat := fun r hr => flatN_at ec 4 (fun _ => rfl) J i r hi hr
  refine ⟨b, o, rfl, ?_, ?_, ?_, ?_⟩
  · exact hc (i * 4) _ ((hat 0 (by omega)).trans rfl)
  · rw [Nat.add_assoc]; exact hc _ _ ((hat 1 (by omega)).trans rfl)
  · rw [Nat.add_assoc]; exact hc _ _ ((hat 2 (by omega)).trans rfl)
  · rw [Nat.add_assoc]; exact hc _ _ ((hat 3 (by omega)).trans rfl)
theorem intsIn_of {w : World} {a : Option Addr} {L : List Int} (h : CellsIn w a (ivs L)) : IntsIn w a L := by
  intro i hi
  have hne : ivs L ≠ [] := fun e => by have := ivs_len L; rw [e] at this; simp at this; omega
  obtain ⟨b, o, rfl, hc⟩ := h hne
  exact ⟨b, o, rfl, hc i _ (by simp [ivs, hi])⟩

/-- An append of cells that lie somewhere, none or some, to a row of one's own. -/
theorem wpList_appG {ops : Array Oper} {rest : List Oper} {o : Oper} {a : Act} {w : World} {Q : Exit → Act → World → Prop} (hgd : o.guard = none) (s x : Operand) (t e : TypeId)
    (ho : o.op = .call { callee := .builtin .append, args := #[s, x], argTypes := #[t, t] }) (z : Value) (sz by_ : Nat) (ht : Try.prog.underlying t = some (.slice e)) (hI : (Try.prog.info? e).map (fun i => (i.zero, i.size, i.bytes)) = some (some z, sz, by_)) (hzs : z.cells.size = sz) (hsz : 0 < sz)
    (base : Nat) (v : Value) (n : Nat) (xs : List Value) (hs : a.eval s = v) (hown : w.ownsRow base e sz v n xs)
    (m : Nat) (news : List Value) (hlen : news.length = m * sz) (h1 : ∀ u ∈ news, u.oneCell' = true) (a6 : Option Addr) (c6 : Nat) (hx : a.eval x = .slice a6 m c6) (hL : CellsIn w a6 news) (h63 : n + m ≤ maxLen) (hbytes : (n + m) * by_ ≤ 140737488355328) (hbase : base ≤ w.heap.size)
    (h : ∀ v' w', w'.ownsRow base e sz v' (n + m) (xs ++ news) → w.grownBy w' v.ownBlock → wpList Try.prog ops Q rest (a.put o.dst v') w') : wpList Try.prog ops Q (o :: rest) a w := by
  obtain ⟨i3, hi, hz, hsz', hby⟩ := infoOf hI
  by_cases hL0 : m = 0
  · subst hL0
    have hn0 : news = [] := List.length_eq_zero_iff.1 (by rw [hlen]; omega)
    subst hn0
    have hroom : ∃ p cap, v = .slice p n cap ∧ n ≤ cap := by
      rcases hown.2 with ⟨e, e2⟩ | ⟨g, cap, _, e, _, _, h, _⟩
      · exact ⟨none, 0, by rw [e, e2], by omega⟩
      · exact ⟨_, cap, e, h⟩
    obtain ⟨p, cap, rfl, hr⟩ := hroom
    refine wpList_plain hgd fun K hK => ?_
    have hrun := append_none (P := Try.prog) w t o.type e i3 ht hi p n cap a6 c6 hr
    unfold Oper.wp
    simp [execOp, ho, resolve, invoke, builtin, hs, hx, hrun, Result.andThen]
    exact hK _ _ (h _ _ (by simpa using hown) ⟨rfl, rfl, rfl, Nat.le_refl _, fun _ _ _ => rfl⟩)
  · have hne : news ≠ [] := fun e => by
      have hp := Nat.mul_pos (Nat.pos_of_ne_zero hL0) hsz
      rw [← hlen, e] at hp
      exact absurd hp (by simp)
    obtain ⟨b, off, rfl, hc⟩ := hL hne
    refine wpList_append_own w hgd s x t ho base e i3 z sz by_ ht hi hz hsz' hby hzs hsz v n xs hs hown ⟨b, off, none⟩ m c6 news hx hlen ?_ h1 h63 hbytes hbase (fun v' w' h1 h2 _ => h v' w' h1 h2)
    intro j u hu
    have hadd : (⟨b, off, none⟩ : Addr).add j = ⟨b, off + j, none⟩ := by unfold Addr.add; split <;> simp_all
    rw [hadd]
    exact hc j u hu

theorem Try.info106x : (Try.prog.info? 106).map (fun i => (i.zero, i.size, i.bytes)) = some (some (.agg #[.int .i64 0, .int .i64 0, .int .i64 0, .int .i64 0, .bool false, .bool false]), 6, 40) := by kernel_rfl
theorem Try.info150x : (Try.prog.info? 150).map (fun i => (i.zero, i.size, i.bytes)) = some (some (.agg #[.int .i64 0, .int .i64 0, .int .i64 0, .int .i64 0]), 4, 32) := by kernel_rfl

section
set_option maxRecDepth 100000
set_option maxHeartbeats 400000
theorem clone123_any (a : Option Addr) (J : List JobT) (cap : Nat) (w : World) (hw : JobsIn w a J) (hl : J.length ≤ 1000000000000) :
    Calls Try.prog 133 #[.slice a J.length cap] w fun e w' => ∃ v, e = .returned v ∧ w'.ownsRow w.heap.size 106 6 v J.length (fJ J) ∧ Below w.heap.size w w' := by
  have hnilq := fun (w : World) (a : Option Addr) (n c : Nat) => Lib.run_eql_slice_nil (P := Try.prog) w 86 106 a n c 0 0 Try.underlying86
  cases a with
  | none =>
    have hJ : J = [] := by
      cases J with
      | nil => rfl
      | cons x r => obtain ⟨b, o, e, _⟩ := hw 0 (by simp); cases e
    subst hJ
    go_enter Try.func133, Try.ntmps133
    go_wp2
    go_ret
    exact ⟨_, rfl, World.ownsRow_nil _ _ _ _, Below.refl _ _⟩
  | some p =>
    have h1 : Below w.heap.size w (w.alloc (.cells #[] 106)) := below_new _ _
    have hown : Hid ((w.alloc (.cells #[] 106)).ownsRow w.heap.size 106 6 (.slice (some ⟨w.heap.size, 0, none⟩) 0 0) 0 []) := hid (World.ownsRow_made w #[] 0 (Nat.le_refl _) (by simp [maxLen]) rfl)
    have Hw := hid (hw.keep h1).cells
    go_enter Try.func133, Try.ntmps133
    go_wp2_with (at_builtin; refine wpList_appG rfl _ _ 86 106 rfl _ 6 40 Try.underlying86 Try.info106x rfl (by omega) w.heap.size (.slice (some ⟨w.heap.size, 0, none⟩) 0 0) 0 [] rfl hown.out J.length (fJ J) (fJ_len J) (fJ_one J) _ _ rfl Hw.out (by simp [maxLen]; omega) (by omega) (by simp) ?_)
    intro v' w1 hown1 hgrow
    have HE := hid (show w1.ownsRow w.heap.size 106 6 v' J.length (fJ J) ∧ Below w.heap.size w w1 from ⟨by simpa using hown1, h1.grown hgrow (by simp) (fun k hk => by simp [Value.ownBlock] at hk; omega)⟩)
    clear hown1 hgrow hown h1 Hw
    go_wp2
    go_ret
    exact ⟨_, rfl, HE.out⟩
theorem clone124_any (a : Option Addr) (J : List EvT) (cap : Nat) (w : World) (hw : EvsIn w a J) (hl : J.length ≤ 1000000000000) :
    Calls Try.prog 134 #[.slice a J.length cap] w fun e w' => ∃ v, e = .returned v ∧ w'.ownsRow w.heap.size 150 4 v J.length (fE J) ∧ Below w.heap.size w w' := by
  have hnilq := fun (w : World) (a : Option Addr) (n c : Nat) => Lib.run_eql_slice_nil (P := Try.prog) w 88 150 a n c 0 0 Try.underlying88
  cases a with
  | none =>
    have hJ : J = [] := by
      cases J with
      | nil => rfl
      | cons x r => obtain ⟨b, o, e, _⟩ := hw 0 (by simp); cases e
    subst hJ
    go_enter Try.func134, Try.ntmps134
    go_wp2
    go_ret
    exact ⟨_, rfl, World.ownsRow_nil _ _ _ _, Below.refl _ _⟩
  | some p =>
    have h1 : Below w.heap.size w (w.alloc (.cells #[] 150)) := below_new _ _
    have hown : Hid ((w.alloc (.cells #[] 150)).ownsRow w.heap.size 150 4 (.slice (some ⟨w.heap.size, 0, none⟩) 0 0) 0 []) := hid (World.ownsRow_made w #[] 0 (Nat.le_refl _) (by simp [maxLen]) rfl)
    have Hw := hid (hw.keep h1).cells
    go_enter Try.func134, Try.ntmps134
    go_wp2_with (at_builtin; refine wpList_appG rfl _ _ 88 150 rfl _ 4 32 Try.underlying88 Try.info150x rfl (by omega) w.heap.size (.slice (some ⟨w.heap.size, 0, none⟩) 0 0) 0 [] rfl hown.out J.length (fE J) (fE_len J) (fE_one J) _ _ rfl Hw.out (by simp [maxLen]; omega) (by omega) (by simp) ?_)
    intro v' w1 hown1 hgrow
    have HE := hid (show w1.ownsRow w.heap.size 150 4 v' J.length (fE J) ∧ Below w.heap.size w w1 from ⟨by simpa using hown1, h1.grown hgrow (by simp) (fun k hk => by simp [Value.ownBlock] at hk; omega)⟩)
    clear hown1 hgrow hown h1 Hw
    go_wp2
    go_ret
    exact ⟨_, rfl, HE.out⟩
theorem clone87b_any (a : Option Addr) (L : List Int) (cap : Nat) (w : World) (hw : IntsIn w a L) (hl : L.length ≤ 1000000000000) :
    Calls Try.prog 93 #[.slice a L.length cap] w fun e w' => ∃ v, e = .returned v ∧ w'.ownsRow w.heap.size 3 1 v L.length (ivs L) ∧ Below w.heap.size w w' := by
  have hnilq := fun (w : World) (a : Option Addr) (n c : Nat) => Lib.run_eql_slice_nil (P := Try.prog) w 42 3 a n c 0 0 Try.underlying42
  cases a with
  | none =>
    have hJ : L = [] := by
      cases L with
      | nil => rfl
      | cons x r => obtain ⟨b, o, e, _⟩ := hw 0 (by simp); cases e
    subst hJ
    go_enter Try.func93, Try.ntmps93
    go_wp2
    go_ret
    exact ⟨_, rfl, World.ownsRow_nil _ _ _ _, Below.refl _ _⟩
  | some p =>
    have h1 : Below w.heap.size w (w.alloc (.cells #[] 3)) := below_new _ _
    have hown : Hid ((w.alloc (.cells #[] 3)).ownsRow w.heap.size 3 1 (.slice (some ⟨w.heap.size, 0, none⟩) 0 0) 0 []) := hid (World.ownsRow_made w #[] 0 (Nat.le_refl _) (by simp [maxLen]) rfl)
    have Hw := hid (hw.keep h1)
    go_enter Try.func93, Try.ntmps93
    go_wp2_with (at_builtin; refine wpList_appI rfl _ _ rfl w.heap.size (.slice (some ⟨w.heap.size, 0, none⟩) 0 0) 0 [] rfl hown.out L _ _ rfl Hw.out (by simp [maxLen]; omega) (by omega) (by simp) ?_)
    intro v' w1 hown1 hgrow
    have HE := hid (show w1.ownsRow w.heap.size 3 1 v' L.length (ivs L) ∧ Below w.heap.size w w1 from ⟨by simpa using hown1, h1.grown hgrow (by simp) (fun k hk => by simp [Value.ownBlock] at hk; omega)⟩)
    clear hown1 hgrow hown h1 Hw
    go_wp2
    go_ret
    exact ⟨_, rfl, HE.out⟩
end

end Go.Proofs.Ytaellaconpaejaa
