/- Walks: the reader of images: a whole config. -/
import Derived.Test.YtaellaconpaejaaQc
set_option linter.unusedVariables false
namespace Go.Proofs.Ytaellaconpaejaa
open Go.RowKit

theorem owns_mono {w : World} {base base' e size n : Nat} {v : Value} {xs : List Value} (h : w.ownsRow base e size v n xs) (hb : base' ≤ base) : w.ownsRow base' e size v n xs := by
  refine ⟨h.1, ?_⟩
  rcases h.2 with q | ⟨g, cap, cur, e1, e2, r⟩
  · exact .inl q
  · exact .inr ⟨g, cap, cur, e1, by omega, r⟩
theorem owns_kept {w w' : World} {base e size n b : Nat} {v : Value} {xs : List Value} (h : w.ownsRow base e size v n xs) (hg : w.grownBy w' (some b)) (hb : b < base) : w'.ownsRow base e size v n xs := by
  refine h.kept hg ?_
  cases hv : v.ownBlock with
  | none => exact .inl rfl
  | some g => right; have := (h.lt g hv).1; simp; omega
theorem owns_set {w : World} {base e size n b : Nat} {v : Value} {xs : List Value} (h : w.ownsRow base e size v n xs) (i : Nat) (u : Value) (hb : b < base) : (w.setCell ⟨b, i, none⟩ u).ownsRow base e size v n xs := owns_kept h (grow_setCell _ _ _ _) hb

/-- The lists of a config that was read: rows of its own. -/
structure OwnConf (w : World) (base : Nat) (v5 v6 v7 v8 : Value) (C : Conf) : Prop where
  sl : w.ownsRow base 114 2 v5 C.sl.length (flS C.sl)
  ow : w.ownsRow base 3 1 v6 C.ow.length (flI C.ow)
  ch : w.ownsRow base 125 3 v7 C.ch.length (flC C.ch)
  ta : w.ownsRow base 108 4 v8 C.ta.length (flT C.ta)

theorem OwnConf.kept {w w' : World} {base b : Nat} {v5 v6 v7 v8 : Value} {C : Conf} (h : OwnConf w base v5 v6 v7 v8 C) (hg : w.grownBy w' (some b)) (hb : b < base) : OwnConf w' base v5 v6 v7 v8 C :=
  ⟨owns_kept h.sl hg hb, owns_kept h.ow hg hb, owns_kept h.ch hg hb, owns_kept h.ta hg hb⟩
theorem OwnConf.set {w : World} {base b : Nat} {v5 v6 v7 v8 : Value} {C : Conf} (h : OwnConf w base v5 v6 v7 v8 C) (i : Nat) (u : Value) (hb : b < base) : OwnConf (w.setCell ⟨b, i, none⟩ u) base v5 v6 v7 v8 C := h.kept (grow_setCell _ _ _ _) hb
theorem OwnConf.mono {w : World} {base base' : Nat} {v5 v6 v7 v8 : Value} {C : Conf} (h : OwnConf w base v5 v6 v7 v8 C) (hb : base' ≤ base) : OwnConf w base' v5 v6 v7 v8 C :=
  ⟨owns_mono h.sl hb, owns_mono h.ow hb, owns_mono h.ch hb, owns_mono h.ta hb⟩
theorem OwnConf.below {w w' : World} {base : Nat} {v5 v6 v7 v8 : Value} {C : Conf} (h : OwnConf w base v5 v6 v7 v8 C) (hb : Below w.heap.size w w') : OwnConf w' base v5 v6 v7 v8 C :=
  ⟨owns_below' h.sl hb, owns_below' h.ow hb, owns_below' h.ch hb, owns_below' h.ta hb⟩

theorem flI_at (l : List Int) : ∀ i (h : i < l.length), (flI l)[i * 1]? = some (.int .i64 l[i]) := by
  induction l with
  | nil => intro i h; simp at h
  | cons x l ih =>
    intro i h
    have e : flI (x :: l) = [.int .i64 x] ++ flI l := by simp [flI]
    rw [e]
    cases i with
    | zero => simp
    | succ i =>
      have := ih i (by simpa using h)
      simp only [List.getElem_cons_succ]
      rw [List.getElem?_append_right (by simp)]
      simpa using this

theorem flI_in {w : World} {base : Nat} {v : Value} {l : List Int} (h : w.ownsRow base 3 1 v l.length (flI l)) : ∃ a c, v = .slice a l.length c ∧ IntsIn w a l ∧ l.length ≤ c ∧ l.length ≤ 9223372036854775807 ∧ ∀ b o, a = some ⟨b, o, none⟩ → base ≤ b := by
  obtain ⟨hl, hv⟩ := h
  rcases hv with ⟨rfl, hn⟩ | ⟨g, cap, cur, rfl, hb, hg, hnc, hm, hcs, ht⟩
  · exact ⟨none, 0, by rw [hn], fun i hi => by omega, by omega, by omega, fun b o e => by simp at e⟩
  · refine ⟨_, cap, rfl, fun i hi => ?_, hnc, by simp only [maxLen] at hm; omega, fun b o e => by simp at e; omega⟩
    have q := flI_at l i hi
    have hcell : ∀ j u, (flI l)[j]? = some u → w.cell? ⟨g, 0 + j, none⟩ = some u := by
      intro j u hu
      have := World.ownsRow.cells (w := w) (base := base) (e := 3) (size := 1) (n := l.length) (v := .slice (some ⟨g, 0, none⟩) l.length cap) ⟨hl, .inr ⟨g, cap, cur, rfl, hb, hg, hnc, hm, hcs, ht⟩⟩ (g := g) rfl j u hu
      rw [addZ] at this
      rw [Nat.zero_add]; exact this
    refine ⟨g, 0, rfl, ?_⟩
    have := hcell _ _ q
    rwa [Nat.mul_one] at this

theorem flS_at (l : List (Int × Int)) : ∀ i (h : i < l.length), (flS l)[i * 2]? = some (.int .i64 l[i].1) ∧ (flS l)[i * 2 + 1]? = some (.int .i64 l[i].2) := by
  induction l with
  | nil => intro i h; simp at h
  | cons x l ih =>
    intro i h
    have e : flS (x :: l) = [.int .i64 x.1, .int .i64 x.2] ++ flS l := by simp [flS]
    rw [e]
    cases i with
    | zero => simp
    | succ i =>
      have := ih i (by simpa using h)
      simp only [List.getElem_cons_succ]
      refine ⟨?_, ?_⟩
      · rw [List.getElem?_append_right (by simp; omega), ← this.1]
        congr 1
        simp
        omega
      · rw [List.getElem?_append_right (by simp; omega), ← this.2]
        congr 1
        simp
        omega

theorem flS_in {w : World} {base : Nat} {v : Value} {l : List (Int × Int)} (h : w.ownsRow base 114 2 v l.length (flS l)) : ∃ a c, v = .slice a l.length c ∧ SlotsIn w a l ∧ l.length ≤ c ∧ l.length ≤ 9223372036854775807 ∧ ∀ b o, a = some ⟨b, o, none⟩ → base ≤ b := by
  obtain ⟨hl, hv⟩ := h
  rcases hv with ⟨rfl, hn⟩ | ⟨g, cap, cur, rfl, hb, hg, hnc, hm, hcs, ht⟩
  · exact ⟨none, 0, by rw [hn], fun i hi => by omega, by omega, by omega, fun b o e => by simp at e⟩
  · refine ⟨_, cap, rfl, fun i hi => ?_, hnc, by simp only [maxLen] at hm; omega, fun b o e => by simp at e; omega⟩
    have q := flS_at l i hi
    have hcell : ∀ j u, (flS l)[j]? = some u → w.cell? ⟨g, 0 + j, none⟩ = some u := by
      intro j u hu
      have := World.ownsRow.cells (w := w) (base := base) (e := 114) (size := 2) (n := l.length) (v := .slice (some ⟨g, 0, none⟩) l.length cap) ⟨hl, .inr ⟨g, cap, cur, rfl, hb, hg, hnc, hm, hcs, ht⟩⟩ (g := g) rfl j u hu
      rw [addZ] at this
      rw [Nat.zero_add]; exact this
    exact ⟨g, 0, rfl, hcell _ _ q.1, by rw [Nat.add_assoc]; exact hcell _ _ q.2⟩

theorem flC_at (l : List (Int × Int × Int)) : ∀ i (h : i < l.length), (flC l)[i * 3]? = some (.int .i64 l[i].1) ∧ (flC l)[i * 3 + 1]? = some (.int .i64 l[i].2.1) ∧ (flC l)[i * 3 + 2]? = some (.int .i64 l[i].2.2) := by
  induction l with
  | nil => intro i h; simp at h
  | cons x l ih =>
    intro i h
    have e : flC (x :: l) = [.int .i64 x.1, .int .i64 x.2.1, .int .i64 x.2.2] ++ flC l := by simp [flC]
    rw [e]
    cases i with
    | zero => simp
    | succ i =>
      have := ih i (by simpa using h)
      simp only [List.getElem_cons_succ]
      refine ⟨?_, ?_, ?_⟩
      · rw [List.getElem?_append_right (by simp; omega), ← this.1]
        congr 1
        simp
        omega
      · rw [List.getElem?_append_right (by simp; omega), ← this.2.1]
        congr 1
        simp
        omega
      · rw [List.getElem?_append_right (by simp; omega), ← this.2.2]
        congr 1
        simp
        omega

theorem flC_in {w : World} {base : Nat} {v : Value} {l : List (Int × Int × Int)} (h : w.ownsRow base 125 3 v l.length (flC l)) : ∃ a c, v = .slice a l.length c ∧ ChansIn w a l ∧ l.length ≤ c ∧ l.length ≤ 9223372036854775807 ∧ ∀ b o, a = some ⟨b, o, none⟩ → base ≤ b := by
  obtain ⟨hl, hv⟩ := h
  rcases hv with ⟨rfl, hn⟩ | ⟨g, cap, cur, rfl, hb, hg, hnc, hm, hcs, ht⟩
  · exact ⟨none, 0, by rw [hn], fun i hi => by omega, by omega, by omega, fun b o e => by simp at e⟩
  · refine ⟨_, cap, rfl, fun i hi => ?_, hnc, by simp only [maxLen] at hm; omega, fun b o e => by simp at e; omega⟩
    have q := flC_at l i hi
    have hcell : ∀ j u, (flC l)[j]? = some u → w.cell? ⟨g, 0 + j, none⟩ = some u := by
      intro j u hu
      have := World.ownsRow.cells (w := w) (base := base) (e := 125) (size := 3) (n := l.length) (v := .slice (some ⟨g, 0, none⟩) l.length cap) ⟨hl, .inr ⟨g, cap, cur, rfl, hb, hg, hnc, hm, hcs, ht⟩⟩ (g := g) rfl j u hu
      rw [addZ] at this
      rw [Nat.zero_add]; exact this
    exact ⟨g, 0, rfl, hcell _ _ q.1, by rw [Nat.add_assoc]; exact hcell _ _ q.2.1, by rw [Nat.add_assoc]; exact hcell _ _ q.2.2⟩

theorem flT_at (l : List (Int × Int × Int × Int)) : ∀ i (h : i < l.length), (flT l)[i * 4]? = some (.int .i64 l[i].1) ∧ (flT l)[i * 4 + 1]? = some (.int .i64 l[i].2.1) ∧ (flT l)[i * 4 + 2]? = some (.int .i64 l[i].2.2.1) ∧ (flT l)[i * 4 + 3]? = some (.int .i64 l[i].2.2.2) := by
  induction l with
  | nil => intro i h; simp at h
  | cons x l ih =>
    intro i h
    have e : flT (x :: l) = [.int .i64 x.1, .int .i64 x.2.1, .int .i64 x.2.2.1, .int .i64 x.2.2.2] ++ flT l := by simp [flT]
    rw [e]
    cases i with
    | zero => simp
    | succ i =>
      have := ih i (by simpa using h)
      simp only [List.getElem_cons_succ]
      refine ⟨?_, ?_, ?_, ?_⟩
      · rw [List.getElem?_append_right (by simp; omega), ← this.1]
        congr 1
        simp
        omega
      · rw [List.getElem?_append_right (by simp; omega), ← this.2.1]
        congr 1
        simp
        omega
      · rw [List.getElem?_append_right (by simp; omega), ← this.2.2.1]
        congr 1
        simp
        omega
      · rw [List.getElem?_append_right (by simp; omega), ← this.2.2.2]
        congr 1
        simp
        omega

theorem flT_in {w : World} {base : Nat} {v : Value} {l : List (Int × Int × Int × Int)} (h : w.ownsRow base 108 4 v l.length (flT l)) : ∃ a c, v = .slice a l.length c ∧ TasksIn w a l ∧ l.length ≤ c ∧ l.length ≤ 9223372036854775807 ∧ ∀ b o, a = some ⟨b, o, none⟩ → base ≤ b := by
  obtain ⟨hl, hv⟩ := h
  rcases hv with ⟨rfl, hn⟩ | ⟨g, cap, cur, rfl, hb, hg, hnc, hm, hcs, ht⟩
  · exact ⟨none, 0, by rw [hn], fun i hi => by omega, by omega, by omega, fun b o e => by simp at e⟩
  · refine ⟨_, cap, rfl, fun i hi => ?_, hnc, by simp only [maxLen] at hm; omega, fun b o e => by simp at e; omega⟩
    have q := flT_at l i hi
    have hcell : ∀ j u, (flT l)[j]? = some u → w.cell? ⟨g, 0 + j, none⟩ = some u := by
      intro j u hu
      have := World.ownsRow.cells (w := w) (base := base) (e := 108) (size := 4) (n := l.length) (v := .slice (some ⟨g, 0, none⟩) l.length cap) ⟨hl, .inr ⟨g, cap, cur, rfl, hb, hg, hnc, hm, hcs, ht⟩⟩ (g := g) rfl j u hu
      rw [addZ] at this
      rw [Nat.zero_add]; exact this
    exact ⟨g, 0, rfl, hcell _ _ q.1, by rw [Nat.add_assoc]; exact hcell _ _ q.2.1, by rw [Nat.add_assoc]; exact hcell _ _ q.2.2.1, by rw [Nat.add_assoc]; exact hcell _ _ q.2.2.2⟩

theorem OwnConf.conf {w : World} {base : Nat} {v5 v6 v7 v8 : Value} {C : Conf} (h : OwnConf w base v5 v6 v7 v8 C) : ∃ A : Mem, v5 = .slice A.a5 C.sl.length A.c5 ∧ v6 = .slice A.a6 C.ow.length A.c6 ∧ v7 = .slice A.a7 C.ch.length A.c7 ∧ v8 = .slice A.a8 C.ta.length A.c8 ∧ ConfIn w A C := by
  obtain ⟨a5, c5, e5, i5, k5, l5, _⟩ := flS_in h.sl
  obtain ⟨a6, c6, e6, i6, k6, l6, _⟩ := flI_in h.ow
  obtain ⟨a7, c7, e7, i7, k7, l7, _⟩ := flC_in h.ch
  obtain ⟨a8, c8, e8, i8, k8, l8, _⟩ := flT_in h.ta
  exact ⟨⟨a5, a6, a7, a8, c5, c6, c7, c8⟩, e5, e6, e7, e8, ⟨i5, i6, i7, i8, l5, l6, l7, l8, k7⟩⟩

end Go.Proofs.Ytaellaconpaejaa
