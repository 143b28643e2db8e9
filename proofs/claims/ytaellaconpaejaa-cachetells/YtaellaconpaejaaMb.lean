/- The plain reckoning of caches: what passes a check goes on passing it behind an access, and a line that was used last is found first. -/
import Derived.Test.YtaellaconpaejaaMa
set_option linter.unusedVariables false
namespace Go.Proofs.Ytaellaconpaejaa

def okW (j N : Int) (x : Int × Bool) : Prop := 0 ≤ x.1 ∧ x.1 ≤ 1000 ∧ (x.1 = 0 → x.2 = false) ∧ (x.1 ≠ 0 → x.1 % N = j)
def RW (a b : Int × Bool) : Prop := b.1 ≠ 0 → a.1 ≠ b.1 ∧ a.1 ≠ 0

theorem idx_nonneg_iff (ln : Int) (ls : List (Int × Bool)) : 0 ≤ idx ln ls ↔ ∃ y ∈ ls, y.1 = ln := by
  rcases idx_cases ln ls with ⟨h, hn⟩ | ⟨k, hk, h, he, _⟩
  · rw [h]
    refine ⟨fun h => by omega, fun ⟨y, hy, e⟩ => ?_⟩
    obtain ⟨i, hi, rfl⟩ := List.getElem_of_mem hy
    exact absurd e (hn i hi)
  · rw [h]
    exact ⟨fun _ => ⟨_, List.getElem_mem hk, he⟩, fun _ => by omega⟩

theorem ckWay_zero_iff (ls : List (Int × Bool)) (i : Nat) (j N : Int) (h : i < ls.length) :
    ckWay ls i j N = 0 ↔ okW j N ls[i] ∧ (ls[i].1 ≠ 0 → (∀ y ∈ ls.take i, y.1 ≠ ls[i].1) ∧ ∀ y ∈ ls.take i, y.1 ≠ 0) := by
  rw [ckWay, List.getElem?_eq_getElem h]
  generalize ls[i] = x
  simp only
  have e1 : (0 ≤ idx x.1 (ls.take i)) ↔ ∃ y ∈ ls.take i, y.1 = x.1 := idx_nonneg_iff _ _
  have e2 : (0 ≤ idx 0 (ls.take i)) ↔ ∃ y ∈ ls.take i, y.1 = 0 := idx_nonneg_iff _ _
  by_cases hr : inR x.1 0 1000 = false
  · rw [if_pos hr]
    refine ⟨fun h => by omega, fun ⟨⟨h1, h2, _⟩, _⟩ => ?_⟩
    simp [inR] at hr; omega
  · rw [if_neg hr]
    have hr' : 0 ≤ x.1 ∧ x.1 ≤ 1000 := by simpa [inR] using hr
    by_cases hz : x.1 = 0
    · rw [if_pos hz]
      cases hd : x.2 with
      | true =>
        simp only [if_true]
        refine ⟨fun h => by omega, fun ⟨⟨_, _, h3, _⟩, _⟩ => ?_⟩
        rw [hd] at h3; simp [hz] at h3
      | false =>
        simp only [Bool.false_eq_true, if_false, true_iff]
        exact ⟨⟨hr'.1, hr'.2, fun _ => hd, fun h => absurd hz h⟩, fun h => absurd hz h⟩
    · rw [if_neg hz]
      by_cases hm : x.1 % N ≠ j
      · rw [if_pos hm]
        exact ⟨fun h => by omega, fun ⟨⟨_, _, _, h4⟩, _⟩ => absurd (h4 hz) hm⟩
      · rw [if_neg hm]
        have hm' : x.1 % N = j := by omega
        by_cases h6 : 0 ≤ idx x.1 (ls.take i)
        · rw [if_pos h6]
          obtain ⟨y, hy, e⟩ := e1.1 h6
          exact ⟨fun h => by omega, fun ⟨_, h⟩ => absurd e ((h hz).1 y hy)⟩
        · rw [if_neg h6]
          by_cases h4 : 0 ≤ idx 0 (ls.take i)
          · rw [if_pos h4]
            obtain ⟨y, hy, e⟩ := e2.1 h4
            exact ⟨fun h => by omega, fun ⟨_, h⟩ => absurd e ((h hz).2 y hy)⟩
          · rw [if_neg h4]
            simp only [true_iff]
            exact ⟨⟨hr'.1, hr'.2, fun h => absurd h hz, fun _ => hm'⟩, fun _ => ⟨fun y hy e => h6 (e1.2 ⟨y, hy, e⟩), fun y hy e => h4 (e2.2 ⟨y, hy, e⟩)⟩⟩

theorem good_iff (ls : List (Int × Bool)) (j N : Int) : (∀ i, i < ls.length → ckWay ls i j N = 0) ↔ (∀ x ∈ ls, okW j N x) ∧ ls.Pairwise RW := by
  constructor
  · intro h
    refine ⟨fun x hx => ?_, ?_⟩
    · obtain ⟨i, hi, rfl⟩ := List.getElem_of_mem hx
      exact ((ckWay_zero_iff ls i j N hi).1 (h i hi)).1
    · rw [List.pairwise_iff_getElem]
      intro i k hi hk hik hz
      have := ((ckWay_zero_iff ls k j N hk).1 (h k hk)).2 hz
      have hm : ls[i] ∈ ls.take k := by
        rw [List.mem_iff_getElem]
        exact ⟨i, by simp; omega, by simp⟩
      exact ⟨this.1 _ hm, this.2 _ hm⟩
  · rintro ⟨h1, h2⟩ i hi
    rw [ckWay_zero_iff ls i j N hi]
    refine ⟨h1 _ (List.getElem_mem hi), fun hz => ?_⟩
    rw [List.pairwise_iff_getElem] at h2
    refine ⟨fun y hy => ?_, fun y hy => ?_⟩
    all_goals
      rw [List.mem_iff_getElem] at hy
      obtain ⟨k, hk, rfl⟩ := hy
      have hk' : k < i := by simp at hk; omega
      have := h2 k i (by omega) hi hk' hz
      simp only [List.getElem_take]
    · exact this.1
    · exact this.2

/-- Behind an access a set is as good as it was. -/
theorem useSet_good (ls : List (Int × Bool)) (l : Int) (wr : Bool) (j N : Int) (h1 : ∀ x ∈ ls, okW j N x) (h2 : ls.Pairwise RW) (hl1 : 1 ≤ l) (hl2 : l ≤ 1000) (hm : l % N = j) :
    (∀ x ∈ (useSet ls l wr).1, okW j N x) ∧ (useSet ls l wr).1.Pairwise RW := by
  have hx : ∀ d : Bool, okW j N (l, d) := fun d => ⟨by simp only; omega, by simp only; omega, fun h => by simp only at h; omega, fun _ => hm⟩
  unfold useSet
  cases hf : ls.findIdx? (fun x => x.1 == l) with
  | none =>
    rw [List.findIdx?_eq_none_iff] at hf
    simp only
    refine ⟨fun x hmem => ?_, ?_⟩
    · rcases List.mem_cons.1 hmem with rfl | h
      · exact hx _
      · exact h1 _ (List.dropLast_subset _ h)
    · refine List.Pairwise.cons (fun y hy hz => ?_) (h2.sublist (List.dropLast_sublist _))
      have := hf y (List.dropLast_subset _ hy)
      simp only
      refine ⟨fun e => ?_, by omega⟩
      simp [e] at this
  | some k =>
    rw [List.findIdx?_eq_some_iff_getElem] at hf
    obtain ⟨hk, he, _⟩ := hf
    have he' : ls[k].1 = l := by simpa using he
    have hg : ls.getD k (0, false) = ls[k] := by simp [hk]
    simp only [hg, he']
    refine ⟨fun x hmem => ?_, ?_⟩
    · rcases List.mem_cons.1 hmem with rfl | h
      · exact hx _
      · exact h1 _ (List.mem_of_mem_eraseIdx h)
    · refine List.Pairwise.cons (fun y hy hz => ?_) (h2.sublist (List.eraseIdx_sublist _ _))
      simp only
      refine ⟨fun e => ?_, by omega⟩
      rw [List.mem_eraseIdx_iff_getElem] at hy
      obtain ⟨i, hi, hne, rfl⟩ := hy
      rw [List.pairwise_iff_getElem] at h2
      rcases Nat.lt_or_gt_of_ne hne with h | h
      · have := h2 i k hi hk h (by rw [he']; omega)
        rw [he'] at this
        exact this.1 e.symm
      · have := h2 k i hk hi h hz
        rw [he'] at this
        exact this.1 e

theorem useSet_first (ls : List (Int × Bool)) (l : Int) (wr : Bool) (h : 0 < ls.length) : idx l (useSet ls l wr).1 = 0 := by
  unfold useSet
  cases hf : ls.findIdx? (fun x => x.1 == l) with
  | none => simp [idx, List.findIdx?_cons]
  | some k =>
    rw [List.findIdx?_eq_some_iff_getElem] at hf
    obtain ⟨hk, he, _⟩ := hf
    have he' : ls[k].1 = l := by simpa using he
    have hg : ls.getD k (0, false) = ls[k] := by simp [hk]
    simp only [hg]
    simp [idx, List.findIdx?_cons, he']

theorem useSet_cost (ls : List (Int × Bool)) (l : Int) (wr : Bool) : 1 ≤ (useSet ls l wr).2 ∧ (useSet ls l wr).2 ≤ 15 := by
  unfold useSet
  split
  · simp
  · have := wb_le (ls.getLastD (0, false)).2
    simp only; omega

theorem useSet_length (ls : List (Int × Bool)) (l : Int) (wr : Bool) (h : 0 < ls.length) : (useSet ls l wr).1.length = ls.length := by
  unfold useSet
  cases hf : ls.findIdx? (fun x => x.1 == l) with
  | none => simp; omega
  | some k =>
    rw [List.findIdx?_eq_some_iff_getElem] at hf
    obtain ⟨hk, _, _⟩ := hf
    simp [List.length_eraseIdx, hk]; omega

/-- A cache passes its check just if its shape does, and each set. -/
theorem ck_zero_iff (C : List (List (Int × Bool))) : ck C = 0 ↔ ckShape C = 0 ∧ ∀ j (h : j < C.length), (∀ x ∈ C[j], okW j C.length x) ∧ C[j].Pairwise RW := by
  unfold ck
  by_cases hs : ckShape C = 0
  · simp only [hs, ne_eq, not_true_eq_false, if_false, true_and]
    constructor
    · intro h j hj
      have := fe_eq_zero h j hj
      rw [ckSet] at this
      have e : C.getD j [] = C[j] := by simp [hj]
      rw [e] at this
      exact (good_iff _ _ _).1 (fe_eq_zero this)
    · intro h
      refine fe_zero _ _ (fun j hj => ?_)
      have e : C.getD j [] = C[j] := by simp [hj]
      rw [ckSet, e]
      exact fe_zero _ _ ((good_iff _ _ _).2 (h j hj))
  · simp [hs]

theorem ckShape_zero_iff (C : List (List (Int × Bool))) : ckShape C = 0 ↔ (1 ≤ C.length ∧ C.length ≤ 4) ∧ (∀ l ∈ C, 1 ≤ l.length ∧ l.length ≤ 3) ∧ ∀ l ∈ C, l.length = (C.headD []).length := by
  unfold ckShape
  constructor
  · intro h
    split at h
    · omega
    · rename_i h1
      split at h
      · omega
      · rename_i h2
        split at h
        · omega
        · rename_i h3
          simp [inR] at h1 h2 h3
          refine ⟨by omega, fun l hl => ?_, fun l hl => ?_⟩
          · have := h2 l hl; omega
          · have := h3 l hl; simpa using this
  · rintro ⟨h1, h2, h3⟩
    rw [if_neg (by simp [inR]; omega), if_neg, if_neg]
    · simpa using h3
    · simp [inR]
      intro l hl
      have := h2 l hl; omega

theorem headD_set (C : List (List (Int × Bool))) (s : Nat) (x : List (Int × Bool)) (hs : s < C.length) (hx : x.length = C[s].length) (hall : ∀ l ∈ C, l.length = (C.headD []).length) : ((C.set s x).headD []).length = (C.headD []).length := by
  cases C with
  | nil => simp at hs
  | cons y r =>
    cases s with
    | zero => simpa using hx
    | succ s => simp

theorem access_good (C : List (List (Int × Bool))) (l : Int) (wr : Bool) (s : Nat) (hs : s < C.length) (h : ck C = 0) (hl1 : 1 ≤ l) (hl2 : l ≤ 1000) (hm : l % (C.length : Int) = s) :
    ck (C.set s (useSet C[s] l wr).1) = 0 ∧ ((C.set s (useSet C[s] l wr).1).headD []).length = (C.headD []).length := by
  rw [ck_zero_iff] at h
  obtain ⟨h1, h2⟩ := h
  rw [ckShape_zero_iff] at h1
  obtain ⟨h3, h4, h5⟩ := h1
  have hlen := useSet_length C[s] l wr (h4 C[s] (List.getElem_mem hs)).1
  have hh := headD_set C s _ hs hlen h5
  refine ⟨?_, hh⟩
  rw [ck_zero_iff, ckShape_zero_iff]
  have hmem : ∀ x ∈ C.set s (useSet C[s] l wr).1, x.length = (C.headD []).length := by
    intro x hx
    rcases List.mem_or_eq_of_mem_set hx with h | h
    · exact h5 x h
    · rw [h, hlen]; exact h5 _ (List.getElem_mem hs)
  refine ⟨⟨by simpa using h3, fun x hx => ?_, fun x hx => by rw [hh]; exact hmem x hx⟩, fun j hj => ?_⟩
  · rw [hmem x hx]
    have := h4 C[s] (List.getElem_mem hs)
    rw [h5 _ (List.getElem_mem hs)] at this
    exact this
  · have hj' : j < C.length := by simpa using hj
    simp only [List.length_set]
    by_cases e : j = s
    · subst e
      simp only [List.getElem_set_self]
      exact useSet_good _ l wr _ _ (h2 j hj').1 (h2 j hj').2 hl1 hl2 hm
    · simp only [List.getElem_set_ne (fun h => e h.symm)]
      exact h2 j hj'

end Go.Proofs.Ytaellaconpaejaa
