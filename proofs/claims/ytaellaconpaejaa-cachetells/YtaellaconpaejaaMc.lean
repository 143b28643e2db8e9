/- The plain reckoning of an access as the document tells it, held against the program's. -/
import Derived.Test.YtaellaconpaejaaMb
set_option linter.unusedVariables false
namespace Go.Proofs.Ytaellaconpaejaa

def restOf (ls : List (Int × Bool)) (l : Int) (m : Nat) : List (Int × Bool) := (ls.take m).filter fun x => x.1 != l
def hitOf (ls : List (Int × Bool)) (l : Int) (m : Nat) : Bool := (ls.take m).any fun x => x.1 == l
def dirtyOf (ls : List (Int × Bool)) (l : Int) (m : Nat) : Bool := (ls.take m).any fun x => x.1 == l && x.2

theorem restOf_hit (ls : List (Int × Bool)) (l : Int) (m : Nat) (h : m < ls.length) (e : ls[m].1 = l) : restOf ls l (m + 1) = restOf ls l m := by
  rw [restOf, List.take_succ_eq_append_getElem h, List.filter_append]
  simp [restOf, e]

theorem restOf_miss (ls : List (Int × Bool)) (l : Int) (m : Nat) (h : m < ls.length) (e : ls[m].1 ≠ l) : restOf ls l (m + 1) = restOf ls l m ++ [ls[m]] := by
  rw [restOf, List.take_succ_eq_append_getElem h, List.filter_append]
  simp [restOf, e]

theorem hitOf_succ (ls : List (Int × Bool)) (l : Int) (m : Nat) (h : m < ls.length) : hitOf ls l (m + 1) = (hitOf ls l m || (ls[m].1 == l)) := by
  rw [hitOf, List.take_succ_eq_append_getElem h, List.any_append]
  simp only [hitOf, List.any_cons, List.any_nil, Bool.or_false]

theorem dirtyOf_succ (ls : List (Int × Bool)) (l : Int) (m : Nat) (h : m < ls.length) : dirtyOf ls l (m + 1) = (dirtyOf ls l m || (ls[m].1 == l && ls[m].2)) := by
  rw [dirtyOf, List.take_succ_eq_append_getElem h, List.any_append]
  simp only [dirtyOf, List.any_cons, List.any_nil, Bool.or_false]

/-- Ahead of a line that is there nothing is it. -/
theorem before_hit (ls : List (Int × Bool)) (l : Int) (m : Nat) (h : m < ls.length) (e : ls[m].1 = l) (hl : l ≠ 0) (hp : ls.Pairwise RW) : dirtyOf ls l m = false := by
  rw [dirtyOf, List.any_eq_false]
  intro x hx
  rw [List.mem_iff_getElem] at hx
  obtain ⟨i, hi, rfl⟩ := hx
  have hi' : i < m := by simp at hi; omega
  rw [List.pairwise_iff_getElem] at hp
  have := (hp i m (by omega) h hi' (by rw [e]; exact hl)).1
  rw [e] at this
  simp [this]

theorem restOf_len_le (ls : List (Int × Bool)) (l : Int) (m : Nat) : (restOf ls l m).length ≤ m := by
  have h1 : (restOf ls l m).length ≤ (ls.take m).length := List.length_filter_le _ _
  have h2 : (ls.take m).length ≤ m := by simp; omega
  omega

/-- The line isn't there. -/
theorem miss_all (ls : List (Int × Bool)) (l : Int) (wr : Bool) (h : hitOf ls l ls.length = false) (hpos : 0 < ls.length) :
    restOf ls l ls.length = ls ∧ dirtyOf ls l ls.length = false ∧ useSet ls l wr = ((l, wr) :: ls.dropLast, 10 + wb (ls.getLastD (0, false)).2) := by
  rw [hitOf, List.take_length, List.any_eq_false] at h
  refine ⟨?_, ?_, ?_⟩
  · rw [restOf, List.take_length, List.filter_eq_self]
    intro x hx
    have := h x hx
    simpa using this
  · rw [dirtyOf, List.take_length, List.any_eq_false]
    intro x hx
    have := h x hx
    simp at this
    simp [this]
  · have hf : ls.findIdx? (fun x => x.1 == l) = none := by
      rw [List.findIdx?_eq_none_iff]
      intro x hx
      have := h x hx
      simpa using this
    simp [useSet, hf]

/-- The line is there. -/
theorem hit_all (ls : List (Int × Bool)) (l : Int) (wr : Bool) (h : hitOf ls l ls.length = true) (hl : l ≠ 0) (hp : ls.Pairwise RW) :
    (restOf ls l ls.length).length < ls.length ∧ useSet ls l wr = ((l, wr || dirtyOf ls l ls.length) :: restOf ls l ls.length, 1) := by
  rw [hitOf, List.take_length] at h
  rw [restOf, dirtyOf, List.take_length]
  cases hf : ls.findIdx? (fun x => x.1 == l) with
  | none =>
    rw [List.findIdx?_eq_none_iff] at hf
    rw [List.any_eq_true] at h
    obtain ⟨x, hx, e⟩ := h
    rw [hf x hx] at e
    cases e
  | some k =>
    have hf2 := hf
    rw [List.findIdx?_eq_some_iff_getElem] at hf2
    obtain ⟨hk, he, hno⟩ := hf2
    have he' : ls[k].1 = l := by simpa using he
    have hg : ls.getD k (0, false) = ls[k] := by simp [hk]
    have hsplit : ls = ls.take k ++ ls[k] :: ls.drop (k + 1) := by rw [List.getElem_cons_drop, List.take_append_drop]
    have hbef : ∀ x ∈ ls.take k, x.1 ≠ l := by
      intro x hx
      rw [List.mem_iff_getElem] at hx
      obtain ⟨i, hi, rfl⟩ := hx
      have hi' : i < k := by simp at hi; omega
      have := hno i hi'
      simpa using this
    have haft : ∀ x ∈ ls.drop (k + 1), x.1 ≠ l := by
      intro x hx
      rw [List.mem_iff_getElem] at hx
      obtain ⟨i, hi, rfl⟩ := hx
      have hi' : k + 1 + i < ls.length := by simp at hi; omega
      rw [List.pairwise_iff_getElem] at hp
      intro e
      have e' : ls[k + 1 + i].1 = l := by simpa using e
      have := (hp k (k + 1 + i) hk hi' (by omega) (by rw [e']; exact hl)).1
      rw [he', e'] at this
      exact this rfl
    have hfil : ls.filter (fun x => x.1 != l) = ls.eraseIdx k := by
      rw [List.eraseIdx_eq_take_drop_succ]
      conv => lhs; rw [hsplit]
      rw [List.filter_append, List.filter_cons]
      have e1 : (ls.take k).filter (fun x => x.1 != l) = ls.take k := by
        rw [List.filter_eq_self]; intro x hx; simpa using hbef x hx
      have e2 : (ls.drop (k + 1)).filter (fun x => x.1 != l) = ls.drop (k + 1) := by
        rw [List.filter_eq_self]; intro x hx; simpa using haft x hx
      rw [e1, e2]
      simp [he']
    have hdir : ls.any (fun x => x.1 == l && x.2) = ls[k].2 := by
      conv => lhs; rw [hsplit]
      rw [List.any_append, List.any_cons]
      have e1 : (ls.take k).any (fun x => x.1 == l && x.2) = false := by
        rw [List.any_eq_false]; intro x hx; simp [hbef x hx]
      have e2 : (ls.drop (k + 1)).any (fun x => x.1 == l && x.2) = false := by
        rw [List.any_eq_false]; intro x hx; simp [haft x hx]
      rw [e1, e2]
      simp [he']
    rw [hfil, hdir]
    refine ⟨by simp [List.length_eraseIdx, hk]; omega, ?_⟩
    simp only [useSet, hf, hg, he', Bool.or_comm]

end Go.Proofs.Ytaellaconpaejaa
