/- Plain: jobs that are released, jobs that are missed: twice is once; what is picked has no other ahead of it. Plain: a window: what holds at each turn of it: nothing is told behind its end, what was told stays, as many actions are done as Next tells. -/
import Derived.Test.YtildebflnmbefaaGreatYiJ
import Derived.Test.YtildebflnmbefaaGreatKj
set_option linter.unusedVariables false
namespace Go.Proofs.YtildebflnmbefaaGreat
open Go.RowKit

theorem fe_iff {n : Nat} {f : Nat → Int} : fe n f = 0 ↔ ∀ j, j < n → f j = 0 := ⟨fe_eq_zero, fe_zero n f⟩
theorem ckD_iff {C : Conf} {dn : Int} {D : Dom} : ckD C dn D = 0 ↔ ckPlace C dn = 0 ∧ ckShp C D = 0 ∧ ckNums D = 0 ∧ ckJobs C dn D = 0 ∧ ckIns C D = 0 ∧ ckOuts D = 0 := by
  unfold ckD
  by_cases h : ckPlace C dn = 0
  · rw [if_neg (by simp [h]), fe_iff]
    constructor
    · intro hf
      exact ⟨h, hf 0 (by omega), hf 1 (by omega), hf 2 (by omega), hf 3 (by omega), hf 4 (by omega)⟩
    · rintro ⟨_, h0, h1, h2, h3, h4⟩ j hj
      match j, hj with
      | 0, _ => exact h0
      | 1, _ => exact h1
      | 2, _ => exact h2
      | 3, _ => exact h3
      | 4, _ => exact h4
  · rw [if_pos h]
    exact ⟨fun e => absurd e h, fun e => absurd e.1 h⟩
theorem ckPlace_ok {C : Conf} {dn : Int} (h : ckPlace C dn = 0) : ckC C = 0 := by
  unfold ckPlace at h
  split at h
  · assumption
  · assumption
theorem ckShp_iff {C : Conf} {D : Dom} : ckShp C D = 0 ↔ D.rel.length = C.ta.length ∧ D.ins.length = C.ch.length ∧ D.out.length = C.ch.length ∧ D.tak.length = C.ow.length := by
  unfold ckShp
  split
  · simp_all
  · simp_all
theorem ckNums_iff {D : Dom} : ckNums D = 0 ↔ allR D.rel 0 100000 = true ∧ inR D.nxt 0 100000 = true ∧ allR D.tak 0 15 = true := by
  unfold ckNums
  split
  · simp_all
  · simp_all
theorem ckJobs_iff {C : Conf} {dn : Int} {D : Dom} : ckJobs C dn D = 0 ↔ D.jobs.length ≤ 20 ∧ ∀ j ∈ D.jobs, ckJob C dn j = 0 := by
  unfold ckJobs
  split
  · constructor
    · intro h; omega
    · intro h; omega
  · rw [fe_iff]
    constructor
    · intro h
      refine ⟨by omega, fun j hj => ?_⟩
      obtain ⟨i, hi, rfl⟩ := List.getElem_of_mem hj
      have := h i hi
      simpa [hi] using this
    · rintro ⟨_, h⟩ i hi
      have := h D.jobs[i] (List.getElem_mem hi)
      simpa [hi] using this
theorem taB_ok {C : Conf} (h : ckC C = 0) (k : Nat) (hk : k < C.ta.length) : 1 ≤ (tk C k).2.1 ∧ (tk C k).2.1 ≤ 5000 ∧ 1 ≤ (tk C k).2.2.1 ∧ (tk C k).2.2.1 ≤ 5000 ∧ 1 ≤ (tk C k).2.2.2 ∧ (tk C k).2.2.2 ≤ 5000 := by
  have h6 : ckTasks C = 0 := fe_eq_zero h 6 (by omega)
  have hk' := fe_eq_zero h6 k hk
  simp only [ckTa] at hk'
  unfold tk
  split at hk'
  · split at hk'
    · rename_i hh
      simp [inR] at hh ⊢
      omega
    · omega
  · omega
theorem wrap_id {n : Int} (h1 : -9223372036854775808 ≤ n) (h2 : n ≤ 9223372036854775807) : wrap64 n = n := by
  unfold wrap64
  omega
theorem prod_le {p r : Int} (h1 : 1 ≤ p) (h2 : p ≤ 5000) (h3 : 0 ≤ r) (h4 : r ≤ 100000) : 0 ≤ p * r ∧ p * r ≤ 500000000 := by
  have a := Int.mul_nonneg (show (0 : Int) ≤ p by omega) h3
  have b := Int.mul_le_mul h2 h4 h3 (show (0 : Int) ≤ 5000 by omega)
  omega

/-- The rows of jobs alone differ. -/
theorem relAt {D : Dom} (h : allR D.rel 0 100000 = true) (k : Nat) : 0 ≤ D.rel.getD k 0 ∧ D.rel.getD k 0 ≤ 100000 := by
  by_cases hk : k < D.rel.length
  · have := List.all_eq_true.1 h D.rel[k] (List.getElem_mem hk)
    simp [inR] at this
    simp [hk]
    omega
  · simp [hk]
theorem comes_eq {C : Conf} (hC : ckC C = 0) {D : Dom} (h : allR D.rel 0 100000 = true) (k : Nat) (hk : k < C.ta.length) : comesAt C D k = (tk C k).2.1 * D.rel.getD k 0 ∧ 0 ≤ comesAt C D k := by
  have h1 := taB_ok hC k hk
  have h2 := relAt h k
  have h3 := prod_le h1.1 h1.2.1 h2.1 h2.2
  unfold comesAt
  rw [wrap_id (by omega) (by omega)]
  exact ⟨rfl, h3.1⟩

/-- A job of task k is released. -/
def relStep (C : Conf) (k : Nat) (D : Dom) : Dom :=
  if D.jobs.length = 20 then ⟨D.jobs, D.rel.set k (D.rel.getD k 0 + 1), D.nxt, D.ins, D.tak, D.out, D.evs⟩
  else ⟨D.jobs ++ [((k : Int), D.rel.getD k 0, comesAt C D k, 0, false, false)], D.rel.set k (D.rel.getD k 0 + 1), D.nxt, D.ins, D.tak, D.out, D.evs ++ [(comesAt C D k, 2, (k : Int), D.rel.getD k 0)]⟩
/-- Is there one more to release? -/
def goOn (C : Conf) (now : Int) (k : Nat) (D : Dom) : Bool := decide (comesAt C D k ≤ now) && decide (D.rel.getD k 0 < 100000)
def relN (C : Conf) (now : Int) (k : Nat) : Nat → Dom → Dom
  | 0, D => D
  | n + 1, D => if goOn C now k D = true then relN C now k n (relStep C k D) else D
/-- All jobs of task k up to now. -/
def relT (C : Conf) (now : Int) (k : Nat) (D : Dom) : Dom := relN C now k (100000 - (D.rel.getD k 0).toNat) D
/-- All jobs of these tasks. -/
def relL (C : Conf) (now : Int) (l : List NT) (D : Dom) : Dom := l.foldl (fun D x => relT C now x.1 D) D
def relAll (C : Conf) (dn now : Int) (D : Dom) : Dom := relL C now (ownT C dn C.ta.length) D
/-- Is it missed now? -/
def late (C : Conf) (now : Int) (j : JobT) : Bool := !j.2.2.2.2.2 && decide (dueAt C j ≤ now)
def markJ (j : JobT) : JobT := (j.1, j.2.1, j.2.2.1, j.2.2.2.1, j.2.2.2.2.1, true)
def missStep (C : Conf) (now : Int) (i : Nat) (D : Dom) : Dom :=
  match D.jobs[i]? with
  | none => D
  | some j => if late C now j = true then ⟨D.jobs.set i (markJ j), D.rel, D.nxt, D.ins, D.tak, D.out, D.evs ++ [(dueAt C j, 6, j.1, j.2.1)]⟩ else D
def missN (C : Conf) (now : Int) (n : Nat) (D : Dom) : Dom := (List.range n).foldl (fun D i => missStep C now i D) D
theorem missN_succ (C : Conf) (now : Int) (n : Nat) (D : Dom) : missN C now (n + 1) D = missStep C now n (missN C now n D) := by
  simp [missN, List.range_succ]
/-- What Release makes of a domain. -/
def relD (C : Conf) (dn now : Int) (D : Dom) : Dom := missN C now (relAll C dn now D).jobs.length (relAll C dn now D)

theorem relStep_rel (C : Conf) (k : Nat) (D : Dom) : (relStep C k D).rel = D.rel.set k (D.rel.getD k 0 + 1) := by
  unfold relStep; split <;> rfl
theorem relStep_at (C : Conf) (k : Nat) (D : Dom) (hk : k < D.rel.length) : (relStep C k D).rel.getD k 0 = D.rel.getD k 0 + 1 := by
  rw [relStep_rel]; simp [hk]
theorem relStep_ne (C : Conf) (k i : Nat) (D : Dom) (h : i ≠ k) : (relStep C k D).rel.getD i 0 = D.rel.getD i 0 := by
  rw [relStep_rel]; simp [List.getElem?_set_ne (Ne.symm h)]
theorem relStep_ok {C : Conf} {dn now : Int} {D : Dom} (hz : ckD C dn D = 0) (hn : inR now 0 100000 = true) (k : Nat) (hk : k < C.ta.length) (ho : (tk C k).1 = dn) (hg : goOn C now k D = true) : ckD C dn (relStep C k D) = 0 := by
  obtain ⟨h0, h1, h2, h3, h4, h5⟩ := ckD_iff.1 hz
  have hC := ckPlace_ok h0
  have hN := ckNums_iff.1 h2
  have hS := ckShp_iff.1 h1
  have hJ := ckJobs_iff.1 h3
  have ht := taB_ok hC k hk
  have hr := relAt hN.1 k
  have hc := comes_eq hC hN.1 k hk
  simp only [goOn, Bool.and_eq_true, decide_eq_true_eq] at hg
  simp only [inR, Bool.and_eq_true, decide_eq_true_eq] at hn
  have hrel : allR (D.rel.set k (D.rel.getD k 0 + 1)) 0 100000 = true := by
    refine allR_true (fun j hj => ?_)
    by_cases e : j = k
    · subst e
      simp only [List.getElem_set_self]
      simp [inR]
      simp at hr hg
      omega
    · rw [List.getElem_set_ne (fun e' => e e'.symm)]
      have := List.all_eq_true.1 hN.1 (D.rel[j]'(by simpa using hj)) (List.getElem_mem _)
      exact this
  have hj : ckJob C dn ((k : Int), D.rel.getD k 0, comesAt C D k, 0, false, false) = 0 := by
    unfold ckJob
    rw [if_pos ⟨by simp, by simpa using hk, by simpa [tk] using ho⟩, if_pos]
    have hb : wrap64 ((C.ta.getD k (0, 0, 0, 0)).2.2.1 - 1) = (C.ta.getD k (0, 0, 0, 0)).2.2.1 - 1 := by
      apply wrap_id <;> simp only [tk] at ht <;> omega
    simp only [Int.toNat_natCast, hb]
    simp only [tk] at ht
    simp only [inR, Bool.and_eq_true, decide_eq_true_eq]
    omega
  refine ckD_iff.2 ⟨h0, ckShp_iff.2 ?_, ckNums_iff.2 ?_, ckJobs_iff.2 ?_, ?_, ?_⟩
  · unfold relStep; split <;> simpa using hS
  · unfold relStep; split <;> exact ⟨hrel, hN.2⟩
  · unfold relStep
    split
    · exact hJ
    · refine ⟨?_, fun j hjm => ?_⟩
      · simp; omega
      · rcases List.mem_append.1 hjm with h | h
        · exact hJ.2 j h
        · simp only [List.mem_singleton] at h
          rw [h]; exact hj
  · unfold relStep; split <;> exact h4
  · unfold relStep; split <;> exact h5

theorem relN_stop {C : Conf} {now : Int} {k : Nat} {D : Dom} (n : Nat) (h : goOn C now k D = false) : relN C now k n D = D := by
  cases n with
  | zero => rfl
  | succ n => simp [relN, h]
theorem relN_go {C : Conf} {now : Int} {k : Nat} {D : Dom} (n : Nat) (h : goOn C now k D = true) : relN C now k (n + 1) D = relN C now k n (relStep C k D) := by
  simp [relN, h]

/-- What holds ahead of each release and is kept by it holds at the end. -/
theorem relN_ind {C : Conf} {now : Int} {k : Nat} (P : Dom → Prop) (hs : ∀ D, P D → goOn C now k D = true → P (relStep C k D)) : ∀ (n : Nat) (D : Dom), P D → P (relN C now k n D) := by
  intro n
  induction n with
  | zero => intro D h; exact h
  | succ n ih =>
    intro D h
    unfold relN
    split
    · rename_i hg; exact ih _ (hs D h hg)
    · exact h
theorem relN_end {C : Conf} {now : Int} {k : Nat} : ∀ (n : Nat) (D : Dom), k < D.rel.length → 100000 - D.rel.getD k 0 ≤ n → goOn C now k (relN C now k n D) = false := by
  intro n
  induction n with
  | zero =>
    intro D hk h
    have : ¬ D.rel.getD k 0 < 100000 := by omega
    simp [relN, goOn]
    intro _
    simpa using this
  | succ n ih =>
    intro D hk h
    unfold relN
    split
    · refine ih _ ?_ ?_
      · rw [relStep_rel]; simpa using hk
      · rw [relStep_at C k D hk]; omega
    · rename_i hg; simpa using hg
theorem goOn_congr {C : Conf} {now : Int} {k : Nat} {D D' : Dom} (h : D'.rel.getD k 0 = D.rel.getD k 0) : goOn C now k D' = goOn C now k D := by
  unfold goOn comesAt; rw [h]

theorem relT_ok {C : Conf} {dn now : Int} {D : Dom} (hz : ckD C dn D = 0) (hn : inR now 0 100000 = true) (k : Nat) (hk : k < C.ta.length) (ho : (tk C k).1 = dn) : ckD C dn (relT C now k D) = 0 :=
  relN_ind (fun D => ckD C dn D = 0) (fun D h hg => relStep_ok h hn k hk ho hg) _ D hz
theorem relT_end {C : Conf} {dn now : Int} {D : Dom} (hz : ckD C dn D = 0) (k : Nat) (hk : k < C.ta.length) : goOn C now k (relT C now k D) = false := by
  obtain ⟨h0, h1, h2, h3, h4, h5⟩ := ckD_iff.1 hz
  have hr := relAt (ckNums_iff.1 h2).1 k
  exact relN_end _ D (by have := ckShp_iff.1 h1; omega) (by omega)
theorem relT_ne {C : Conf} {now : Int} {D : Dom} (k i : Nat) (h : i ≠ k) : (relT C now k D).rel.getD i 0 = D.rel.getD i 0 :=
  relN_ind (fun D' => D'.rel.getD i 0 = D.rel.getD i 0) (fun D' h' hg => (relStep_ne C k i D' h).trans h') _ D rfl

theorem relL_ok {C : Conf} {dn now : Int} (hn : inR now 0 100000 = true) : ∀ (l : List NT) (D : Dom), (∀ x ∈ l, x.1 < C.ta.length ∧ (tk C x.1).1 = dn) → ckD C dn D = 0 → ckD C dn (relL C now l D) = 0 := by
  intro l
  induction l with
  | nil => intro D _ h; exact h
  | cons x r ih =>
    intro D hx h
    have h1 := hx x (by simp)
    exact ih _ (fun y hy => hx y (by simp [hy])) (relT_ok h hn x.1 h1.1 h1.2)
theorem relL_quiet {C : Conf} {dn now : Int} (hn : inR now 0 100000 = true) : ∀ (l : List NT) (D : Dom), (∀ x ∈ l, x.1 < C.ta.length ∧ (tk C x.1).1 = dn) → ckD C dn D = 0 → ∀ i, (goOn C now i D = false ∨ ∃ x ∈ l, x.1 = i) → goOn C now i (relL C now l D) = false := by
  intro l
  induction l with
  | nil =>
    intro D _ _ i h
    rcases h with h | ⟨x, hx, _⟩
    · exact h
    · simp at hx
  | cons x r ih =>
    intro D hx h i hi
    have h1 := hx x (by simp)
    refine ih _ (fun y hy => hx y (by simp [hy])) (relT_ok h hn x.1 h1.1 h1.2) i ?_
    by_cases e : i = x.1
    · subst e; exact .inl (relT_end h x.1 h1.1)
    · rcases hi with hi | ⟨y, hy, he⟩
      · exact .inl (by rw [goOn_congr (relT_ne x.1 i e)]; exact hi)
      · rcases List.mem_cons.1 hy with rfl | hy
        · exact absurd he.symm e
        · exact .inr ⟨y, hy, he⟩
theorem relL_same {C : Conf} {now : Int} : ∀ (l : List NT) (D : Dom), (∀ x ∈ l, goOn C now x.1 D = false) → relL C now l D = D := by
  intro l
  induction l with
  | nil => intro D _; rfl
  | cons x r ih =>
    intro D h
    have : relT C now x.1 D = D := relN_stop _ (h x (by simp))
    show relL C now r (relT C now x.1 D) = D
    rw [this]
    exact ih D (fun y hy => h y (by simp [hy]))
theorem own_mem {C : Conf} {dn : Int} : ∀ x ∈ ownT C dn C.ta.length, x.1 < C.ta.length ∧ (tk C x.1).1 = dn := by
  intro x hx
  obtain ⟨h1, h2, h3⟩ := mem_ownT.1 hx
  exact ⟨h1, by rw [tk, ← h2]; exact h3⟩

theorem missStep_rel (C : Conf) (now : Int) (i : Nat) (D : Dom) : (missStep C now i D).rel = D.rel := by
  unfold missStep
  split
  · rfl
  · split <;> rfl
theorem missStep_len (C : Conf) (now : Int) (i : Nat) (D : Dom) : (missStep C now i D).jobs.length = D.jobs.length := by
  unfold missStep
  split
  · rfl
  · split <;> simp
theorem ckJob_mark (C : Conf) (dn : Int) (j : JobT) : ckJob C dn (markJ j) = ckJob C dn j := rfl
theorem missStep_ok {C : Conf} {dn now : Int} {D : Dom} (hz : ckD C dn D = 0) (i : Nat) : ckD C dn (missStep C now i D) = 0 := by
  unfold missStep
  split
  · exact hz
  · rename_i j hj
    split
    · obtain ⟨h0, h1, h2, h3, h4, h5⟩ := ckD_iff.1 hz
      have hJ := ckJobs_iff.1 h3
      refine ckD_iff.2 ⟨h0, h1, h2, ckJobs_iff.2 ⟨by simpa using hJ.1, fun y hy => ?_⟩, h4, h5⟩
      rcases List.mem_or_eq_of_mem_set hy with h | h
      · exact hJ.2 y h
      · rw [h, ckJob_mark]; exact hJ.2 j (List.mem_of_getElem? hj)
    · exact hz
theorem missN_ind (C : Conf) (now : Int) (P : Dom → Prop) (hs : ∀ D i, P D → P (missStep C now i D)) (n : Nat) (D : Dom) (h : P D) : P (missN C now n D) := by
  induction n with
  | zero => exact h
  | succ n ih => rw [missN_succ]; exact hs _ _ ih
theorem missN_rel (C : Conf) (now : Int) (n : Nat) (D : Dom) : (missN C now n D).rel = D.rel := missN_ind C now (fun D' => D'.rel = D.rel) (fun D' i h => (missStep_rel C now i D').trans h) n D rfl
theorem missN_len (C : Conf) (now : Int) (n : Nat) (D : Dom) : (missN C now n D).jobs.length = D.jobs.length := missN_ind C now (fun D' => D'.jobs.length = D.jobs.length) (fun D' i h => (missStep_len C now i D').trans h) n D rfl
theorem missN_ok {C : Conf} {dn now : Int} {D : Dom} (hz : ckD C dn D = 0) (n : Nat) : ckD C dn (missN C now n D) = 0 := missN_ind C now (fun D => ckD C dn D = 0) (fun D i h => missStep_ok h i) n D hz
theorem missStep_late (C : Conf) (now : Int) (i : Nat) (D : Dom) : ∀ k j, (k < i → ∀ j, D.jobs[k]? = some j → late C now j = false) → k < i + 1 → (missStep C now i D).jobs[k]? = some j → late C now j = false := by
  intro k j hno hk hj
  unfold missStep at hj
  split at hj
  · rename_i hi
    by_cases e : k = i
    · subst e; rw [hi] at hj; cases hj
    · exact hno (by omega) j hj
  · rename_i y hy
    split at hj
    · rename_i hl
      simp only at hj
      by_cases e : k = i
      · subst e
        have hlt : k < D.jobs.length := (List.getElem?_eq_some_iff.1 hy).1
        rw [List.getElem?_set_self hlt] at hj
        simp only [Option.some.injEq] at hj
        subst hj
        simp [late, markJ]
      · rw [List.getElem?_set_ne (fun e' => e e'.symm)] at hj
        exact hno (by omega) j hj
    · rename_i hl
      by_cases e : k = i
      · subst e
        rw [hy] at hj
        cases hj
        simpa using hl
      · exact hno (by omega) j hj
theorem missN_late (C : Conf) (now : Int) (n : Nat) (D : Dom) : ∀ k, k < n → ∀ j, (missN C now n D).jobs[k]? = some j → late C now j = false := by
  induction n with
  | zero => intro k hk; omega
  | succ n ih =>
    intro k hk j hj
    rw [missN_succ] at hj
    exact missStep_late C now n _ k j (fun h j hj => ih k h j hj) hk hj
theorem missStep_same {C : Conf} {now : Int} {D : Dom} (h : ∀ (k : Nat) j, D.jobs[k]? = some j → late C now j = false) (i : Nat) : missStep C now i D = D := by
  unfold missStep
  split
  · rfl
  · rename_i j hj
    rw [h i j hj]
    simp
theorem missN_same {C : Conf} {now : Int} {D : Dom} (h : ∀ (k : Nat) j, D.jobs[k]? = some j → late C now j = false) (n : Nat) : missN C now n D = D := by
  induction n with
  | zero => rfl
  | succ n ih => rw [missN_succ, ih, missStep_same h]

theorem relD_ok {C : Conf} {dn now : Int} {D : Dom} (hz : ckD C dn D = 0) (hn : inR now 0 100000 = true) : ckD C dn (relD C dn now D) = 0 :=
  missN_ok (relL_ok hn _ D own_mem hz) _
theorem relD_twice {C : Conf} {dn now : Int} {D : Dom} (hz : ckD C dn D = 0) (hn : inR now 0 100000 = true) : relD C dn now (relD C dn now D) = relD C dn now D := by
  have hq : ∀ x ∈ ownT C dn C.ta.length, goOn C now x.1 (relD C dn now D) = false := fun x hx => by
    rw [goOn_congr (D := relAll C dn now D) (by rw [relD, missN_rel])]
    exact relL_quiet hn _ D own_mem hz x.1 (.inr ⟨x, hx, rfl⟩)
  have h1 : relAll C dn now (relD C dn now D) = relD C dn now D := relL_same _ _ hq
  have hl : ∀ (k : Nat) j, (relD C dn now D).jobs[k]? = some j → late C now j = false := fun k j hj => by
    have hk : k < (relD C dn now D).jobs.length := (List.getElem?_eq_some_iff.1 hj).1
    exact missN_late C now _ _ k (by rw [relD, missN_len] at hk; exact hk) j hj
  show missN C now _ (relAll C dn now (relD C dn now D)) = _
  rw [h1]
  exact missN_same hl _

/-- How many events there may be. -/
theorem relStep_evs (C : Conf) (k : Nat) (D : Dom) : (relStep C k D).evs.length + D.jobs.length = D.evs.length + (relStep C k D).jobs.length := by
  unfold relStep
  split
  · rfl
  · simp; omega
theorem relN_evs (C : Conf) (now : Int) (k n : Nat) (D : Dom) : (relN C now k n D).evs.length + D.jobs.length = D.evs.length + (relN C now k n D).jobs.length :=
  relN_ind (fun D' => D'.evs.length + D.jobs.length = D.evs.length + D'.jobs.length) (fun D' h _ => by have := relStep_evs C k D'; omega) n D rfl
theorem relL_evs (C : Conf) (now : Int) : ∀ (l : List NT) (D : Dom), (relL C now l D).evs.length + D.jobs.length = D.evs.length + (relL C now l D).jobs.length := by
  intro l
  induction l with
  | nil => intro D; rfl
  | cons x r ih =>
    intro D
    have h1 := ih (relT C now x.1 D)
    have h2 : (relT C now x.1 D).evs.length + D.jobs.length = D.evs.length + (relT C now x.1 D).jobs.length := relN_evs C now x.1 _ D
    show (relL C now r (relT C now x.1 D)).evs.length + _ = _ + (relL C now r (relT C now x.1 D)).jobs.length
    omega
theorem missStep_evs (C : Conf) (now : Int) (i : Nat) (D : Dom) : (missStep C now i D).evs.length ≤ D.evs.length + 1 := by
  unfold missStep
  split
  · simp
  · split <;> simp
theorem missN_evs (C : Conf) (now : Int) (n : Nat) (D : Dom) : (missN C now n D).evs.length ≤ D.evs.length + n := by
  induction n with
  | zero => exact Nat.le_refl _
  | succ n ih =>
    rw [missN_succ]
    have := missStep_evs C now n (missN C now n D)
    omega
theorem jobs20 {C : Conf} {dn : Int} {D : Dom} (hz : ckD C dn D = 0) : D.jobs.length ≤ 20 := (ckJobs_iff.1 (ckD_iff.1 hz).2.2.2.1).1
theorem relD_evs {C : Conf} {dn now : Int} {D : Dom} (hz : ckD C dn D = 0) (hn : inR now 0 100000 = true) : (relD C dn now D).evs.length ≤ D.evs.length + 40 := by
  have h1 := relL_evs C now (ownT C dn C.ta.length) D
  have h2 := jobs20 (relL_ok hn (ownT C dn C.ta.length) D own_mem hz)
  have h3 := missN_evs C now (relAll C dn now D).jobs.length (relAll C dn now D)
  have h4 : (relAll C dn now D) = relL C now (ownT C dn C.ta.length) D := rfl
  unfold relD
  rw [h4] at h3 ⊢
  omega

theorem tasksOk_of {C : Conf} {dn : Int} {D : Dom} (hz : ckD C dn D = 0) : TasksOk C D.jobs := by
  intro i hi
  have := (ckJobs_iff.1 (ckD_iff.1 hz).2.2.2.1).2 D.jobs[i] (List.getElem_mem hi)
  unfold ckJob at this
  split at this
  · rename_i h; exact ⟨h.1, h.2.1⟩
  · omega

/-- The order of jobs. -/
theorem aheadB_iff {C : Conf} {x y : JobT} : aheadB C x y = true ↔ dueAt C x < dueAt C y ∨ dueAt C x = dueAt C y ∧ (x.1 < y.1 ∨ x.1 = y.1 ∧ x.2.1 < y.2.1) := by
  unfold aheadB
  rw [decide_eq_true_eq]
  unfold orI cmpI
  repeat' split
  all_goals omega
theorem ahead_irr (C : Conf) (x : JobT) : aheadB C x x = false := by
  cases h : aheadB C x x with
  | false => rfl
  | true => have := aheadB_iff.1 h; omega
theorem ahead_trans {C : Conf} {x y z : JobT} (h1 : aheadB C x y = true) (h2 : aheadB C y z = true) : aheadB C x z = true := by
  have a := aheadB_iff.1 h1
  have b := aheadB_iff.1 h2
  exact aheadB_iff.2 (by omega)
theorem least_ex (C : Conf) : ∀ (J : List JobT), J ≠ [] → ∃ y ∈ J, ∀ x ∈ J, aheadB C x y = false := by
  intro J
  induction J with
  | nil => intro h; exact absurd rfl h
  | cons a r ih =>
    intro _
    by_cases hr : r = []
    · subst hr
      exact ⟨a, by simp, fun x hx => by simp at hx; rw [hx]; exact ahead_irr C a⟩
    · obtain ⟨y, hy, hmin⟩ := ih hr
      cases h : aheadB C a y with
      | false =>
        refine ⟨y, by simp [hy], fun x hx => ?_⟩
        rcases List.mem_cons.1 hx with rfl | hx
        · exact h
        · exact hmin x hx
      | true =>
        refine ⟨a, by simp, fun x hx => ?_⟩
        rcases List.mem_cons.1 hx with rfl | hx
        · exact ahead_irr C x
        · cases hxa : aheadB C x a with
          | false => rfl
          | true => have := ahead_trans hxa h; rw [hmin x hx] at this; cases this
theorem pickI_spec (C : Conf) (J : List JobT) : (J = [] ∧ pickI C J = -1) ∨ ∃ (k : Nat) (h : k < J.length), pickI C J = k ∧ ∀ i (hi : i < J.length), ¬ dueAt C J[i] < dueAt C J[k] := by
  by_cases hJ : J = []
  · exact .inl ⟨hJ, by subst hJ; rfl⟩
  · right
    obtain ⟨y, hy, hmin⟩ := least_ex C J hJ
    have hany : J.any (fun y => !anyA C J y) = true := List.any_eq_true.2 ⟨y, hy, by
      simp only [Bool.not_eq_true']
      cases h : anyA C J y with
      | false => rfl
      | true =>
        obtain ⟨x, hx, h2⟩ := List.any_eq_true.1 h
        rw [hmin x hx] at h2; cases h2⟩
    unfold pickI idxP
    cases h : J.findIdx? (fun y => !anyA C J y) with
    | none =>
      rw [List.findIdx?_eq_none_iff] at h
      obtain ⟨x, hx, h2⟩ := List.any_eq_true.1 hany
      rw [h x hx] at h2; cases h2
    | some k =>
      obtain ⟨hk, he, _⟩ := List.findIdx?_eq_some_iff_getElem.1 h
      refine ⟨k, hk, rfl, fun i hi hlt => ?_⟩
      simp only [Bool.not_eq_true'] at he
      have : anyA C J J[k] = true := List.any_eq_true.2 ⟨J[i], List.getElem_mem hi, aheadB_iff.2 (.inl hlt)⟩
      rw [he] at this; cases this

end Go.Proofs.YtildebflnmbefaaGreat

namespace Go.Proofs.YtildebflnmbefaaGreat
open Go.RowKit

/-- What the jobs hang on. -/
def shownD (D : Dom) : Dom := ⟨D.jobs, D.rel, D.nxt, D.ins, D.tak, List.replicate D.out.length [], []⟩
def early (x : EvT) : Bool := decide (x.2.1 = 2) || decide (x.2.1 = 6)
/-- Does it tell of an action that is done? -/
def tells1 (x : EvT) : Bool := (decide (7 ≤ x.2.1) && decide (x.2.1 ≤ 12)) || decide (x.2.1 = 4)
def EvOk (fr to : Int) (x : EvT) : Prop := x.1 ≤ to ∧ (fr ≤ x.1 ∨ early x = true)
/-- Released or missed by then. -/
def EvRel (t : Int) (x : EvT) : Prop := x.1 ≤ t ∧ early x = true

theorem relStep_frame (C : Conf) (k : Nat) (D : Dom) : (relStep C k D).nxt = D.nxt ∧ (relStep C k D).ins = D.ins ∧ (relStep C k D).tak = D.tak ∧ (relStep C k D).out = D.out := by
  unfold relStep; split <;> exact ⟨rfl, rfl, rfl, rfl⟩
theorem missStep_frame (C : Conf) (now : Int) (i : Nat) (D : Dom) : (missStep C now i D).nxt = D.nxt ∧ (missStep C now i D).ins = D.ins ∧ (missStep C now i D).tak = D.tak ∧ (missStep C now i D).out = D.out := by
  unfold missStep
  split
  · exact ⟨rfl, rfl, rfl, rfl⟩
  · split <;> exact ⟨rfl, rfl, rfl, rfl⟩
theorem relL_ind {C : Conf} {now : Int} (P : Dom → Prop) (hs : ∀ k D, P D → goOn C now k D = true → P (relStep C k D)) : ∀ (l : List NT) (D : Dom), P D → P (relL C now l D) := by
  intro l
  induction l with
  | nil => intro D h; exact h
  | cons x r ih => intro D h; exact ih _ (relN_ind P (fun D h hg => hs x.1 D h hg) _ D h)
theorem relD_ind {C : Conf} {dn now : Int} (P : Dom → Prop) (hr : ∀ k D, P D → goOn C now k D = true → P (relStep C k D)) (hm : ∀ i D, P D → P (missStep C now i D)) (D : Dom) (h : P D) : P (relD C dn now D) :=
  missN_ind C now P (fun D i h => hm i D h) _ _ (relL_ind P hr _ D h)
theorem relD_frame (C : Conf) (dn now : Int) (D : Dom) : (relD C dn now D).nxt = D.nxt ∧ (relD C dn now D).ins = D.ins ∧ (relD C dn now D).tak = D.tak ∧ (relD C dn now D).out = D.out :=
  relD_ind (fun D' => D'.nxt = D.nxt ∧ D'.ins = D.ins ∧ D'.tak = D.tak ∧ D'.out = D.out) (fun k D' h _ => by
      have := relStep_frame C k D'
      exact ⟨this.1.trans h.1, this.2.1.trans h.2.1, this.2.2.1.trans h.2.2.1, this.2.2.2.trans h.2.2.2⟩)
    (fun i D' h => by
      have := missStep_frame C now i D'
      exact ⟨this.1.trans h.1, this.2.1.trans h.2.1, this.2.2.1.trans h.2.2.1, this.2.2.2.trans h.2.2.2⟩) D ⟨rfl, rfl, rfl, rfl⟩
theorem relD_early (C : Conf) (dn now : Int) (D : Dom) (h : ∀ x ∈ D.evs, EvRel now x) : ∀ x ∈ (relD C dn now D).evs, EvRel now x :=
  relD_ind (fun D' => ∀ x ∈ D'.evs, EvRel now x) (fun k D' h hg x hx => by
      simp only [goOn, Bool.and_eq_true, decide_eq_true_eq] at hg
      unfold relStep at hx
      split at hx
      · exact h x hx
      · simp only [List.mem_append, List.mem_singleton] at hx
        rcases hx with hx | rfl
        · exact h x hx
        · exact ⟨hg.1, by simp [early]⟩)
    (fun i D' h x hx => by
      unfold missStep at hx
      split at hx
      · exact h x hx
      · rename_i j hj
        split at hx
        · rename_i hl
          simp only [late, Bool.and_eq_true, decide_eq_true_eq] at hl
          simp only [List.mem_append, List.mem_singleton] at hx
          rcases hx with hx | rfl
          · exact h x hx
          · exact ⟨hl.2, by simp [early]⟩
        · exact h x hx) D h

theorem early_not {x : EvT} (h : early x = true) : tells1 x = false := by
  simp only [early, Bool.or_eq_true, decide_eq_true_eq] at h
  simp only [tells1, Bool.or_eq_false_iff, Bool.and_eq_false_iff, decide_eq_false_iff_not]
  omega

/-- What holds at each turn of a window. -/
structure Win (C : Conf) (dn : Int) (D0 : Dom) (fr to : Int) (D : Dom) (now : Int) : Prop where
  ck : ckD C dn (shownD D) = 0
  ev : ∃ E, D.evs = D0.evs ++ E ∧ (∀ e ∈ E, EvOk fr to e) ∧ (E.countP tells1 : Int) = D.nxt - D0.nxt
  lo : fr ≤ now
  hi : now ≤ to

/-- Jobs are released. -/
def relW (C : Conf) (dn t : Int) (D : Dom) : Dom := ⟨(relD C dn t (shownD D)).jobs, (relD C dn t (shownD D)).rel, D.nxt, D.ins, D.tak, D.out, D.evs ++ (relD C dn t (shownD D)).evs⟩

theorem shown_relW (C : Conf) (dn t : Int) (D : Dom) : shownD (relW C dn t D) = ⟨(relD C dn t (shownD D)).jobs, (relD C dn t (shownD D)).rel, (relD C dn t (shownD D)).nxt, (relD C dn t (shownD D)).ins, (relD C dn t (shownD D)).tak, (relD C dn t (shownD D)).out, []⟩ := by
  have h := relD_frame C dn t (shownD D)
  rw [h.1, h.2.1, h.2.2.1, h.2.2.2]
  rfl
theorem ckD_evs (C : Conf) (dn : Int) (D : Dom) (E : List EvT) : ckD C dn ⟨D.jobs, D.rel, D.nxt, D.ins, D.tak, D.out, E⟩ = ckD C dn D := rfl

theorem Win.release {C : Conf} {dn fr to now t : Int} {D0 D : Dom} (h : Win C dn D0 fr to D now) (ht : inR t 0 100000 = true) (hto : t ≤ to) : Win C dn D0 fr to (relW C dn t D) now := by
  refine ⟨?_, ?_, h.lo, h.hi⟩
  · rw [shown_relW, ckD_evs]
    exact relD_ok h.ck ht
  · obtain ⟨E, h1, h2, h3⟩ := h.ev
    have he := relD_early C dn t (shownD D) (by intro x hx; simp [shownD] at hx)
    refine ⟨E ++ (relD C dn t (shownD D)).evs, by simp [relW, h1], fun e hm => ?_, ?_⟩
    · rcases List.mem_append.1 hm with hm | hm
      · exact h2 e hm
      · have := he e hm
        exact ⟨Int.le_trans this.1 hto, .inr this.2⟩
    · have hz : (relD C dn t (shownD D)).evs.countP tells1 = 0 := List.countP_eq_zero.2 fun x hx => by simp [early_not (he x hx).2]
      rw [List.countP_append, hz]
      simpa [relW] using h3
/-- Time goes by. -/
theorem Win.idle {C : Conf} {dn fr to now t : Int} {D0 D : Dom} (h : Win C dn D0 fr to D now) (h1 : now ≤ t) (h2 : t ≤ to) : Win C dn D0 fr to D t := ⟨h.ck, h.ev, Int.le_trans h.lo h1, h2⟩

theorem allR_set {L : List Int} {l m v : Int} (h : allR L l m = true) (i : Nat) (hv : inR v l m = true) : allR (L.set i v) l m = true := by
  refine List.all_eq_true.2 fun x hx => ?_
  rcases List.mem_or_eq_of_mem_set hx with h' | h'
  · exact List.all_eq_true.1 h x h'
  · rw [h']; exact hv

/-- A turn that does an action, all in all: the other jobs stay; the one that ran is gone, or has budget left; what came in still passes; what was taken is in its bounds; an action is told of. -/
theorem Win.acted {C : Conf} {dn fr to now now2 : Int} {D0 D D5 : Dom} (h : Win C dn D0 fr to D now) (h1 : now ≤ now2) (h2 : now2 ≤ to) (hnx : D.nxt < 100000)
    (hj : D5.jobs.length ≤ D.jobs.length) (hjs : ∀ j ∈ D5.jobs, ckJob C dn j = 0) (hrel : D5.rel = D.rel) (hn : D5.nxt = D.nxt + 1) (hil : D5.ins.length = D.ins.length) (hi : ckIns C D5 = 0) (htl : D5.tak.length = D.tak.length) (ht : allR D5.tak 0 15 = true) (hol : D5.out.length = D.out.length)
    (E : List EvT) (hE : D5.evs = D.evs ++ E) (hEv : ∀ e ∈ E, EvOk fr to e) (hc : E.countP tells1 = 1) : Win C dn D0 fr to D5 now2 := by
  refine ⟨?_, ?_, Int.le_trans h.lo h1, h2⟩
  · obtain ⟨c0, c1, c2, c3, c4, c5⟩ := ckD_iff.1 h.ck
    have hS := ckShp_iff.1 c1
    have hN := ckNums_iff.1 c2
    have hJ := ckJobs_iff.1 c3
    simp only [shownD, List.length_replicate] at hS hN hJ
    simp only [inR, Bool.and_eq_true, decide_eq_true_eq] at hN
    refine ckD_iff.2 ⟨c0, ckShp_iff.2 ?_, ckNums_iff.2 ?_, ckJobs_iff.2 ⟨by simp only [shownD]; omega, hjs⟩, hi, ?_⟩
    · simp only [shownD, List.length_replicate]
      rw [hrel, hil, hol, htl]
      exact hS
    · simp only [shownD]
      rw [hrel, hn]
      refine ⟨hN.1, ?_, ht⟩
      simp only [inR, Bool.and_eq_true, decide_eq_true_eq]
      omega
    · unfold ckOuts
      have e1 : (shownD D5).out.any long60 = false := List.any_eq_false.2 fun x hx => by
        simp only [shownD] at hx
        rw [(List.mem_replicate.1 hx).2]
        decide
      have e2 : (shownD D5).out.any bad255 = false := List.any_eq_false.2 fun x hx => by
        simp only [shownD] at hx
        rw [(List.mem_replicate.1 hx).2]
        decide
      rw [e1, e2]
      rfl
  · obtain ⟨E0, g1, g2, g3⟩ := h.ev
    refine ⟨E0 ++ E, by rw [hE, g1, List.append_assoc], fun e hm => ?_, ?_⟩
    · rcases List.mem_append.1 hm with hm | hm
      · exact g2 e hm
      · exact hEv e hm
    · rw [List.countP_append, hc, hn]
      omega

/-- At its begin. -/
theorem Win.begin {C : Conf} {dn fr to : Int} {D : Dom} (hz : ckD C dn D = 0) (h : fr ≤ to) : Win C dn D fr to D fr := by
  refine ⟨?_, ⟨[], by simp, by simp, by simp⟩, Int.le_refl _, h⟩
  obtain ⟨c0, c1, c2, c3, c4, c5⟩ := ckD_iff.1 hz
  refine ckD_iff.2 ⟨c0, ckShp_iff.2 ?_, c2, c3, c4, ?_⟩
  · have := ckShp_iff.1 c1
    simpa [shownD] using this
  · unfold ckOuts
    have e1 : (shownD D).out.any long60 = false := List.any_eq_false.2 fun x hx => by
      simp only [shownD] at hx
      rw [(List.mem_replicate.1 hx).2]
      decide
    have e2 : (shownD D).out.any bad255 = false := List.any_eq_false.2 fun x hx => by
      simp only [shownD] at hx
      rw [(List.mem_replicate.1 hx).2]
      decide
    rw [e1, e2]
    rfl
/-- What the law looks at. -/
theorem Win.last {C : Conf} {dn fr to now : Int} {D0 D : Dom} (h : Win C dn D0 fr to D now) :
    D0.evs.length ≤ D.evs.length ∧ D0.nxt ≤ D.nxt ∧ (∀ i (h0 : i < D0.evs.length) (h1 : i < D.evs.length), D.evs[i] = D0.evs[i]) ∧ (∀ i (h1 : i < D.evs.length), D0.evs.length ≤ i → EvOk fr to D.evs[i]) ∧ ((D.evs.drop D0.evs.length).countP tells1 : Int) = D.nxt - D0.nxt := by
  obtain ⟨E, h1, h2, h3⟩ := h.ev
  refine ⟨by rw [h1]; simp, by omega, fun i h0 hi => ?_, fun i hi h0 => ?_, ?_⟩
  · simp only [h1, List.getElem_append_left h0]
  · have : D.evs[i] ∈ E := by
      simp only [h1, List.getElem_append_right h0]
      exact List.getElem_mem _
    exact h2 _ this
  · rw [h1, List.drop_left]
    exact h3

end Go.Proofs.YtildebflnmbefaaGreat
