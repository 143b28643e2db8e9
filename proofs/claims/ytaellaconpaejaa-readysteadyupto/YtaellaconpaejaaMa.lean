/- The plain reckoning of caches: what a check, an access and a flush come to, over lists of ways. -/
namespace Go.Proofs.Ytaellaconpaejaa

def inR (n l m : Int) : Bool := decide (l ≤ n) && decide (n ≤ m)

def idx (ln : Int) (ls : List (Int × Bool)) : Int := match ls.findIdx? (fun x => x.1 == ln) with | some i => i | none => -1

theorem idx_at (ln : Int) (ls : List (Int × Bool)) (k : Nat) (h : k < ls.length) (he : ls[k].1 = ln) (hno : ∀ j (hj : j < ls.length), j < k → ls[j].1 ≠ ln) : idx ln ls = k := by
  have : ls.findIdx? (fun x => x.1 == ln) = some k := by
    rw [List.findIdx?_eq_some_iff_getElem]
    exact ⟨h, by simp [he], fun j hj => by simpa using hno j (by omega) hj⟩
  simp [idx, this]

theorem idx_none (ln : Int) (ls : List (Int × Bool)) (hno : ∀ j (hj : j < ls.length), ls[j].1 ≠ ln) : idx ln ls = -1 := by
  have : ls.findIdx? (fun x => x.1 == ln) = none := by
    rw [List.findIdx?_eq_none_iff]
    intro x hx
    obtain ⟨j, hj, rfl⟩ := List.getElem_of_mem hx
    simpa using hno j hj
  simp [idx, this]

theorem idx_cases (ln : Int) (ls : List (Int × Bool)) : (idx ln ls = -1 ∧ ∀ j (hj : j < ls.length), ls[j].1 ≠ ln) ∨ ∃ k, ∃ h : k < ls.length, idx ln ls = k ∧ ls[k].1 = ln ∧ ∀ j (hj : j < ls.length), j < k → ls[j].1 ≠ ln := by
  cases h : ls.findIdx? (fun x => x.1 == ln) with
  | none =>
    left
    have h2 := h
    rw [List.findIdx?_eq_none_iff] at h2
    exact ⟨by rw [idx, h], fun j hj => by simpa using h2 _ (List.getElem_mem hj)⟩
  | some k =>
    right
    have h2 := h
    rw [List.findIdx?_eq_some_iff_getElem] at h2
    obtain ⟨hk, h1, h3⟩ := h2
    exact ⟨k, hk, by rw [idx, h], by simpa using h1, fun j hj hlt => by simpa using h3 j hlt⟩

/-- The first that is not 0, of n numbers. -/
def fe : Nat → (Nat → Int) → Int
  | 0, _ => 0
  | n + 1, f => if fe n f ≠ 0 then fe n f else f n

theorem fe_zero (n : Nat) (f : Nat → Int) (h : ∀ j, j < n → f j = 0) : fe n f = 0 := by
  induction n with
  | zero => rfl
  | succ n ih => simp [fe, ih (fun j hj => h j (by omega)), h n (by omega)]

theorem fe_at (n k : Nat) (f : Nat → Int) (hk : k < n) (h0 : f k ≠ 0) (h : ∀ j, j < k → f j = 0) : fe n f = f k := by
  induction n with
  | zero => omega
  | succ n ih =>
    by_cases e : k = n
    · subst e; simp [fe, fe_zero k f h]
    · have := ih (by omega)
      simp [fe, this, h0]

theorem fe_eq_zero {n : Nat} {f : Nat → Int} (h : fe n f = 0) : ∀ j, j < n → f j = 0 := by
  induction n with
  | zero => intro j hj; omega
  | succ n ih =>
    simp only [fe] at h
    by_cases e : fe n f = 0
    · simp [e] at h
      intro j hj
      by_cases e2 : j = n
      · subst e2; exact h
      · exact ih e j (by omega)
    · simp [e] at h

theorem fe_congr (n : Nat) (f g : Nat → Int) (h : ∀ j, j < n → f j = g j) : fe n f = fe n g := by
  induction n with
  | zero => rfl
  | succ n ih => simp [fe, ih (fun j hj => h j (by omega)), h n (by omega)]

/-- What is wrong with way i of a set. -/
def ckWay (ls : List (Int × Bool)) (i : Nat) (num sets : Int) : Int :=
  match ls[i]? with
  | none => 0
  | some x =>
    if inR x.1 0 1000 = false then 3
    else if x.1 = 0 then (if x.2 then 1 else 0)
    else if x.1 % sets ≠ num then 4
    else if 0 ≤ idx x.1 (ls.take i) then 6
    else if 0 ≤ idx 0 (ls.take i) then 4
    else 0

def ckShape (C : List (List (Int × Bool))) : Int :=
  if inR C.length 1 4 = false then 3
  else if C.any (fun l => !inR l.length 1 3) then 3
  else if C.any (fun l => l.length != (C.headD []).length) then 1
  else 0

def ckSet (C : List (List (Int × Bool))) (j : Nat) : Int := fe (C.getD j []).length fun i => ckWay (C.getD j []) i j C.length

def ck (C : List (List (Int × Bool))) : Int := if ckShape C ≠ 0 then ckShape C else fe C.length (ckSet C)

/-- What a way costs that goes back. -/
def wb (d : Bool) : Int := if d then 5 else 0

theorem wb_le (d : Bool) : 0 ≤ wb d ∧ wb d ≤ 5 := by cases d <;> simp [wb]

/-- What is left behind an access of a set, and the cost. -/
def useSet (ls : List (Int × Bool)) (ln : Int) (wr : Bool) : List (Int × Bool) × Int :=
  match ls.findIdx? (fun x => x.1 == ln) with
  | some k => (((ls.getD k (0, false)).1, (ls.getD k (0, false)).2 || wr) :: ls.eraseIdx k, 1)
  | none => ((ln, wr) :: ls.dropLast, 10 + wb (ls.getLastD (0, false)).2)

def dirties (C : List (List (Int × Bool))) : Int := (C.map fun l => (l.countP fun x => x.2)).sum

end Go.Proofs.Ytaellaconpaejaa
