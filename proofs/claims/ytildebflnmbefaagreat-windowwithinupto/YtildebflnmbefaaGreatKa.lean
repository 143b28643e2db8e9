/- The plain reckoning of caches: what a check, an access and a flush come to, over lists of ways. The plain reckoning of configs: what a check comes to, over lists. The plain reckoning of rings: what a check, a commit and a receive come to, over lists of numbers. The plain reckoning of images: the numbers of a config's image. The plain reckoning of caches: what passes a check goes on passing it behind an access, and a line that was used last is found first. The plain reckoning of configs: which of the seven checks tells. -/
set_option linter.unusedVariables false
namespace Go.Proofs.YtildebflnmbefaaGreat

def inR (n l m : Int) : Bool := decide (l ≤ n) && decide (n ≤ m)

def idx (ln : Int) (ls : List (Int × Bool)) : Int := match ls.findIdx? (fun x => x.1 == ln) with | some i => i | none => -1

theorem idx_at (ln : Int) (ls : List (Int × Bool)) (k : Nat) (h : k < ls.length) (he : ls[k].1 = ln) (hno : ∀ j (hj : j < ls.length), j < k → ls[j].1 ≠ ln) : idx ln ls = k := by
  have : ls.findIdx? (fun x => x.1 == ln) = some k := by
    rw [List.findIdx?_eq_some_iff_getElem]
    exact ⟨h, by simp [he], fun j hj => by simpa using hno j (by omega) hj⟩
  simp [idx, this]

theorem idx_none (ln : Int) (ls : List (Int × Bool)) (hno : ∀ j (hj : j < ls.length), ls[j].1 ≠ ln) : idx ln ls = -1 := by
  have : ls.findIdx? (fun x => x.1 == ln) = none := by
    rw [List.findIdx?_eq_none_iff]
    intro x hx
    obtain ⟨j, hj, rfl⟩ := List.getElem_of_mem hx
    simpa using hno j hj
  simp [idx, this]

theorem idx_cases (ln : Int) (ls : List (Int × Bool)) : (idx ln ls = -1 ∧ ∀ j (hj : j < ls.length), ls[j].1 ≠ ln) ∨ ∃ k, ∃ h : k < ls.length, idx ln ls = k ∧ ls[k].1 = ln ∧ ∀ j (hj : j < ls.length), j < k → ls[j].1 ≠ ln := by
  cases h : ls.findIdx? (fun x => x.1 == ln) with
  | none =>
    left
    have h2 := h
    rw [List.findIdx?_eq_none_iff] at h2
    exact ⟨by rw [idx, h], fun j hj => by simpa using h2 _ (List.getElem_mem hj)⟩
  | some k =>
    right
    have h2 := h
    rw [List.findIdx?_eq_some_iff_getElem] at h2
    obtain ⟨hk, h1, h3⟩ := h2
    exact ⟨k, hk, by rw [idx, h], by simpa using h1, fun j hj hlt => by simpa using h3 j hlt⟩

/-- The first that is not 0, of n numbers. -/
def fe : Nat → (Nat → Int) → Int
  | 0, _ => 0
  | n + 1, f => if fe n f ≠ 0 then fe n f else f n

theorem fe_zero (n : Nat) (f : Nat → Int) (h : ∀ j, j < n → f j = 0) : fe n f = 0 := by
  induction n with
  | zero => rfl
  | succ n ih => simp [fe, ih (fun j hj => h j (by omega)), h n (by omega)]

theorem fe_at (n k : Nat) (f : Nat → Int) (hk : k < n) (h0 : f k ≠ 0) (h : ∀ j, j < k → f j = 0) : fe n f = f k := by
  induction n with
  | zero => omega
  | succ n ih =>
    by_cases e : k = n
    · subst e; simp [fe, fe_zero k f h]
    · have := ih (by omega)
      simp [fe, this, h0]

theorem fe_eq_zero {n : Nat} {f : Nat → Int} (h : fe n f = 0) : ∀ j, j < n → f j = 0 := by
  induction n with
  | zero => intro j hj; omega
  | succ n ih =>
    simp only [fe] at h
    by_cases e : fe n f = 0
    · simp [e] at h
      intro j hj
      by_cases e2 : j = n
      · subst e2; exact h
      · exact ih e j (by omega)
    · simp [e] at h

theorem fe_congr (n : Nat) (f g : Nat → Int) (h : ∀ j, j < n → f j = g j) : fe n f = fe n g := by
  induction n with
  | zero => rfl
  | succ n ih => simp [fe, ih (fun j hj => h j (by omega)), h n (by omega)]

/-- What is wrong with way i of a set. -/
def ckWay (ls : List (Int × Bool)) (i : Nat) (num sets : Int) : Int :=
  match ls[i]? with
  | none => 0
  | some x =>
    if inR x.1 0 1000 = false then 3
    else if x.1 = 0 then (if x.2 then 1 else 0)
    else if x.1 % sets ≠ num then 4
    else if 0 ≤ idx x.1 (ls.take i) then 6
    else if 0 ≤ idx 0 (ls.take i) then 4
    else 0

def ckShape (C : List (List (Int × Bool))) : Int :=
  if inR C.length 1 4 = false then 3
  else if C.any (fun l => !inR l.length 1 3) then 3
  else if C.any (fun l => l.length != (C.headD []).length) then 1
  else 0

def ckSet (C : List (List (Int × Bool))) (j : Nat) : Int := fe (C.getD j []).length fun i => ckWay (C.getD j []) i j C.length

def ck (C : List (List (Int × Bool))) : Int := if ckShape C ≠ 0 then ckShape C else fe C.length (ckSet C)

/-- What a way costs that goes back. -/
def wb (d : Bool) : Int := if d then 5 else 0

theorem wb_le (d : Bool) : 0 ≤ wb d ∧ wb d ≤ 5 := by cases d <;> simp [wb]

/-- What is left behind an access of a set, and the cost. -/
def useSet (ls : List (Int × Bool)) (ln : Int) (wr : Bool) : List (Int × Bool) × Int :=
  match ls.findIdx? (fun x => x.1 == ln) with
  | some k => (((ls.getD k (0, false)).1, (ls.getD k (0, false)).2 || wr) :: ls.eraseIdx k, 1)
  | none => ((ln, wr) :: ls.dropLast, 10 + wb (ls.getLastD (0, false)).2)

def dirties (C : List (List (Int × Bool))) : Int := (C.map fun l => (l.countP fun x => x.2)).sum

end Go.Proofs.YtildebflnmbefaaGreat

namespace Go.Proofs.YtildebflnmbefaaGreat

structure Conf where
  s : Int
  w : Int
  d : Int
  p : Int
  q : Int
  sl : List (Int × Int)
  ow : List Int
  ch : List (Int × Int × Int)
  ta : List (Int × Int × Int × Int)

def isD (d x : Int) : Bool := inR x 0 (d - 1)
def ckNum (C : Conf) : Int := if inR C.s 1 4 && inR C.w 1 3 && inR C.d 1 4 && inR C.q 1 100 then 0 else 3
def ckPad (C : Conf) : Int := if inR C.p (2 + 5 * C.s * C.w) 99 then 0 else 4
def ckCnt (C : Conf) : Int := if inR C.sl.length 1 6 && decide ((C.ow.length : Int) ≤ 4) && decide ((C.ch.length : Int) ≤ 4) && decide ((C.ta.length : Int) ≤ 6) then 0 else 2
def ckSl (d : Int) (x : Int × Int) : Int := if isD d x.1 then (if inR x.2 100 1000 then 0 else 3) else 5
def ckSlots (C : Conf) : Int := fe C.sl.length fun i => ckSl C.d (C.sl.getD i (0, 0))
def ckOw (C : Conf) : Int := if C.ow.any fun o => !isD C.d o then 5 else 0
def twin (x y : Int × Int × Int) : Bool := y.1 == x.1 && y.2.1 == x.2.1
def ckCh (d : Int) (ls : List (Int × Int × Int)) (i : Nat) : Int :=
  match ls[i]? with
  | none => 0
  | some x => if isD d x.1 && isD d x.2.1 then (if x.1 = x.2.1 then 1 else if inR x.2.2 1 4 then (if (ls.take i).any (twin x) then 6 else 0) else 3) else 5
def ckChans (C : Conf) : Int := fe C.ch.length (ckCh C.d C.ch)
def ckTa (d : Int) (x : Int × Int × Int × Int) : Int := if isD d x.1 then (if inR x.2.1 1 5000 && inR x.2.2.1 1 x.2.1 && inR x.2.2.2 1 x.2.1 then 0 else 3) else 5
def ckTasks (C : Conf) : Int := fe C.ta.length fun i => ckTa C.d (C.ta.getD i (0, 0, 0, 0))

def ck7 (C : Conf) : Nat → Int
  | 0 => ckNum C
  | 1 => ckPad C
  | 2 => ckCnt C
  | 3 => ckSlots C
  | 4 => ckOw C
  | 5 => ckChans C
  | 6 => ckTasks C
  | _ => 0
def ckC (C : Conf) : Int := fe 7 (ck7 C)

theorem getD_of {α : Type} (ls : List α) (i : Nat) (h : i < ls.length) (z : α) : ls.getD i z = ls[i] := by simp [h]

/-- What a config that passes is like. -/
theorem num_ok {C : Conf} (h : ckNum C = 0) : 1 ≤ C.s ∧ C.s ≤ 4 ∧ 1 ≤ C.w ∧ C.w ≤ 3 ∧ 1 ≤ C.d ∧ C.d ≤ 4 ∧ 1 ≤ C.q ∧ C.q ≤ 100 := by
  unfold ckNum at h
  split at h
  · rename_i h2; simp [inR] at h2; omega
  · omega

theorem pad_ok {C : Conf} (h : ckPad C = 0) : 2 + 5 * C.s * C.w ≤ C.p ∧ C.p ≤ 99 := by
  unfold ckPad at h
  split at h
  · rename_i h2; simpa [inR] using h2
  · omega

theorem cnt_ok {C : Conf} (h : ckCnt C = 0) : 1 ≤ C.sl.length ∧ C.sl.length ≤ 6 ∧ C.ow.length ≤ 4 ∧ C.ch.length ≤ 4 ∧ C.ta.length ≤ 6 := by
  unfold ckCnt at h
  split at h
  · rename_i h2; simp [inR] at h2; omega
  · omega

theorem isD_ok {d x : Int} : isD d x = true ↔ 0 ≤ x ∧ x < d := by simp [isD, inR]; omega

theorem sl_ok {C : Conf} (h : ckSlots C = 0) : ∀ x ∈ C.sl, 0 ≤ x.1 ∧ x.1 < C.d ∧ 100 ≤ x.2 ∧ x.2 ≤ 1000 := by
  intro x hx
  obtain ⟨j, hj, rfl⟩ := List.getElem_of_mem hx
  have := fe_eq_zero h j hj
  simp only [getD_of _ _ hj, ckSl] at this
  split at this
  · rename_i h1
    rw [isD_ok] at h1
    split at this
    · rename_i h2; simp [inR] at h2; omega
    · omega
  · omega

theorem ow_ok {C : Conf} (h : ckOw C = 0) : ∀ x ∈ C.ow, 0 ≤ x ∧ x < C.d := by
  intro x hx
  unfold ckOw at h
  split at h
  · omega
  · rename_i h2
    simp at h2
    exact isD_ok.1 (h2 x hx)

theorem ch_ok {C : Conf} (h : ckChans C = 0) : ∀ x ∈ C.ch, 0 ≤ x.1 ∧ x.1 < C.d ∧ 0 ≤ x.2.1 ∧ x.2.1 < C.d ∧ 1 ≤ x.2.2 ∧ x.2.2 ≤ 4 := by
  intro x hx
  obtain ⟨j, hj, rfl⟩ := List.getElem_of_mem hx
  have := fe_eq_zero h j hj
  simp only [List.getElem?_eq_getElem hj, ckCh] at this
  split at this
  · rename_i h1
    simp only [Bool.and_eq_true, isD_ok] at h1
    split at this
    · omega
    · split at this
      · rename_i h2; simp [inR] at h2; omega
      · omega
  · omega

theorem ta_ok {C : Conf} (h : ckTasks C = 0) : ∀ x ∈ C.ta, 0 ≤ x.1 ∧ x.1 < C.d ∧ 1 ≤ x.2.1 ∧ x.2.1 ≤ 5000 ∧ 1 ≤ x.2.2.1 ∧ x.2.2.1 ≤ x.2.1 ∧ 1 ≤ x.2.2.2 ∧ x.2.2.2 ≤ x.2.1 := by
  intro x hx
  obtain ⟨j, hj, rfl⟩ := List.getElem_of_mem hx
  have := fe_eq_zero h j hj
  simp only [getD_of _ _ hj, ckTa] at this
  split at this
  · rename_i h1
    rw [isD_ok] at h1
    split at this
    · rename_i h2; simp [inR] at h2; omega
    · omega
  · omega

theorem ck_ok {C : Conf} (h : ckC C = 0) : ckNum C = 0 ∧ ckPad C = 0 ∧ ckCnt C = 0 ∧ ckSlots C = 0 ∧ ckOw C = 0 ∧ ckChans C = 0 ∧ ckTasks C = 0 :=
  ⟨fe_eq_zero h 0 (by omega), fe_eq_zero h 1 (by omega), fe_eq_zero h 2 (by omega), fe_eq_zero h 3 (by omega), fe_eq_zero h 4 (by omega), fe_eq_zero h 5 (by omega), fe_eq_zero h 6 (by omega)⟩

end Go.Proofs.YtildebflnmbefaaGreat

namespace Go.Proofs.YtildebflnmbefaaGreat

def allR (L : List Int) (l m : Int) : Bool := L.all fun n => inR n l m

theorem allR_any (L : List Int) (l m : Int) : (!L.any fun n => !inR n l m) = allR L l m := by
  simp [allR, List.not_any_eq_all_not]

theorem allR_true {L : List Int} {l m : Int} (h : ∀ j (hj : j < L.length), inR L[j] l m = true) : allR L l m = true := by
  rw [allR, List.all_eq_true]
  intro x hx
  obtain ⟨j, hj, rfl⟩ := List.getElem_of_mem hx
  exact h j hj

theorem allR_false {L : List Int} {l m : Int} (k : Nat) (hk : k < L.length) (h : inR L[k] l m = false) : allR L l m = false := by
  rw [allR, List.all_eq_false]
  exact ⟨L[k], List.getElem_mem hk, by simp [h]⟩

/-- What is wrong with a ring. -/
def ckR (V : List Int) (lost size : Int) : Int :=
  if inR size 1 4 = false then 3
  else if size < (V.length : Int) then 2
  else if allR V 0 255 = false then 3
  else if inR lost 0 100000 = false then 3
  else 0

theorem ckR_ok {V : List Int} {lost size : Int} (h : ckR V lost size = 0) : (1 ≤ size ∧ size ≤ 4) ∧ (V.length : Int) ≤ size ∧ allR V 0 255 = true ∧ 0 ≤ lost ∧ lost ≤ 100000 := by
  unfold ckR at h
  split at h
  · omega
  · rename_i h1
    split at h
    · omega
    · split at h
      · omega
      · rename_i h3
        split at h
        · omega
        · rename_i h4
          simp [inR] at h1 h4
          simp at h3
          exact ⟨⟨h1.1, h1.2⟩, by omega, h3, h4.1, h4.2⟩

/-- How much room there is. -/
def roomR (V : List Int) (size : Int) : Nat := size.toNat - V.length
/-- What waits when k of the values have come. -/
def comV (V L : List Int) (room k : Nat) : List Int := V ++ L.take (min k room)
/-- What is lost when k of the values have come. -/
def comL (lost : Int) (room k : Nat) : Int := min (lost + ((k - room : Nat) : Int)) 100000

theorem comV_len (V L : List Int) (room k : Nat) (hk : k ≤ L.length) : (comV V L room k).length = V.length + min k room := by
  simp [comV]; omega

theorem comV_more (V L : List Int) (room k : Nat) (hk : k < L.length) (hr : k < room) : comV V L room (k + 1) = comV V L room k ++ [L[k]] := by
  have e1 : min (k + 1) room = k + 1 := by omega
  have e2 : min k room = k := by omega
  simp only [comV, e1, e2, List.append_assoc]
  rw [List.take_succ_eq_append_getElem hk]

theorem comV_full (V L : List Int) (room k : Nat) (hr : room ≤ k) : comV V L room (k + 1) = comV V L room k := by
  have e1 : min (k + 1) room = room := by omega
  have e2 : min k room = room := by omega
  simp only [comV, e1, e2]

theorem comL_more (lost : Int) (room k : Nat) (hr : k < room) : comL lost room (k + 1) = comL lost room k := by
  unfold comL; omega

theorem comL_full (lost : Int) (room k : Nat) (hr : room ≤ k) : comL lost room (k + 1) = if comL lost room k < 100000 then comL lost room k + 1 else comL lost room k := by
  unfold comL; split <;> omega

end Go.Proofs.YtildebflnmbefaaGreat

namespace Go.Proofs.YtildebflnmbefaaGreat

/-- A number's two bytes, the greater first. -/
def hl (n : Int) : List Int := [n / 256, n % 256]
def enS (x : Int × Int) : List Int := x.1 :: hl x.2
def enC (x : Int × Int × Int) : List Int := [x.1, x.2.1, x.2.2]
def enT (x : Int × Int × Int × Int) : List Int := x.1 :: (hl x.2.1 ++ hl x.2.2.1 ++ hl x.2.2.2)
/-- The numbers of an image. -/
def en (C : Conf) : List Int :=
  67 :: C.s :: C.w :: C.d :: C.p :: C.q :: (C.sl.length : Int) :: (C.sl.flatMap enS ++ (C.ow.length : Int) :: (C.ow ++ (C.ch.length : Int) :: (C.ch.flatMap enC ++ (C.ta.length : Int) :: C.ta.flatMap enT)))

def u8s (l : List Int) : List UInt8 := l.map fun n => UInt8.ofNat n.toNat
def bstr (l : List Int) : ByteArray := ⟨(u8s l).toArray⟩

/-- A config whose numbers have room in their bytes. -/
structure Fits (C : Conf) : Prop where
  s : 1 ≤ C.s ∧ C.s ≤ 4
  w : 1 ≤ C.w ∧ C.w ≤ 3
  d : 1 ≤ C.d ∧ C.d ≤ 4
  p : 0 ≤ C.p ∧ C.p ≤ 99
  q : 1 ≤ C.q ∧ C.q ≤ 100
  l5 : 1 ≤ C.sl.length ∧ C.sl.length ≤ 6
  l6 : C.ow.length ≤ 4
  l7 : C.ch.length ≤ 4
  l8 : C.ta.length ≤ 6
  sl : ∀ x ∈ C.sl, 0 ≤ x.1 ∧ x.1 ≤ 3 ∧ 100 ≤ x.2 ∧ x.2 ≤ 1000
  ow : ∀ x ∈ C.ow, 0 ≤ x ∧ x ≤ 3
  ch : ∀ x ∈ C.ch, 0 ≤ x.1 ∧ x.1 ≤ 3 ∧ 0 ≤ x.2.1 ∧ x.2.1 ≤ 3 ∧ 1 ≤ x.2.2 ∧ x.2.2 ≤ 4
  ta : ∀ x ∈ C.ta, 0 ≤ x.1 ∧ x.1 ≤ 3 ∧ 1 ≤ x.2.1 ∧ x.2.1 ≤ 5000 ∧ 1 ≤ x.2.2.1 ∧ x.2.2.1 ≤ 5000 ∧ 1 ≤ x.2.2.2 ∧ x.2.2.2 ≤ 5000

theorem fits_of {C : Conf} (h : ckC C = 0) : Fits C := by
  obtain ⟨h1, h2, h3, h4, h5, h6, h7⟩ := ck_ok h
  have n := num_ok h1
  have p := pad_ok h2
  have c := cnt_ok h3
  have hp : 0 ≤ 5 * C.s * C.w := Int.mul_nonneg (by omega) (by omega)
  refine ⟨by omega, by omega, by omega, by omega, by omega, by omega, by omega, by omega, by omega, fun x hx => ?_, fun x hx => ?_, fun x hx => ?_, fun x hx => ?_⟩
  · have := sl_ok h4 x hx; omega
  · have := ow_ok h5 x hx; omega
  · have := ch_ok h6 x hx; omega
  · have := ta_ok h7 x hx; omega

theorem enS_len (l : List (Int × Int)) : (l.flatMap enS).length = 3 * l.length := by
  induction l with
  | nil => rfl
  | cons x l ih => simp only [List.flatMap_cons, List.length_append, ih, List.length_cons]; simp [enS, hl]; omega
theorem enC_len (l : List (Int × Int × Int)) : (l.flatMap enC).length = 3 * l.length := by
  induction l with
  | nil => rfl
  | cons x l ih => simp only [List.flatMap_cons, List.length_append, ih, List.length_cons]; simp [enC]; omega
theorem enT_len (l : List (Int × Int × Int × Int)) : (l.flatMap enT).length = 7 * l.length := by
  induction l with
  | nil => rfl
  | cons x l ih => simp only [List.flatMap_cons, List.length_append, ih, List.length_cons]; simp [enT, hl]; omega

theorem en_len (C : Conf) : (en C).length = 10 + 3 * C.sl.length + C.ow.length + 3 * C.ch.length + 7 * C.ta.length := by
  simp only [en, List.length_cons, List.length_append, enS_len, enC_len, enT_len]; omega

/-- All of an image are bytes. -/
theorem en_bytes {C : Conf} (h : Fits C) : ∀ x ∈ en C, 0 ≤ x ∧ x ≤ 255 := by
  obtain ⟨s, w, d, p, q, l5, l6, l7, l8, sl, ow, ch, ta⟩ := h
  intro x hx
  simp only [en, List.mem_cons, List.mem_append, List.mem_flatMap] at hx
  rcases hx with rfl | rfl | rfl | rfl | rfl | rfl | rfl | ⟨y, hy, hx⟩ | rfl | hx | rfl | ⟨y, hy, hx⟩ | rfl | ⟨y, hy, hx⟩
  · omega
  · omega
  · omega
  · omega
  · omega
  · omega
  · omega
  · have := sl y hy
    simp [enS, hl] at hx
    omega
  · omega
  · have := ow x hx; omega
  · omega
  · have := ch y hy
    simp [enC] at hx
    omega
  · omega
  · have := ta y hy
    simp [enT, hl] at hx
    omega

/-- The reckoning of Reach: a row of bools for each domain. -/
def orR (F T : List Bool) : List Bool := List.zipWith (· || ·) F T
def stepM (M : Nat → List Bool) (x : Int × Int × Int) : Nat → List Bool := fun i => if i = x.1.toNat then orR (M x.1.toNat) (M x.2.1.toNat) else M i
def idM (D : Nat) : Nat → List Bool := fun i => (List.replicate D false).set i true
def itM (ch : List (Int × Int × Int)) (M : Nat → List Bool) : Nat → (Nat → List Bool)
  | 0 => M
  | n + 1 => ch.foldl stepM (itM ch M n)

theorem orR_len {F T : List Bool} (h : F.length = T.length) : (orR F T).length = T.length := by simp [orR, h]

theorem stepM_len {M : Nat → List Bool} {D : Nat} (h : ∀ i, i < D → (M i).length = D) (x : Int × Int × Int) (h1 : x.1.toNat < D) (h2 : x.2.1.toNat < D) : ∀ i, i < D → (stepM M x i).length = D := by
  intro i hi
  unfold stepM
  split
  · rw [orR_len (by rw [h _ h1, h _ h2]), h _ h2]
  · exact h i hi

theorem ch_ne {C : Conf} (h : ckChans C = 0) : ∀ x ∈ C.ch, x.1 ≠ x.2.1 := by
  intro x hx
  obtain ⟨j, hj, rfl⟩ := List.getElem_of_mem hx
  have := fe_eq_zero h j hj
  simp only [List.getElem?_eq_getElem hj, ckCh] at this
  split at this
  · split at this
    · omega
    · assumption
  · omega

end Go.Proofs.YtildebflnmbefaaGreat

namespace Go.Proofs.YtildebflnmbefaaGreat

def okW (j N : Int) (x : Int × Bool) : Prop := 0 ≤ x.1 ∧ x.1 ≤ 1000 ∧ (x.1 = 0 → x.2 = false) ∧ (x.1 ≠ 0 → x.1 % N = j)
def RW (a b : Int × Bool) : Prop := b.1 ≠ 0 → a.1 ≠ b.1 ∧ a.1 ≠ 0

theorem idx_nonneg_iff (ln : Int) (ls : List (Int × Bool)) : 0 ≤ idx ln ls ↔ ∃ y ∈ ls, y.1 = ln := by
  rcases idx_cases ln ls with ⟨h, hn⟩ | ⟨k, hk, h, he, _⟩
  · rw [h]
    refine ⟨fun h => by omega, fun ⟨y, hy, e⟩ => ?_⟩
    obtain ⟨i, hi, rfl⟩ := List.getElem_of_mem hy
    exact absurd e (hn i hi)
  · rw [h]
    exact ⟨fun _ => ⟨_, List.getElem_mem hk, he⟩, fun _ => by omega⟩

theorem ckWay_zero_iff (ls : List (Int × Bool)) (i : Nat) (j N : Int) (h : i < ls.length) :
    ckWay ls i j N = 0 ↔ okW j N ls[i] ∧ (ls[i].1 ≠ 0 → (∀ y ∈ ls.take i, y.1 ≠ ls[i].1) ∧ ∀ y ∈ ls.take i, y.1 ≠ 0) := by
  rw [ckWay, List.getElem?_eq_getElem h]
  generalize ls[i] = x
  simp only
  have e1 : (0 ≤ idx x.1 (ls.take i)) ↔ ∃ y ∈ ls.take i, y.1 = x.1 := idx_nonneg_iff _ _
  have e2 : (0 ≤ idx 0 (ls.take i)) ↔ ∃ y ∈ ls.take i, y.1 = 0 := idx_nonneg_iff _ _
  by_cases hr : inR x.1 0 1000 = false
  · rw [if_pos hr]
    refine ⟨fun h => by omega, fun ⟨⟨h1, h2, _⟩, _⟩ => ?_⟩
    simp [inR] at hr; omega
  · rw [if_neg hr]
    have hr' : 0 ≤ x.1 ∧ x.1 ≤ 1000 := by simpa [inR] using hr
    by_cases hz : x.1 = 0
    · rw [if_pos hz]
      cases hd : x.2 with
      | true =>
        simp only [if_true]
        refine ⟨fun h => by omega, fun ⟨⟨_, _, h3, _⟩, _⟩ => ?_⟩
        rw [hd] at h3; simp [hz] at h3
      | false =>
        simp only [Bool.false_eq_true, if_false, true_iff]
        exact ⟨⟨hr'.1, hr'.2, fun _ => hd, fun h => absurd hz h⟩, fun h => absurd hz h⟩
    · rw [if_neg hz]
      by_cases hm : x.1 % N ≠ j
      · rw [if_pos hm]
        exact ⟨fun h => by omega, fun ⟨⟨_, _, _, h4⟩, _⟩ => absurd (h4 hz) hm⟩
      · rw [if_neg hm]
        have hm' : x.1 % N = j := by omega
        by_cases h6 : 0 ≤ idx x.1 (ls.take i)
        · rw [if_pos h6]
          obtain ⟨y, hy, e⟩ := e1.1 h6
          exact ⟨fun h => by omega, fun ⟨_, h⟩ => absurd e ((h hz).1 y hy)⟩
        · rw [if_neg h6]
          by_cases h4 : 0 ≤ idx 0 (ls.take i)
          · rw [if_pos h4]
            obtain ⟨y, hy, e⟩ := e2.1 h4
            exact ⟨fun h => by omega, fun ⟨_, h⟩ => absurd e ((h hz).2 y hy)⟩
          · rw [if_neg h4]
            simp only [true_iff]
            exact ⟨⟨hr'.1, hr'.2, fun h => absurd h hz, fun _ => hm'⟩, fun _ => ⟨fun y hy e => h6 (e1.2 ⟨y, hy, e⟩), fun y hy e => h4 (e2.2 ⟨y, hy, e⟩)⟩⟩

theorem good_iff (ls : List (Int × Bool)) (j N : Int) : (∀ i, i < ls.length → ckWay ls i j N = 0) ↔ (∀ x ∈ ls, okW j N x) ∧ ls.Pairwise RW := by
  constructor
  · intro h
    refine ⟨fun x hx => ?_, ?_⟩
    · obtain ⟨i, hi, rfl⟩ := List.getElem_of_mem hx
      exact ((ckWay_zero_iff ls i j N hi).1 (h i hi)).1
    · rw [List.pairwise_iff_getElem]
      intro i k hi hk hik hz
      have := ((ckWay_zero_iff ls k j N hk).1 (h k hk)).2 hz
      have hm : ls[i] ∈ ls.take k := by
        rw [List.mem_iff_getElem]
        exact ⟨i, by simp; omega, by simp⟩
      exact ⟨this.1 _ hm, this.2 _ hm⟩
  · rintro ⟨h1, h2⟩ i hi
    rw [ckWay_zero_iff ls i j N hi]
    refine ⟨h1 _ (List.getElem_mem hi), fun hz => ?_⟩
    rw [List.pairwise_iff_getElem] at h2
    refine ⟨fun y hy => ?_, fun y hy => ?_⟩
    all_goals
      rw [List.mem_iff_getElem] at hy
      obtain ⟨k, hk, rfl⟩ := hy
      have hk' : k < i := by simp at hk; omega
      have := h2 k i (by omega) hi hk' hz
      simp only [List.getElem_take]
    · exact this.1
    · exact this.2

/-- Behind an access a set is as good as it was. -/
theorem useSet_good (ls : List (Int × Bool)) (l : Int) (wr : Bool) (j N : Int) (h1 : ∀ x ∈ ls, okW j N x) (h2 : ls.Pairwise RW) (hl1 : 1 ≤ l) (hl2 : l ≤ 1000) (hm : l % N = j) :
    (∀ x ∈ (useSet ls l wr).1, okW j N x) ∧ (useSet ls l wr).1.Pairwise RW := by
  have hx : ∀ d : Bool, okW j N (l, d) := fun d => ⟨by simp only; omega, by simp only; omega, fun h => by simp only at h; omega, fun _ => hm⟩
  unfold useSet
  cases hf : ls.findIdx? (fun x => x.1 == l) with
  | none =>
    rw [List.findIdx?_eq_none_iff] at hf
    simp only
    refine ⟨fun x hmem => ?_, ?_⟩
    · rcases List.mem_cons.1 hmem with rfl | h
      · exact hx _
      · exact h1 _ (List.dropLast_subset _ h)
    · refine List.Pairwise.cons (fun y hy hz => ?_) (h2.sublist (List.dropLast_sublist _))
      have := hf y (List.dropLast_subset _ hy)
      simp only
      refine ⟨fun e => ?_, by omega⟩
      simp [e] at this
  | some k =>
    rw [List.findIdx?_eq_some_iff_getElem] at hf
    obtain ⟨hk, he, _⟩ := hf
    have he' : ls[k].1 = l := by simpa using he
    have hg : ls.getD k (0, false) = ls[k] := by simp [hk]
    simp only [hg, he']
    refine ⟨fun x hmem => ?_, ?_⟩
    · rcases List.mem_cons.1 hmem with rfl | h
      · exact hx _
      · exact h1 _ (List.mem_of_mem_eraseIdx h)
    · refine List.Pairwise.cons (fun y hy hz => ?_) (h2.sublist (List.eraseIdx_sublist _ _))
      simp only
      refine ⟨fun e => ?_, by omega⟩
      rw [List.mem_eraseIdx_iff_getElem] at hy
      obtain ⟨i, hi, hne, rfl⟩ := hy
      rw [List.pairwise_iff_getElem] at h2
      rcases Nat.lt_or_gt_of_ne hne with h | h
      · have := h2 i k hi hk h (by rw [he']; omega)
        rw [he'] at this
        exact this.1 e.symm
      · have := h2 k i hk hi h hz
        rw [he'] at this
        exact this.1 e

theorem useSet_first (ls : List (Int × Bool)) (l : Int) (wr : Bool) (h : 0 < ls.length) : idx l (useSet ls l wr).1 = 0 := by
  unfold useSet
  cases hf : ls.findIdx? (fun x => x.1 == l) with
  | none => simp [idx, List.findIdx?_cons]
  | some k =>
    rw [List.findIdx?_eq_some_iff_getElem] at hf
    obtain ⟨hk, he, _⟩ := hf
    have he' : ls[k].1 = l := by simpa using he
    have hg : ls.getD k (0, false) = ls[k] := by simp [hk]
    simp only [hg]
    simp [idx, List.findIdx?_cons, he']

theorem useSet_cost (ls : List (Int × Bool)) (l : Int) (wr : Bool) : 1 ≤ (useSet ls l wr).2 ∧ (useSet ls l wr).2 ≤ 15 := by
  unfold useSet
  split
  · simp
  · have := wb_le (ls.getLastD (0, false)).2
    simp only; omega

theorem useSet_length (ls : List (Int × Bool)) (l : Int) (wr : Bool) (h : 0 < ls.length) : (useSet ls l wr).1.length = ls.length := by
  unfold useSet
  cases hf : ls.findIdx? (fun x => x.1 == l) with
  | none => simp; omega
  | some k =>
    rw [List.findIdx?_eq_some_iff_getElem] at hf
    obtain ⟨hk, _, _⟩ := hf
    simp [List.length_eraseIdx, hk]; omega

/-- A cache passes its check just if its shape does, and each set. -/
theorem ck_zero_iff (C : List (List (Int × Bool))) : ck C = 0 ↔ ckShape C = 0 ∧ ∀ j (h : j < C.length), (∀ x ∈ C[j], okW j C.length x) ∧ C[j].Pairwise RW := by
  unfold ck
  by_cases hs : ckShape C = 0
  · simp only [hs, ne_eq, not_true_eq_false, if_false, true_and]
    constructor
    · intro h j hj
      have := fe_eq_zero h j hj
      rw [ckSet] at this
      have e : C.getD j [] = C[j] := by simp [hj]
      rw [e] at this
      exact (good_iff _ _ _).1 (fe_eq_zero this)
    · intro h
      refine fe_zero _ _ (fun j hj => ?_)
      have e : C.getD j [] = C[j] := by simp [hj]
      rw [ckSet, e]
      exact fe_zero _ _ ((good_iff _ _ _).2 (h j hj))
  · simp [hs]

theorem ckShape_zero_iff (C : List (List (Int × Bool))) : ckShape C = 0 ↔ (1 ≤ C.length ∧ C.length ≤ 4) ∧ (∀ l ∈ C, 1 ≤ l.length ∧ l.length ≤ 3) ∧ ∀ l ∈ C, l.length = (C.headD []).length := by
  unfold ckShape
  constructor
  · intro h
    split at h
    · omega
    · rename_i h1
      split at h
      · omega
      · rename_i h2
        split at h
        · omega
        · rename_i h3
          simp [inR] at h1 h2 h3
          refine ⟨by omega, fun l hl => ?_, fun l hl => ?_⟩
          · have := h2 l hl; omega
          · have := h3 l hl; simpa using this
  · rintro ⟨h1, h2, h3⟩
    rw [if_neg (by simp [inR]; omega), if_neg, if_neg]
    · simpa using h3
    · simp [inR]
      intro l hl
      have := h2 l hl; omega

theorem headD_set (C : List (List (Int × Bool))) (s : Nat) (x : List (Int × Bool)) (hs : s < C.length) (hx : x.length = C[s].length) (hall : ∀ l ∈ C, l.length = (C.headD []).length) : ((C.set s x).headD []).length = (C.headD []).length := by
  cases C with
  | nil => simp at hs
  | cons y r =>
    cases s with
    | zero => simpa using hx
    | succ s => simp

theorem access_good (C : List (List (Int × Bool))) (l : Int) (wr : Bool) (s : Nat) (hs : s < C.length) (h : ck C = 0) (hl1 : 1 ≤ l) (hl2 : l ≤ 1000) (hm : l % (C.length : Int) = s) :
    ck (C.set s (useSet C[s] l wr).1) = 0 ∧ ((C.set s (useSet C[s] l wr).1).headD []).length = (C.headD []).length := by
  rw [ck_zero_iff] at h
  obtain ⟨h1, h2⟩ := h
  rw [ckShape_zero_iff] at h1
  obtain ⟨h3, h4, h5⟩ := h1
  have hlen := useSet_length C[s] l wr (h4 C[s] (List.getElem_mem hs)).1
  have hh := headD_set C s _ hs hlen h5
  refine ⟨?_, hh⟩
  rw [ck_zero_iff, ckShape_zero_iff]
  have hmem : ∀ x ∈ C.set s (useSet C[s] l wr).1, x.length = (C.headD []).length := by
    intro x hx
    rcases List.mem_or_eq_of_mem_set hx with h | h
    · exact h5 x h
    · rw [h, hlen]; exact h5 _ (List.getElem_mem hs)
  refine ⟨⟨by simpa using h3, fun x hx => ?_, fun x hx => by rw [hh]; exact hmem x hx⟩, fun j hj => ?_⟩
  · rw [hmem x hx]
    have := h4 C[s] (List.getElem_mem hs)
    rw [h5 _ (List.getElem_mem hs)] at this
    exact this
  · have hj' : j < C.length := by simpa using hj
    simp only [List.length_set]
    by_cases e : j = s
    · subst e
      simp only [List.getElem_set_self]
      exact useSet_good _ l wr _ _ (h2 j hj').1 (h2 j hj').2 hl1 hl2 hm
    · simp only [List.getElem_set_ne (fun h => e h.symm)]
      exact h2 j hj'

end Go.Proofs.YtildebflnmbefaaGreat

namespace Go.Proofs.YtildebflnmbefaaGreat

theorem ckC_0 {C : Conf} (h : ckNum C ≠ 0) : ckC C = ckNum C := fe_at 7 0 (ck7 C) (by omega) h (fun j hj => by omega)
theorem ckC_1 {C : Conf} (h0 : ckNum C = 0) (h : ckPad C ≠ 0) : ckC C = ckPad C := fe_at 7 1 (ck7 C) (by omega) h (fun j hj => by
  match j, hj with
  | 0, _ => exact h0)
theorem ckC_2 {C : Conf} (h0 : ckNum C = 0) (h1 : ckPad C = 0) (h : ckCnt C ≠ 0) : ckC C = ckCnt C := fe_at 7 2 (ck7 C) (by omega) h (fun j hj => by
  match j, hj with
  | 0, _ => exact h0
  | 1, _ => exact h1)
theorem ckC_3 {C : Conf} (h0 : ckNum C = 0) (h1 : ckPad C = 0) (h2 : ckCnt C = 0) (h : ckSlots C ≠ 0) : ckC C = ckSlots C := fe_at 7 3 (ck7 C) (by omega) h (fun j hj => by
  match j, hj with
  | 0, _ => exact h0
  | 1, _ => exact h1
  | 2, _ => exact h2)
theorem ckC_4 {C : Conf} (h0 : ckNum C = 0) (h1 : ckPad C = 0) (h2 : ckCnt C = 0) (h3 : ckSlots C = 0) (h : ckOw C ≠ 0) : ckC C = ckOw C := fe_at 7 4 (ck7 C) (by omega) h (fun j hj => by
  match j, hj with
  | 0, _ => exact h0
  | 1, _ => exact h1
  | 2, _ => exact h2
  | 3, _ => exact h3)
theorem ckC_5 {C : Conf} (h0 : ckNum C = 0) (h1 : ckPad C = 0) (h2 : ckCnt C = 0) (h3 : ckSlots C = 0) (h4 : ckOw C = 0) (h : ckChans C ≠ 0) : ckC C = ckChans C := fe_at 7 5 (ck7 C) (by omega) h (fun j hj => by
  match j, hj with
  | 0, _ => exact h0
  | 1, _ => exact h1
  | 2, _ => exact h2
  | 3, _ => exact h3
  | 4, _ => exact h4)
theorem ckC_6 {C : Conf} (h0 : ckNum C = 0) (h1 : ckPad C = 0) (h2 : ckCnt C = 0) (h3 : ckSlots C = 0) (h4 : ckOw C = 0) (h5 : ckChans C = 0) : ckC C = ckTasks C := by
  by_cases h : ckTasks C = 0
  · rw [h]
    refine fe_zero 7 (ck7 C) fun j hj => ?_
    match j, hj with
    | 0, _ => exact h0
    | 1, _ => exact h1
    | 2, _ => exact h2
    | 3, _ => exact h3
    | 4, _ => exact h4
    | 5, _ => exact h5
    | 6, _ => exact h
  · exact fe_at 7 6 (ck7 C) (by omega) h (fun j hj => by
      match j, hj with
      | 0, _ => exact h0
      | 1, _ => exact h1
      | 2, _ => exact h2
      | 3, _ => exact h3
      | 4, _ => exact h4
      | 5, _ => exact h5)

/-- What one entry that is not right comes to. -/
theorem slots_at {C : Conf} {k : Nat} (hk : k < C.sl.length) (h : ckSl C.d C.sl[k] ≠ 0) (hno : ∀ j, j < k → ckSl C.d (C.sl.getD j (0, 0)) = 0) : ckSlots C = ckSl C.d C.sl[k] := by
  have e := getD_of C.sl k hk (0, 0)
  have := fe_at C.sl.length k (fun i => ckSl C.d (C.sl.getD i (0, 0))) hk (by rw [e]; exact h) hno
  rw [ckSlots, this, e]
theorem slots_0 {C : Conf} (hno : ∀ j, j < C.sl.length → ckSl C.d (C.sl.getD j (0, 0)) = 0) : ckSlots C = 0 := fe_zero _ _ hno
theorem tasks_at {C : Conf} {k : Nat} (hk : k < C.ta.length) (h : ckTa C.d C.ta[k] ≠ 0) (hno : ∀ j, j < k → ckTa C.d (C.ta.getD j (0, 0, 0, 0)) = 0) : ckTasks C = ckTa C.d C.ta[k] := by
  have e := getD_of C.ta k hk (0, 0, 0, 0)
  have := fe_at C.ta.length k (fun i => ckTa C.d (C.ta.getD i (0, 0, 0, 0))) hk (by rw [e]; exact h) hno
  rw [ckTasks, this, e]
theorem tasks_0 {C : Conf} (hno : ∀ j, j < C.ta.length → ckTa C.d (C.ta.getD j (0, 0, 0, 0)) = 0) : ckTasks C = 0 := fe_zero _ _ hno
theorem chans_at {C : Conf} {k : Nat} (hk : k < C.ch.length) (h : ckCh C.d C.ch k ≠ 0) (hno : ∀ j, j < k → ckCh C.d C.ch j = 0) : ckChans C = ckCh C.d C.ch k := fe_at _ k _ hk h hno
theorem chans_0 {C : Conf} (hno : ∀ j, j < C.ch.length → ckCh C.d C.ch j = 0) : ckChans C = 0 := fe_zero _ _ hno
theorem ow_5 {C : Conf} {k : Nat} (hk : k < C.ow.length) (h : isD C.d C.ow[k] = false) : ckOw C = 5 := by
  rw [ckOw, if_pos]
  rw [List.any_eq_true]
  exact ⟨_, List.getElem_mem hk, by simp [h]⟩
theorem ow_0 {C : Conf} (hno : ∀ j (h : j < C.ow.length), isD C.d C.ow[j] = true) : ckOw C = 0 := by
  rw [ckOw, if_neg]
  intro h
  obtain ⟨x, hx, hd⟩ := List.any_eq_true.1 h
  obtain ⟨j, hj, rfl⟩ := List.getElem_of_mem hx
  rw [hno j hj] at hd
  simp at hd
theorem ckCh_eq {d : Int} {ls : List (Int × Int × Int)} {k : Nat} (hk : k < ls.length) : ckCh d ls k = if isD d ls[k].1 && isD d ls[k].2.1 then (if ls[k].1 = ls[k].2.1 then 1 else if inR ls[k].2.2 1 4 then (if (ls.take k).any (twin ls[k]) then 6 else 0) else 3) else 5 := by
  rw [ckCh, List.getElem?_eq_getElem hk]

end Go.Proofs.YtildebflnmbefaaGreat
