/- The plain reckoning of configs: what a check comes to, over lists. -/
import Derived.Test.YtaellaconpaejaaMa
namespace Go.Proofs.Ytaellaconpaejaa

structure Conf where
  s : Int
  w : Int
  d : Int
  p : Int
  q : Int
  sl : List (Int × Int)
  ow : List Int
  ch : List (Int × Int × Int)
  ta : List (Int × Int × Int × Int)

def isD (d x : Int) : Bool := inR x 0 (d - 1)
def ckNum (C : Conf) : Int := if inR C.s 1 4 && inR C.w 1 3 && inR C.d 1 4 && inR C.q 1 100 then 0 else 3
def ckPad (C : Conf) : Int := if inR C.p (2 + 5 * C.s * C.w) 99 then 0 else 4
def ckCnt (C : Conf) : Int := if inR C.sl.length 1 6 && decide ((C.ow.length : Int) ≤ 4) && decide ((C.ch.length : Int) ≤ 4) && decide ((C.ta.length : Int) ≤ 6) then 0 else 2
def ckSl (d : Int) (x : Int × Int) : Int := if isD d x.1 then (if inR x.2 100 1000 then 0 else 3) else 5
def ckSlots (C : Conf) : Int := fe C.sl.length fun i => ckSl C.d (C.sl.getD i (0, 0))
def ckOw (C : Conf) : Int := if C.ow.any fun o => !isD C.d o then 5 else 0
def twin (x y : Int × Int × Int) : Bool := y.1 == x.1 && y.2.1 == x.2.1
def ckCh (d : Int) (ls : List (Int × Int × Int)) (i : Nat) : Int :=
  match ls[i]? with
  | none => 0
  | some x => if isD d x.1 && isD d x.2.1 then (if x.1 = x.2.1 then 1 else if inR x.2.2 1 4 then (if (ls.take i).any (twin x) then 6 else 0) else 3) else 5
def ckChans (C : Conf) : Int := fe C.ch.length (ckCh C.d C.ch)
def ckTa (d : Int) (x : Int × Int × Int × Int) : Int := if isD d x.1 then (if inR x.2.1 1 5000 && inR x.2.2.1 1 x.2.1 && inR x.2.2.2 1 x.2.1 then 0 else 3) else 5
def ckTasks (C : Conf) : Int := fe C.ta.length fun i => ckTa C.d (C.ta.getD i (0, 0, 0, 0))

def ck7 (C : Conf) : Nat → Int
  | 0 => ckNum C
  | 1 => ckPad C
  | 2 => ckCnt C
  | 3 => ckSlots C
  | 4 => ckOw C
  | 5 => ckChans C
  | 6 => ckTasks C
  | _ => 0
def ckC (C : Conf) : Int := fe 7 (ck7 C)

theorem getD_of {α : Type} (ls : List α) (i : Nat) (h : i < ls.length) (z : α) : ls.getD i z = ls[i] := by simp [h]

/-- What a config that passes is like. -/
theorem num_ok {C : Conf} (h : ckNum C = 0) : 1 ≤ C.s ∧ C.s ≤ 4 ∧ 1 ≤ C.w ∧ C.w ≤ 3 ∧ 1 ≤ C.d ∧ C.d ≤ 4 ∧ 1 ≤ C.q ∧ C.q ≤ 100 := by
  unfold ckNum at h
  split at h
  · rename_i h2; simp [inR] at h2; omega
  · omega

theorem pad_ok {C : Conf} (h : ckPad C = 0) : 2 + 5 * C.s * C.w ≤ C.p ∧ C.p ≤ 99 := by
  unfold ckPad at h
  split at h
  · rename_i h2; simpa [inR] using h2
  · omega

theorem cnt_ok {C : Conf} (h : ckCnt C = 0) : 1 ≤ C.sl.length ∧ C.sl.length ≤ 6 ∧ C.ow.length ≤ 4 ∧ C.ch.length ≤ 4 ∧ C.ta.length ≤ 6 := by
  unfold ckCnt at h
  split at h
  · rename_i h2; simp [inR] at h2; omega
  · omega

theorem isD_ok {d x : Int} : isD d x = true ↔ 0 ≤ x ∧ x < d := by simp [isD, inR]; omega

theorem sl_ok {C : Conf} (h : ckSlots C = 0) : ∀ x ∈ C.sl, 0 ≤ x.1 ∧ x.1 < C.d ∧ 100 ≤ x.2 ∧ x.2 ≤ 1000 := by
  intro x hx
  obtain ⟨j, hj, rfl⟩ := List.getElem_of_mem hx
  have := fe_eq_zero h j hj
  simp only [getD_of _ _ hj, ckSl] at this
  split at this
  · rename_i h1
    rw [isD_ok] at h1
    split at this
    · rename_i h2; simp [inR] at h2; omega
    · omega
  · omega

theorem ow_ok {C : Conf} (h : ckOw C = 0) : ∀ x ∈ C.ow, 0 ≤ x ∧ x < C.d := by
  intro x hx
  unfold ckOw at h
  split at h
  · omega
  · rename_i h2
    simp at h2
    exact isD_ok.1 (h2 x hx)

theorem ch_ok {C : Conf} (h : ckChans C = 0) : ∀ x ∈ C.ch, 0 ≤ x.1 ∧ x.1 < C.d ∧ 0 ≤ x.2.1 ∧ x.2.1 < C.d ∧ 1 ≤ x.2.2 ∧ x.2.2 ≤ 4 := by
  intro x hx
  obtain ⟨j, hj, rfl⟩ := List.getElem_of_mem hx
  have := fe_eq_zero h j hj
  simp only [List.getElem?_eq_getElem hj, ckCh] at this
  split at this
  · rename_i h1
    simp only [Bool.and_eq_true, isD_ok] at h1
    split at this
    · omega
    · split at this
      · rename_i h2; simp [inR] at h2; omega
      · omega
  · omega

theorem ta_ok {C : Conf} (h : ckTasks C = 0) : ∀ x ∈ C.ta, 0 ≤ x.1 ∧ x.1 < C.d ∧ 1 ≤ x.2.1 ∧ x.2.1 ≤ 5000 ∧ 1 ≤ x.2.2.1 ∧ x.2.2.1 ≤ x.2.1 ∧ 1 ≤ x.2.2.2 ∧ x.2.2.2 ≤ x.2.1 := by
  intro x hx
  obtain ⟨j, hj, rfl⟩ := List.getElem_of_mem hx
  have := fe_eq_zero h j hj
  simp only [getD_of _ _ hj, ckTa] at this
  split at this
  · rename_i h1
    rw [isD_ok] at h1
    split at this
    · rename_i h2; simp [inR] at h2; omega
    · omega
  · omega

theorem ck_ok {C : Conf} (h : ckC C = 0) : ckNum C = 0 ∧ ckPad C = 0 ∧ ckCnt C = 0 ∧ ckSlots C = 0 ∧ ckOw C = 0 ∧ ckChans C = 0 ∧ ckTasks C = 0 :=
  ⟨fe_eq_zero h 0 (by omega), fe_eq_zero h 1 (by omega), fe_eq_zero h 2 (by omega), fe_eq_zero h 3 (by omega), fe_eq_zero h 4 (by omega), fe_eq_zero h 5 (by omega), fe_eq_zero h 6 (by omega)⟩

end Go.Proofs.Ytaellaconpaejaa
